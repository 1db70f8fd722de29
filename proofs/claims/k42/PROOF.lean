import PyProof.Rows.All
import Wide.All
import OpenK.AllK
import Wide.FinOn
import Lean
import PyProof.EqAt
import PyProof.EqKinds
import PyProof.TupleCall
import OpenK.KRaise
import PySem.SetOps
import PyProof.SetKind
import PyProof.DictStraight
import PyProof.CollectWalk
import PyProof.Seq
import PyProof.Walks
import PyProof.FactsAll.set
import PyProof.Rows.SortShell
import PyProof.Rows.SortWalk
import PyProof.Rows.SetFrom
import PyProof.SumAny
import PyProof.InstSpecial
import PyProof.InstStoreFacts
import PyProof.ReprBulk
import PyProof.ReprRoads
import PyProof.ListRange
import PyProof.EnumMake
import KE.KDictList
import KE.KRevIter
import KE.BitLaws
import PyProof.Rows.MinMaxN
import PyProof.PureInt
import PySem.Challenge.RW_keynests_k42_whole_places_by_other_names
set_option Elab.async false
set_option linter.all false
set_option maxRecDepth 100000
namespace L2
open PySem PySem.Spec PyProof.Rows
noncomputable abbrev Key:=Sum Int Str
noncomputable def zbl:Key→Value→Bool
  | .inl k,v=>Value.isInt k v
  | .inr x,v=>Value.isStrOf x v
noncomputable def zeu (w:World):Key→Int
  | .inl k=>hashInt k
  | .inr x=>hashStr w x
theorem zT:∀ {k:Key} {v:Value},zbl k v=true→(∃ i t,k=Sum.inl i∧v=Value.int i t)∨(∃ x t,k=Sum.inr x∧v=Value.str x t)
  | .inl i,v,h=>by
    obtain ⟨t,e⟩:=Value.isInt_shape (k:=i) (v:=v) h
    exact .inl ⟨i,t,rfl,e⟩
  | .inr x,v,h=>by
    obtain ⟨t,e⟩:=Value.isStrOf_shape (x:=x) (v:=v) h
    exact .inr ⟨x,t,rfl,e⟩
theorem zBn (i:Int) (t:Tok):zbl (.inl i) (.int i t)=true:=by simp [zbl,Value.isInt]
theorem z3m (x:Str) (t:Tok):zbl (.inr x) (.str x t)=true:=by simp [zbl,Value.isStrOf]
theorem zBr (a b:Int):decide ((Sum.inl a:Key)=Sum.inl b)=(a == b):=by
  by_cases e:a=b
  · subst e;simp
  · have h:¬ (Sum.inl a:Key)=Sum.inl b:=fun q=>e (Sum.inl.inj q)
    rw [decide_eq_false h]
    exact (beq_eq_false_iff_ne.mpr e).symm
theorem zLs (a b:Str):decide ((Sum.inr a:Key)=Sum.inr b)=decide (a=b):=by
  by_cases e:a=b
  · subst e;simp
  · have h:¬ (Sum.inr a:Key)=Sum.inr b:=fun q=>e (Sum.inr.inj q)
    rw [decide_eq_false h,decide_eq_false e]
theorem zIr (a:Int) (b:Str):decide ((Sum.inl a:Key)=Sum.inr b)=false:=decide_eq_false (fun q=>nomatch q)
theorem z1r (a:Str) (b:Int):decide ((Sum.inr a:Key)=Sum.inl b)=false:=decide_eq_false (fun q=>nomatch q)
noncomputable def zwb (prog:Program) (w:World):PySem.KeyKind prog w Key where
  is:=zbl
  hash:=zeu w
  inj:=fun v a b ha hb=>by
    rcases zT ha with ⟨i,t,rfl,rfl⟩ | ⟨x,t,rfl,rfl⟩
    · rcases zT hb with ⟨j,u,rfl,e⟩ | ⟨y,u,rfl,e⟩
      · injection e with e1 _;rw [e1]
      · exact nomatch e
    · rcases zT hb with ⟨j,u,rfl,e⟩ | ⟨y,u,rfl,e⟩
      · exact nomatch e
      · injection e with e1 _;rw [e1]
  byValue:=fun k v h=>by
    rcases zT h with ⟨i,t,rfl,rfl⟩ | ⟨x,t,rfl,rfl⟩ <;> rfl
  pyHash:=fun hv h=>by
    rcases zT hv with ⟨i,t,rfl,rfl⟩ | ⟨x,t,rfl,rfl⟩
    · exact wpAny_pyHash_int h
    · exact wpAny_pyHash_str h
  eqBool:=fun hu hv h=>by
    rcases zT hu with ⟨i,t,rfl,rfl⟩ | ⟨x,t,rfl,rfl⟩
    · rcases zT hv with ⟨j,u,rfl,rfl⟩ | ⟨y,u,rfl,rfl⟩
      · rw [zBr] at h;exact wpAny_eqBool_int h
      · rw [zIr] at h;exact SeqAt.EqAt.int_str i t y u _ _ _ _ h
    · rcases zT hv with ⟨j,u,rfl,rfl⟩ | ⟨y,u,rfl,rfl⟩
      · rw [z1r] at h;exact SeqAt.EqAt.str_int x t j u _ _ _ _ h
      · rw [zLs] at h;exact wpAny_eqBool_str h
  «strs»:=fun k x t v h=>by
    rcases zT h with ⟨i,u,rfl,e⟩ | ⟨y,u,rfl,e⟩
    · exact nomatch e
    · injection e with e1 _
      subst e1
      cases v <;> rfl
theorem zZf (prog:Program) (w:World) (k:Key) (v:Value):(zwb prog w).is k v=zbl k v:=rfl
theorem zQk (prog:Program) (w:World) (i:Int) (t:Tok):(zwb prog w).is (.inl i) (.int i t)=true:=zBn i t
theorem zdl (prog:Program) (w:World) (x:Str) (t:Tok):(zwb prog w).is (.inr x) (.str x t)=true:=z3m x t
end L2
namespace L2
open PySem PySem.Spec PyProof.Rows
inductive V where
  | non | bl (b:Bool) | int (i:Int) | str (x:Str) | byt (b:Array UInt8) | flt (b:UInt64) | ref (a:Addr) | ty (n:String)
  deriving DecidableEq
noncomputable def RelV:V→Value→Prop
  | .non,u=>u=Value.none
  | .bl b,u=>u=Value.bool b
  | .int i,u=>∃ t,u=Value.int i t
  | .str x,u=>∃ t,u=Value.str x t
  | .byt b,u=>∃ t,u=Value.bytes b t
  | .flt b,u=>∃ t,u=Value.float b t
  | .ref a,u=>u=Value.ref a
  | .ty n,u=>u=Value.type n
noncomputable abbrev Vals:List V→List Value→Prop:=Paired RelV
theorem Vals.length {xs:List V} {us:List Value} (r:Vals xs us):xs.length=us.length:=Paired.length r
theorem Vals.get:∀ {xs:List V} {us:List Value} {i:Nat} {x:V},Vals xs us→xs[i]?=some x→∃ u,us[i]?=some u∧RelV x u
  | _,_,_,_, .nil,e=>by simp at e
  | _,_,0,_, .cons r _,e=>by simp at e;subst e;exact ⟨_,rfl,r⟩
  | _,_,i+1,x, .cons _ t,e=>by
    obtain ⟨u,h1,h2⟩:=Vals.get (i:=i) (x:=x) t (by simpa using e)
    exact ⟨u,by simpa using h1,h2⟩
theorem Vals.set {x:V} {u:Value} (r:RelV x u):∀ {xs:List V} {us:List Value} (i:Nat),Vals xs us→Vals (xs.set i x) (us.set i u)
  | _,_,_, .nil => .nil
  | _,_,0, .cons _ t => .cons r t
  | _,_,i+1, .cons q t => .cons q (Vals.set r i t)
theorem Vals.append:∀ {xs ys:List V} {us ws:List Value},Vals xs us→Vals ys ws→Vals (xs++ys) (us++ws)
  | _,_,_,_, .nil,s=>s
  | _,_,_,_, .cons r t,s => .cons r (Vals.append t s)
theorem Vals.take:∀ {xs:List V} {us:List Value} (n:Nat),Vals xs us→Vals (xs.take n) (us.take n)
  | _,_,0,_ => .nil
  | _,_,_+1, .nil => .nil
  | _,_,n+1, .cons r t => .cons r (Vals.take n t)
theorem Vals.drop:∀ {xs:List V} {us:List Value} (n:Nat),Vals xs us→Vals (xs.drop n) (us.drop n)
  | _,_,0,r=>r
  | _,_,_+1, .nil => .nil
  | _,_,n+1, .cons _ t=>Vals.drop n t
noncomputable def RelO:Option V→Option Value→Prop
  | some v,some u=>RelV v u
  | none,none=>True
  | _,_=>False
noncomputable def KV {κ:Type}:List (κ × V)→List (κ × Value)→Prop:=Paired fun (p:κ × V) (q:κ × Value)=>p.1=q.1∧RelV p.2 q.2
noncomputable def kV:Key→V
  | .inl i => .int i
  | .inr x => .str x
inductive HO where
    | lst (xs:List V)
    | tup (xs:List V)
    | dK (kvs:List (Key×V)) | dT (kvs:List (List Key×V))
    | set (S:Int→Bool) (n:Nat)
    | ins (C dx:Addr) (fs:List (Str×V))
    | own (x:Addr)
    | xd (fs:List (Str×V))
    | met (f x:Addr)
    | rng (lo hi:Int)
    | frz (o:Obj) (u:HO)
    | tbl (ps:Array Value)
    | ext (φ:Heap→Prop)
noncomputable abbrev Hp:=Addr→Option HO
noncomputable def upd (H:Hp) (a:Addr) (o:HO):Hp:=fun b=>if b=a then some o else H b
theorem zo {H:Hp} {a:Addr} {o:HO}:upd H a o a=some o:=by unfold upd;rw [if_pos rfl]
theorem zA {H:Hp} {a b:Addr} {o:HO} (h:b≠a):upd H a o b=H b:=by unfold upd;rw [if_neg h]
theorem zu {H:Hp} {a b:Addr} {o:HO} (h:H a=some o) (h':H b=none):a≠b:=by
  intro e;subst e;rw [h] at h';cases h'
section
variable (P:Program) (w:World)
noncomputable def ObjOk (H:Hp) (h:Heap) (a:Addr):HO→Prop
  | .lst xs=>xs.length≤sizeLine∧∃ (its:List Value) (n:Nat),Vals xs its∧h.get? a=some { cls := .type "list",data := .seq its.toArray n }
  | .tup xs=>xs.length≤sizeLine∧∃ its:List Value,Vals xs its∧IsTup h a its.toArray
  | .dK kvs=>kvs.length≤sizeLine∧(a == sysModules)=false∧∃ vs,KV kvs vs∧h.DictOf (zwb P w) a vs
  | .dT kvs=>kvs.length≤sizeLine∧(a == sysModules)=false∧∃ xs:List (List Key×Addr×Value),
      Paired (fun (p:List Key×V) (q:List Key×Addr×Value)=>p.1=q.1∧H q.2.1=some (.tup (p.1.map kV))∧RelV p.2 q.2.2) kvs xs ∧
      ∃ o es ep,h.get? a=some o∧o.ExactDict∧o.data = .dict es ep∧es.toList=xs.map (entryOfKey (tupleKind (zwb P w)))∧(xs.map (·.1)).Nodup
  | .set S n=>h.SetOf (intKind P w) a S n
  | .ins C dx fs=>H dx=some (.own a)∧fs.length≤1000∧dx≠a∧h.get? a=some (PySem.W.instObj C dx) ∧
      ∃ mA,h.Ns1 dx mA∧(∀ f,RelO (fs.lookup f) (mA f))∧PySem.Within mA (fs.map (·.1))
  | .own _=>∃ o,h.get? a=some o
  | .xd fs=>∃ mA,h.Ns1 a mA∧∀ f,RelO (fs.lookup f) (mA f)
  | .rng lo hi=>∃ t u v,h.get? a=some { cls := .type "range",data := .fields #[.int lo t, .int hi u, .int 1 v] }
  | .frz o u=>h.get? a=some o∧ObjOk H h a u
  | .tbl ps=>h.get? a=some { cls := .none,data := .fields ps }
  | .met f x=>h.get? a=some (PySem.W.methodObj (.ref f) (.ref x))
  | .ext φ=>φ h∧(∃ o,h.get? a=some o)∧∀ h1 h2:Heap,φ h1→(∀ o,h1.get? a=some o→h2.get? a=some o)→φ h2
noncomputable def HOk (H:Hp) (h:Heap):Prop:=∀ a o,H a=some o→ObjOk P w H h a o
end
section
variable {P:Program} {w:World} {H H':Hp} {h h':Heap} {a:Addr} {o:HO}
theorem ObjOk.lt (x:ObjOk P w H h a o):a<h.objs.size:=by
  cases o with
  | lst xs=>obtain ⟨_,_,_,_,e⟩:=x;exact Heap.lt_size e
  | tup xs=>obtain ⟨_,_,_,p⟩:=x;exact p.lt
  | dK kvs=>obtain ⟨_,_,_,_,o,_,_,e,_⟩:=x;exact Heap.lt_size e
  | dT kvs=>obtain ⟨_,_,_,_,o,_,_,e,_⟩:=x;exact Heap.lt_size e
  | set S n=>obtain ⟨o,_,_,_,e,_⟩:=x;exact Heap.lt_size e
  | ins C dx fs=>obtain ⟨_,_,_,e,_⟩:=x;exact Heap.lt_size e
  | own y=>obtain ⟨_,e⟩:=x;exact Heap.lt_size e
  | xd fs=>obtain ⟨_,⟨_,_,_,e,_⟩,_⟩:=x;exact Heap.lt_size e
  | rng lo hi=>obtain ⟨_,_,_,e⟩:=x;exact Heap.lt_size e
  | frz ob u=>obtain ⟨e,_⟩:=x;exact Heap.lt_size e
  | tbl ps=>exact Heap.lt_size (show h.get? a=some _ from x)
  | met f y=>exact Heap.lt_size (show h.get? a=some _ from x)
  | ext φ=>obtain ⟨_,⟨_,e⟩,_⟩:=x;exact Heap.lt_size e
theorem Paired.mapP {α β:Type} {F G:α→β→Prop}:∀ {l₁:List α} {l₂:List β},Paired F l₁ l₂→(∀ a b,F a b→G a b)→Paired G l₁ l₂
  | _,_, .nil,_ => .nil
  | _,_, .cons r t,f => .cons (f _ _ r) (Paired.mapP t f)
theorem ObjOk.stay (x:ObjOk P w H h a o) (k:∀ b u,(b=a∨H b=some (.own a))→h.get? b=some u→h'.get? b=some u)
    (ho:∀ b,H b=some (.own a)→H' b=some (.own a)) (ht:∀ b xs,H b=some (.tup xs)→H' b=some (.tup xs)):ObjOk P w H' h' a o:=by
  induction o with
  | lst xs=>obtain ⟨z,its,n,r,e⟩:=x;exact ⟨z,its,n,r,k _ _ (.inl rfl) e⟩
  | tup xs=>obtain ⟨z,its,r,ob,e,c⟩:=x;exact ⟨z,its,r,ob,k _ _ (.inl rfl) e,c⟩
  | dK kvs=>obtain ⟨z,y,vs,r,ob,es,ep,e,c⟩:=x;exact ⟨z,y,vs,r,ob,es,ep,k _ _ (.inl rfl) e,c⟩
  | dT kvs =>
    obtain ⟨z,y,xs,r,ob,es,ep,e,c⟩:=x
    exact ⟨z,y,xs,Paired.mapP r fun p q z=>⟨z.1,ht _ _ z.2.1,z.2.2⟩,ob,es,ep,k _ _ (.inl rfl) e,c⟩
  | set S n=>obtain ⟨ob,es,ep,t,e,c⟩:=x;exact ⟨ob,es,ep,t,k _ _ (.inl rfl) e,c⟩
  | ins C dx fs =>
    obtain ⟨d,z,ne,e,mA,⟨od,es,ep,e2,c⟩,r⟩:=x
    exact ⟨ho _ d,z,ne,k _ _ (.inl rfl) e,mA,⟨od,es,ep,k _ _ (.inr d) e2,c⟩,r⟩
  | own y=>obtain ⟨ob,e⟩:=x;exact ⟨ob,k _ _ (.inl rfl) e⟩
  | xd fs=>obtain ⟨mA,⟨od,es,ep,e,c⟩,r⟩:=x;exact ⟨mA,⟨od,es,ep,k _ _ (.inl rfl) e,c⟩,r⟩
  | rng lo hi=>obtain ⟨t,u,v,e⟩:=x;exact ⟨t,u,v,k _ _ (.inl rfl) e⟩
  | frz ob u ih=>obtain ⟨e,q⟩:=x;exact ⟨k _ _ (.inl rfl) e,ih q⟩
  | tbl ps =>
    have e:h.get? a=some { cls := .none,data := .fields ps }:=x
    show h'.get? a=some { cls := .none,data := .fields ps }
    exact k a _ (.inl rfl) e
  | met f y =>
    have e:h.get? a=some (PySem.W.methodObj (.ref f) (.ref y)):=x
    show h'.get? a=some (PySem.W.methodObj (.ref f) (.ref y))
    exact k a _ (.inl rfl) e
  | ext φ=>obtain ⟨p,⟨o,e⟩,st⟩:=x;exact ⟨st _ _ p fun o q=>k _ _ (.inl rfl) q,⟨o,k _ _ (.inl rfl) e⟩,st⟩
theorem HOk.lt (x:HOk P w H h) (e:H a=some o):a<h.objs.size:=(x a o e).lt
theorem HOk.fresh (x:HOk P w H h) (e:h.objs.size≤a):H a=none:=by
  cases q:H a with
  | none=>rfl
  | some u=>exact absurd (Nat.lt_of_lt_of_le (x.lt q) e) (Nat.lt_irrefl _)
theorem HOk.kept (x:HOk P w H h) (k:∀ b u,h.get? b=some u→h'.get? b=some u):HOk P w H h':=fun a o e =>
  (x a o e).stay (fun b u _ q=>k b u q) (fun _ q=>q) fun _ _ q=>q
theorem HOk.laid (x:HOk P w H h) (k:∀ b u,h.get? b=some u→h'.get? b=some u) (hp:h.objs.size≤a) (new:ObjOk P w (upd H a o) h' a o):HOk P w (upd H a o) h':=fun b u e=>by
  have hn:=x.fresh hp
  by_cases hb:b=a
  · subst hb;rw [zo] at e;cases e;exact new
  · rw [zA hb] at e
    exact (x b u e).stay (fun c v _ q=>k c v q) (fun c q=>by rw [zA (zu q hn)];exact q) fun c xs q=>by rw [zA (zu q hn)];exact q
end
noncomputable def Rd (H:Hp) (a:Addr) (u:HO):Prop:=H a=some u∨∃ o,H a=some (.frz o u)
theorem Rd.ok {P:Program} {w:World} {H:Hp} {h:Heap} {a:Addr} {u:HO} (r:Rd H a u) (x:HOk P w H h):ObjOk P w H h a u:=by
  rcases r with r | ⟨o,r⟩
  · exact x a u r
  · obtain ⟨_,q⟩:=x a _ r
    exact q
noncomputable def Mut:Option HO→Prop
  | some (.lst _)=>True
  | some (.dK _)=>True
  | some (.dT _)=>True
  | some (.set _ _)=>True
  | some (.ins _ _ _)=>True
  | some (.ext _)=>True
  | _=>False
section
variable {P:Program} {w:World} {H:Hp} {h h':Heap} {x e:Addr} {o':HO}
theorem HOk.write (ok:HOk P w H h) (mu:Mut (H x)) (he:e=x∨H e=some (.own x)) (k:∀ b u,b≠e→h.get? b=some u→h'.get? b=some u) (heo:∃ u,h'.get? e=some u)
    (new:ObjOk P w (upd H x o') h' x o'):HOk P w (upd H x o') h':=fun b u q=>by
  have nown:∀ c y,H c=some (.own y)→c≠x:=fun c y r z=>by subst z;rw [r] at mu;exact mu
  have ntup:∀ c xs,H c=some (.tup xs)→c≠x:=fun c xs r z=>by subst z;rw [r] at mu;exact mu
  by_cases hb:b=x
  · subst hb;rw [zo] at q;cases q;exact new
  · rw [zA hb] at q
    by_cases hbe:b=e
    · have q':H b=some (.own x):=by
        rcases he with z | z
        · exact absurd (hbe.trans z) hb
        · rw [hbe];exact z
      rw [q] at q';cases q'
      obtain ⟨v,hv⟩:=heo
      exact ⟨v,by rw [hbe];exact hv⟩
    · refine (ok b u q).stay (fun c v hc r=>k c v ?_ r) (fun c r=>by rw [zA (nown c b r)];exact r) fun c xs r=>by rw [zA (ntup c xs r)];exact r
      rcases hc with rfl | hc
      · exact hbe
      · rintro rfl
        rcases he with z | z
        · exact nown c b hc z
        · rw [hc] at z;cases z;exact hb rfl
end
structure Un (fs ex:List Addr) (H H':Hp) (h h':Heap):Prop where
  keep:∀ b o,h.get? b=some o→H b=none→b∉fs→b∉ex→h'.get? b=some o
  slot:∀ b o,h.get? b=some o→H b=none→b∈fs→b∉ex→∃ sl,h'.get? b=some { o with slots:=sl }
  free:∀ b o,h.get? b=some o→H b=none→b∉ex→H' b=none
  there:∀ b o,h.get? b=some o→b∉ex→∃ o',h'.get? b=some o'
  tups:∀ b xs,H b=some (.tup xs)→H' b=some (.tup xs)
  frzs:∀ b o u,H b=some (.frz o u)→H' b=some (.frz o u)
  tbls:∀ b ps,H b=some (.tbl ps)→∃ more,H' b=some (.tbl (ps++more))
section
variable {fs fs' ex ex':List Addr} {H H1 H2:Hp} {h h1 h2 h':Heap} {a x e:Addr} {o:HO}
theorem Un.any (u:Un fs ex H H1 h h1) {b:Addr} {ob:Obj} (q:h.get? b=some ob) (n:H b=none) (hx:b∉ex):∃ sl,h1.get? b=some { ob with slots:=sl }:=by
  by_cases hb:b∈fs
  · exact u.slot b ob q n hb hx
  · exact ⟨ob.slots,u.keep b ob q n hb hx⟩
theorem Un.trans (a:Un fs ex H H1 h h1) (b:Un fs ex H1 H2 h1 h2):Un fs ex H H2 h h2 where
  keep:=fun c ob q n hc hx=>b.keep c ob (a.keep c ob q n hc hx) (a.free c ob q n hx) hc hx
  slot:=fun c ob q n hc hx=>by
    obtain ⟨sl,e1⟩:=a.slot c ob q n hc hx
    obtain ⟨sl',e2⟩:=b.slot c _ e1 (a.free c ob q n hx) hc hx
    exact ⟨sl',e2⟩
  free:=fun c ob q n hx=>by
    obtain ⟨o',e1⟩:=a.there c ob q hx
    exact b.free c o' e1 (a.free c ob q n hx) hx
  there:=fun c ob q hx=>by
    obtain ⟨o',e1⟩:=a.there c ob q hx
    exact b.there c o' e1 hx
  tups:=fun c xs q=>b.tups c xs (a.tups c xs q)
  frzs:=fun c ob xs q=>b.frzs c ob xs (a.frzs c ob xs q)
  tbls:=fun c ps q=>by
    obtain ⟨m1,e1⟩:=a.tbls c ps q
    obtain ⟨m2,e2⟩:=b.tbls c _ e1
    exact ⟨m1++m2,by rw [e2,Array.append_assoc]⟩
theorem Un.kept (k:∀ b u,h.get? b=some u→h'.get? b=some u):Un fs ex H H h h' :=
  ⟨fun b ob q _ _ _=>k b ob q,fun b ob q _ _ _=>⟨ob.slots,k b ob q⟩,fun _ _ _ n _=>n,fun b ob q _=>⟨ob,k b ob q⟩,fun _ _ q=>q,fun _ _ _ q=>q,fun _ ps q=>⟨#[],by rw [q];simp⟩⟩
theorem Un.refl:Un fs ex H H h h:=Un.kept fun _ _ q=>q
theorem Un.laid (k:∀ b u,h.get? b=some u→h'.get? b=some u) (hp:h.objs.size≤a) (hn:H a=none):Un fs ex H (upd H a o) h h' where
  keep:=fun b u q _ _ _=>k b u q
  slot:=fun b u q _ _ _=>⟨u.slots,k b u q⟩
  free:=fun b u q n _=>by rw [zA (Nat.ne_of_lt (Nat.lt_of_lt_of_le (Heap.lt_size q) hp))];exact n
  there:=fun b u q _=>⟨u,k b u q⟩
  tups:=fun b xs q=>by rw [zA (zu q hn)];exact q
  frzs:=fun b u xs q=>by rw [zA (zu q hn)];exact q
  tbls:=fun b ps q=>⟨#[],by rw [zA (zu q hn),q];simp⟩
theorem Un.write (mu:Mut (H x)) (he:e=x∨H e=some (.own x)) (k:∀ b u,b≠e→h.get? b=some u→h'.get? b=some u) (heo:∃ u,h'.get? e=some u):Un fs ex H (upd H x o) h h':=by
  have hx:∀ b,H b=none→b≠x:=fun b n z=>by subst z;rw [n] at mu;exact mu
  have hb:∀ b,H b=none→b≠e:=fun b n z=>by
    subst z
    rcases he with r | r
    · exact hx b n r
    · rw [n] at r;cases r
  have hm:∀ b u,H b=some u→¬ Mut (some u)→b≠x:=fun b u q nm z=>by subst z;rw [q] at mu;exact nm mu
  refine ⟨fun b u q n _ _=>k b u (hb b n) q,fun b u q n _ _=>⟨u.slots,k b u (hb b n) q⟩,fun b u q n _=>by rw [zA (hx b n)];exact n,fun b u q _=>?_,
    fun b xs q=>by rw [zA (hm b _ q fun z=>z)];exact q,fun b u xs q=>by rw [zA (hm b _ q fun z=>z)];exact q,fun b ps q=>⟨#[],by rw [zA (hm b _ q fun z=>z),q];simp⟩⟩
  by_cases hbe:b=e
  · subst hbe;exact heo
  · exact ⟨u,k b u hbe q⟩
end
noncomputable def trk (h:Heap) (H:Hp):List Addr:=(List.range h.objs.size).filter fun a=>(H a).isSome
noncomputable def zQo (h:Heap) (H:Hp):Heap:=PySem.W.hideAll h (trk h H)
theorem zun (h:Heap) (H:Hp):(zQo h H).objs.size=h.objs.size:=PySem.W.hideAll_size _ _
theorem zbp {h:Heap} {H:Hp} {b:Addr} {o:Obj} (e:h.get? b=some o) (n:H b=none):(zQo h H).get? b=some o :=
  PySem.W.hideAll_get _ e fun hm=>by
    have q:(H b).isSome=true:=(List.mem_filter.mp hm).2
    rw [n] at q;simp at q
theorem zWq {h:Heap} {H:Hp} {b:Addr} {o:Obj} (e:(zQo h H).get? b=some o):h.get? b=some o∧H b=none:=by
  have e':h.get? b=some o:=PySem.W.of_hideAll (trk h H) e
  refine ⟨e',?_⟩
  cases q:H b with
  | none=>rfl
  | some x =>
    have hm:b∈trk h H:=List.mem_filter.mpr ⟨List.mem_range.mpr (Heap.lt_size e'),by simp [q]⟩
    have z:(zQo h H).get? b=none:=PySem.W.hideAll_none (trk h H) hm
    rw [z] at e;cases e
noncomputable def zkr (g h:Heap) (L:Addr):List (Addr×Obj):=(List.range h.objs.size).filterMap fun a=>if a=L∨(g.get? a).isSome=true then none else (h.get? a).map fun o=>(a,o)
noncomputable def rest (g h:Heap) (L d:Addr):List (Addr×Obj):=(zkr g h L).filter fun p=>decide (p.1≠d)
end L2
namespace L2
open PySem PySem.Spec PyProof.Rows
structure Mod (K:PySem.W.Frag) (mg:Str→Option Value) (base:Heap):Prop where
  kin:K.In base
  glob:base.Ns mainGlobals mg
  blt:∃ mb,base.Ns builtinsNs mb∧∀ x:Str,x≠"__name__"→mb x=bootBuiltins x
  nolimit:base.NoLimit
structure Cx where
  prog:Program
  w:World
  K:PySem.W.Frag
  mg:Str→Option Value
  base:Heap
  A:Around
  N:List Str
  s₀:Shared
  H₀:Hp
  env:Env
  outer:List Env
  stack:List Env
  ex:List Addr
  fn:Str→Bool
  calm:Bool
  pn:List (Addr×Obj)
  xe:Value→Shared→Prop
noncomputable def frs (l:List Env):List Addr:=l.filterMap (·.frame)
noncomputable abbrev Cx.fs (X:Cx):List Addr:=frs X.outer
noncomputable def Vis (sc:Scope) (x:Str):Prop:=sc.names.lookup x=some .local∨sc.names.lookup x=some .cell∨sc.names.lookup x=some .free
noncomputable def Loc (sc:Scope) (x:Str):Prop:=sc.names.lookup x=some .local∨sc.names.lookup x=some .cell
noncomputable def zcu (env:Env) (h:Heap) (m:Str→Option Value) (x:Str) (u:Value):Prop :=
  (env.kindOf x=some .local∧m x=some u)∨((env.kindOf x=some .cell∨env.kindOf x=some .free)∧∃ c,env.cells.lookup x=some c∧h.IsCell c (some u))
structure Cx.Ok (X:Cx):Prop where
  mod:Mod X.K X.mg X.base
  kind:X.env.scope.kind = .function
  glob:X.env.globals=mainGlobals
  blt:X.env.builtins=builtinsNs
  above:X.s₀.heap.objs.size≤X.env.locals
  inj:∀ x y c,X.env.cells.lookup x=some c→X.env.cells.lookup y=some c→x=y
  has:∀ x,(X.env.kindOf x=some .cell∨X.env.kindOf x=some .free)→∃ c,X.env.cells.lookup x=some c
  cab:∀ x c,X.fn x=true→X.env.cells.lookup x=some c→X.s₀.heap.objs.size≤c
  hd:X.calm=true→X.A.handled=none
  frames:X.A.frames=some X.stack
  stk:X.stack=X.outer∨(X.stack=X.env :: X.outer∧X.env.frame=some X.env.locals)
  exf:∀ b∈X.ex,b≠X.env.locals∧∀ x c,X.env.cells.lookup x=some c→c≠b
  bs:∀ b o,X.base.get? b=some o→X.s₀.heap.get? b=some o∧X.H₀ b=none
  bsz:X.base.objs.size≤X.s₀.heap.objs.size
  noex:∀ b o,X.base.get? b=some o→b∉X.ex
  exfs:∀ b∈X.ex,b∉X.fs
  funs:X.s₀.heap.FunFrames X.base X.outer
  frf:∀ b∈X.fs,X.H₀ b=none
structure Inv (X:Cx) (pins:List (Addr×Obj)) (σ:List (Option V)) (H:Hp) (s:Shared):Prop where
  ok:X.Ok
  os:s.os=X.s₀.os
  bare:AllBare s.gens
  base:Un X.fs X.ex X.H₀ H X.s₀.heap s.heap
  loc:∃ m,s.heap.Ns X.env.locals m∧∀ (i:Nat) (x:Str) (v:V),X.N[i]?=some x→σ[i]?=some (some v)→Vis X.env.scope x→∃ u,RelV v u∧zcu X.env s.heap m x u
  cell:∀ x c,X.env.cells.lookup x=some c→∃ v,s.heap.IsCell c v
  free:H X.env.locals=none
  freeC:∀ x c,X.env.cells.lookup x=some c→H c=none
  pin:∀ p∈X.pn++pins,s.heap.get? p.1=some p.2∧H p.1=none∧p.1≠X.env.locals∧p.1∉X.fs∧∀ v,p.2.data≠.cell v
  hok:HOk X.prog X.w H s.heap
  len:σ.length=X.N.length
section
variable {X:Cx} {pins:List (Addr×Obj)} {σ:List (Option V)} {H H':Hp} {s:Shared} {h':Heap}
theorem Cx.Ok.nofr (ok:X.Ok) {b:Addr} {o:Obj} (e:X.base.get? b=some o):b∉X.fs:=fun hb=>by
  have:=(ok.funs.mem hb).1
  rw [e] at this;cases this
theorem Inv.bs (I:Inv X pins σ H s):∀ b o,X.base.get? b=some o→s.heap.get? b=some o∧H b=none:=fun b o e =>
  ⟨I.base.keep b o (I.ok.bs b o e).1 (I.ok.bs b o e).2 (I.ok.nofr e) (I.ok.noex b o e),I.base.free b o (I.ok.bs b o e).1 (I.ok.bs b o e).2 (I.ok.noex b o e)⟩
theorem Inv.bk (I:Inv X pins σ H s):∀ b o,X.base.get? b=some o→s.heap.get? b=some o:=fun b o e=>(I.bs b o e).1
theorem Inv.mod (I:Inv X pins σ H s):Mod X.K X.mg X.base:=I.ok.mod
theorem Inv.kIn (I:Inv X pins σ H s):X.K.In s.heap:=I.ok.mod.kin.keeps I.bk
theorem Inv.fr (I:Inv X pins σ H s):∃ m,Fr X.base X.env.locals s.heap m :=
  let ⟨m,hn,_⟩:=I.loc
  ⟨m,hn,I.bk,Nat.le_trans I.ok.bsz I.ok.above⟩
theorem Inv.lt (I:Inv X pins σ H s):X.env.locals<s.heap.objs.size:=let ⟨_,hn,_⟩:=I.loc;hn.lt
theorem Inv.sz (I:Inv X pins σ H s):X.s₀.heap.objs.size≤s.heap.objs.size:=Nat.le_trans I.ok.above (Nat.le_of_lt I.lt)
theorem Inv.nofs (I:Inv X pins σ H s) {a:Addr} (h:s.heap.objs.size≤a):a∉X.fs:=fun hb=>by
  obtain ⟨_,o,ho,_⟩:=I.ok.funs.mem hb
  exact absurd (Nat.lt_of_lt_of_le (Heap.lt_size ho) (Nat.le_trans I.sz h)) (Nat.lt_irrefl _)
theorem Inv.cne (I:Inv X pins σ H s):∀ x c,X.env.cells.lookup x=some c→c≠X.env.locals:=fun x c e z=>by
  obtain ⟨v,o,ho,hd⟩:=I.cell x c e
  obtain ⟨m,⟨o',es,ep,ho',hd',_⟩,_⟩:=I.loc
  rw [z,ho'] at ho;cases ho;rw [hd'] at hd;cases hd
theorem Inv.funs (I:Inv X pins σ H s):s.heap.FunFrames X.base X.outer:=by
  have all:∀ (l:List Env),(∀ b∈frs l,b∈X.fs)→X.s₀.heap.FunFrames X.base l→s.heap.FunFrames X.base l:=by
    intro l
    induction l with
    | nil=>intro _ _;trivial
    | cons env r ih =>
      intro hs hl
      obtain ⟨hk,⟨L,o,hf,hn,ho,hd⟩,hr⟩:=hl
      have hL:L∈X.fs:=hs L (by unfold frs;rw [List.filterMap_cons,hf];exact List.mem_cons_self)
      obtain ⟨sl,e⟩:=I.base.slot L o ho (I.ok.frf L hL) hL fun z=>I.ok.exfs L z hL
      exact ⟨hk,⟨L,_,hf,hn,e,hd⟩,ih (fun b hb=>hs b (by unfold frs;rw [List.filterMap_cons,hf];exact List.mem_cons_of_mem _ hb)) hr⟩
  exact all X.outer (fun _ hb=>hb) I.ok.funs
theorem Inv.stack (I:Inv X pins σ H s):s.heap.FunFrames X.base X.stack:=by
  rcases I.ok.stk with e | ⟨e,hf⟩
  · rw [e];exact I.funs
  · rw [e]
    obtain ⟨m,hn,_⟩:=I.loc
    refine .cons (by rw [I.ok.kind];decide) hf hn ?_ I.funs
    exact Heap.get?_none_of_le (Nat.le_trans I.ok.bsz I.ok.above)
theorem Inv.stkSub (I:Inv X pins σ H s):∀ b∈frs X.stack,b∈X.env.locals :: X.fs:=fun b hb=>by
  rcases I.ok.stk with e | ⟨e,hf⟩
  · rw [e] at hb;exact List.mem_cons_of_mem _ hb
  · rw [e] at hb
    unfold frs at hb
    rw [List.filterMap_cons,hf] at hb
    exact hb
theorem Inv.stkFree (I:Inv X pins σ H s):∀ b∈frs X.stack,H b=none:=fun b hb=>by
  rcases List.mem_cons.mp (I.stkSub b hb) with e | hb
  · rw [e];exact I.free
  · obtain ⟨_,o,ho,_⟩:=I.ok.funs.mem hb
    exact I.base.free b o ho (I.ok.frf b hb) fun z=>I.ok.exfs b z hb
theorem Inv.step {g':Array GenState} {t':Nat} {d':Drawn} {ch:List Addr} (I:Inv X pins σ H s)
    (hch:∀ b∈ch,(b∈X.ex∨X.s₀.heap.objs.size≤b)∧b≠X.env.locals∧(∀ x c,X.env.cells.lookup x=some c→c≠b)∧∀ p∈X.pn++pins,p.1≠b)
    (keep:∀ b o,b≠X.env.locals→b∉X.fs→b∉ch→s.heap.get? b=some o→H b=none→h'.get? b=some o)
    (slot:∀ b o,b≠X.env.locals→b∈X.fs→b∉ch→s.heap.get? b=some o→H b=none→∃ sl,h'.get? b=some { o with slots:=sl }) (free:∀ b o,b∉ch→s.heap.get? b=some o→H b=none→H' b=none)
    (there:∀ b o,b∉ch→s.heap.get? b=some o→∃ o',h'.get? b=some o')
    (tups:∀ b xs,H b=some (.tup xs)→H' b=some (.tup xs)) (frzs:∀ b o u,H b=some (.frz o u)→H' b=some (.frz o u)) (tbls:∀ b ps,H b=some (.tbl ps)→∃ more,H' b=some (.tbl (ps++more)))
    (ns:∀ m,s.heap.Ns X.env.locals m→h'.Ns X.env.locals m) (hok:HOk X.prog X.w H' h') (hg:AllBare g') :
    Inv X pins σ H' { s with heap:=h',gens:=g',drawn:=d',toks:=t' }:=by
  have neL:∀ b o,X.s₀.heap.get? b=some o→b≠X.env.locals:=fun b o e=>Nat.ne_of_lt (Nat.lt_of_lt_of_le (Heap.lt_size e) I.ok.above)
  have neC:∀ b o,X.s₀.heap.get? b=some o→b∉X.ex→b∉ch:=fun b o e hx hb=>by
    rcases (hch b hb).1 with z | z
    · exact hx z
    · exact absurd (Nat.lt_of_lt_of_le (Heap.lt_size e) z) (Nat.lt_irrefl _)
  have cellK:∀ x c,X.env.cells.lookup x=some c→∀ v,s.heap.IsCell c v→h'.IsCell c v:=fun x c e v ⟨o,ho,hd⟩=>by
    have nch:c∉ch:=fun z=>(hch c z).2.2.1 x c e rfl
    by_cases hc:c∈X.fs
    · obtain ⟨sl,q⟩:=slot c o (I.cne x c e) hc nch ho (I.freeC x c e)
      exact ⟨_,q,hd⟩
    · exact ⟨o,keep c o (I.cne x c e) hc nch ho (I.freeC x c e),hd⟩
  refine ⟨I.ok,I.os,hg,⟨fun b o e n hb hx=>?_,fun b o e n hb hx=>?_,fun b o e n hx=>?_,fun b o e hx=>?_,fun b xs e=>tups b xs (I.base.tups b xs e),fun b o xs e=>frzs b o xs (I.base.frzs b o xs e),fun b ps e=>?_⟩,?_,fun x c e=>?_,?_,fun x c e=>?_,fun p hp=>?_,hok,I.len⟩
  · exact keep b o (neL b o e) hb (neC b o e hx) (I.base.keep b o e n hb hx) (I.base.free b o e n hx)
  · obtain ⟨sl,e1⟩:=I.base.slot b o e n hb hx
    obtain ⟨sl',e2⟩:=slot b _ (neL b o e) hb (neC b o e hx) e1 (I.base.free b o e n hx)
    exact ⟨sl',e2⟩
  · obtain ⟨o',e1⟩:=I.base.there b o e hx
    exact free b o' (neC b o e hx) e1 (I.base.free b o e n hx)
  · obtain ⟨o',e1⟩:=I.base.there b o e hx
    exact there b o' (neC b o e hx) e1
  · obtain ⟨m1,e1⟩:=I.base.tbls b ps e
    obtain ⟨m2,e2⟩:=tbls b _ e1
    exact ⟨m1++m2,by rw [e2,Array.append_assoc]⟩
  · obtain ⟨m,hn,hl⟩:=I.loc
    refine ⟨m,ns m hn,fun i x v e1 e2 e3=>?_⟩
    obtain ⟨u,r,l⟩:=hl i x v e1 e2 e3
    refine ⟨u,r,?_⟩
    rcases l with l | ⟨k,c,e,z⟩
    · exact .inl l
    · exact .inr ⟨k,c,e,cellK x c e _ z⟩
  · obtain ⟨v,z⟩:=I.cell x c e
    exact ⟨v,cellK x c e v z⟩
  · obtain ⟨m,⟨o,_,_,ho,_⟩,_⟩:=I.loc
    exact free _ o (fun z=>(hch _ z).2.1 rfl) ho I.free
  · obtain ⟨v,o,ho,hd⟩:=I.cell x c e
    exact free c o (fun z=>(hch c z).2.2.1 x c e rfl) ho (I.freeC x c e)
  · obtain ⟨e,n,ne,nf,d⟩:=I.pin p hp
    have nch:p.1∉ch:=fun z=>(hch p.1 z).2.2.2 p hp rfl
    exact ⟨keep p.1 p.2 ne nf nch e n,free p.1 p.2 nch e n,ne,nf,d⟩
theorem Inv.un {t':Nat} (I:Inv X pins σ H s) (u:Un X.fs [] H H' s.heap h') (hok:HOk X.prog X.w H' h'):Inv X pins σ H' { s with heap:=h',toks:=t' }:=by
  obtain ⟨m,⟨o,es,ep,ho,r⟩,_⟩:=id I.loc
  obtain ⟨sl,hL⟩:=u.any ho I.free (by simp)
  exact I.step (g':=s.gens) (d':=s.drawn) (ch:=[]) (fun _ z=>nomatch z) (fun b o _ hb _ e n=>u.keep b o e n hb (by simp)) (fun b o _ hb _ e n=>u.slot b o e n hb (by simp)) (fun b o _ e n=>u.free b o e n (by simp)) (fun b o _ e=>u.there b o e (by simp)) u.tups u.frzs u.tbls (fun m' hm=>by
    obtain ⟨o',es',ep',ho',r'⟩:=hm
    rw [ho] at ho';cases ho'
    exact ⟨_,es',ep',hL,r'⟩) hok I.bare
theorem Inv.call {g':Array GenState} {t':Nat} {d':Drawn} {ch:List Addr} (I:Inv X pins σ H s) (u:Un (frs X.stack) ch H H' s.heap h') (hok:HOk X.prog X.w H' h') (hg:AllBare g')
    (hch:∀ b∈ch,(b∈X.ex∨X.s₀.heap.objs.size≤b)∧b≠X.env.locals∧(∀ x c,X.env.cells.lookup x=some c→c≠b)∧∀ p∈X.pn++pins,p.1≠b) :
    Inv X pins σ H' { s with heap:=h',gens:=g',drawn:=d',toks:=t' }:=by
  obtain ⟨m,⟨o,es,ep,ho,r⟩,_⟩:=id I.loc
  obtain ⟨sl,hL⟩:=u.any ho I.free fun z=>(hch _ z).2.1 rfl
  exact I.step (ch:=ch) hch (fun b o hL hb hc e n=>u.keep b o e n (fun z=>(List.mem_cons.mp (I.stkSub b z)).elim hL hb) hc) (fun b o _ _ hc e n=>u.any e n hc) (fun b o hc e n=>u.free b o e n hc) (fun b o hc e=>u.there b o e hc) u.tups u.frzs u.tbls (fun m' hm=>by
    obtain ⟨o',es',ep',ho',r'⟩:=hm
    rw [ho] at ho';cases ho'
    exact ⟨_,es',ep',hL,r'⟩) hok hg
theorem Inv.turned {t':Nat} {it:Addr} (I:Inv X pins σ H s) (k:∀ b o,b≠it→s.heap.get? b=some o→h'.get? b=some o) (hn:H it=none) (hL:it≠X.env.locals)
    (h1:it∈X.ex∨X.s₀.heap.objs.size≤it) (h2:∀ x c,X.env.cells.lookup x=some c→c≠it) (h3:∀ p∈X.pn++pins,p.1≠it):Inv X pins σ H { s with heap:=h',toks:=t' }:=by
  have nit:∀ b u,H b=some u→b≠it:=fun b u e z=>by rw [z,hn] at e;cases e
  refine I.step (g':=s.gens) (d':=s.drawn) (ch:=[it]) (fun b hb=>?_) (fun b o _ _ hc e _=>k b o (fun z=>hc (by simp [z])) e) (fun b o _ _ hc e _=>⟨o.slots,k b o (fun z=>hc (by simp [z])) e⟩) (fun _ _ _ _ n=>n)
    (fun b o hc e=>⟨o,k b o (fun z=>hc (by simp [z])) e⟩) (fun _ _ e=>e) (fun _ _ _ e=>e) (fun b ps e=>⟨#[],by rw [e];simp⟩) (fun m hm=>?_) (fun b u e=>?_) I.bare
  · have e:b=it:=by simpa using hb
    subst e
    exact ⟨h1,hL,h2,h3⟩
  · obtain ⟨o,es,ep,ho,r⟩:=hm
    exact ⟨o,es,ep,k _ o (Ne.symm hL) ho,r⟩
  · refine (I.hok b u e).stay (fun c v hc q=>k c v ?_ q) (fun _ q=>q) fun _ _ q=>q
    rcases hc with z | z
    · rw [z];exact nit b u e
    · exact nit c _ z
theorem Inv.tok (I:Inv X pins σ H s) (t:Nat):Inv X pins σ H { s with toks:=t }:=I.un (h':=s.heap) (t':=t) Un.refl I.hok
theorem Inv.kept {t':Nat} (I:Inv X pins σ H s) (k:∀ b u,s.heap.get? b=some u→h'.get? b=some u):Inv X pins σ H { s with heap:=h',toks:=t' }:=I.un (Un.kept k) (I.hok.kept k)
theorem Inv.laid {a:Addr} {o:HO} {t':Nat} (I:Inv X pins σ H s) (k:∀ b u,s.heap.get? b=some u→h'.get? b=some u) (hp:s.heap.objs.size≤a) (new:ObjOk X.prog X.w (upd H a o) h' a o) :
    Inv X pins σ (upd H a o) { s with heap:=h',toks:=t' }:=I.un (Un.laid k hp (I.hok.fresh hp)) (I.hok.laid k hp new)
theorem Inv.write {x e:Addr} {o:HO} {t':Nat} (I:Inv X pins σ H s) (mu:Mut (H x)) (he:e=x∨H e=some (.own x)) (k:∀ b u,b≠e→s.heap.get? b=some u→h'.get? b=some u) (heo:∃ u,h'.get? e=some u)
    (new:ObjOk X.prog X.w (upd H x o) h' x o):Inv X pins σ (upd H x o) { s with heap:=h',toks:=t' }:=I.un (Un.write mu he k heo) (I.hok.write mu he k heo new)
theorem Inv.weak {σ':List (Option V)} (I:Inv X pins σ H s) (hl:σ'.length = σ.length) (w:∀ (i:Nat) v,σ'[i]?=some (some v)→σ[i]?=some (some v)):Inv X pins σ' H s :=
  ⟨I.ok,I.os,I.bare,I.base,let ⟨m,hn,hl'⟩:=I.loc;⟨m,hn,fun i x v e1 e2 e3=>hl' i x v e1 (w i v e2) e3⟩,I.cell,I.free,I.freeC,I.pin,I.hok,hl.trans I.len⟩
theorem Inv.pins_of {pins':List (Addr×Obj)} (I:Inv X pins σ H s) (h:∀ p∈pins',s.heap.get? p.1=some p.2∧H p.1=none∧p.1≠X.env.locals∧p.1∉X.fs∧∀ v,p.2.data≠.cell v):Inv X pins' σ H s :=
  ⟨I.ok,I.os,I.bare,I.base,I.loc,I.cell,I.free,I.freeC,fun p hp=>(List.mem_append.mp hp).elim (fun z=>I.pin p (List.mem_append_left _ z)) (h p),I.hok,I.len⟩
theorem zxl {N:List Str} (hN:N.Nodup) {i j:Nat} {x:Str} (a:N[i]?=some x) (b:N[j]?=some x):i=j:=by
  obtain ⟨h1,e1⟩:=List.getElem?_eq_some_iff.mp a
  obtain ⟨h2,e2⟩:=List.getElem?_eq_some_iff.mp b
  exact (List.getElem_inj hN).mp (e1.trans e2.symm)
theorem zmj {M:Model} {A:Around} {E:Value→Shared→Prop} {i:Nat} {x:Str} {v:V} {u:Value} {Q:Unit→Shared→Prop} (I:Inv X pins σ H s) (hN:X.N.Nodup) (hi:X.N[i]?=some x) (hx:Loc X.env.scope x) (r:RelV v u)
    (h:∀ s',Inv X pins (σ.set i (some v)) H s'→(∃ a,Heap.SameBut a s.heap s'.heap∧(a=X.env.locals∨X.env.cells.lookup x=some a))→Q () s') (hf:X.fn x=true∨X.env.scope.names.lookup x=some .local:=by first | exact .inl rfl | exact .inr rfl | assumption):wpAny M A (storeName X.env x u) Q E s:=by
  obtain ⟨m,hn,hl⟩:=id I.loc
  have hcls:(X.env.scope.kind == .class || (X.env.scope.kind == .module && X.env.locals != X.env.globals))=false:=by rw [I.ok.kind];rfl
  have hiσ:i < σ.length:=by rw [I.len];exact (List.getElem?_eq_some_iff.mp hi).1
  have cne:=I.cne
  have tracked:∀ {a:Addr} {h':Heap},(∃ o,s.heap.get? a=some o∧H a=none)→Heap.SameBut a s.heap h'→HOk X.prog X.w H h':=fun {a h'} ha hs b ob e=>by
    obtain ⟨_,_,hfree⟩:=ha
    refine (I.hok b ob e).stay (fun c w' hc q=>(hs.2 c ?_).trans q) (fun _ q=>q) fun _ _ q=>q
    rintro rfl
    rcases hc with rfl | hc
    · rw [hfree] at e;cases e
    · rw [hfree] at hc;cases hc
  rcases hx with hk | hk
  · refine wpAny_storeName_local hk hn (fun h' hn' hs=>?_) hcls
    obtain ⟨oL,_,_,hoL,_⟩:=id hn
    refine h _ ⟨I.ok,I.os,I.bare,⟨fun b o e n hb hx=>?_,fun b o e n hb hx=>?_,I.base.free,fun b o e hx=>?_,I.base.tups,I.base.frzs,I.base.tbls⟩,⟨_,hn',fun j y v' e1 e2 e3=>?_⟩,fun y c e=>?_,I.free,I.freeC,fun p hp=>?_,tracked ⟨oL,hoL,I.free⟩ hs,by simpa using I.len⟩ ⟨_,hs, .inl rfl⟩
    · exact (hs.2 b (Nat.ne_of_lt (Nat.lt_of_lt_of_le (Heap.lt_size e) I.ok.above))).trans (I.base.keep b o e n hb hx)
    · obtain ⟨sl,e1⟩:=I.base.slot b o e n hb hx
      exact ⟨sl,(hs.2 b (Nat.ne_of_lt (Nat.lt_of_lt_of_le (Heap.lt_size e) I.ok.above))).trans e1⟩
    · obtain ⟨o',e1⟩:=I.base.there b o e hx
      exact ⟨o',(hs.2 b (Nat.ne_of_lt (Nat.lt_of_lt_of_le (Heap.lt_size e) I.ok.above))).trans e1⟩
    · by_cases hj:j=i
      · subst hj
        rw [hi] at e1;cases e1
        rw [List.getElem?_set_self hiσ] at e2
        cases e2
        exact ⟨u,r, .inl ⟨hk,by simp⟩⟩
      · rw [List.getElem?_set_ne (Ne.symm hj)] at e2
        obtain ⟨u',r',q⟩:=hl j y v' e1 e2 e3
        refine ⟨u',r',?_⟩
        rcases q with ⟨k,e⟩ | ⟨k,c,e,z⟩
        · refine .inl ⟨k,?_⟩
          have:y≠x:=fun e=>hj (zxl hN e1 (e▸hi))
          simp [this,e]
        · exact .inr ⟨k,c,e,z.sameBut hs (cne y c e)⟩
    · obtain ⟨w',z⟩:=I.cell y c e
      exact ⟨w',z.sameBut hs (cne y c e)⟩
    · obtain ⟨e,n,ne,nf,d⟩:=I.pin p hp
      exact ⟨(hs.2 p.1 ne).trans e,n,ne,nf,d⟩
  · have hfn:X.fn x=true:=by
      rcases hf with z | z
      · exact z
      · rw [z] at hk;cases hk
    obtain ⟨c,hc⟩:=I.ok.has x (.inl hk)
    obtain ⟨w',z⟩:=I.cell x c hc
    refine wpAny_storeName_cell I.ok.kind hk hc z (fun h' hc' hs=>?_)
    obtain ⟨oc,hoc,hocd⟩:=id z
    refine h { s with heap:=h' } ⟨I.ok,I.os,I.bare,⟨fun b o e n hb hx=>?_,fun b o e n hb hx=>?_,I.base.free,fun b o e hx=>?_,I.base.tups,I.base.frzs,I.base.tbls⟩,⟨m,hn.sameBut hs (Ne.symm (cne x c hc)),fun j y v' e1 e2 e3=>?_⟩,fun y c' e=>?_,I.free,I.freeC,fun p hp=>?_,tracked ⟨oc,hoc,I.freeC x c hc⟩ hs,by simpa using I.len⟩ ⟨c,hs, .inr hc⟩
    · exact (hs.2 b (Nat.ne_of_lt (Nat.lt_of_lt_of_le (Heap.lt_size e) (I.ok.cab x c hfn hc)))).trans (I.base.keep b o e n hb hx)
    · obtain ⟨sl,e1⟩:=I.base.slot b o e n hb hx
      exact ⟨sl,(hs.2 b (Nat.ne_of_lt (Nat.lt_of_lt_of_le (Heap.lt_size e) (I.ok.cab x c hfn hc)))).trans e1⟩
    · obtain ⟨o',e1⟩:=I.base.there b o e hx
      exact ⟨o',(hs.2 b (Nat.ne_of_lt (Nat.lt_of_lt_of_le (Heap.lt_size e) (I.ok.cab x c hfn hc)))).trans e1⟩
    · by_cases hj:j=i
      · subst hj
        rw [hi] at e1;cases e1
        rw [List.getElem?_set_self hiσ] at e2
        cases e2
        exact ⟨u,r, .inr ⟨.inl hk,c,hc,hc'⟩⟩
      · rw [List.getElem?_set_ne (Ne.symm hj)] at e2
        obtain ⟨u',r',q⟩:=hl j y v' e1 e2 e3
        refine ⟨u',r',?_⟩
        rcases q with q | ⟨k,c',e,z'⟩
        · exact .inl q
        · refine .inr ⟨k,c',e,z'.sameBut hs ?_⟩
          rintro rfl
          exact hj (zxl hN e1 (I.ok.inj _ _ _ e hc▸hi))
    · by_cases hcc:c'=c
      · subst hcc;exact ⟨_,hc'⟩
      · obtain ⟨w2,z2⟩:=I.cell y c' e
        exact ⟨w2,z2.sameBut hs hcc⟩
    · obtain ⟨e,n,ne,nf,d⟩:=I.pin p hp
      refine ⟨(hs.2 p.1 ?_).trans e,n,ne,nf,d⟩
      intro q
      rw [q,hoc] at e
      have q':oc=p.2:=Option.some.inj e
      exact d w' (by rw [← q'];exact hocd)
theorem zEg {M:Model} {A:Around} {E:Value→Shared→Prop} {i:Nat} {x:Str} {v:V} {u:Value} {Q:Unit→Shared→Prop} (I:Inv X pins σ H s) (hN:X.N.Nodup) (hi:X.N[i]?=some x) (hx:Loc X.env.scope x) (r:RelV v u)
    (h:∀ s',Inv X pins (σ.set i (some v)) H s'→Q () s') (hf:X.fn x=true∨X.env.scope.names.lookup x=some .local:=by first | exact .inl rfl | exact .inr rfl | assumption):wpAny M A (storeName X.env x u) Q E s :=
  zmj I hN hi hx r (fun s' I' _=>h s' I') hf
theorem Inv.call' {s':Shared} {ch:List Addr} (I:Inv X pins σ H s) (ho:s'.os=s.os) (u:Un (frs X.stack) ch H H' s.heap s'.heap) (hok:HOk X.prog X.w H' s'.heap) (hg:AllBare s'.gens)
    (hch:∀ b∈ch,(b∈X.ex∨X.s₀.heap.objs.size≤b)∧b≠X.env.locals∧(∀ x c,X.env.cells.lookup x=some c→c≠b)∧∀ p∈X.pn++pins,p.1≠b):Inv X pins σ H' s':=by
  obtain ⟨h',g',d',t',o'⟩:=s'
  have e:o'=s.os:=ho
  subst e
  exact I.call (g':=g') (t':=t') (d':=d') u hok hg hch
end
noncomputable abbrev XK:=Value→Option Addr→Hp→Prop
noncomputable abbrev St:=List (Option V)
noncomputable abbrev VK:=V→Hp→Prop
noncomputable abbrev TE:=St→Hp→VK→Prop
noncomputable abbrev TT:=St→Hp→(Bool→Hp→Prop)→Prop
noncomputable abbrev TA:=St→Hp→(List V→Hp→Prop)→Prop
structure Ends where
  nx:St→Hp→Prop
  rt:VK
  bk:St→Hp→Prop:=fun _ _=>False
  ct:St→Hp→Prop:=fun _ _=>False
noncomputable abbrev TS:=Ends→St→Hp→Prop
noncomputable def EP (X:Cx) (pins:List (Addr×Obj)) (σ:St) (Q:VK) (u:Value) (s':Shared):Prop:=∃ v H',Inv X pins σ H' s'∧RelV v u∧Q v H'
noncomputable def TP (X:Cx) (pins:List (Addr×Obj)) (σ:St) (Q:Bool→Hp→Prop) (b:Bool) (s':Shared):Prop:=∃ H',Inv X pins σ H' s'∧Q b H'
noncomputable def AP (X:Cx) (pins:List (Addr×Obj)) (σ:St) (Q:List V→Hp→Prop) (us:List Value) (s':Shared):Prop:=∃ vs H',Inv X pins σ H' s'∧Vals vs us∧Q vs H'
noncomputable def SP (X:Cx) (pins:List (Addr×Obj)) (D:Ends) (f:Flow) (s':Shared):Prop :=
  match f with
  | .next=>∃ σ' H',Inv X pins σ' H' s'∧D.nx σ' H'
  | .brk=>∃ σ' H',Inv X pins σ' H' s'∧D.bk σ' H'
  | .cont=>∃ σ' H',Inv X pins σ' H' s'∧D.ct σ' H'
  | .ret u=>∃ v σ' H',Inv X pins σ' H' s'∧RelV v u∧D.rt v H'
noncomputable def PE (X:Cx) (e:Expr) (t:TE):Prop :=
  ∀ (pins:List (Addr×Obj)) (s:Shared) (σ:St) (H:Hp) (Q:VK),Inv X pins σ H s→t σ H Q→wpAny (model X.prog X.w) X.A (eval e X.env) (EP X pins σ Q) X.xe s
noncomputable def PT (X:Cx) (e:Expr) (t:TT):Prop :=
  ∀ (pins:List (Addr×Obj)) (s:Shared) (σ:St) (H:Hp) (Q:Bool→Hp→Prop),Inv X pins σ H s→t σ H Q→wpAny (model X.prog X.w) X.A (isTrue e X.env (eval e X.env)) (TP X pins σ Q) X.xe s
noncomputable def PW (X:Cx) (e:Expr) (t:TT):Prop :=
  ∀ (whole:Sem Value) (pins:List (Addr×Obj)) (s:Shared) (σ:St) (H:Hp) (Q:Bool→Hp→Prop),Inv X pins σ H s→t σ H Q→wpAny (model X.prog X.w) X.A (isTrue e X.env whole) (TP X pins σ Q) X.xe s
noncomputable def PA (X:Cx) (es:List Expr) (t:TA):Prop :=
  ∀ (pos:Pos) (pins:List (Addr×Obj)) (s:Shared) (σ:St) (H:Hp) (Q:List V→Hp→Prop),Inv X pins σ H s→t σ H Q→wpAny (model X.prog X.w) X.A (spliced (backTo pos (starEach es X.env))) (AP X pins σ Q) X.xe s
noncomputable def PS (X:Cx) (st:Stmt) (t:TS):Prop :=
  ∀ (pins:List (Addr×Obj)) (s:Shared) (σ:St) (H:Hp) (D:Ends),Inv X pins σ H s→t D σ H→wpAny (model X.prog X.w) X.A (exec st X.env) (SP X pins D) X.xe s
noncomputable def PSs (X:Cx) (st:List Stmt) (t:TS):Prop :=
  ∀ (pins:List (Addr×Obj)) (s:Shared) (σ:St) (H:Hp) (D:Ends),Inv X pins σ H s→t D σ H→wpAny (model X.prog X.w) X.A (execs st X.env) (SP X pins D) X.xe s
theorem thn {α:Type} {t:Sem α} {Q Q':α→Shared→Prop} {M:Model} {A:Around} {E:Value→Shared→Prop} {s:Shared} (h:wpAny M A t Q E s) (hQ:∀ a s,Q a s→Q' a s):wpAny M A t Q' E s:=wpAny_mono h hQ fun _ _ x=>x
end L2
namespace L2
open PySem PySem.Spec PyProof.Rows
section
variable {X:Cx}
noncomputable def zMt (i:Nat):TE:=fun σ H Q=>∃ v,σ[i]?=some (some v)∧Q v H
noncomputable def tC (v:V):TE:=fun _ H Q=>Q v H
theorem zMp {i:Nat} {x:Str} {pos:Pos} (hN:X.N[i]?=some x) (hv:Vis X.env.scope x) (hd:(x == ("__debug__":Str))=false:=by decide) (hcd:(x == ("__classdict__":Str))=false:=by decide):PE X (.Name x pos) (zMt i):=by
  intro pins s σ H Q I h
  obtain ⟨v,e,h⟩:=h
  obtain ⟨m,hn,hl⟩:=I.loc
  obtain ⟨u,r,l⟩:=hl i x v hN e hv
  have fin:EP X pins σ Q u s:=⟨v,H,I,r,h⟩
  rcases l with ⟨hk,hm⟩ | ⟨hk,c,hc,hcell⟩
  · exact wpAny_Name (wpAny_loadName_local I.ok.kind hk hn hm fin) hd
  · rcases hk with hk | hk
    · exact wpAny_Name (wpAny_loadName_cell I.ok.kind hk hc hcell fin) hd
    · exact wpAny_Name (wpAny_loadName_free I.ok.kind hk hc hcell fin hcd) hd
theorem zQr {i j pos}:PE X (.Constant (.int i) j pos) (tC (.int i)):=fun _ _ _ H _ I h=>wpAny_Constant_int ⟨.int i,H,I.tok _,⟨_,rfl⟩,h⟩
theorem ztt {b j pos}:PE X (.Constant (.bool b) j pos) (tC (.bl b)):=fun _ _ _ H _ I h=>Constant_bool ⟨.bl b,H,I,rfl,h⟩
theorem zTs {j pos}:PE X (.Constant .none j pos) (tC .non):=fun _ _ _ H _ I h=>Constant_none ⟨.non,H,I,rfl,h⟩
theorem zas {x j pos}:PE X (.Constant (.str x) j pos) (tC (.str x)):=fun _ _ _ H _ I h=>Calls.Constant_str ⟨.str x,H,I.tok _,⟨_,rfl⟩,h⟩
noncomputable def Gl (X:Cx) (x:Str):Prop:=X.env.kindOf x=some .globalImplicit
theorem zvh {E:Value→Shared→Prop} {pins:List (Addr×Obj)} {s:Shared} {σ:St} {H:Hp} {x:Str} {u:Value} {pos:Pos} {Q:Value→Shared→Prop} (I:Inv X pins σ H s) (hg:Gl X x) (hm:X.mg x=some u) (h:Q u s)
    (hd:(x == ("__debug__":Str))=false:=by decide):wpAny (model X.prog X.w) X.A (eval (.Name x pos) X.env) Q E s :=
  Calls.Name_function_global I.ok.kind hg (Calls.loadGlobal_global (by rw [I.ok.glob];exact I.mod.glob.keeps I.bk) hm h) hd
theorem zwi {E:Value→Shared→Prop} {pins:List (Addr×Obj)} {s:Shared} {σ:St} {H:Hp} {x:Str} {u:Value} {pos:Pos} {Q:Value→Shared→Prop} (I:Inv X pins σ H s) (hg:Gl X x) (hm:X.mg x=none) (hv:bootBuiltins x=some u) (h:Q u s)
    (hn:x≠"__name__":=by decide) (hd:(x == ("__debug__":Str))=false:=by decide):wpAny (model X.prog X.w) X.A (eval (.Name x pos) X.env) Q E s:=by
  obtain ⟨mb,h1,h2⟩:=I.mod.blt
  exact Calls.Name_function_global I.ok.kind hg (Calls.loadGlobal_builtin (by rw [I.ok.glob];exact I.mod.glob.keeps I.bk) hm (by rw [I.ok.blt];exact h1.keeps I.bk) ((h2 x hn).trans hv) h) hd
variable {a b:Expr} {ta tb:TE} {pos:Pos}
theorem nobehind (b:Expr) {op:CmpOp} (h:op≠.In) (h2:op≠.NotIn):behindInMarks op b=false:=by
  have e1:(op == CmpOp.In)=false:=by cases op <;> first | rfl | exact absurd rfl h
  have e2:(op == CmpOp.NotIn)=false:=by cases op <;> first | rfl | exact absurd rfl h2
  cases b <;> simp [behindInMarks,e1,e2]
noncomputable def tB (t:TE):TT:=fun σ H Q=>t σ H fun x H1=>∃ c,x = .bl c∧Q c H1
theorem zPs {e:Expr} {t:TE} (h:PE X e t) (he:∀ whole,isTrue e X.env whole=(do let v ← whole;standAt e.pos;holding [v] (truthy v)):=by intro _;rfl):PT X e (tB t):=by
  intro pins s σ H Q I hw
  refine isTrue_plain (thn (h pins s σ H _ I hw) fun v s1 ⟨x,H1,I1,r1,q1⟩=>?_) (he _)
  obtain ⟨d,rfl,q⟩:=q1
  cases r1
  exact wpAny_truthy_bool ⟨H1,I1,q⟩
variable {tA tB':TT} {rest:List Expr}
noncomputable def z5t (t u:TT):TT:=fun σ H Q=>t σ H fun c H1=>if c=true then u σ H1 Q else Q false H1
noncomputable def tOr (t u:TT):TT:=fun σ H Q=>t σ H fun c H1=>if c=true then Q true H1 else u σ H1 Q
noncomputable def zbu (t:TT):TT:=fun σ H Q=>t σ H fun c H1=>Q (!c) H1
theorem zrq (ha:PT X a tA):PW X (.BoolOp .And [a] pos) tA:=by
  intro wh pins s σ H Q I h
  refine isTrue_and (thn (ha pins s σ H Q I h) fun c s1 e=>?_)
  cases c with
  | true=>exact isTrue_and_nil e
  | false=>exact e
theorem zCs (ha:PT X a tA):PW X (.BoolOp .Or [a] pos) tA:=by
  intro wh pins s σ H Q I h
  refine isTrue_or (thn (ha pins s σ H Q I h) fun c s1 e=>?_)
  cases c with
  | false=>exact isTrue_or_nil e
  | true=>exact e
theorem z3r (ha:PT X a tA) (hb:PW X (.BoolOp .And (b :: rest) pos) tB'):PW X (.BoolOp .And (a :: b :: rest) pos) (z5t tA tB'):=by
  intro wh pins s σ H Q I h
  refine isTrue_and (thn (ha pins s σ H _ I h) fun c s1 ⟨H1,I1,q1⟩=>?_)
  cases c with
  | true=>exact hb wh pins s1 σ H1 Q I1 q1
  | false=>exact ⟨H1,I1,q1⟩
theorem zit (ha:PT X a tA) (hb:PW X (.BoolOp .Or (b :: rest) pos) tB'):PW X (.BoolOp .Or (a :: b :: rest) pos) (tOr tA tB'):=by
  intro wh pins s σ H Q I h
  refine isTrue_or (thn (ha pins s σ H _ I h) fun c s1 ⟨H1,I1,q1⟩=>?_)
  cases c with
  | true=>exact ⟨H1,I1,q1⟩
  | false=>exact hb wh pins s1 σ H1 Q I1 q1
theorem zEr (ha:PT X a tA):PT X (.UnaryOp .Not a pos) (zbu tA):=by
  intro pins s σ H Q I h
  exact isTrue_not (ha pins s σ H (fun c H1=>Q (!c) H1) I h)
noncomputable def ziu (ta tb:TE):TE:=fun σ H Q=>ta σ H fun x H1=>∃ c,x = .bl c∧if c=true then Q (.bl true) H1 else tb σ H1 Q
theorem zur {op} {t:TE} (h:PE X a t):PE X (.BoolOp op [a] pos) t:=fun pins s σ H Q I hw=>BoolOp_one (h pins s σ H Q I hw)
theorem z9s (ha:PE X a ta) (hb:PE X (.BoolOp .Or (b :: rest) pos) tb):PE X (.BoolOp .Or (a :: b :: rest) pos) (ziu ta tb):=by
  intro pins s σ H Q I h
  refine BoolOp_or (thn (ha pins s σ H _ I h) fun v s1 ⟨x,H1,I1,r1,q1⟩=>?_)
  obtain ⟨c,rfl,q1⟩:=q1
  cases r1
  refine wpAny_truthy_bool ?_
  cases c with
  | false=>exact hb pins s1 σ H1 Q I1 q1
  | true=>exact ⟨.bl true,H1,I1,rfl,q1⟩
end
end L2
namespace L2
open PySem PySem.Spec PyProof.Rows
noncomputable def SqL (K:PySem.W.Frag) (H:Hp) (a:Addr) (xs:List V):Prop :=
  Rd H a (.lst xs) ∨
    ∃ (o:Obj) (its:Array Value) (n:Nat),K.lookup a=some o∧o.cls = .type "list"∧o.dict=none∧o.data = .seq its n∧its.size≤sizeLine∧Vals xs its.toList
noncomputable def SqT (K:PySem.W.Frag) (H:Hp) (a:Addr) (xs:List V):Prop :=
  Rd H a (.tup xs) ∨
    ∃ (o:Obj) (its:Array Value) (n:Nat),K.lookup a=some o∧o.cls = .type "tuple"∧o.data = .seq its n∧its.size≤sizeLine∧Vals xs its.toList
noncomputable def z2t:Value→Option V
  | .none=>some .non
  | .bool b=>some (.bl b)
  | .int i _=>some (.int i)
  | .str x _=>some (.str x)
  | .bytes b _=>some (.byt b)
  | .float b _=>some (.flt b)
  | .ref a=>some (.ref a)
  | .type n=>some (.ty n)
  | _=>none
theorem RelV.abs {x:V} {u:Value} (r:RelV x u):z2t u=some x:=by
  cases x with
  | non=>cases r;rfl
  | bl _=>cases r;rfl
  | int _=>obtain ⟨t,rfl⟩:=r;rfl
  | str _=>obtain ⟨t,rfl⟩:=r;rfl
  | byt _=>obtain ⟨t,rfl⟩:=r;rfl
  | flt _=>obtain ⟨t,rfl⟩:=r;rfl
  | ref _=>cases r;rfl
  | ty _=>cases r;rfl
theorem RelV.inj {x y:V} {u:Value} (r:RelV x u) (q:RelV y u):x=y:=Option.some.inj (r.abs.symm.trans q.abs)
theorem Vals.inj {xs ys:List V} {us:List Value} (h:Vals xs us):Vals ys us→xs=ys:=by
  induction h generalizing ys with
  | nil=>intro h;cases h;rfl
  | cons r _ ih =>
    intro h
    cases h with
    | cons r' t'=>rw [r.inj r',ih t']
section
variable {X:Cx} {pins:List (Addr×Obj)} {σ:St} {H:Hp} {s:Shared} {a:Addr} {xs ys:List V}
theorem SqL.of {K:PySem.W.Frag} (h:H a=some (.lst xs)):SqL K H a xs := .inl (.inl h)
theorem SqT.of {K:PySem.W.Frag} (h:H a=some (.tup xs)):SqT K H a xs := .inl (.inl h)
theorem Inv.list (I:Inv X pins σ H s) (h:SqL X.K H a xs):∃ its:List Value,Vals xs its∧PlainL s.heap a its.toArray∧xs.length≤sizeLine:=by
  rcases h with h | ⟨o,its,n,hk,hc,hd,hs,hz,r⟩
  · obtain ⟨z,its,n,r,e⟩:=h.ok I.hok
    exact ⟨its,r,⟨_,n,e,rfl,rfl,rfl⟩,z⟩
  · refine ⟨its.toList,r,⟨o,n,I.kIn a o hk,hc,hd,by simpa using hs⟩,?_⟩
    have e:=r.length
    simp only [Array.length_toList] at e
    lia
theorem Inv.tuple (I:Inv X pins σ H s) (h:SqT X.K H a xs):∃ its:List Value,Vals xs its∧IsTup s.heap a its.toArray∧xs.length≤sizeLine:=by
  rcases h with h | ⟨o,its,n,hk,hc,hs,hz,r⟩
  · obtain ⟨z,its,r,p⟩:=h.ok I.hok
    exact ⟨its,r,p,z⟩
  · refine ⟨its.toList,r,⟨o,I.kIn a o hk,hc,n,by simpa using hs⟩,?_⟩
    have e:=r.length
    simp only [Array.length_toList] at e
    lia
theorem Inv.list_inj (I:Inv X pins σ H s) (h:SqL X.K H a xs) (h':SqL X.K H a ys):xs=ys:=by
  obtain ⟨its,r,⟨o,n,e,_,_,d⟩,_⟩:=I.list h
  obtain ⟨its',r',⟨o',n',e',_,_,d'⟩,_⟩:=I.list h'
  rw [e] at e';cases e'
  rw [d] at d'
  injection d' with d1 _
  have:its=its':=by simpa using congrArg Array.toList d1
  subst this
  exact r.inj r'
theorem Inv.tuple_inj (I:Inv X pins σ H s) (h:SqT X.K H a xs) (h':SqT X.K H a ys):xs=ys:=by
  obtain ⟨its,r,⟨o,e,_,n,d⟩,_⟩:=I.tuple h
  obtain ⟨its',r',⟨o',e',_,n',d'⟩,_⟩:=I.tuple h'
  rw [e] at e';cases e'
  rw [d] at d'
  injection d' with d1 _
  have:its=its':=by simpa using congrArg Array.toList d1
  subst this
  exact r.inj r'
end
noncomputable abbrev Cx.wish (X:Cx) (E:Value→Shared→Prop):Cx:={ X with xe:=E }
noncomputable abbrev Cx.nox (X:Cx):Cx:=X.wish fun _ _=>False
theorem Cx.Ok.wish {X:Cx} (ok:X.Ok) (E:Value→Shared→Prop):(X.wish E).Ok :=
  ⟨ok.mod,ok.kind,ok.glob,ok.blt,ok.above,ok.inj,ok.has,ok.cab,ok.hd,ok.frames,ok.stk,ok.exf,ok.bs,ok.bsz,ok.noex,ok.exfs,ok.funs,ok.frf⟩
theorem Cx.Ok.unwish {X:Cx} {E:Value→Shared→Prop} (ok:(X.wish E).Ok):X.Ok :=
  ⟨ok.mod,ok.kind,ok.glob,ok.blt,ok.above,ok.inj,ok.has,ok.cab,ok.hd,ok.frames,ok.stk,ok.exf,ok.bs,ok.bsz,ok.noex,ok.exfs,ok.funs,ok.frf⟩
section
variable {X:Cx} {pins:List (Addr×Obj)} {σ:St} {H:Hp} {s:Shared} {E:Value→Shared→Prop}
theorem Inv.wish (I:Inv X pins σ H s) (E:Value→Shared→Prop):Inv (X.wish E) pins σ H s:=⟨I.ok.wish E,I.os,I.bare,I.base,I.loc,I.cell,I.free,I.freeC,I.pin,I.hok,I.len⟩
theorem Inv.unwish (I:Inv (X.wish E) pins σ H s):Inv X pins σ H s:=⟨I.ok.unwish,I.os,I.bare,I.base,I.loc,I.cell,I.free,I.freeC,I.pin,I.hok,I.len⟩
theorem SP.unwish {D:Ends} {f:Flow} {s':Shared} (h:SP (X.wish E) pins D f s'):SP X pins D f s':=by
  cases f with
  | next=>obtain ⟨σ',H',I,q⟩:=h;exact ⟨σ',H',I.unwish,q⟩
  | brk=>obtain ⟨σ',H',I,q⟩:=h;exact ⟨σ',H',I.unwish,q⟩
  | cont=>obtain ⟨σ',H',I,q⟩:=h;exact ⟨σ',H',I.unwish,q⟩
  | ret u=>obtain ⟨v,σ',H',I,r,q⟩:=h;exact ⟨v,σ',H',I.unwish,r,q⟩
theorem PSs.nox {st:List Stmt} {t:TS} (h:PSs X.nox st t):PSs X st t:=fun pins s σ H D I hw =>
  wpAny_mono (h pins s σ H D (I.wish _) hw) (fun _ _ q=>q.unwish) fun _ _ z=>False.elim z
end
section
variable {X:Cx} {st:Stmt} {rest:List Stmt} {t u:TS} {e:Expr} {te:TE} {pos:Pos}
noncomputable def zFt:TS:=fun D σ H=>D.nx σ H
noncomputable def zau (t u:TS):TS:=fun D σ H=>t { D with nx:=u D } σ H
theorem zGq:PSs X [] zFt:=fun _ _ σ H _ I h=>wpAny_execs_nil ⟨σ,H,I,h⟩
theorem zol (h1:PS X st t) (h2:PSs X rest u):PSs X (st :: rest) (zau t u):=by
  intro pins s σ H D I h
  refine wpAny_execs_cons (thn (h1 pins s σ H { D with nx:=u D } I h) fun f s1 q=>?_)
  cases f with
  | next =>
    obtain ⟨σ',H',I',q⟩:=q
    exact h2 pins s1 σ' H' D I' q
  | ret v=>exact q
  | brk=>exact q
  | cont=>exact q
theorem z9m (h1:PS X st t):PSs X [st] t:=by
  intro pins s σ H D I h
  refine wpAny_execs_cons (thn (h1 pins s σ H D I h) fun f s1 q=>?_)
  cases f with
  | next=>exact wpAny_execs_nil q
  | ret v=>exact q
  | brk=>exact q
  | cont=>exact q
theorem Inv.quiet {pins:List (Addr×Obj)} {σ:St} {H:Hp} {s:Shared} (I:Inv X pins σ H s):interactive X.env=false:=by simp [interactive,I.ok.kind]
noncomputable def z2s (te:TE):TS:=fun D σ H=>te σ H fun _ H1=>D.nx σ H1
theorem z2m (he:PE X e te) (hs:swapsWith e none pos.line X.env=pure false:=by rfl):PS X (.Expr e pos) (z2s te):=by
  intro pins s σ H D I h
  exact wpAny_Expr_any (thn (he pins s σ H _ I h) fun v s1 ⟨x,H1,I1,r1,q1⟩=>⟨σ,H1,I1,q1⟩) I.quiet hs
noncomputable def zYt (te:TE):TS:=fun D σ H=>te σ H D.rt
theorem zMr (he:PE X e te):PS X (.Return (some e) pos) (zYt te):=by
  intro pins s σ H D I h
  exact wpAny_Return_some (thn (he pins s σ H _ I h) fun v s1 ⟨x,H1,I1,r1,q1⟩=>⟨x,σ,H1,I1,r1,q1⟩)
noncomputable def z0t (c:TT) (t u:TS):TS:=fun D σ H=>c σ H fun b H1=>if b=true then t D σ H1 else u D σ H1
theorem zCt {c:Expr} {a b:List Stmt} {tc:TT} (hc:PT X c tc) (ha:PSs X a t) (hb:PSs X b u):PS X (.If c a b pos) (z0t tc t u):=by
  intro pins s σ H D I h
  refine wpAny_If (thn (hc pins s σ H _ I h) fun d s1 ⟨H1,I1,q1⟩=>?_)
  cases d with
  | true=>exact ha pins s1 σ H1 D I1 q1
  | false=>exact hb pins s1 σ H1 D I1 q1
noncomputable def zsr:TS:=fun _ _ _=>False
theorem z2o:PS X st zsr:=fun _ _ _ _ _ _ h=>h.elim
end
noncomputable abbrev TG:=V→St→Hp→(St→Hp→Prop)→Prop
noncomputable abbrev TGs:=List V→St→Hp→(St→Hp→Prop)→Prop
noncomputable def PG (X:Cx) (target:Expr) (t:TG):Prop :=
  ∀ (pins:List (Addr×Obj)) (s:Shared) (σ:St) (H:Hp) (v:V) (u:Value) (Q:St→Hp→Prop),Inv X pins σ H s→RelV v u→t v σ H Q →
    wpAny (model X.prog X.w) X.A (assign target X.env u) (fun _ s'=>∃ σ' H',Inv X pins σ' H' s'∧Q σ' H') X.xe s
noncomputable def PGs (X:Cx) (ts:List Expr) (t:TGs):Prop :=
  ∀ (pins:List (Addr×Obj)) (s:Shared) (σ:St) (H:Hp) (vs:List V) (us:List Value) (Q:St→Hp→Prop),Inv X pins σ H s→Vals vs us→t vs σ H Q →
    wpAny (model X.prog X.w) X.A (assignInOrder ((assignEach ts X.env).map (·.2)) us) (fun _ s'=>∃ σ' H',Inv X pins σ' H' s'∧Q σ' H') X.xe s
noncomputable abbrev zEt:=V→V→V→Hp→(Hp→Prop)→Prop
noncomputable def zgt (X:Cx) (t:zEt):Prop :=
  ∀ (pins:List (Addr×Obj)) (s:Shared) (σ:St) (H:Hp) (o i v:V) (ov iv u:Value) (Q:Hp→Prop),Inv X pins σ H s→RelV o ov→RelV i iv→RelV v u→t o i v H Q →
    wpAny (model X.prog X.w) X.A (setItem ov iv u) (fun _ s'=>∃ H',Inv X pins σ H' s'∧Q H') X.xe s
noncomputable abbrev TIp:=V→V→Hp→VK→Prop
noncomputable def PIp (X:Cx) (op:Operator) (t:TIp):Prop :=
  ∀ (pins:List (Addr×Obj)) (s:Shared) (σ:St) (H:Hp) (x y:V) (v u:Value) (Q:VK),Inv X pins σ H s→RelV x v→RelV y u→t x y H Q →
    wpAny (model X.prog X.w) X.A (inplaceOp op v u) (EP X pins σ Q) X.xe s
section
variable {X:Cx} {pos:Pos}
noncomputable def zcq (i:Nat):TG:=fun v σ H Q=>Q (σ.set i (some v)) H
theorem zxn {i:Nat} {x:Str} (hN:X.N.Nodup) (hi:X.N[i]?=some x) (hx:Loc X.env.scope x) (hf:X.fn x=true∨X.env.scope.names.lookup x=some .local:=by first | exact .inl rfl | exact .inr rfl | assumption):PG X (.Name x pos) (zcq i):=by
  intro pins s σ H v u Q I r h
  exact wpAny_assign_Name (zEg I hN hi hx r (fun s' I'=>⟨_,H,I',h⟩) hf)
noncomputable def zju:TGs:=fun vs σ H Q=>vs = []∧Q σ H
noncomputable def zyt (t:TG) (u:TGs):TGs:=fun vs σ H Q=>∃ v r,vs=v :: r∧t v σ H fun σ' H'=>u r σ' H' Q
theorem zln:PGs X [] zju:=by
  intro pins s σ H vs us Q I r h
  obtain ⟨e,h⟩:=h
  subst e
  cases r
  exact assignInOrder_nil ⟨σ,H,I,h⟩
theorem zkl {e:Expr} {es:List Expr} {t:TG} {u:TGs} (h1:PG X e t) (h2:PGs X es u)
    (hs:(assignEach (e :: es) X.env).map (·.2)=assign e X.env :: (assignEach es X.env).map (·.2):=by rfl):PGs X (e :: es) (zyt t u):=by
  intro pins s σ H vs us Q I r h
  obtain ⟨v,vr,e1,h⟩:=h
  subst e1
  cases r with
  | cons r rr =>
    rw [hs]
    refine assignInOrder_cons (thn (h1 pins s σ H _ _ _ I r h) fun _ s1 ⟨σ1,H1,I1,q1⟩=>?_)
    exact h2 pins s1 σ1 H1 _ _ Q I1 rr q1
noncomputable def zfu (K:PySem.W.Frag) (n:Nat) (t:TGs):TG:=fun v σ H Q=>∃ a xs,v = .ref a∧SqT K H a xs∧xs.length=n∧t xs σ H Q
theorem z1p {es:List Expr} {k:Nat} {t:TGs} {n:Nat} (hc:X.calm=true) (h:PGs X es t)
    (hn:(assignEach es X.env).length=n:=by rfl) (hst:(assignEach es X.env).findIdx? (·.1)=none:=by rfl):PG X (.Tuple es k pos) (zfu X.K n t):=by
  intro pins s σ H v u Q I r hw
  obtain ⟨a,xs,e1,hq,hl,hw⟩:=hw
  subst e1
  cases r
  obtain ⟨its,rv,ht,hz⟩:=I.tuple hq
  refine assign_Tuple_tuple (I.ok.hd hc) ht (by simp [hn,← hl,rv.length]) hst fun h' hx=>?_
  have I1:Inv X pins σ H { s with heap:=h' }:=I.kept (t':=s.toks) fun b o e=>hx b o (Nat.ne_of_lt (Heap.lt_size e)) e
  exact h pins _ σ H xs _ Q I1 (by simpa using rv) hw
noncomputable def zqq (to ti:TE) (t:zEt):TG:=fun v σ H Q=>to σ H fun o H1=>ti σ H1 fun i H2=>t o i v H2 fun H3=>Q σ H3
theorem zHp {o i:Expr} {to ti:TE} {t:zEt} (ho:PE X o to) (hi:PE X i ti) (hs:zgt X t)
    (ha:∀ v,assign (.Subscript o i pos) X.env v=(do
      let ov ← holding [v] (eval o X.env)
      let iv ← holding [v,ov] (eval i X.env)
      standAt pos
      holding [v,ov,iv] (setItem ov iv v)
      release [v,ov,iv] []):=by intro _;rfl):PG X (.Subscript o i pos) (zqq to ti t):=by
  intro pins s σ H v u Q I r h
  rw [ha]
  refine wpAny_bind (wpAny_holding (thn (ho pins s σ H _ I h) fun ov s1 ⟨x,H1,I1,r1,q1⟩=>?_))
  refine wpAny_bind (wpAny_holding (thn (hi pins s1 σ H1 _ I1 q1) fun iv s2 ⟨y,H2,I2,r2,q2⟩=>?_))
  refine wpAny_bind (wpAny_standAt (wpAny_bind (wpAny_holding (thn (hs pins s2 σ H2 x y v ov iv u _ I2 r1 r2 r q2) fun _ s3 ⟨H3,I3,q3⟩=>?_))))
  exact wpAny_release ⟨σ,H3,I3,q3⟩
noncomputable def zrt (te:TE) (g:TG):TS:=fun D σ H=>te σ H fun x H1=>g x σ H1 D.nx
theorem zes {tg e:Expr} {te:TE} {g:TG} (he:PE X e te) (hg:PG X tg g) (hs:swapsWithSole [tg] e pos.line X.env=pure false:=by rfl) (hw:swappedStores [tg] e X.env=pure none:=by rfl)
    (h1:(assignEach [tg] X.env).map (·.2) = [assign tg X.env]:=by rfl):PS X (.Assign [tg] e pos) (zrt te g):=by
  intro pins s σ H D I h
  refine wpAny_Assign_stores (thn (he pins s σ H _ I h) fun v s1 ⟨x,H1,I1,r1,q1⟩=>?_) hs hw
  rw [h1]
  exact thn (hg pins s1 σ H1 x v _ I1 r1 q1) fun _ s2 q=>q
theorem ztr {i:Nat} {x:Str} {e:Expr} {te:TE} {pos':Pos} (hN:X.N.Nodup) (hi:X.N[i]?=some x) (hx:Loc X.env.scope x) (he:PE X e te) (hs:swapsWith e (some (.Name x pos')) pos.line X.env=pure false:=by rfl) (hf:X.fn x=true∨X.env.scope.names.lookup x=some .local:=by first | exact .inl rfl | exact .inr rfl | assumption) :
    PS X (.Assign [.Name x pos'] e pos) (zrt te (zcq i)):=by
  intro pins s σ H D I h
  refine wpAny_Assign_Name (thn (he pins s σ H _ I h) fun v s1 ⟨y,H1,I1,r1,q1⟩=>?_) hs
  exact zEg I1 hN hi hx r1 (fun s2 I2=>⟨_,H1,I2,q1⟩) hf
noncomputable def zou (i:Nat) (te:TE) (ti:TIp):TS:=fun D σ H=>∃ x,σ[i]?=some (some x)∧te σ H fun y H1=>ti x y H1 fun z H2=>D.nx (σ.set i (some z)) H2
theorem zSs {i:Nat} {x:Str} {e:Expr} {te:TE} {op:Operator} {ti:TIp} {pos':Pos} (hN:X.N.Nodup) (hi:X.N[i]?=some x) (hx:Loc X.env.scope x) (he:PE X e te) (ho:PIp X op ti) (hf:X.fn x=true∨X.env.scope.names.lookup x=some .local:=by first | exact .inl rfl | exact .inr rfl | assumption) :
    PS X (.AugAssign (.Name x pos') op e pos) (zou i te ti):=by
  intro pins s σ H D I h
  obtain ⟨v,e1,h⟩:=h
  obtain ⟨m,hn,hl⟩:=I.loc
  have vis:Vis X.env.scope x:=by rcases hx with k | k;exact .inl k;exact .inr (.inl k)
  obtain ⟨u,r,l⟩:=hl i x v hi e1 vis
  refine wpAny_AugAssign_Name ?_
  have go:wpAny (model X.prog X.w) X.A (eval e X.env) (fun w s₂=>wpAny (model X.prog X.w) X.A (inplaceOp op u w) (fun r s₃=>wpAny (model X.prog X.w) X.A (storeName X.env x r) (fun _=>SP X pins D .next) X.xe s₃) X.xe s₂) X.xe s:=by
    refine thn (he pins s σ H _ I h) fun w s1 ⟨y,H1,I1,r1,q1⟩=>?_
    refine thn (ho pins s1 σ H1 v y u w _ I1 r r1 q1) fun z s2 ⟨zv,H2,I2,r2,q2⟩=>?_
    exact zEg I2 hN hi hx r2 (fun s3 I3=>⟨_,H2,I3,q2⟩) hf
  rcases l with ⟨hk,hm⟩ | ⟨hk,c,hc,hcell⟩
  · exact wpAny_loadName_local I.ok.kind hk hn hm go
  · rcases hk with hk | hk
    · exact wpAny_loadName_cell I.ok.kind hk hc hcell go
    · rcases hx with k | k
      · have:X.env.scope.names.lookup x=some .free:=hk
        rw [k] at this;cases this
      · have:X.env.scope.names.lookup x=some .free:=hk
        rw [k] at this;cases this
end
section
variable {X:Cx} {pos:Pos}
noncomputable def zVr (c:TT) (tb:TS):TS:=fun D σ H=>∃ W:Nat→St→Hp→Prop,(∃ m,W m σ H)∧∀ m σ H,W m σ H →
  c σ H fun b H1=>if b=true then ∃ N:St→Hp→Prop,(∀ σ' H',N σ' H'→∃ m',m'<m∧W m' σ' H')∧tb { D with nx:=N,ct:=N,bk:=D.nx } σ H1 else D.nx σ H1
theorem zhp {c:Expr} {body:List Stmt} {tc:TT} {tb:TS} (hp:PassesOwn (model X.prog X.w) X.A X.env X.xe) (hc:PT X c tc) (hb:PSs X body tb):PS X (.While c body [] pos) (zVr tc tb):=by
  intro pins s σ H D I h
  obtain ⟨W,⟨m0,w0⟩,turn⟩:=h
  refine wpAny_While (codeAny_whileLoop (fun n s'=>∃ σ' H',Inv X pins σ' H' s'∧W n σ' H') ?_ m0 ⟨σ,H,I,w0⟩)
  rintro n s1 ⟨σ1,H1,I1,w1⟩
  refine wpAny_passesOwn hp (thn (hc pins s1 σ1 H1 _ I1 (turn n σ1 H1 w1)) fun b s2 ⟨H2,I2,q2⟩=>?_)
  cases b with
  | true =>
    obtain ⟨N,hN,q2⟩:=q2
    rw [if_pos rfl]
    refine wpAny_passesOwn hp (thn (hb pins s2 σ1 H2 _ I2 q2) fun f s3 q3=>?_)
    cases f with
    | next =>
      obtain ⟨σ3,H3,I3,n3⟩:=q3
      obtain ⟨m',hm,w3⟩:=hN σ3 H3 n3
      exact ⟨m',hm,σ3,H3,I3,w3⟩
    | cont =>
      obtain ⟨σ3,H3,I3,n3⟩:=q3
      obtain ⟨m',hm,w3⟩:=hN σ3 H3 n3
      exact ⟨m',hm,σ3,H3,I3,w3⟩
    | brk=>exact q3
    | ret v=>exact q3
  | false =>
    rw [if_neg Bool.false_ne_true]
    exact wpAny_execs_nil ⟨σ1,H2,I2,q2⟩
end
structure It where
  go:Nat→Hp→Prop
  yld:Nat→Hp→V→Hp→Prop
  stop:Nat→Hp→Prop
noncomputable def zXl (X:Cx) (pins:List (Addr×Obj)) (H:Hp) (b:Addr):Prop :=
  H b=none∧b≠X.env.locals∧b∉X.fs∧(b∈X.ex∨X.s₀.heap.objs.size≤b)∧(∀ x c,X.env.cells.lookup x=some c→c≠b)∧∀ p∈X.pn++pins,p.1≠b
theorem Inv.fpOk {X:Cx} {pins:List (Addr×Obj)} {σ:St} {H H':Hp} {s:Shared} {b:Addr} (I:Inv X pins σ H s) (hb:s.heap.objs.size≤b) (hn:H' b=none):zXl X pins H' b:=by
  refine ⟨hn,Nat.ne_of_gt (Nat.lt_of_lt_of_le I.lt hb),I.nofs hb, .inr (Nat.le_trans I.sz hb),fun x c e z=>?_,fun p hp z=>?_⟩
  · obtain ⟨v,q⟩:=I.cell x c e
    exact absurd (Nat.lt_of_lt_of_le q.lt (by rw [z];exact hb)) (Nat.lt_irrefl _)
  · exact absurd (Nat.lt_of_lt_of_le (Heap.lt_size (I.pin p hp).1) (by rw [z];exact hb)) (Nat.lt_irrefl _)
structure Turn (P:Program) (w:World) (K:PySem.W.Frag) (tg:Expr) (J:It) (fp:List Addr) (it:Addr) (tn:Nat→Heap→Prop):Prop where
  mem:it∈fp
  obj:∀ i h,tn i h→∀ b∈fp,∃ o,h.get? b=some o∧∀ v,o.data≠.cell v
  keep:∀ i h h',tn i h→(∀ b∈fp,∀ o,h.get? b=some o→h'.get? b=some o)→tn i h'
  item:∀ (X:Cx),X.prog=P→X.w=w→X.K=K→X.calm=true→∀ (i:Nat) (pins:List (Addr×Obj)) (s:Shared) (σ:St) (H:Hp) (E:Value→Shared→Prop),Inv X pins σ H s→(∀ b∈fp,zXl X pins H b)→tn i s.heap→J.go i H →
    wpAny (model P w) X.A (pyNext (.ref it)) (fun r s1=>∃ u,r=some u ∧
      wpAny (model P w) X.A (letOwnedTupleGo tg (.ref it) u) (fun _ s2=>∃ x H',Inv X pins σ H' s2∧RelV x u∧J.yld i H x H'∧tn (i+1) s2.heap∧∀ b∈fp,H' b=none) E s1) E s
  done:∀ (X:Cx),X.prog=P→X.w=w→X.K=K→X.calm=true→∀ (i:Nat) (pins:List (Addr×Obj)) (s:Shared) (σ:St) (H:Hp) (E:Value→Shared→Prop),Inv X pins σ H s→(∀ b∈fp,zXl X pins H b)→tn i s.heap→J.stop i H →
    wpAny (model P w) X.A (pyNext (.ref it)) (fun r s1=>r=none∧Inv X pins σ H s1) E s
  self:∀ (A:Around) (i:Nat) (s:Shared) (Q:Value→Shared→Prop) (E:Value→Shared→Prop),tn i s.heap→Q (.ref it) s→wpAny (model P w) A (pyIter (.ref it)) Q E s
noncomputable abbrev TI:=St→Hp→(It→Hp→Prop)→Prop
noncomputable def PIE (X:Cx) (pins:List (Addr×Obj)) (σ:St) (tg:Expr) (R:It→Hp→Prop) (itv:Value) (s2:Shared):Prop :=
  ∃ (it:Addr) (fp:List Addr) (tn:Nat→Heap→Prop) (J:It) (H':Hp),itv = .ref it∧Inv X pins σ H' s2∧Turn X.prog X.w X.K tg J fp it tn∧tn 0 s2.heap∧(∀ b∈fp,zXl X pins H' b)∧R J H'
noncomputable def PI (X:Cx) (tg iter:Expr) (wi:TI):Prop :=
  ∀ (pins:List (Addr×Obj)) (s:Shared) (σ:St) (H:Hp) (R:It→Hp→Prop),Inv X pins σ H s→wi σ H R →
    wpAny (model X.prog X.w) X.A (eval iter X.env) (fun v s1=>wpAny (model X.prog X.w) X.A (pyIter v) (PIE X pins σ tg R) X.xe s1) X.xe s
theorem zqp {M:Model} {A:Around} {E:Value→Shared→Prop} {s:Shared} {tg:Expr} {it:Addr} {u:Value} {o:Obj} {n:String} {vs:Array Value} {Q:Unit→Shared→Prop} (ho:s.heap.get? it=some o) (hc:o.cls = .type n) (hd:o.data = .fields vs)
    (hn:["enumerate","zip","dict_itemiterator","dict_reverseitemiterator","odict_iterator","itertools.zip_longest","itertools.pairwise"].contains n=false) (hQ:Q () s):wpAny M A (letOwnedTupleGo tg (.ref it) u) Q E s:=by
  unfold letOwnedTupleGo
  cases tg <;> first
    | exact wpAny_pure hQ
    | (cases u <;> first
        | exact wpAny_pure hQ
        | (refine wpAny_bind (wpAny_load ho ?_)
           rw [hc,hd]
           show wpAny M A (if (["enumerate","zip","dict_itemiterator","dict_reverseitemiterator","odict_iterator","itertools.zip_longest","itertools.pairwise"].contains n && vs[0]? == some (rawInt _))=true then _ else _) Q E s
           rw [if_neg (by intro h;rw [hn,Bool.false_and] at h;cases h)]
           exact wpAny_pure hQ))
noncomputable def Itl (K:PySem.W.Frag) (a:Addr):It :=
  ⟨fun i H=>∃ xs x,SqL K H a xs∧xs[i]?=some x,fun i H x H'=>H'=H∧∀ xs,SqL K H a xs→xs[i]?=some x,fun i H=>∃ xs,SqL K H a xs∧xs.length≤i⟩
noncomputable def Itt (K:PySem.W.Frag) (a:Addr):It :=
  ⟨fun i H=>∃ xs x,SqT K H a xs∧xs[i]?=some x,fun i H x H'=>H'=H∧∀ xs,SqT K H a xs→xs[i]?=some x,fun i H=>∃ xs,SqT K H a xs∧xs.length≤i⟩
noncomputable def Itr (lo:Int) (n:Nat):It:=⟨fun i _=>i<n,fun i H x H'=>H'=H∧x = .int (lo+i),fun i _=>n≤i⟩
theorem zIn {P:Program} {w:World} {K:PySem.W.Frag} {tg:Expr} (a it:Addr):Turn P w K tg (Itl K a) [it] it (fun i h=>h.IsListIter it a i) where
  mem:=by simp
  obj:=fun i h st b hb=>by
    have e:b=it:=by simpa using hb
    subst e
    obtain ⟨o,e,c,d⟩:=st
    exact ⟨o,e,fun v z=>by rw [d] at z;cases z⟩
  keep:=fun i h h' st k=>st.at fun o e=>k it (by simp) o e
  item:=by
    intro X hP hw hK hc i pins s σ H E I hf st hg
    subst hP hw hK
    obtain ⟨xs,x,hq,hx⟩:=hg
    obtain ⟨its,rv,p,hz⟩:=I.list hq
    obtain ⟨u,hu,ru⟩:=rv.get hx
    obtain ⟨f0,f1,f2,f3,f4,f5⟩:=hf it (by simp)
    refine wpAny_pyNext_list_item st p.isList (x:=u) (by simpa using hu) fun h' st' sb=>?_
    have I1:Inv X pins σ H { s with heap:=h' }:=I.turned (t':=s.toks) (fun b o hb e=>(sb.2 b hb).trans e) f0 f1 f3 f4 f5
    obtain ⟨o,e,c,d⟩:=id st'
    exact ⟨u,rfl,zqp (s:={ s with heap:=h' }) e c d (by decide) ⟨x,H,I1,ru,⟨rfl,fun ys hy=>by rw [I.list_inj hy hq];exact hx⟩,st',fun b hb=>(hf b hb).1⟩⟩
  done:=by
    intro X hP hw hK hc i pins s σ H E I hf st hg
    subst hP hw hK
    obtain ⟨xs,hq,hx⟩:=hg
    obtain ⟨its,rv,p,hz⟩:=I.list hq
    obtain ⟨f0,f1,f2,f3,f4,f5⟩:=hf it (by simp)
    have hl:=rv.length
    exact wpAny_pyNext_list_end (I.ok.hd hc) st p.isList (by simp;lia) fun h' eb=>⟨rfl,I.turned (t':=s.toks) (fun b o hb e=>eb b o hb e) f0 f1 f3 f4 f5⟩
  self:=fun _ _ _ _ _ st h=>wpAny_pyIter_listiter st h
theorem zDm {P:Program} {w:World} {K:PySem.W.Frag} {tg:Expr} (a it:Addr):Turn P w K tg (Itt K a) [it] it (fun i h=>h.IsTupleIter it a i) where
  mem:=by simp
  obj:=fun i h st b hb=>by
    have e:b=it:=by simpa using hb
    subst e
    obtain ⟨o,e,c,d⟩:=st
    exact ⟨o,e,fun v z=>by rw [d] at z;cases z⟩
  keep:=fun i h h' st k=>st.at fun o e=>k it (by simp) o e
  item:=by
    intro X hP hw hK hc i pins s σ H E I hf st hg
    subst hP hw hK
    obtain ⟨xs,x,hq,hx⟩:=hg
    obtain ⟨its,rv,p,hz⟩:=I.tuple hq
    obtain ⟨u,hu,ru⟩:=rv.get hx
    obtain ⟨f0,f1,f2,f3,f4,f5⟩:=hf it (by simp)
    refine wpAny_pyNext_tuple_item st (show s.heap.IsTuple a its.toArray from p) (x:=u) (by simpa using hu) fun h' st' sb=>?_
    have I1:Inv X pins σ H { s with heap:=h' }:=I.turned (t':=s.toks) (fun b o hb e=>(sb.2 b hb).trans e) f0 f1 f3 f4 f5
    obtain ⟨o,e,c,d⟩:=id st'
    exact ⟨u,rfl,zqp (s:={ s with heap:=h' }) e c d (by decide) ⟨x,H,I1,ru,⟨rfl,fun ys hy=>by rw [I.tuple_inj hy hq];exact hx⟩,st',fun b hb=>(hf b hb).1⟩⟩
  done:=by
    intro X hP hw hK hc i pins s σ H E I hf st hg
    subst hP hw hK
    obtain ⟨xs,hq,hx⟩:=hg
    obtain ⟨its,rv,p,hz⟩:=I.tuple hq
    obtain ⟨f0,f1,f2,f3,f4,f5⟩:=hf it (by simp)
    have hl:=rv.length
    exact wpAny_pyNext_tuple_end (I.ok.hd hc) st (show s.heap.IsTuple a its.toArray from p) (by simp;lia) fun h' eb=>⟨rfl,I.turned (t':=s.toks) (fun b o hb e=>eb b o hb e) f0 f1 f3 f4 f5⟩
  self:=fun _ _ _ _ _ st h=>wpAny_pyIter_tupleiter st h
theorem zCm {P:Program} {w:World} {K:PySem.W.Frag} {tg:Expr} (it:Addr) (lo:Int) (n:Nat):Turn P w K tg (Itr lo n) [it] it (fun i h=>IsRangeIter h it (lo+(i:Nat) * 1) ((n:Int) - (i:Nat)) 1) where
  mem:=by simp
  obj:=fun i h st b hb=>by
    have e:b=it:=by simpa using hb
    subst e
    exact ⟨_,st,fun v z=>by
      have z':Data.fields _=Data.cell v:=z
      cases z'⟩
  keep:=fun i h h' st k=>k it (by simp) _ st
  item:=by
    intro X hP hw hK hc i pins s σ H E I hf st hg
    subst hP hw hK
    obtain ⟨f0,f1,f2,f3,f4,f5⟩:=hf it (by simp)
    have W:=Walks.range (prog:=X.prog) (w:=X.w) (I.ok.hd hc) it lo 1 n
    refine W.item i s _ _ hg st fun v h' tk hv st' kk=>?_
    obtain ⟨t,rfl⟩:=hv
    have I1:Inv X pins σ H { s with heap:=h',toks:=tk }:=I.turned (fun b o hb e=>kk b o (by simpa using hb) e) f0 f1 f3 f4 f5
    refine ⟨_,rfl,zqp (s:={ s with heap:=h',toks:=tk }) (n:="range_iterator") st' rfl rfl (by decide) ⟨.int (lo+i),H,I1,⟨t,?_⟩,⟨rfl,rfl⟩,st',fun b hb=>(hf b hb).1⟩⟩
    rw [Int.mul_one]
  done:=by
    intro X hP hw hK hc i pins s σ H E I hf st hg
    subst hP hw hK
    obtain ⟨f0,f1,f2,f3,f4,f5⟩:=hf it (by simp)
    exact wpAny_pyNext_range_end (I.ok.hd hc) st (by have:n≤i:=hg;lia) fun h' eb=>⟨rfl,I.turned (t':=s.toks) (fun b o hb e=>eb b o hb e) f0 f1 f3 f4 f5⟩
  self:=fun _ _ _ _ _ st h=>wpAny_pyIter_rangeiter st h
end L2
namespace L2
open PySem PySem.Spec PyProof.Rows
section
variable {X:Cx} {tg:Expr}
noncomputable def z0m (K:PySem.W.Frag) (tl:TE):TI:=fun σ H R=>tl σ H fun x H1=>∃ a,x = .ref a∧(∃ xs,SqL K H1 a xs)∧R (Itl K a) H1
noncomputable def z7t (K:PySem.W.Frag) (tl:TE):TI:=fun σ H R=>tl σ H fun x H1=>∃ a,x = .ref a∧(∃ xs,SqT K H1 a xs)∧R (Itt K a) H1
theorem z4q {l:Expr} {tl:TE} (hl:PE X l tl):PI X tg l (z0m X.K tl):=by
  intro pins s σ H R I h
  refine thn (hl pins s σ H _ I h) fun v s1 ⟨x,H1,I1,r1,q1⟩=>?_
  obtain ⟨a,e,⟨xs,hq⟩,q⟩:=q1
  subst e
  cases r1
  obtain ⟨its,rv,p,hz⟩:=I1.list hq
  refine wpAny_pyIter_list p.isList ?_
  refine ⟨s1.heap.objs.size,[s1.heap.objs.size],_,_,H1,rfl,I1.kept (t':=s1.toks) fun b o e=>Heap.get?_push_of_some _ e,zIn a _,⟨_,Heap.get?_push_size _ rfl,rfl,rfl⟩,fun b hb=>?_,q⟩
  have e:b=s1.heap.objs.size:=by simpa using hb
  subst e
  exact I1.fpOk (Nat.le_refl _) (I1.hok.fresh (Nat.le_refl _))
theorem zTr {l:Expr} {tl:TE} (hl:PE X l tl):PI X tg l (z7t X.K tl):=by
  intro pins s σ H R I h
  refine thn (hl pins s σ H _ I h) fun v s1 ⟨x,H1,I1,r1,q1⟩=>?_
  obtain ⟨a,e,⟨xs,hq⟩,q⟩:=q1
  subst e
  cases r1
  obtain ⟨its,rv,p,hz⟩:=I1.tuple hq
  refine wpAny_pyIter_tuple (show s1.heap.IsTuple a its.toArray from p) ?_
  refine ⟨s1.heap.objs.size,[s1.heap.objs.size],_,_,H1,rfl,I1.kept (t':=s1.toks) fun b o e=>Heap.get?_push_of_some _ e,zDm a _,⟨_,Heap.get?_push_size _ rfl,rfl,rfl⟩,fun b hb=>?_,q⟩
  have e:b=s1.heap.objs.size:=by simpa using hb
  subst e
  exact I1.fpOk (Nat.le_refl _) (I1.hok.fresh (Nat.le_refl _))
theorem ztp {pins:List (Addr×Obj)} {σ:St} {H:Hp} {s:Shared} {R:It→Hp→Prop} {E:Value→Shared→Prop} {lo hi:Int} {t u v:Tok} {tk:Nat} (I:Inv X pins σ H s) (h1:-(2 ^ 62)≤lo) (h2:lo<2 ^ 62) (h3:-(2 ^ 62)≤hi) (h4:hi<2 ^ 62)
    (q:R (Itr lo (hi - lo).toNat) H):wpAny (model X.prog X.w) X.A (pyIter (.ref s.heap.objs.size)) (PIE X pins σ tg R) E { s with heap:=s.heap.push { cls := .type "range",data := .fields #[.int lo t, .int hi u, .int 1 v] },toks:=tk }:=by
  refine wpAny_pyIter_range (IsRange.new ..) (small_one h1 h2 h3 h4) ?_
  have I1:Inv X pins σ H { s with heap:=s.heap.push { cls := .type "range",data := .fields #[.int lo t, .int hi u, .int 1 v] },toks:=tk }:=I.kept fun b o e=>Heap.get?_push_of_some _ e
  refine ⟨(s.heap.push { cls := .type "range",data := .fields #[.int lo t, .int hi u, .int 1 v] }).objs.size,[(s.heap.push { cls := .type "range",data := .fields #[.int lo t, .int hi u, .int 1 v] }).objs.size],_,_,H,rfl,
    I1.kept (t':=tk) fun b o e=>Heap.get?_push_of_some _ e,zCm _ lo (hi - lo).toNat,?_,fun b hb=>?_,q⟩
  · have e1:lo+((0:Nat):Int) * 1=lo:=by simp
    have e2:(((hi - lo).toNat:Nat):Int) - ((0:Nat):Int)=Builtin.Range.rangeSize lo hi 1:=by rw [rangeSize_one];split <;> lia
    show IsRangeIter _ _ (lo+((0:Nat):Int) * 1) ((((hi - lo).toNat:Nat):Int) - ((0:Nat):Int)) 1
    rw [e1,e2]
    exact Heap.get?_push_size _ rfl
  · have e:b=(s.heap.push { cls := .type "range",data := .fields #[.int lo t, .int hi u, .int 1 v] }).objs.size:=by simpa using hb
    subst e
    exact I1.fpOk (Nat.le_refl _) (I1.hok.fresh (Nat.le_refl _))
noncomputable def zbt (ta:TA):TI:=fun σ H R=>ta σ H fun vs H1=>∃ j:Int,vs = [.int j]∧-(2 ^ 62)≤j∧j<2 ^ 62∧R (Itr 0 j.toNat) H1
theorem zAn {a:Expr} {ta:TA} {p pos:Pos} (hg:Gl X "range") (hm:X.mg "range" = none) (ha:PA X [a] ta) (hs:starEach [a] X.env = [(false,eval a X.env)]:=by rfl):PI X tg (.Call (.Name "range" p) [a] [] pos) (zbt ta):=by
  intro pins s σ H R I h
  refine Call_ (zwi I hg hm boot_range (PyProof.Rows.callWith_type1 (thn (ha pos pins s σ H _ I h) fun us s1 ⟨vs,H1,I1,r1,q1⟩=>?_) hs rfl))
  obtain ⟨j,e,q1,q2,q⟩:=q1
  subst e
  cases r1 with
  | cons r rr =>
    cases rr
    obtain ⟨t,rfl⟩:=r
    exact call_range_1 (ztp I1 (by first|decide|lia) (by first|decide|lia) q1 q2 (by simpa using q))
noncomputable def znu (wi:TI) (g:TG) (tb:TS):TS:=fun D σ H=>wi σ H fun J H1=>∃ W:Nat→Nat→St→Hp→Prop,(∃ m,W 0 m σ H1)∧∀ i m σ H,W i m σ H →
  (J.stop i H∧D.nx σ H)∨(J.go i H∧∃ N:St→Hp→Prop,(∀ σ' H',N σ' H'→∃ m',m'<m∧W (i+1) m' σ' H')∧∀ x H',J.yld i H x H'→g x σ H' fun σ2 H2=>tb { D with nx:=N,ct:=N,bk:=D.nx } σ2 H2)
noncomputable def zWj (fp:List Addr) (h:Heap):List (Addr×Obj):=fp.filterMap fun b=>(h.get? b).map fun o=>(b,o)
theorem zne {fp:List Addr} {h:Heap} {b:Addr} {o:Obj} (hb:b∈fp) (e:h.get? b=some o):(b,o)∈zWj fp h:=List.mem_filterMap.mpr ⟨b,hb,by rw [e];rfl⟩
theorem zLn {fp:List Addr} {h:Heap} {p:Addr×Obj} (hp:p∈zWj fp h):p.1∈fp∧h.get? p.1=some p.2:=by
  obtain ⟨b,hb,e⟩:=List.mem_filterMap.mp hp
  cases q:h.get? b with
  | none=>rw [q] at e;cases e
  | some o =>
    rw [q] at e
    have e':(b,o)=p:=Option.some.inj e
    subst e'
    exact ⟨hb,q⟩
theorem Inv.pinned {pins:List (Addr×Obj)} {σ:St} {H:Hp} {s:Shared} {fp:List Addr} (I:Inv X pins σ H s) (hf:∀ b∈fp,zXl X pins H b) (ho:∀ b∈fp,∃ o,s.heap.get? b=some o∧∀ v,o.data≠.cell v):Inv X (pins++zWj fp s.heap) σ H s :=
  I.pins_of fun p hp=>(List.mem_append.mp hp).elim (fun z=>I.pin p (List.mem_append_right _ z)) fun z=>by
    obtain ⟨hb,e⟩:=zLn z
    obtain ⟨f0,f1,f2,_⟩:=hf p.1 hb
    obtain ⟨o,e',d⟩:=ho p.1 hb
    rw [e] at e';cases e'
    exact ⟨e,f0,f1,f2,d⟩
theorem Inv.unpinned {pins pl:List (Addr×Obj)} {σ:St} {H:Hp} {s:Shared} (I:Inv X (pins++pl) σ H s):Inv X pins σ H s:=I.pins_of fun p hp=>I.pin p (List.mem_append_right _ (List.mem_append_left _ hp))
theorem z0r {iter:Expr} {body:List Stmt} {wi:TI} {g:TG} {tb:TS} {pos:Pos} (hp:PassesOwn (model X.prog X.w) X.A X.env X.xe) (hc:X.calm=true) (hi:PI X tg iter wi) (hg:PG X tg g) (hb:PSs X body tb)
    (hs:∀ x,foldedSetIterable iter X.env x=pure x:=by intro _;rfl):PS X (.For tg iter body [] pos) (znu wi g tb):=by
  intro pins s σ H D I h
  refine wpAny_For (thn (hi pins s σ H _ I h) fun v s1 h1=>thn h1 fun itv s2 h2=>?_) hs
  obtain ⟨it,fp,tn,J,H2,e,I2,T,st2,f2,W,⟨m0,w0⟩,turn⟩:=h2
  subst e
  have stat:∀ {H':Hp},(∀ b∈fp,H' b=none)→∀ b∈fp,zXl X pins H' b:=fun hn b hb=>⟨hn b hb,(f2 b hb).2⟩
  refine codeAny_forLoop_any (fun n s'=>∃ i σ' H',Inv X pins σ' H' s'∧tn i s'.heap∧(∀ b∈fp,H' b=none)∧W i n σ' H') ?_ m0 ⟨0,σ,H2,I2,st2,fun b hb=>(f2 b hb).1,w0⟩
  rintro n s3 ⟨i,σ3,H3,I3,st3,fr3,w3⟩
  rcases turn i n σ3 H3 w3 with ⟨stop,qn⟩ | ⟨go,N,hN,step⟩
  · refine wpAny_passesOwn hp (thn (T.done X rfl rfl rfl hc i pins s3 σ3 H3 X.xe I3 (stat fr3) st3 stop) fun r s4 ⟨hr,I4⟩=>?_)
    subst hr
    exact wpAny_execs_nil ⟨σ3,H3,I4,qn⟩
  · refine wpAny_passesOwn hp (thn (T.item X rfl rfl rfl hc i pins s3 σ3 H3 X.xe I3 (stat fr3) st3 go) fun r s4 ⟨u,hr,h4⟩=>?_)
    subst hr
    refine wpAny_passesOwn hp (thn h4 fun _ s5 ⟨x,H5,I5,r5,y5,st5,fr5⟩=>?_)
    have I5':=I5.pinned (stat fr5) (T.obj _ _ st5)
    refine wpAny_passesOwn hp (thn (hg _ s5 σ3 H5 x u _ I5' r5 (step x H5 y5)) fun _ s6 ⟨σ6,H6,I6,q6⟩=>?_)
    refine wpAny_passesOwn hp (thn (hb _ s6 σ6 H6 _ I6 q6) fun f s7 q7=>?_)
    have again:∀ {σ7:St} {H7:Hp},Inv X (pins++zWj fp s5.heap) σ7 H7 s7→N σ7 H7→∃ m,m<n∧∃ i σ' H',Inv X pins σ' H' s7∧tn i s7.heap∧(∀ b∈fp,H' b=none)∧W i m σ' H':=fun {σ7 H7} I7 n7=>by
      obtain ⟨m',hm,w7⟩:=hN σ7 H7 n7
      refine ⟨m',hm,i+1,σ7,H7,I7.unpinned,T.keep _ _ _ st5 fun b hb o e=>(I7.pin (b,o) (List.mem_append_right _ (List.mem_append_right _ (zne hb e)))).1,fun b hb=>?_,w7⟩
      obtain ⟨o,e,d⟩:=T.obj _ _ st5 b hb
      exact (I7.pin (b,o) (List.mem_append_right _ (List.mem_append_right _ (zne hb e)))).2.1
    cases f with
    | next=>obtain ⟨σ7,H7,I7,n7⟩:=q7;exact again I7 n7
    | cont=>obtain ⟨σ7,H7,I7,n7⟩:=q7;exact again I7 n7
    | brk=>obtain ⟨σ7,H7,I7,q7⟩:=q7;exact ⟨σ7,H7,I7.unpinned,q7⟩
    | ret v=>obtain ⟨x7,σ7,H7,I7,r7,q7⟩:=q7;exact ⟨x7,σ7,H7,I7.unpinned,r7,q7⟩
end
end L2
namespace L2
open PySem PySem.Spec PyProof.Rows
noncomputable abbrev R2:=V→V→Hp→VK→Prop
noncomputable def OpR (X:Cx) (f:Value→Value→Sem Value) (r:R2):Prop :=
  ∀ (pins:List (Addr×Obj)) (s:Shared) (σ:St) (H:Hp) (x y:V) (v u:Value) (Q:VK),Inv X pins σ H s→RelV x v→RelV y u→r x y H Q →
    wpAny (model X.prog X.w) X.A (f v u) (EP X pins σ Q) X.xe s
noncomputable def UnR (X:Cx) (f:Value→Sem Value) (r:V→Hp→VK→Prop):Prop :=
  ∀ (pins:List (Addr×Obj)) (s:Shared) (σ:St) (H:Hp) (x:V) (v:Value) (Q:VK),Inv X pins σ H s→RelV x v→r x H Q →
    wpAny (model X.prog X.w) X.A (f v) (EP X pins σ Q) X.xe s
noncomputable def zch (X:Cx) (f:Value) (r:List V→Hp→VK→Prop):Prop :=
  ∀ (pins:List (Addr×Obj)) (s:Shared) (σ:St) (H:Hp) (xs:List V) (us:List Value) (Q:VK),Inv X pins σ H s→Vals xs us→r xs H Q →
    wpAny (model X.prog X.w) X.A (call f us) (EP X pins σ Q) X.xe s
noncomputable def tOp (r:R2) (ta tb:TE):TE:=fun σ H Q=>ta σ H fun x H1=>tb σ H1 fun y H2=>r x y H2 Q
noncomputable def tUn (r:V→Hp→VK→Prop) (ta:TE):TE:=fun σ H Q=>ta σ H fun x H1=>r x H1 Q
noncomputable def rI (C:Int→Int→Prop) (g:Int→Int→V):R2:=fun x y H Q=>∃ i j,x = .int i∧y = .int j∧C i j∧Q (g i j) H
noncomputable def rI0 (g:Int→Int→V):R2:=fun x y H Q=>∃ i j,x = .int i∧y = .int j∧Q (g i j) H
noncomputable def rU (g:Int→V):V→Hp→VK→Prop:=fun x H Q=>∃ i,x = .int i∧Q (g i) H
section
variable {X:Cx} {a b c:Expr} {ta tb tc:TE} {pos:Pos}
theorem binT (ha:PE X a ta) (hb:PE X b tb) {pins:List (Addr×Obj)} {s:Shared} {σ:St} {H:Hp} {R:V→V→Hp→Prop} (I:Inv X pins σ H s)
    (h:ta σ H fun x H1=>tb σ H1 fun y H2=>R x y H2) {Q:Value→Shared→Prop} {f:Value→Value→Sem Value}
    (hf:∀ v u s2 x y H2,Inv X pins σ H2 s2→RelV x v→RelV y u→R x y H2→wpAny (model X.prog X.w) X.A (f v u) Q X.xe s2) :
    wpAny (model X.prog X.w) X.A (eval a X.env) (fun v s₁=>wpAny (model X.prog X.w) X.A (eval b X.env) (fun u s₂=>wpAny (model X.prog X.w) X.A (f v u) Q X.xe s₂) X.xe s₁) X.xe s:=by
  refine thn (ha pins s σ H _ I h) fun v s1 ⟨x,H1,I1,r1,q1⟩=>?_
  refine thn (hb pins s1 σ H1 _ I1 q1) fun u s2 ⟨y,H2,I2,r2,q2⟩=>?_
  exact hf v u s2 x y H2 I2 r1 r2 q2
theorem zct {op:Operator} {r:R2} (ho:OpR X (binaryOp op) r) (ha:PE X a ta) (hb:PE X b tb):PE X (.BinOp a op b pos) (tOp r ta tb):=by
  intro pins s σ H Q I h
  exact wpAny_BinOp (binT ha hb I h fun v u s2 x y H2 I2 rx ry q=>ho pins s2 σ H2 x y v u Q I2 rx ry q)
theorem zBt {op:UnaryOp} {r:V→Hp→VK→Prop} (ho:UnR X (unaryOp op) r) (ha:PE X a ta):PE X (.UnaryOp op a pos) (tUn r ta):=by
  intro pins s σ H Q I h
  exact UnaryOp_ (thn (ha pins s σ H _ I h) fun v s1 ⟨x,H1,I1,r1,q1⟩=>ho pins s1 σ H1 x v Q I1 r1 q1)
theorem opI {f:Value→Value→Sem Value} {C:Int→Int→Prop} {g:Int→Int→Int}
    (rule:∀ (i j:Int) (t u:Tok) (s:Shared) (Q:Value→Shared→Prop) (E:Value→Shared→Prop),C i j→Q (.int (g i j) s.toks) { s with toks:=s.toks+1 }→wpAny (model X.prog X.w) X.A (f (.int i t) (.int j u)) Q E s) :
    OpR X f (rI C fun i j => .int (g i j)):=by
  intro pins s σ H x y v u Q I rx ry h
  obtain ⟨i,j,rfl,rfl,hc,q⟩:=h
  obtain ⟨t,rfl⟩:=rx
  obtain ⟨t',rfl⟩:=ry
  exact rule i j t t' s _ _ hc ⟨.int (g i j),H,I.tok _,⟨_,rfl⟩,q⟩
theorem opI0 {f:Value→Value→Sem Value} {g:Int→Int→Int}
    (rule:∀ (i j:Int) (t u:Tok) (s:Shared) (Q:Value→Shared→Prop) (E:Value→Shared→Prop),Q (.int (g i j) s.toks) { s with toks:=s.toks+1 }→wpAny (model X.prog X.w) X.A (f (.int i t) (.int j u)) Q E s) :
    OpR X f (rI0 fun i j => .int (g i j)):=by
  intro pins s σ H x y v u Q I rx ry h
  obtain ⟨i,j,rfl,rfl,q⟩:=h
  obtain ⟨t,rfl⟩:=rx
  obtain ⟨t',rfl⟩:=ry
  exact rule i j t t' s _ _ ⟨.int (g i j),H,I.tok _,⟨_,rfl⟩,q⟩
theorem opB0 {f:Value→Value→Sem Value} {g:Int→Int→Bool}
    (rule:∀ (i j:Int) (t u:Tok) (s:Shared) (Q:Value→Shared→Prop) (E:Value→Shared→Prop),Q (.bool (g i j)) s→wpAny (model X.prog X.w) X.A (f (.int i t) (.int j u)) Q E s) :
    OpR X f (rI0 fun i j => .bl (g i j)):=by
  intro pins s σ H x y v u Q I rx ry h
  obtain ⟨i,j,rfl,rfl,q⟩:=h
  obtain ⟨t,rfl⟩:=rx
  obtain ⟨t',rfl⟩:=ry
  exact rule i j t t' s _ _ ⟨.bl (g i j),H,I,rfl,q⟩
theorem zcs:OpR X (binaryOp .Mod) (rI (fun _ j=>0<j) fun i j => .int (i % j)):=opI fun i j _ _ _ _ _ hc q=>by
  have h1:(0:Int)<j:=hc
  exact mod_int' (by first|decide|lia) (by rw [Int.fmod_eq_emod_of_nonneg i (by first|decide|lia)];exact q)
theorem zjq:OpR X (inplaceOp .Add) (rI0 fun i j => .int (i+j)):=opI0 fun _ _ _ _ _ _ _ q=>iadd_int q
theorem unI {f:Value→Sem Value} {g:Int→Int}
    (rule:∀ (i:Int) (t:Tok) (s:Shared) (Q:Value→Shared→Prop) (E:Value→Shared→Prop),Q (.int (g i) s.toks) { s with toks:=s.toks+1 }→wpAny (model X.prog X.w) X.A (f (.int i t)) Q E s) :
    UnR X f (rU fun i => .int (g i)):=by
  intro pins s σ H x v Q I rx h
  obtain ⟨i,rfl,q⟩:=h
  obtain ⟨t,rfl⟩:=rx
  exact rule i t s _ _ ⟨.int (g i),H,I.tok _,⟨_,rfl⟩,q⟩
theorem z6r:UnR X (unaryOp .USub) (rU fun i => .int (-i)):=unI fun _ _ _ _ _ q=>neg_int q
end
section
variable {X:Cx} {a b c:Expr} {ta tb tc:TE} {pos:Pos}
theorem zWp {pins:List (Addr×Obj)} {σ:St} {H:Hp} {s:Shared} {Q:VK} {k k':Bool} (I:Inv X pins σ H s) (q:Q (.bl k) H) (e:k=k'):EP X pins σ Q (.bool k') s:=by
  subst e
  exact ⟨.bl k,H,I,rfl,q⟩
theorem zut:OpR X (compareOp .Lt) (rI0 fun i j => .bl (decide (i<j))):=opB0 fun _ _ _ _ _ _ _ q=>lt_int q
theorem z3s:OpR X (compareOp .Gt) (rI0 fun i j => .bl (decide (j<i))):=opB0 fun _ _ _ _ _ _ _ q=>gt_int q
theorem z0s:OpR X (compareOp .GtE) (rI0 fun i j => .bl (decide (j≤i))):=opB0 fun _ _ _ _ _ _ _ q=>ge_int q
theorem zui:OpR X (compareOp .Is) (fun x y H Q=>y = .non∧Q (.bl (decide (x = .non))) H):=by
  intro pins s σ H x y v u Q I rx ry h
  obtain ⟨rfl,q⟩:=h
  cases ry
  refine is_none_gen (zWp I q ?_)
  cases x <;> first
    | (cases rx;rfl)
    | (obtain ⟨t,rfl⟩:=rx;rfl)
theorem zMf:OpR X (compareOp .IsNot) (fun x y H Q=>y = .non∧Q (.bl (!decide (x = .non))) H):=by
  intro pins s σ H x y v u Q I rx ry h
  obtain ⟨rfl,q⟩:=h
  cases ry
  refine isnot_none_gen (zWp I q ?_)
  cases x <;> first
    | (cases rx;rfl)
    | (obtain ⟨t,rfl⟩:=rx;rfl)
theorem zOq {op:CmpOp} {r:R2} (ho:OpR X (compareOp op) r) (ha:PE X a ta) (hb:PE X b tb) (hm:behindInMarks op b=false):PE X (.Compare a [op] [b] pos) (tOp r ta tb):=by
  intro pins s σ H Q I h
  exact wpAny_Compare1 (binT ha hb I h fun v u s2 x y H2 I2 rx ry q=>ho pins s2 σ H2 x y v u Q I2 rx ry q) hm
noncomputable def zot (t:TE):TT:=fun σ H Q=>t σ H fun x H'=>∃ k,x = .bl k∧Q k H'
theorem zZq {op:CmpOp} {r:R2} (ho:OpR X (compareOp op) r) (ha:PE X a ta) (hb:PE X b tb) (hm:behindInMarks op b=false):PT X (.Compare a [op] [b] pos) (zot (tOp r ta tb)):=by
  intro pins s σ H Q I h
  refine wpAny_isTrue_Compare1 (thn (ha pins s σ H _ I h) fun v s1 ⟨x,H1,I1,r1,q1⟩=>thn (hb pins s1 σ H1 _ I1 q1) fun u s2 ⟨y,H2,I2,r2,q2⟩ =>
    thn (ho pins s2 σ H2 x y v u _ I2 r1 r2 q2) fun c s3 ⟨z,H3,I3,r3,k,e,q3⟩=>?_) hm
  subst e
  cases r3
  exact wpAny_truthy_bool ⟨H3,I3,q3⟩
theorem line63:(sizeLine:Nat)<2 ^ 63:=by rw [sizeLine_eq];decide
theorem vals1 {x:V} {us:List Value} (r:Vals [x] us):∃ u,us = [u]∧RelV x u:=by
  cases r with
  | cons r1 r2=>cases r2;exact ⟨_,rfl,r1⟩
theorem vals2 {x y:V} {us:List Value} (r:Vals [x,y] us):∃ u w',us = [u,w']∧RelV x u∧RelV y w':=by
  cases r with
  | cons r1 r2 =>
    cases r2 with
    | cons r3 r4=>cases r4;exact ⟨_,_,rfl,r1,r3⟩
end
end L2
namespace L2
open PySem PySem.Spec PyProof.Rows
structure ObjM (h:Heap) (x dx C:Addr) (mA:Str→Option Value):Prop where
  obj:h.get? x=some (PySem.W.instObj C dx)
  ns:h.Ns1 dx mA
  ne:dx≠x
section
variable {prog:Program} {w:World} {A:Around} {E:Value→Shared→Prop} {s:Shared} {K:PySem.W.Frag} {x dx C f:Addr} {mA:Str→Option Value} {name:Str} {v:Value}
end
theorem RelO.some_of {v:V} {o:Option Value} (r:RelO (some v) o):∃ u,o=some u∧RelV v u:=by
  cases o with
  | none=>exact (show False from r).elim
  | some u=>exact ⟨u,rfl,r⟩
section
variable {P:Program} {w:World} {H H':Hp} {h h':Heap} {a C dx:Addr} {fs fs':List (Str×V)}
end
structure Cls (K:PySem.W.Frag) (C:Addr):Prop where
  pg:PySem.W.plainGet K C Str.empty=true
  hd:PySem.W.hasDictIn K C=true
  po:PySem.W.plainOver K C=true
  sa:PySem.W.findIn K (.ref C) "__setattr__" = some (some (.builtin "object.__setattr__"))
structure Con (K:PySem.W.Frag) (C:Addr) (f:Str) (v:V) (u:Value):Prop where
  at_:PySem.W.findIn K (.ref C) f=some (some u)
  rel:RelV v u
  get:PySem.W.specialIn K u "__get__" = some none
  cp:PySem.W.copiedNames.contains f=false
structure Meth (K:PySem.W.Frag) (C:Addr) (m:Str) (f:Addr):Prop where
  at_:PySem.W.findIn K (.ref C) m=some (some (.ref f))
  fn:PySem.W.isFn K (.ref f)=true
  kp:PySem.W.keepIn K (.ref f)=true
section
variable {X:Cx} {pins:List (Addr×Obj)} {σ:St} {H:Hp} {s:Shared} {a C dx:Addr} {fs:List (Str×V)} {f:Str} {v:V} {A:Around} {E:Value→Shared→Prop}
end
section
variable {X:Cx} {o e value:Expr} {f:Str} {pos pos' tpos:Pos} {ta tv:TE}
end
section
variable {X:Cx} {pins:List (Addr×Obj)} {σ:St} {H:Hp} {s:Shared} {A:Around} {E:Value→Shared→Prop} {Q:Value→Shared→Prop} {c:Value} {b:Bool}
inductive TyOf (K:PySem.W.Frag) (H:Hp):V→Value→Prop where
  | non:TyOf K H .non (.type "NoneType")
  | bl (x:Bool):TyOf K H (.bl x) (.type "bool")
  | int (i:Int):TyOf K H (.int i) (.type "int")
  | str (x:Str):TyOf K H (.str x) (.type "str")
  | flt (x:UInt64):TyOf K H (.flt x) (.type "float")
  | lst {a:Addr} {xs:List V} (e:H a=some (.lst xs)):TyOf K H (.ref a) (.type "list")
  | frz {a:Addr} {o:Obj} {xs:List V} (e:H a=some (.frz o (.lst xs))):TyOf K H (.ref a) (.type "list")
  | tup {a:Addr} {xs:List V} (e:H a=some (.tup xs)):TyOf K H (.ref a) (.type "tuple")
  | dK {a:Addr} {kvs:List (Key×V)} (e:H a=some (.dK kvs)):TyOf K H (.ref a) (.type "dict")
  | dT {a:Addr} {kvs:List (List Key×V)} (e:H a=some (.dT kvs)):TyOf K H (.ref a) (.type "dict")
  | ins {a C dx:Addr} {fs:List (Str×V)} (e:H a=some (.ins C dx fs)) (cl:Cls K C) (ha:PySem.W.findIn K (.ref C) "__class__" = some (some (.builtin "object.__class__")))
      (hn:PySem.W.specialIn K (.builtin "object.__class__") "__get__" = some (some (.builtin "getset_descriptor.__get__"))) (htk:PySem.W.takesIn K (.builtin "object.__class__")=some true)
      (hm:PySem.W.mroIn K C (.type "object")=some true):TyOf K H (.ref a) (.ref C)
end
end L2
namespace L2
open PySem PySem.Spec PyProof.Rows
structure Room (k:Nat) (A:Around):Prop where
  hd:A.handled=none
  dp:A.depth+3 * k+5<recursionLimit
  un:A.units+16 * k+200<cLine
  gd:A.guards=some []
theorem Room.mono {j k:Nat} {A:Around} (r:Room k A) (h:j≤k):Room j A:=⟨r.hd,by have:=r.dp;lia,by have:=r.un;lia,r.gd⟩
theorem Room.deeper {k:Nat} {A:Around} (r:Room (k+1) A) (env:Env):Room k (A.deeper env) :=
  ⟨r.hd,by have:=r.dp;show A.depth+1+3 * k+5<_;lia,by have:=r.un;show A.units+3+16 * k+200<_;lia,r.gd⟩
theorem zsm {A:Around} {C:Addr} {us:List Value} {kw:List (Str×Value)}:(A.under (.builtin "type.__call__" ⟨.ref C :: us,kw⟩)).depth=A.depth+1:=by
  first | rfl | simp [Around.under,Code.weight,Code.isCreation,Code.isGuard,Code.isCaller,Code.frames,Code.isFrame,guardIds]
theorem zkm {A:Around} {C:Addr} {us:List Value} {kw:List (Str×Value)}:(A.under (.builtin "type.__call__" ⟨.ref C :: us,kw⟩)).units=A.units+1:=by
  first | rfl | simp [Around.under,Code.cUnits,Code.frames,Code.isFrame]
theorem zDk {A:Around} {C:Addr} {us:List Value} {kw:List (Str×Value)}:(A.under (.builtin "type.__call__" ⟨.ref C :: us,kw⟩)).guards=A.guards:=by
  first | rfl | (cases h:A.guards <;> simp [Around.under,Code.guards,Code.isGuard,guardIds,h])
theorem Room.make {k:Nat} {A:Around} (r:Room (k+1) A) (C:Addr) (us:List Value) (kw:List (Str×Value)):Room k (A.under (.builtin "type.__call__" ⟨.ref C :: us,kw⟩)) :=
  ⟨r.hd,by have:=r.dp;rw [zsm];lia,by have:=r.un;rw [zkm];lia,by rw [zDk];exact r.gd⟩
theorem Room.depth {k:Nat} {A:Around} (r:Room k A):A.depth<recursionLimit:=by have:=r.dp;lia
theorem Room.units {k:Nat} {A:Around} (r:Room k A):A.units+64<cLine:=by have:=r.un;lia
noncomputable def z1t:TA:=fun _ H Q=>Q [] H
noncomputable def znt (ta:TE) (tr:TA):TA:=fun σ H Q=>ta σ H fun x H1=>tr σ H1 fun xs H2=>Q (x :: xs) H2
section
variable {X:Cx} {e:Expr} {es:List Expr} {te:TE} {t:TA} {pos:Pos}
theorem zee:PA X [] z1t:=fun _ _ _ _ H Q I h=>Calls.spliced_nil ⟨[],H,I, .nil,h⟩
theorem zsc (ha:PE X e te) (hr:PA X es t) (hs:starEach (e :: es) X.env=(false,eval e X.env) :: starEach es X.env:=by rfl):PA X (e :: es) (znt te t):=by
  intro pos pins s σ H Q I h
  rw [hs]
  show wpAny _ _ (spliced ((false,eval e X.env) :: backTo pos (starEach es X.env))) _ _ s
  refine Calls.spliced_cons (thn (ha pins s σ H _ I h) fun u s1 ⟨x,H1,I1,r1,q1⟩=>?_)
  exact thn (hr pos pins s1 σ H1 _ I1 q1) fun us s2 ⟨xs,H2,I2,r2,q2⟩=>⟨x :: xs,H2,I2, .cons r1 r2,q2⟩
noncomputable def z9t (t:TA):TE:=fun σ H Q=>t σ H fun xs H1=>xs.length≤sizeLine∧∀ p,H1 p=none→Q (.ref p) (upd H1 p (.tup xs))
noncomputable def zgu (t:TA):TE:=fun σ H Q=>t σ H fun xs H1=>xs.length≤sizeLine∧∀ p,H1 p=none→Q (.ref p) (upd H1 p (.lst xs))
theorem z2r {x1} (h:PA X es t):PE X (.Tuple es x1 pos) (z9t t):=by
  intro pins s σ H Q I hq
  refine wpAny_Tuple_spliced (thn (h pos pins s σ H _ I hq) fun us s1 ⟨xs,H1,I1,r,z,q⟩=>⟨by rw [← r.length];exact z,?_⟩)
  have hf:H1 s1.heap.objs.size=none:=I1.hok.fresh (Nat.le_refl _)
  refine ⟨.ref s1.heap.objs.size,upd H1 s1.heap.objs.size (.tup xs),I1.laid (t':=s1.toks) (fun b u e=>Heap.get?_push_of_some _ e) (Nat.le_refl _) ?_,rfl,q _ hf⟩
  exact ⟨z,us,r,⟨_,Heap.get?_push_size _ rfl,rfl,_,rfl⟩⟩
theorem zzr (h:PA X es t):PE X (.List es pos) (zgu t):=by
  intro pins s σ H Q I hq
  refine wpAny_List_spliced (thn (h pos pins s σ H _ I hq) fun us s1 ⟨xs,H1,I1,r,z,q⟩=>⟨by rw [← r.length];exact z,?_⟩)
  have hf:H1 s1.heap.objs.size=none:=I1.hok.fresh (Nat.le_refl _)
  refine ⟨.ref s1.heap.objs.size,upd H1 s1.heap.objs.size (.lst xs),I1.laid (t':=s1.toks) (fun b u e=>Heap.get?_push_of_some _ e) (Nat.le_refl _) ?_,rfl,q _ hf⟩
  exact ⟨z,us,0,r,Heap.get?_push_size _ rfl⟩
end
noncomputable abbrev Sp:=List V→Hp→VK→XK→Prop
noncomputable abbrev CXT:=List Env→Hp→Shared→XK→Value→Shared→Prop
structure Env0 (P:Program) (w:World) (K:PySem.W.Frag) (mg:Str→Option Value) (base:Heap) (A:Around) (outer:List Env) (s:Shared) (H:Hp):Prop where
  frames:A.frames=some outer
  mod:Mod K mg base
  bs:∀ b o,base.get? b=some o→s.heap.get? b=some o∧H b=none
  bsz:base.objs.size≤s.heap.objs.size
  funs:s.heap.FunFrames base outer
  frf:∀ b∈frs outer,H b=none
  hok:HOk P w H s.heap
  bare:AllBare s.gens
noncomputable def CE (outer:List Env) (P:Program) (w:World) (H:Hp) (s:Shared) (Q:VK) (u:Value) (s':Shared):Prop :=
  ∃ v H',s'.os=s.os∧AllBare s'.gens∧Un (frs outer) [] H H' s.heap s'.heap∧HOk P w H' s'.heap∧RelV v u∧Q v H'
noncomputable def CR (CX:CXT) (outer:List Env) (P:Program) (w:World) (H:Hp) (s:Shared) (Q:VK) (E:XK) (r:Result) (s':Shared):Prop :=
  match r with
  | .ok (.ret u)=>CE outer P w H s Q u s'
  | .ok _=>False
  | .error e=>CX outer H s E e s'
structure FnOk (P:Program) (w:World) (K:PySem.W.Frag) (mg:Str→Option Value) (base:Heap) (CX:CXT) (k:Nat) (f:Addr) (fd:FuncData) (ps:List Str) (sp:Sp):Prop where
  len:∀ vs H Q E,sp vs H Q E→vs.length=ps.length
  run:∀ (A:Around) (outer:List Env) (s:Shared) (H:Hp) (args:Args) (us:List Value) (vs:List V) (Q:VK) (E:XK),Room k A→Env0 P w K mg base A outer s H→BindsTo s fd args (ps.zip us)→Vals vs us→sp vs H Q E →
    codeAny (model P w) A (.call (.ref f) args) (CR CX outer P w H s Q E) s
theorem Env0.make {P:Program} {w:World} {K:PySem.W.Frag} {mg:Str→Option Value} {base:Heap} {A:Around} {outer:List Env} {s:Shared} {H:Hp} (e:Env0 P w K mg base A outer s H) (C:Addr) (us:List Value) (kw:List (Str×Value)) :
    Env0 P w K mg base (A.under (.builtin "type.__call__" ⟨.ref C :: us,kw⟩)) outer s H:=⟨by first | exact e.frames | (simpa [Around.under,Code.envs,Code.isFrame,pushEnvs] using e.frames),e.mod,e.bs,e.bsz,e.funs,e.frf,e.hok,e.bare⟩
section
variable {X:Cx} {pins:List (Addr×Obj)} {σ:St} {H:Hp} {s s':Shared}
theorem Inv.env0 (I:Inv X pins σ H s):Env0 X.prog X.w X.K X.mg X.base X.A X.stack s H :=
  ⟨I.ok.frames,I.ok.mod,I.bs,Nat.le_trans I.ok.bsz I.sz,I.stack,I.stkFree,I.hok,I.bare⟩
theorem Inv.after {Q:VK} {u:Value} (I:Inv X pins σ H s) (h:CE X.stack X.prog X.w H s Q u s'):EP X pins σ Q u s':=by
  obtain ⟨v,H',os,bare,un,hok,r,q⟩:=h
  obtain ⟨hh,g,d,t,os'⟩:=s'
  obtain rfl:os'=s.os:=os
  exact ⟨v,H',I.call (h':=hh) (g':=g) (d':=d) (t':=t) (ch:=[]) un hok bare (fun b z=>absurd z (by simp)),r,q⟩
end
noncomputable def zps (sp:Sp) (dvs:List V) (E:XK) (t:TA):TE:=fun σ H Q=>t σ H fun vs H1=>sp (vs++dvs) H1 Q E
noncomputable def Binds (K:PySem.W.Frag) (fd:FuncData) (ps:List Str) (ds:List Value):Prop :=
  ∀ (s:Shared) (us:List Value),K.In s.heap→(us++ds).length=ps.length→BindsTo s fd ⟨us,[]⟩ (ps.zip (us++ds))
theorem Binds.all {K:PySem.W.Frag} {fd:FuncData} {ps:List Str} (h:∀ us:List Value,us.length=ps.length→bindArgs fd ⟨us,[]⟩ = pure (ps.zip us)):Binds K fd ps []:=fun s us _ hl=>by
  rw [List.append_nil] at hl ⊢
  exact .of_eq (h us hl)
noncomputable def zWm (CX:CXT) (X:Cx) (E:XK):Prop:=∀ (pins:List (Addr×Obj)) (σ:St) (H:Hp) (s:Shared) (e:Value) (s':Shared),Inv X pins σ H s→CX X.stack H s E e s'→X.xe e s'
section
variable {X:Cx} {CX:CXT} {k:Nat} {f C:Addr} {fd:FuncData} {ps:List Str} {sp:Sp} {dvs:List V} {ds:List Value} {E:XK} {x m:Str} {p pos apos:Pos} {e o:Expr} {es:List Expr} {ta:TE} {t:TA}
theorem zfs {pins:List (Addr×Obj)} {σ:St} {H:Hp} {s:Shared} {Q:VK} {us:List Value} {vs:List V} (F:FnOk X.prog X.w X.K X.mg X.base CX k f fd ps sp) (hr:Room k X.A) (hb:Binds X.K fd ps ds) (hd:Vals dvs ds) (hx:zWm CX X E)
    (I:Inv X pins σ H s) (r:Vals vs us) (h:sp (vs++dvs) H Q E):wpAny (model X.prog X.w) X.A (call (.ref f) us) (EP X pins σ Q) X.xe s:=by
  have r2:Vals (vs++dvs) (us++ds):=r.append hd
  have hl:(us++ds).length=ps.length:=by rw [← r2.length];exact F.len _ _ _ _ h
  refine wpAny_call (codeAny_mono (F.run X.A X.stack s H ⟨us,[]⟩ (us++ds) (vs++dvs) Q E hr I.env0 (hb s us I.kIn hl) r2 h) fun r s' hq=>?_)
  cases r with
  | error e=>exact hx pins σ H s e s' I hq
  | ok fl =>
    cases fl with
    | ret u=>exact I.after hq
    | next=>exact False.elim hq
    | brk=>exact False.elim hq
    | cont=>exact False.elim hq
theorem zQq (F:FnOk X.prog X.w X.K X.mg X.base CX k f fd ps sp) (hr:Room k X.A) (hg:Gl X x) (hm:X.mg x=some (.ref f)) (hk:PySem.W.keepIn X.K (.ref f)=true) (hb:Binds X.K fd ps ds) (hd:Vals dvs ds) (hx:zWm CX X E)
    (ha:PA X (e :: es) t) (hdb:(x == ("__debug__":Str))=false:=by decide) (he:starEach (e :: es) X.env=(false,eval e X.env) :: starEach es X.env:=by rfl) (hpl:(backTo pos (starEach es X.env)).any (·.1)=false:=by rfl) :
    PE X (.Call (.Name x p) (e :: es) [] pos) (zps sp dvs E t):=by
  intro pins s σ H Q I h
  refine wpAny_Call_Name_kw (zvh I hg hm ?_ hdb)
  refine PySem.W.callWith_K (h₀:=X.base) I.ok.mod.kin hk (thn (ha pos pins s σ H _ I h) fun us s1 ⟨vs,H1,I1,r,q⟩=>⟨I1.kIn,?_⟩) he hpl
  exact zfs F hr hb hd hx I1 r q
structure Mk (K:PySem.W.Frag) (C f:Addr):Prop where
  makes:PySem.W.makesIn K C=true
  init:PySem.W.findIn K (.ref C) "__init__" = some (some (.ref f))
  fn:PySem.W.isFn K (.ref f)=true
  kp:PySem.W.keepIn K (.ref C)=true
end
section
variable {X:Cx} {CX:CXT} {k:Nat} {f C:Addr} {fd:FuncData} {ps ks:List Str} {sp:Sp} {E:XK} {x m:Str} {p pos apos kpos:Pos} {e o:Expr} {es:List Expr} {kws:List Keyword} {te ta:TE} {t tk:TA} {nm:Option Str}
structure KBinds (K:PySem.W.Frag) (fd:FuncData) (ps ks:List Str) (g:List Value→List Value→List Value) (gV:List V→List V→List V):Prop where
  to:∀ (s:Shared) (us ws:List Value),K.In s.heap→(g us ws).length=ps.length→BindsTo s fd ⟨us,ks.zip ws⟩ (ps.zip (g us ws))
  rel:∀ {vs:List V} {us:List Value} {zs:List V} {ws:List Value},Vals vs us→Vals zs ws→Vals (gV vs zs) (g us ws)
variable {g:List Value→List Value→List Value} {gV:List V→List V→List V}
end
structure FnScope (N P:List Str) (sc:Scope):Prop where
  kind:sc.kind = .function
  co:sc.isCoroutine=false
  gen:sc.isGenerator=false
  nd:N.Nodup
  pre:N.take P.length=P
  par:∀ x∈P,sc.names.lookup x=some .local∨sc.names.lookup x=some .cell
  nofree:∀ y∈sc.names,y.2≠.free
theorem z4j {kindOf:Str→Option NameKind} {x:Str}:∀ {binds:List (Str×Value)} {m:Str→Option Value},(∀ v,(x,v)∉binds)→bindL kindOf binds m x=m x
  | [],_,_=>rfl
  | (n,v) :: r,m,h=>by
    unfold bindL
    rw [z4j fun w hw=>h w (List.mem_cons_of_mem _ hw)]
    split
    · have:x≠n:=by rintro rfl;exact h v List.mem_cons_self
      simp [this]
    · rfl
theorem zik {kindOf:Str→Option NameKind} {x:Str}:∀ {binds:List (Str×Value)} {m:Str→Option Value},(∀ v,(x,v)∉binds)→bindC kindOf binds m x=m x
  | [],_,_=>rfl
  | (n,v) :: r,m,h=>by
    unfold bindC
    rw [zik fun w hw=>h w (List.mem_cons_of_mem _ hw)]
    split
    · rfl
    · have:x≠n:=by rintro rfl;exact h v List.mem_cons_self
      simp [this]
theorem zOj {kindOf:Str→Option NameKind} {x:Str} {v:Value}:∀ {P:List Str} {vs:List Value} {i:Nat} {m:Str→Option Value},P.Nodup→P[i]?=some x→vs[i]?=some v→kindOf x=some .local →
    bindL kindOf (P.zip vs) m x=some v
  | [],_,_,_,_,h,_,_=>by simp at h
  | _ :: _,[],_,_,_,_,h,_=>by simp at h
  | p :: P,w :: vs,0,m,nd,h1,h2,hk=>by
    simp at h1 h2;subst h1;subst h2
    show bindL kindOf ((p,w) :: P.zip vs) m p=_
    unfold bindL
    rw [z4j fun v hv=>(List.nodup_cons.mp nd).1 (List.of_mem_zip hv).1,if_pos hk]
    simp
  | p :: P,w :: vs,i+1,m,nd,h1,h2,hk=>by
    show bindL kindOf ((p,w) :: P.zip vs) m x=_
    unfold bindL
    exact zOj (i:=i) (List.nodup_cons.mp nd).2 (by simpa using h1) (by simpa using h2) hk
theorem zuj {kindOf:Str→Option NameKind} {x:Str} {v:Value}:∀ {P:List Str} {vs:List Value} {i:Nat} {m:Str→Option Value},P.Nodup→P[i]?=some x→vs[i]?=some v→kindOf x≠some .local →
    bindC kindOf (P.zip vs) m x=some v
  | [],_,_,_,_,h,_,_=>by simp at h
  | _ :: _,[],_,_,_,_,h,_=>by simp at h
  | p :: P,w :: vs,0,m,nd,h1,h2,hk=>by
    simp at h1 h2;subst h1;subst h2
    show bindC kindOf ((p,w) :: P.zip vs) m p=_
    unfold bindC
    rw [zik fun v hv=>(List.nodup_cons.mp nd).1 (List.of_mem_zip hv).1,if_neg hk]
    simp
  | p :: P,w :: vs,i+1,m,nd,h1,h2,hk=>by
    show bindC kindOf ((p,w) :: P.zip vs) m x=_
    unfold bindC
    exact zuj (i:=i) (List.nodup_cons.mp nd).2 (by simpa using h1) (by simpa using h2) hk
noncomputable def start (N:List Str) (vs:List V):St:=vs.map some++List.replicate (N.length - vs.length) none
noncomputable def zen (CX:CXT) (P:Program) (w:World) (K:PySem.W.Frag) (mg:Str→Option Value) (base:Heap) (N:List Str) (qual:Str) (scope:Scope) (f:Addr) (cd:Value) (A:Around) (outer:List Env) (s:Shared) (H:Hp) (E:XK):Cx where
  prog:=P
  w:=w
  K:=K
  mg:=mg
  base:=base
  A:=A.deeper (envOfC qual scope s.heap.objs.size f cd)
  N:=N
  s₀:=s
  H₀:=H
  env:=envOfC qual scope s.heap.objs.size f cd
  outer:=outer
  stack:=envOfC qual scope s.heap.objs.size f cd :: outer
  ex:=[]
  calm:=true
  fn:=fun _=>true
  pn:=[]
  xe:=fun e s'=>wpAny (model P w) (A.deeper (envOfC qual scope s.heap.objs.size f cd)) (leaving (envOfC qual scope s.heap.objs.size f cd) e) (fun _ s''=>CX outer H s E e s'') (fun e' s''=>CX outer H s E e' s'') s'
theorem zAl {sc:Scope} {n:Nat} {x:Str} (h:sc.names.lookup x=some .cell):∃ c,(cellsFrom n sc.names []).lookup x=some c:=by
  have q:=PySem.W.cellsFrom_some sc.names n [] (.inl h)
  exact Option.isSome_iff_exists.mp q
theorem zdo {CX:CXT} {P:Program} {w:World} {K:PySem.W.Frag} {mg:Str→Option Value} {base:Heap} {N ps:List Str} {qual:Str} {scope:Scope} {f:Addr} {cd:Value} {A:Around} {outer:List Env} {s s1:Shared} {H:Hp} {E:XK} {us:List Value} {vs:List V}
    (S:FnScope N ps scope) (hd:A.handled=none) (e0:Env0 P w K mg base A outer s H) (hl:vs.length=ps.length) (r:Vals vs us)
    (x:InCallC s s.heap.objs.size (bindL (envOfC qual scope s.heap.objs.size f cd).kindOf (ps.zip us) fun _=>none) (cellsFrom (s.heap.objs.size+1) scope.names []) (bindC (envOfC qual scope s.heap.objs.size f cd).kindOf (ps.zip us) fun _=>none) s1) :
    Inv (zen CX P w K mg base N qual scope f cd A outer s H E) [] (start N vs) H s1:=by
  have hpl:ps.length≤N.length:=by have:=congrArg List.length S.pre;rw [List.length_take] at this;lia
  obtain ⟨h1,tk,rfl,hk⟩:=x.done
  have noA:∀ b:Addr,b∉(zen CX P w K mg base N qual scope f cd A outer s H E).ex:=fun b z=>absurd (show b∈([]:List Addr) from z) (by simp)
  refine ⟨⟨e0.mod,S.kind,rfl,rfl,Nat.le_refl _,fun y z c h1 h2=>?_,fun y hy=>?_,fun y c _ h=>?_,fun _=>hd,Around.frames_deeper e0.frames, .inr ⟨rfl,rfl⟩,fun b z=>absurd z (noA b),e0.bs,e0.bsz,fun b _ _=>noA b,fun b z=>absurd z (noA b),e0.funs,e0.frf⟩,
    rfl,e0.bare,Un.kept hk,⟨_,x.toInCall.ns,fun i y v h1 h2 h3=>?_⟩,fun y c h=>⟨_,x.cell y c h⟩,e0.hok.fresh (Nat.le_refl _),fun y c h=>?_,fun p hp=>absurd (show p∈([]:List (Addr×Obj)) from hp) (by simp),e0.hok.kept hk,?_⟩
  · exact name_of_addr x.apart (PySem.mem_of_lookup h1) (PySem.mem_of_lookup h2)
  · have hy:scope.names.lookup y=some .cell∨scope.names.lookup y=some .free:=hy
    rcases hy with hy | hy
    · exact zAl hy
    · exact absurd rfl (S.nofree _ (PySem.mem_of_lookup hy))
  · exact Nat.le_of_lt (x.above y c (PySem.mem_of_lookup h))
  · have hi:i<vs.length:=by
      unfold start at h2
      by_cases hi:i<vs.length
      · exact hi
      · rw [List.getElem?_append_right (by simpa using hi)] at h2
        rw [List.getElem?_replicate] at h2
        split at h2 <;> cases h2
    have ha:vs[i]?=some v:=by
      unfold start at h2
      rw [List.getElem?_append_left (by simpa using hi),List.getElem?_map] at h2
      cases e:vs[i]? with
      | none=>rw [e] at h2;cases h2
      | some a=>rw [e] at h2;cases h2;rfl
    obtain ⟨u,hu,rv⟩:=r.get ha
    have hp:ps[i]?=some y:=by
      rw [← S.pre,List.getElem?_take_of_lt (by first|decide|lia)];exact h1
    have ndP:ps.Nodup:=by rw [← S.pre];exact S.nd.sublist (List.take_sublist _ _)
    refine ⟨u,rv,?_⟩
    rcases S.par y (List.mem_of_getElem? hp) with k | k
    · exact .inl ⟨k,zOj ndP hp hu k⟩
    · obtain ⟨c,e⟩:=zAl (n:=s.heap.objs.size+1) k
      refine .inr ⟨.inl k,c,e,?_⟩
      have q:=x.cell y c e
      rw [zuj ndP hp hu (by show scope.names.lookup y≠_;rw [k];decide)] at q
      exact q
  · exact e0.hok.fresh (Nat.le_of_lt (x.above y c (PySem.mem_of_lookup h)))
  · unfold start
    show _=N.length
    rw [List.length_append,List.length_map,List.length_replicate]
    lia
theorem zKs {CX:CXT} {P:Program} {w:World} {K:PySem.W.Frag} {mg:Str→Option Value} {base:Heap} {k:Nat} {f:Addr} {name qual:Str} {params:Arguments} {body:List Stmt} {scope:Scope} {dV kV doc pm cdv ct oc:Value} {an od:Option Addr}
    {osl:Array (Option Value)} {N ps:List Str} {sp:Sp} (lk:K.lookup f=some ⟨oc,od, .func (PySem.W.fnOf name qual params body scope dV kV doc pm an cdv ct),osl⟩) (hcd:PySem.W.codeIn K cdv qual=true) (S:FnScope N ps scope)
    (len:∀ vs H Q E,sp vs H Q E→vs.length=ps.length)
    (hbody:∀ (A:Around) (outer:List Env) (s:Shared) (H:Hp) (vs:List V) (Q:VK) (E:XK),Room k (A.deeper (envOfC qual scope s.heap.objs.size f cdv))→sp vs H Q E →
      ∃ t,PSs (zen CX P w K mg base N qual scope f cdv A outer s H E) body t∧t { nx:=fun _ H'=>Q .non H',rt:=Q } (start N vs) H) :
    FnOk P w K mg base CX (k+1) f (PySem.W.fnOf name qual params body scope dV kV doc pm an cdv ct) ps sp:=by
  refine ⟨len,fun A outer s H args us vs Q E hr e0 hb r hsp=>?_⟩
  have hl:=len _ _ _ _ hsp
  have KX:K.In s.heap:=e0.mod.kin.keeps fun b o e=>(e0.bs b o e).1
  have lim:s.heap.NoLimit:=e0.mod.nolimit.keeps fun b o e=>(e0.bs b o e).1
  have hkind:∀ y∈ps.zip us,scope.names.lookup y.1=some .local∨(scope.names.lookup y.1=some .cell∧((cellsFrom (s.heap.objs.size+1) scope.names []).lookup y.1).isSome=true):=fun ⟨n,v⟩ hy=>by
    rcases S.par n (List.of_mem_zip hy).1 with q | q
    · exact .inl q
    · exact .inr ⟨q,PySem.W.cellsFrom_some _ _ _ (.inl q)⟩
  refine codeAny_call_function hr.depth (KX _ _ lk) rfl S.co S.gen rfl (PySem.W.codeRec_of KX hcd) (hb _ _ _ _ ?_)
  refine wpAny_newFunctionEnv_cells S.kind hkind fun env he s1 x=>?_
  subst he
  refine ⟨lim.keeps x.toInCall.keep,codeAny_func ?_⟩
  obtain ⟨t,ht,hq⟩:=hbody A outer s H vs Q E (hr.deeper _) hsp
  have I:Inv (zen CX P w K mg base N qual scope f cdv A outer s H E) [] (start N vs) H s1:=zdo S hr.hd e0 hl r x
  refine wpAny_mono (ht [] s1 (start N vs) H _ I hq) (fun fl s' hs=>?_) fun e s' hs=>hs
  have fin:∀ {σ':St} {H':Hp} {v:V} {u:Value},Inv (zen CX P w K mg base N qual scope f cdv A outer s H E) [] σ' H' s'→RelV v u→Q v H'→CE outer P w H s Q u s' :=
    fun {σ' H' v u} J rv q=>⟨v,H',J.os,J.bare,J.base,J.hok,rv,q⟩
  cases fl with
  | ret u =>
    obtain ⟨v,σ',H',J,rv,q⟩:=hs
    exact fin J rv q
  | next =>
    obtain ⟨σ',H',J,q⟩:=hs
    exact fin (v:=V.non) (u:=Value.none) J rfl q
  | brk =>
    obtain ⟨_,_,_,q⟩:=hs
    exact False.elim q
  | cont =>
    obtain ⟨_,_,_,q⟩:=hs
    exact False.elim q
end L2
namespace L2
open PySem PySem.Spec PyProof.Rows
section
variable {X:Cx} {x:Str} {p pos:Pos} {e:Expr} {es:List Expr} {t:TA} {id T:String} {r:List V→Hp→VK→Prop}
noncomputable def tCB (r:List V→Hp→VK→Prop) (t:TA):TE:=fun σ H Q=>t σ H fun vs H1=>r vs H1 Q
theorem zPi (hc:zch X (.builtin id) r) (hg:Gl X x) (hm:X.mg x=none) (hv:bootBuiltins x=some (.builtin id)) (ha:PA X (e :: es) t) (hn:x≠"__name__":=by decide) (hdb:(x == ("__debug__":Str))=false:=by decide)
    (he:starEach (e :: es) X.env=(false,eval e X.env) :: starEach es X.env:=by rfl) (hpl:(backTo pos (starEach es X.env)).any (·.1)=false:=by rfl):PE X (.Call (.Name x p) (e :: es) [] pos) (tCB r t):=by
  intro pins s σ H Q I h
  refine wpAny_Call_Name_kw (zwi I hg hm hv ?_ hn hdb)
  exact PyProof.Rows.callWith_builtin1 (thn (ha pos pins s σ H _ I h) fun us s1 ⟨vs,H1,I1,r1,q1⟩=>hc pins s1 σ H1 vs us Q I1 r1 q1) he hpl
theorem zwd (hc:zch X (.type T) r) (hg:Gl X x) (hm:X.mg x=none) (hv:bootBuiltins x=some (.type T)) (ha:PA X (e :: es) t) (hn:x≠"__name__":=by decide) (hdb:(x == ("__debug__":Str))=false:=by decide)
    (he:starEach (e :: es) X.env=(false,eval e X.env) :: starEach es X.env:=by rfl) (hpl:(backTo pos (starEach es X.env)).any (·.1)=false:=by rfl):PE X (.Call (.Name x p) (e :: es) [] pos) (tCB r t):=by
  intro pins s σ H Q I h
  refine wpAny_Call_Name_kw (zwi I hg hm hv ?_ hn hdb)
  exact PyProof.Rows.callWith_type1 (thn (ha pos pins s σ H _ I h) fun us s1 ⟨vs,H1,I1,r1,q1⟩=>hc pins s1 σ H1 vs us Q I1 r1 q1) he hpl
end
end L2
namespace HT
open PySem PyProof.Rows
section
open PySem.SeqAt
open PySem.AutoSeq1 (wpAny_loadPart')
open PySem.MeetsSeq PySem.MeetsSeq2 PySem.MeetsSeq3
end
section
variable {prog:Program} {w:World} {A:Around} {E:Value→Shared→Prop} {s:Shared}
theorem cat_tup {t b:Addr} {vs ws:List Value} {Q:Value→Shared→Prop} (ht:IsTup s.heap t vs.toArray) (hb:IsTup s.heap b ws.toArray) (hv:vs≠[])
    (h1:ws = []→Q (.ref t) s) (h2:ws≠[]→Q (.ref s.heap.objs.size) { s with heap:=s.heap.push { cls := .type "tuple",data := .seq (vs++ws).toArray } })
    (hsz:vs.length+ws.length≤sizeLine):wpAny (model prog w) A (binaryOp .Add (.ref t) (.ref b)) Q E s:=by
  obtain ⟨⟨cls,dd,data,sl⟩,ho,hc,n,hd⟩:=id ht
  obtain ⟨⟨cls2,dd2,data2,sl2⟩,ho2,hc2,n2,hd2⟩:=id hb
  simp only at hc hd hc2 hd2
  subst hc hd hc2 hd2
  have e:vs.toArray++ws.toArray=(vs++ws).toArray:=by simp
  by_cases hw:ws = []
  · exact concat_meets ⟨_,ho,rfl⟩ ⟨_,ho2,rfl⟩ noFill_tuple_add seq_tuple_add PySem.F.slot_tuple_add PySem.F.entry_tuple_add (PySem.F.args_tuple_add_2 _ _)
      (tuple_addW1 t b vs.toArray ws.toArray n n2 dd dd2 sl sl2 (by simpa using hv) (by simp [hw])) ⟨ho,ho2,h1 hw⟩
  · refine concat_meets ⟨_,ho,rfl⟩ ⟨_,ho2,rfl⟩ noFill_tuple_add seq_tuple_add PySem.F.slot_tuple_add PySem.F.entry_tuple_add (PySem.F.args_tuple_add_2 _ _)
      (tuple_addW2 t b vs.toArray ws.toArray n n2 dd dd2 sl sl2 (by simpa using hv) (by simpa using hw) (by rw [List.size_toArray,List.size_toArray];exact hsz)) ⟨ho,ho2,?_⟩
    rw [e]
    exact h2 hw
noncomputable def sIx (n d:Nat):Option Int→Nat
  | none=>d
  | some v=>if v<0 then (v+(n:Int)).toNat else min v.toNat n
theorem sIx_none (n d:Nat):sIx n d none=d:=rfl
theorem sIx_nat (n d k:Nat):sIx n d (some (k:Int))=min k n:=by
  show (if (k:Int)<0 then ((k:Int)+(n:Int)).toNat else min (k:Int).toNat n)=min k n
  rw [if_neg (by first|decide|lia),Int.toNat_natCast]
theorem zYr (n d:Nat) (hd:d≤n) (o:Option Int):sIx n d o≤n:=by
  cases o with
  | none=>exact hd
  | some v =>
    show (if v<0 then (v+(n:Int)).toNat else min v.toNat n)≤n
    by_cases hv:v<0
    · rw [if_pos hv];lia
    · rw [if_neg hv];exact Nat.min_le_right _ _
theorem zuo (v:Int) (n d:Nat):(if v<0 then max (v+(n:Int)) 0 else min v (n:Int))=((sIx n d (some v):Nat):Int):=by
  show (if v<0 then max (v+(n:Int)) 0 else min v (n:Int))=(((if v<0 then (v+(n:Int)).toNat else min v.toNat n):Nat):Int)
  by_cases hv:v<0
  · simp only [if_pos hv];lia
  · simp only [if_neg hv];lia
theorem zzm (lo hi:Option Int) (n:Nat):Builtin.Slice.sliceAdjust lo hi 1 (n:Int)=(((sIx n 0 lo:Nat):Int),((sIx n n hi:Nat):Int)):=by
  have h1:¬ ((1:Int)<0):=by lia
  unfold Builtin.Slice.sliceAdjust
  simp only [h1,if_false]
  refine Prod.ext ?_ ?_
  · cases lo with
    | none=>rfl
    | some v=>exact zuo v n 0
  · cases hi with
    | none=>rfl
    | some v=>exact zuo v n n
theorem zlm (i j:Nat):Builtin.Slice.slicePlaces (i:Int) (j:Int) 1=j - i:=by
  unfold Builtin.Slice.slicePlaces
  have h1:(1:Int) > 0:=by lia
  simp only [h1,if_true,Int.ediv_one]
  split <;> lia
theorem slicePart_ {v:Value} {o:Option Int} {Q:Option Int→Shared→Prop} (p:IsPart v o) (h:Q o s):wpAny (model prog w) A (Builtin.Slice.slicePartIndex v) Q E s:=by
  cases p with
  | none=>exact slicePart_none h
  | int i t=>exact slicePart_int h
theorem sliceApplied_gen {sl:Addr} {vl vu:Value} {lo hi:Option Int} {n:Nat} {Q:Int×Int×Nat→Shared→Prop} (hs:s.heap.IsSliceOf sl vl vu .none) (pl:IsPart vl lo) (pu:IsPart vu hi)
    (h:Q (((sIx n 0 lo:Nat):Int),1,sIx n n hi - sIx n 0 lo) s):wpAny (model prog w) A (Builtin.Slice.sliceApplied (.ref sl) (pure (n:Int))) Q E s:=by
  obtain ⟨os,hos,hcs,hds⟩:=id hs
  unfold Builtin.Slice.sliceApplied Builtin.Slice.sliceFields
  refine wpAny_bind (wpAny_bind (wpAny_field hos hds (x:=vl) rfl (wpAny_bind (wpAny_field hos hds (x:=vu) rfl (wpAny_bind (wpAny_field hos hds (x := .none) rfl (wpAny_pure ?_)))))))
  refine wpAny_bind (slicePart_none ?_)
  show wpAny _ _ (if ((1:Int) == 0)=true then _ else _) _ _ s
  rw [if_neg (by decide)]
  refine wpAny_bind (slicePart_ pl (wpAny_bind (slicePart_ pu (wpAny_bind (wpAny_pure ?_)))))
  show wpAny _ _ (match Builtin.Slice.sliceAdjust lo hi 1 (n:Int) with | (lo,hi)=>pure (lo,(1:Int),Builtin.Slice.slicePlaces lo hi 1)) _ _ s
  rw [zzm lo hi n]
  show wpAny _ _ (pure (((sIx n 0 lo:Nat):Int),(1:Int),Builtin.Slice.slicePlaces ((sIx n 0 lo:Nat):Int) ((sIx n n hi:Nat):Int) 1)) _ _ s
  rw [zlm]
  exact wpAny_pure h
theorem pick_gen (xs:Array Value) (i k:Nat):((List.range k).filterMap fun (m:Nat)=>xs[((i:Int)+(m:Int) * 1).toNat]?).toArray=((xs.toList.drop i).take k).toArray:=by
  have e:(fun (m:Nat)=>xs[((i:Int)+(m:Int) * 1).toNat]?)=fun m=>xs[i+m]?:=by
    funext m
    have:((i:Int)+(m:Int) * 1).toNat=i+m:=by lia
    rw [this]
  rw [e]
  have:=pick_run xs i k
  rw [List.filterMap_map] at this
  have e2:((fun x=>xs[x]?) ∘ fun x=>i+x)=fun m=>xs[i+m]?:=rfl
  rw [e2] at this
  rw [this]
theorem getItem_tuple_cut {t sl:Addr} {items:Array Value} {vl vu:Value} {lo hi:Option Int} {Q:Value→Shared→Prop} (ht:IsTup s.heap t items) (hs:s.heap.IsSliceOf sl vl vu .none) (pl:IsPart vl lo) (pu:IsPart vu hi)
    (hw:¬ (sIx items.size 0 lo=0∧sIx items.size items.size hi=items.size))
    (h:Q (.ref s.heap.objs.size) { s with heap:=s.heap.push { cls := .type "tuple",data := .seq ((items.toList.drop (sIx items.size 0 lo)).take (sIx items.size items.size hi - sIx items.size 0 lo)).toArray } })
    (hsz:items.size≤sizeLine):wpAny (model prog w) A (getItem (.ref t) (.ref sl)) Q E s:=by
  have htake:sizeOk (.seq ((items.toList.drop (sIx items.size 0 lo)).take (sIx items.size items.size hi - sIx items.size 0 lo)).toArray):=by
    show ((items.toList.drop (sIx items.size 0 lo)).take (sIx items.size items.size hi - sIx items.size 0 lo)).toArray.size≤sizeLine
    rw [List.size_toArray,List.length_take,List.length_drop,Array.length_toList]
    lia
  have hj:sIx items.size items.size hi≤items.size:=zYr _ _ (Nat.le_refl _) hi
  obtain ⟨os,hos,hcs,hds⟩:=id hs
  have hTs:s.TypeIs (.ref sl) "slice":=⟨os,hos,hcs⟩
  unfold getItem
  try with_reducible refine wpAny_holding ?_
  first | refine wpAny_bind (wpAny_pure ?_) | skip
  refine wpAny_bind (wpAny_sequenceKey ht.typeIs (by decide) ?_)
  refine wpAny_bind (wpAny_callSpecial?_slot (name:=Str.ofString "__getitem__") ht.typeIs PyProof.Rows.slot_tuple_getitem
    (wpAny_call_entry PyProof.Rows.slot_tuple_getitem ht.typeIs entry_tuple_getitem ?_ (args_tuple_getitem _ _)))
  show wpAny _ _ (Builtin.Tuple.tupleItemsOf (.ref t) >>= _) _ _ s
  refine wpAny_bind (tupleItemsOf_ ht ?_)
  refine wpAny_bind (wpAny_typeOf hTs ?_)
  rw [if_pos (by decide)]
  refine wpAny_bind (sliceApplied_gen hs pl pu ?_)
  have hno:¬ ((((sIx items.size 0 lo:Nat):Int) == 0 && (1:Int) == 1 && (sIx items.size items.size hi - sIx items.size 0 lo) == items.size)=true):=by
    intro q
    rw [Bool.and_eq_true,Bool.and_eq_true] at q
    have q1:((sIx items.size 0 lo:Nat):Int)=0:=eq_of_beq q.1.1
    have q2:sIx items.size items.size hi - sIx items.size 0 lo=items.size:=eq_of_beq q.2
    exact hw ⟨by first|decide|lia,by first|decide|lia⟩
  show wpAny _ _ (if (((sIx items.size 0 lo:Nat):Int) == 0 && (1:Int) == 1 && (sIx items.size items.size hi - sIx items.size 0 lo) == items.size)=true then _ else _) _ _ s
  rw [if_neg hno,pick_gen]
  first
    | exact wpAny_bind (m:=Builtin.Tuple.tupleExact _) (wpAny_newObj_type (wpAny_pure ⟨_,rfl,wpAny_pure h⟩) htake)
    | exact wpAny_bind (m:=Builtin.Tuple.tupleExact _) (wpAny_newObj_type (wpAny_bind (wpAny_pure (wpAny_pure ⟨_,rfl,wpAny_pure h⟩))) htake)
    | exact wpAny_bind (wpAny_bind (m:=Builtin.Tuple.tupleExact _) (wpAny_newObj_type (wpAny_pure (wpAny_pure ⟨_,rfl,wpAny_pure h⟩)) htake))
    | exact wpAny_bind (wpAny_bind (m:=Builtin.Tuple.tupleExact _) (wpAny_newObj_type (wpAny_pure ⟨_,rfl,wpAny_pure h⟩) htake))
end
end HT
namespace L2
open PySem PySem.Spec PyProof.Rows
noncomputable abbrev TO:=St→Hp→(Option Int→Hp→Prop)→Prop
noncomputable def PO (X:Cx) (e:Option Expr) (t:TO):Prop :=
  ∀ (pins:List (Addr×Obj)) (s:Shared) (σ:St) (H:Hp) (Q:Option Int→Hp→Prop),Inv X pins σ H s→t σ H Q →
    wpAny (model X.prog X.w) X.A (evalPart e X.env) (fun u s'=>∃ o H',Inv X pins σ H' s'∧IsPart u o∧Q o H') X.xe s
noncomputable def zir:TO:=fun _ H Q=>Q none H
noncomputable def zjt (t:TE):TO:=fun σ H Q=>t σ H fun x H1=>∃ i,x = .int i∧Q (some i) H1
theorem zDe {ns:List Int}:∀ {us:List Value},Vals (ns.map V.int) us→IntsAre us ns:=by
  induction ns with
  | nil=>intro us r;rw [List.map_nil] at r;cases r;exact .nil
  | cons n ns ih =>
    intro us r
    rw [List.map_cons] at r
    cases r with
    | cons r1 r2 =>
      obtain ⟨t,e⟩:=r1
      subst e
      exact .cons n t (ih r2)
section
variable {X:Cx} {e:Expr} {te:TE} {lo hi:Option Expr} {tl th:TO} {pos p2:Pos}
theorem zlr:PO X none zir:=by
  intro pins s σ H Q I h
  rw [evalPart_none]
  exact wpAny_pure ⟨none,H,I, .none,h⟩
theorem zmr (h:PE X e te):PO X (some e) (zjt te):=by
  intro pins s σ H Q I hw
  rw [evalPart_some]
  refine thn (h pins s σ H _ I hw) fun u s1 ⟨x,H1,I1,r1,q1⟩=>?_
  obtain ⟨i,rfl,q⟩:=q1
  obtain ⟨t,rfl⟩:=r1
  exact ⟨some i,H1,I1, .int i t,q⟩
noncomputable def SlR (X:Cx) (r:V→Option Int→Option Int→Hp→VK→Prop):Prop :=
  ∀ (pins:List (Addr×Obj)) (s:Shared) (σ:St) (H:Hp) (x:V) (v vl vu:Value) (lo hi:Option Int) (sl:Addr) (Q:VK),Inv X pins σ H s→RelV x v→s.heap.IsSliceOf sl vl vu .none→IsPart vl lo→IsPart vu hi→r x lo hi H Q →
    ∃ T id,typeLookup (.type T) "__getitem__" = pure (some (.builtin id))∧s.TypeIs v T∧wpAny (model X.prog X.w) X.A (getItem v (.ref sl)) (EP X pins σ Q) X.xe s
theorem SlR.or {r r':V→Option Int→Option Int→Hp→VK→Prop} (h:SlR X r) (h':SlR X r'):SlR X (fun x lo hi H Q=>r x lo hi H Q∨r' x lo hi H Q):=by
  intro pins s σ H x v vl vu lo hi sl Q I rx hs pl pu q
  rcases q with q | q
  · exact h pins s σ H x v vl vu lo hi sl Q I rx hs pl pu q
  · exact h' pins s σ H x v vl vu lo hi sl Q I rx hs pl pu q
noncomputable def tSl (r:V→Option Int→Option Int→Hp→VK→Prop) (te:TE) (tl th:TO):TE:=fun σ H Q=>te σ H fun x H1=>tl σ H1 fun l H2=>th σ H2 fun u H3=>r x l u H3 Q
theorem zSo {r:V→Option Int→Option Int→Hp→VK→Prop} (hr:SlR X r) (he:PE X e te) (hl:PO X lo tl) (hu:PO X hi th):PE X (.Subscript e (.Slice lo hi none p2) pos) (tSl r te tl th):=by
  intro pins s σ H Q I h
  refine Subscript_ (thn (he pins s σ H _ I h) fun v s1 ⟨x,H1,I1,r1,q1⟩=>?_)
  refine wpAny_Slice (thn (hl pins s1 σ H1 _ I1 q1) fun vl s2 ⟨l,H2,I2,pl,q2⟩=>thn (hu pins s2 σ H2 _ I2 q2) fun vu s3 ⟨u,H3,I3,pu,q3⟩=>?_)
  rw [evalPart_none]
  refine wpAny_pure ?_
  have I4:Inv X pins σ H3 { s3 with heap:=s3.heap.push { cls := .type "slice",data := .fields #[vl,vu, .none] } }:=I3.kept (t':=s3.toks) fun b ob q=>Heap.get?_push_of_some _ q
  obtain ⟨T,id,hT,ht,hg⟩:=hr pins { s3 with heap:=s3.heap.push { cls := .type "slice",data := .fields #[vl,vu, .none] } } σ H3 x v vl vu l u s3.heap.objs.size Q I4 r1 (Heap.IsSliceOf.new ..) pl pu q3
  show wpAny (model X.prog X.w) X.A (subscriptTail e (.Slice lo hi none p2) v (.ref s3.heap.objs.size)) (EP X pins σ Q) X.xe { s3 with heap:=s3.heap.push { cls := .type "slice",data := .fields #[vl,vu, .none] } }
  exact tail_any (ops:=[.ref s3.heap.objs.size,v]) ht hT hg (by with_unfolding_all rfl)
noncomputable def z8m (xs:List V) (lo hi:Option Int):List V:=(xs.drop (HT.sIx xs.length 0 lo)).take (HT.sIx xs.length xs.length hi - HT.sIx xs.length 0 lo)
theorem zbh (xs:List V) (lo hi:Option Int):(z8m xs lo hi).length≤xs.length:=by
  unfold z8m
  rw [List.length_take,List.length_drop]
  lia
noncomputable def z6t (K:PySem.W.Frag):V→Option Int→Option Int→Hp→VK→Prop:=fun x lo hi H Q=>∃ a xs,x = .ref a∧SqT K H a xs ∧
  ¬ (HT.sIx xs.length 0 lo=0∧HT.sIx xs.length xs.length hi=xs.length)∧∀ p,H p=none→Q (.ref p) (upd H p (.tup (z8m xs lo hi)))
theorem zms:SlR X (z6t X.K):=by
  intro pins s σ H x v vl vu lo hi sl Q I rx hs pl pu h
  obtain ⟨a,xs,rfl,hx,hw,q⟩:=h
  cases rx
  obtain ⟨its,r,ht,hz⟩:=I.tuple hx
  have hlen:its.toArray.size=xs.length:=by rw [List.size_toArray];exact r.length.symm
  refine ⟨"tuple",_,PyProof.Rows.slot_tuple_getitem.lookup,ht.typeIs,?_⟩
  refine HT.getItem_tuple_cut ht hs pl pu (by rw [hlen];exact hw) ?_ (by rw [hlen];exact hz)
  rw [hlen]
  refine ⟨.ref s.heap.objs.size,_,I.laid (t':=s.toks) (o := .tup (z8m xs lo hi)) (fun b ob q=>Heap.get?_push_of_some _ q) (Nat.le_refl _) ?_,rfl,q _ (I.hok.fresh (Nat.le_refl _))⟩
  exact ⟨Nat.le_trans (zbh xs lo hi) hz,_,(r.drop (HT.sIx xs.length 0 lo)).take (HT.sIx xs.length xs.length hi - HT.sIx xs.length 0 lo),IsTup.new _ _⟩
noncomputable def zpt (K:PySem.W.Frag):R2:=fun x y H Q=>∃ a b xs ys,x = .ref a∧y = .ref b∧SqT K H a xs∧SqT K H b ys∧xs≠[]∧xs.length+ys.length≤sizeLine ∧
  (ys = []→Q (.ref a) H)∧(ys≠[]→∀ p,H p=none→Q (.ref p) (upd H p (.tup (xs++ys))))
theorem Vals.nil_iff {xs:List V} {us:List Value} (r:Vals xs us):us = []↔xs = []:=by
  cases r with
  | nil=>simp
  | cons _ _=>simp
theorem zVq:OpR X (binaryOp .Add) (zpt X.K):=by
  intro pins s σ H x y v u Q I rx ry h
  obtain ⟨a,b,xs,ys,rfl,rfl,ha,hb,hx,hz,q1,q2⟩:=h
  cases rx
  cases ry
  obtain ⟨its,r1,p1,_⟩:=I.tuple ha
  obtain ⟨its2,r2,p2,_⟩:=I.tuple hb
  refine HT.cat_tup p1 p2 (fun z=>hx (r1.nil_iff.mp z)) (fun z=>⟨.ref a,H,I,rfl,q1 (r2.nil_iff.mp z)⟩) (fun z=>?_) (by rw [← r1.length,← r2.length];exact hz)
  refine ⟨.ref s.heap.objs.size,_,I.laid (t':=s.toks) (o := .tup (xs++ys)) (fun b ob q=>Heap.get?_push_of_some _ q) (Nat.le_refl _) ?_,rfl,q2 (fun w=>z (r2.nil_iff.mpr w)) _ (I.hok.fresh (Nat.le_refl _))⟩
  exact ⟨by rw [List.length_append];exact hz,_,r1.append r2,IsTup.new _ _⟩
end
end L2
namespace L2
open PySem PySem.Spec PyProof.Rows
noncomputable def ixN (n:Nat) (i:Int):Option Nat:=if 0≤i then (if i<n then some i.toNat else none) else if -(n:Int)≤i then some (i+n).toNat else none
noncomputable def atI {α:Type} (xs:List α) (i:Int):Option α:=(ixN xs.length i).bind fun j=>xs[j]?
theorem zKn {n:Nat} {i:Int} {j:Nat} (h:ixN n i=some j):seqIndex? i n=some j∧j<n∧-(n:Int)≤i∧i<n:=by
  unfold ixN at h
  by_cases h0:0≤i
  · rw [if_pos h0] at h
    by_cases h1:i<n
    · rw [if_pos h1] at h
      have e:i.toNat=j:=Option.some.inj h
      exact ⟨by rw [seqIndex_of h0 h1,e],by first|decide|lia,by first|decide|lia,h1⟩
    · rw [if_neg h1] at h;cases h
  · rw [if_neg h0] at h
    by_cases h1:-(n:Int)≤i
    · rw [if_pos h1] at h
      have e:(i+n).toNat=j:=Option.some.inj h
      exact ⟨by rw [seqIndex_neg (by first|decide|lia) h1,e],by first|decide|lia,h1,by first|decide|lia⟩
    · rw [if_neg h1] at h;cases h
theorem zFk {α:Type} {xs:List α} {i:Int} {v:α} (h:atI xs i=some v):∃ j,seqIndex? i xs.length=some j∧xs[j]?=some v∧j<xs.length∧-(xs.length:Int)≤i∧i<xs.length:=by
  unfold atI at h
  cases e:ixN xs.length i with
  | none=>rw [e] at h;cases h
  | some j =>
    rw [e] at h
    obtain ⟨h1,h2,h3,h4⟩:=zKn e
    exact ⟨j,h1,h,h2,h3,h4⟩
theorem zdd {α:Type} {xs:List α} {j:Nat} {v:α} (h:xs[j]?=some v):atI xs (j:Int)=some v:=by
  have hj:j<xs.length:=(List.getElem?_eq_some_iff.mp h).1
  have e:ixN xs.length (j:Int)=some j:=by
    unfold ixN
    rw [if_pos (by first|decide|lia),if_pos (by first|decide|lia)];simp
  unfold atI;rw [e];exact h
noncomputable def zfl (b:Expr):Prop:=∀ o i,subscripted b false o i=operate [o,i] (getItem o i)
noncomputable def IxR (X:Cx) (r:R2):Prop :=
  ∀ (value slice:Expr) (pins:List (Addr×Obj)) (s:Shared) (σ:St) (H:Hp) (x y:V) (v u:Value) (Q:VK),Inv X pins σ H s→RelV x v→RelV y u→r x y H Q →
    subscripted slice false v u=operate [v,u] (getItem v u)→wpAny (model X.prog X.w) X.A (subscriptTail value slice v u) (EP X pins σ Q) X.xe s
noncomputable def MtR (X:Cx) (id:String) (r:V→List V→Hp→VK→Prop):Prop :=
  ∀ (pins:List (Addr×Obj)) (s:Shared) (σ:St) (H:Hp) (x:V) (xs:List V) (v:Value) (us:List Value) (Q:VK),Inv X pins σ H s→RelV x v→Vals xs us→r x xs H Q →
    wpAny (model X.prog X.w) X.A (call (.builtin id) (v :: us)) (EP X pins σ Q) X.xe s
section
variable {X:Cx} {a b:Expr} {ta tb:TE} {pos:Pos}
theorem IxR.or {r r':R2} (h:IxR X r) (h':IxR X r'):IxR X (fun x y H Q=>r x y H Q∨r' x y H Q):=by
  intro value slice pins s σ H x y v u Q I rx ry q hs
  rcases q with q | q
  · exact h value slice pins s σ H x y v u Q I rx ry q hs
  · exact h' value slice pins s σ H x y v u Q I rx ry q hs
theorem zOs {r:R2} (hr:IxR X r) (ha:PE X a ta) (hb:PE X b tb) (hs:zfl b):PE X (.Subscript a b pos) (tOp r ta tb):=by
  intro pins s σ H Q I h
  exact Subscript_ (binT ha hb I h fun v u s2 x y H2 I2 rx ry q=>hr a b pins s2 σ H2 x y v u Q I2 rx ry q (hs _ _))
noncomputable def zRt (K:PySem.W.Frag):R2:=fun x y H Q=>∃ p xs i v,x = .ref p∧y = .int i∧SqL K H p xs∧atI xs i=some v∧Q v H
noncomputable def zSt (K:PySem.W.Frag):R2:=fun x y H Q=>∃ p xs i v,x = .ref p∧y = .int i∧SqT K H p xs∧atI xs i=some v∧Q v H
noncomputable def zUt:R2:=fun x y H Q=>∃ z i c,x = .str z∧y = .int i∧z.length≤sizeLine∧atI z.cps.toList i=some c∧Q (.str ⟨#[c]⟩) H
theorem ix_list:IxR X (zRt X.K):=by
  intro value slice pins s σ H x y v u Q I rx ry h hs
  obtain ⟨p,xs,i,z,rfl,rfl,hq,he,q⟩:=h
  cases rx
  obtain ⟨t,rfl⟩:=ry
  obtain ⟨its,r,pl,hz⟩:=I.list hq
  obtain ⟨j,h1,h2,h3,h4,h5⟩:=zFk he
  obtain ⟨w,ew,rw'⟩:=r.get h2
  have hl:=r.length
  have hn:=line63
  have fin:EP X pins σ Q w s:=⟨z,H,I,rw',q⟩
  by_cases h0:0≤i
  · have hj:i.toNat=j:=by
      rw [seqIndex_of h0 h5] at h1
      exact Option.some.inj h1
    exact item_listR pl.isList h0 (by first|decide|lia) (by rw [hj];simpa using ew) fin hs
  · have hj:(i+(its.toArray.size:Int)).toNat=j:=by
      rw [seqIndex_neg (by first|decide|lia) h4] at h1
      rw [List.size_toArray,← hl]
      exact Option.some.inj h1
    exact subscriptTail_builtinR (x:=w) pl.isList.typeIs slot_list_getitem.lookup
      (wpAny_getItem_list_neg (Q:=fun r s'=>r=w∧EP X pins σ Q r s') pl.isList (by first|decide|lia) (by rw [List.size_toArray] <;> lia) (by first|decide|lia) (by rw [hj];simpa using ew) ⟨rfl,fin⟩) hs
theorem ix_tup:IxR X (zSt X.K):=by
  intro value slice pins s σ H x y v u Q I rx ry h hs
  obtain ⟨p,xs,i,z,rfl,rfl,hq,he,q⟩:=h
  cases rx
  obtain ⟨t,rfl⟩:=ry
  obtain ⟨its,r,pl,hz⟩:=I.tuple hq
  obtain ⟨j,h1,h2,h3,h4,h5⟩:=zFk he
  obtain ⟨w,ew,rw'⟩:=r.get h2
  have hl:=r.length
  have hn:=line63
  have fin:EP X pins σ Q w s:=⟨z,H,I,rw',q⟩
  exact subscriptTail_builtinR (x:=w) pl.typeIs slot_tuple_getitem.lookup
    (getItem_tuple (j:=j) (Q:=fun r s'=>r=w∧EP X pins σ Q r s') pl (by first|decide|lia) (by first|decide|lia) (by rw [List.size_toArray,← hl];exact h1) (by simpa using ew) ⟨rfl,fin⟩) hs
theorem zFs:IxR X zUt:=by
  intro value slice pins s σ H x y v u Q I rx ry h hs
  obtain ⟨z,i,c,rfl,rfl,hz,he,q⟩:=h
  obtain ⟨t,rfl⟩:=rx
  obtain ⟨t',rfl⟩:=ry
  obtain ⟨j,h1,h2,h3,h4,h5⟩:=zFk he
  have hl:z.cps.toList.length=z.length:=by simp [Str.length]
  rw [hl] at h1 h4 h5
  have hn:=line63
  exact tail_any (typeIs_str s z t) slot_str_getitem.lookup (getItem_str (c:=c) (by
    have e1:decide (i < -(2 ^ 63:Int))=false:=decide_eq_false (by first|decide|lia)
    have e2:decide (i ≥ 2 ^ 63)=false:=decide_eq_false (by first|decide|lia)
    rw [e1,e2,Bool.or_false]) (by rw [h1];simpa using h2) ⟨.str ⟨#[c]⟩,H,I.tok _,⟨_,rfl⟩,q⟩) hs
noncomputable def rIx (K:PySem.W.Frag):R2:=fun x y H Q=>zRt K x y H Q∨zSt K x y H Q∨zUt x y H Q
theorem z0p:IxR X (rIx X.K):=ix_list.or (ix_tup.or zFs)
theorem zAm (its:List Value) (n j:Nat) (u:Value):Obj.mapSeq (·.setIfInBounds j u) { cls := .type "list",data := .seq its.toArray n } = { cls := .type "list",data := .seq (its.set j u).toArray n }:=by
  simp [Obj.mapSeq]
theorem Inv.lst {pins:List (Addr×Obj)} {σ:St} {H:Hp} {s:Shared} {p:Addr} {xs:List V} (I:Inv X pins σ H s) (h:H p=some (.lst xs)) :
    ∃ (its:List Value) (n:Nat),Vals xs its∧s.heap.get? p=some { cls := .type "list",data := .seq its.toArray n }∧xs.length≤sizeLine:=by
  obtain ⟨z,its,n,r,e⟩:=I.hok p _ h
  exact ⟨its,n,r,e,z⟩
theorem Inv.lstUpd {pins:List (Addr×Obj)} {σ:St} {H:Hp} {s:Shared} {p:Addr} {xs ys:List V} {its its':List Value} {n n':Nat} {f:Obj→Obj} (I:Inv X pins σ H s) (h:H p=some (.lst xs))
    (ho:s.heap.get? p=some { cls := .type "list",data := .seq its.toArray n }) (hf:f { cls := .type "list",data := .seq its.toArray n } = { cls := .type "list",data := .seq its'.toArray n' }) (r:Vals ys its') (hz:ys.length≤sizeLine) (t:Nat) :
    Inv X pins σ (upd H p (.lst ys)) { s with heap:=s.heap.update p f,toks:=t }:=by
  have e:(s.heap.update p f).get? p=some { cls := .type "list",data := .seq its'.toArray n' }:=by
    rw [Heap.get?_update_self f ho (by rw [hf] <;> rfl),hf]
  refine I.write (x:=p) (e:=p) (by rw [h];trivial) (.inl rfl) (fun b u hb q=>(Heap.get?_update_other _ _ (Ne.symm hb)).trans q) ⟨_,e⟩ ?_
  exact ⟨hz,its',n',r,e⟩
noncomputable def zmt:V→V→V→Hp→(Hp→Prop)→Prop:=fun o i v H Q=>∃ p xs k j,o = .ref p∧i = .int k∧H p=some (.lst xs)∧ixN xs.length k=some j∧Q (upd H p (.lst (xs.set j v)))
theorem zzp:zgt X zmt:=by
  intro pins s σ H o i v ov iv u Q I ro ri rv h
  obtain ⟨p,xs,k,j,rfl,rfl,hp,hj,q⟩:=h
  cases ro
  obtain ⟨t,rfl⟩:=ri
  obtain ⟨its,n,r,ho,hz⟩:=I.lst hp
  obtain ⟨h1,h2,h3,h4⟩:=zKn hj
  have hl:=r.length
  have hn:=line63
  have I':Inv X pins σ (upd H p (.lst (xs.set j v))) { s with heap:=s.heap.update p (Obj.mapSeq (·.setIfInBounds j u)) } :=
    I.lstUpd hp ho (zAm its n j u) (r.set rv j) (by rw [List.length_set];exact hz) s.toks
  by_cases h0:0≤k
  · have hk:k.toNat=j:=by
      rw [seqIndex_of h0 h4] at h1
      exact Option.some.inj h1
    exact PySem.W.ki_setAt ho h0 (by first|decide|lia) (by rw [List.size_toArray,← hl];exact h4) (by rw [hk];exact ⟨_,I',q⟩)
  · have hk:(k+(its.toArray.size:Int)).toNat=j:=by
      rw [seqIndex_neg (by first|decide|lia) h3] at h1
      rw [List.size_toArray,← hl]
      exact Option.some.inj h1
    exact PySem.W.ki_setBack ho (by first|decide|lia) (by rw [List.size_toArray,← hl];exact h3) (by first|decide|lia) (by rw [hk];exact ⟨_,I',q⟩)
theorem zlj (lo hi:Option Int) (n:Nat):(sliceBounds lo hi none n).1=((HT.sIx n 0 lo:Nat):Int)∧(sliceBounds lo hi none n).2.1=((HT.sIx n n hi:Nat):Int)∧(sliceBounds lo hi none n).2.2=1:=by
  refine ⟨?_,?_,rfl⟩
  · cases lo with
    | none=>simp [sliceBounds,HT.sIx]
    | some i =>
      simp only [sliceBounds,HT.sIx,Option.getD_none,show (1:Int) > 0 by decide,if_true]
      by_cases h:i<0
      · simp only [h,if_true] <;> lia
      · simp only [h,if_false] <;> lia
  · cases hi with
    | none=>simp [sliceBounds,HT.sIx]
    | some i =>
      simp only [sliceBounds,HT.sIx,Option.getD_none,show (1:Int) > 0 by decide,if_true]
      by_cases h:i<0
      · simp only [h,if_true] <;> lia
      · simp only [h,if_false] <;> lia
theorem zTi (its:List Value) (lo hi:Option Int):slicePick its.toArray lo hi none=((its.drop (HT.sIx its.length 0 lo)).take (HT.sIx its.length its.length hi - HT.sIx its.length 0 lo)).toArray:=by
  obtain ⟨h1,h2,h3⟩:=zlj lo hi its.toArray.size
  unfold slicePick
  rw [h1,h2,h3]
  simp only [sliceRange_one,pick_run,List.size_toArray] <;> rfl
noncomputable def zhu (K:PySem.W.Frag):V→Option Int→Option Int→Hp→VK→Prop:=fun x lo hi H Q=>∃ a xs,x = .ref a∧SqL K H a xs∧∀ p,H p=none→Q (.ref p) (upd H p (.lst (z8m xs lo hi)))
theorem zJq:SlR X (zhu X.K):=by
  intro pins s σ H x v vl vu lo hi sl Q I rx hs pl pu h
  obtain ⟨a,xs,rfl,hx,q⟩:=h
  cases rx
  obtain ⟨its,r,ht,hz⟩:=I.list hx
  have hlen:=r.length
  refine ⟨"list",_,slot_list_getitem.lookup,ht.isList.typeIs,?_⟩
  refine wpAny_getItem_list_slice ht.isList hs pl pu .none (by simp) ?_ (by rw [List.size_toArray] <;> lia)
  rw [zTi,← hlen]
  refine ⟨.ref s.heap.objs.size,_,I.laid (t':=s.toks) (o := .lst (z8m xs lo hi)) (fun b ob q=>Heap.get?_push_of_some _ q) (Nat.le_refl _) ?_,rfl,q _ (I.hok.fresh (Nat.le_refl _))⟩
  exact ⟨Nat.le_trans (zbh xs lo hi) hz,_,0,(r.drop (HT.sIx xs.length 0 lo)).take (HT.sIx xs.length xs.length hi - HT.sIx xs.length 0 lo),Heap.get?_push_size _ rfl⟩
noncomputable def zmg:V→Bool
  | .non=>true
  | .bl _=>true
  | .int _=>true
  | .str _=>true
  | _=>false
noncomputable def eqV:V→V→Bool
  | .non, .non=>true
  | .bl a, .bl b=>a == b
  | .bl a, .int b=>(if a then 1 else 0) == b
  | .int a, .bl b=>a == (if b then 1 else 0)
  | .int a, .int b=>a == b
  | .str a, .str b=>a == b
  | _,_=>false
theorem zXr {A:Around} {s:Shared} {y x:V} {u v:Value} (ry:RelV y u) (rx:RelV x v) (fy:zmg y=true) (fx:zmg x=true):SeqAt.EqAt A s u v (eqV y x):=by
  cases y with
  | non =>
    cases ry
    cases x with
    | non=>cases rx;exact SeqAt.EqAt.same _
    | bl b=>cases rx;exact SeqAt.EqAt.none_bool b
    | int b=>obtain ⟨t,rfl⟩:=rx;exact SeqAt.EqAt.none_int b t
    | str b=>obtain ⟨t,rfl⟩:=rx;exact SeqAt.EqAt.none_str b t
    | _=>exact absurd (show false=true from fx) Bool.false_ne_true
  | bl a =>
    cases ry
    cases x with
    | non=>cases rx;exact SeqAt.EqAt.bool_none a
    | bl b=>cases rx;exact SeqAt.EqAt.bool_bool a b
    | int b=>obtain ⟨t,rfl⟩:=rx;exact SeqAt.EqAt.bool_int a b t
    | str b=>obtain ⟨t,rfl⟩:=rx;exact SeqAt.EqAt.bool_str a b t
    | _=>exact absurd (show false=true from fx) Bool.false_ne_true
  | int a =>
    obtain ⟨t',rfl⟩:=ry
    cases x with
    | non=>cases rx;exact SeqAt.EqAt.int_none a t'
    | bl b=>cases rx;exact SeqAt.EqAt.int_bool a t' b
    | int b=>obtain ⟨t,rfl⟩:=rx;exact SeqAt.EqAt.int_int a t' b t
    | str b=>obtain ⟨t,rfl⟩:=rx;exact SeqAt.EqAt.int_str a t' b t
    | _=>exact absurd (show false=true from fx) Bool.false_ne_true
  | str a =>
    obtain ⟨t',rfl⟩:=ry
    cases x with
    | non=>cases rx;exact SeqAt.EqAt.str_none a t'
    | bl b=>cases rx;exact SeqAt.EqAt.str_bool a t' b
    | int b=>obtain ⟨t,rfl⟩:=rx;exact SeqAt.EqAt.str_int a t' b t
    | str b=>obtain ⟨t,rfl⟩:=rx;exact SeqAt.EqAt.str_str a t' b t
    | _=>exact absurd (show false=true from fx) Bool.false_ne_true
  | _=>exact absurd (show false=true from fy) Bool.false_ne_true
noncomputable def eqU (x:V) (u:Value):Bool:=match u with
  | .none=>eqV .non x
  | .bool b=>eqV (.bl b) x
  | .int i _=>eqV (.int i) x
  | .str z _=>eqV (.str z) x
  | _=>false
theorem zNl {x y:V} {u:Value} (r:RelV y u) (f:zmg y=true):eqU x u=eqV y x:=by
  cases y with
  | non=>cases r;rfl
  | bl b=>cases r;rfl
  | int i=>obtain ⟨t,rfl⟩:=r;rfl
  | str z=>obtain ⟨t,rfl⟩:=r;rfl
  | _=>exact absurd (show false=true from f) Bool.false_ne_true
theorem zVk {x:V}:∀ {xs:List V} {us:List Value},Vals xs us→xs.all zmg=true→us.any (eqU x)=xs.any fun y=>eqV y x
  | _,_, .nil,_=>rfl
  | y :: xs,u :: us, .cons r t,f=>by
    rw [List.all_cons,Bool.and_eq_true] at f
    rw [List.any_cons,List.any_cons,zNl r f.1,zVk t f.2]
theorem zpf {A:Around} {s:Shared} {x:V} {v:Value} (rx:RelV x v) (fx:zmg x=true):∀ {xs:List V} {us:List Value},Vals xs us→xs.all zmg=true→∀ u∈us,SeqAt.EqAt A s u v (eqU x u)
  | _,_, .nil,_=>fun u hu=>by cases hu
  | y :: xs,u :: us, .cons r t,f=>fun u' hu=>by
    rw [List.all_cons,Bool.and_eq_true] at f
    rcases List.mem_cons.mp hu with rfl | hu
    · rw [zNl r f.1];exact zXr r rx f.1 fx
    · exact zpf rx fx t f.2 u' hu
noncomputable def inV (x:V) (xs:List V):Bool:=xs.any fun y=>eqV y x
noncomputable def rIn (K:PySem.W.Frag) (neg:Bool):R2:=fun x y H Q=>∃ p xs,y = .ref p∧(SqL K H p xs∨SqT K H p xs)∧zmg x=true∧xs.all zmg=true∧Q (.bl (if neg then !inV x xs else inV x xs)) H
theorem zzj:OpR X (compareOp .NotIn) (rIn X.K true):=by
  intro pins s σ H x y v u Q I rx ry h
  obtain ⟨p,xs,rfl,hq,fx,fs,q⟩:=h
  cases ry
  rcases hq with hq | hq
  · obtain ⟨its,r,pl,hz⟩:=I.list hq
    refine SeqAt.notIn_listAt (eqU x) pl.isList (fun w hw=>zpf rx fx r fs w (by simpa using hw)) ⟨.bl _,H,I,rfl,?_⟩
    rw [show its.toArray.any (eqU x)=its.any (eqU x) by simp,zVk r fs]
    exact q
  · obtain ⟨its,r,pl,hz⟩:=I.tuple hq
    refine SeqAt.notIn_tupleAt (eqU x) pl (fun w hw=>zpf rx fx r fs w (by simpa using hw)) ⟨.bl _,H,I,rfl,?_⟩
    rw [show its.toArray.any (eqU x)=its.any (eqU x) by simp,zVk r fs]
    exact q
theorem zck:zch X (.builtin "len") (fun xs H Q=>∃ p ys,xs = [.ref p]∧(SqL X.K H p ys∨SqT X.K H p ys)∧Q (.int ys.length) H):=by
  intro pins s σ H xs us Q I r h
  obtain ⟨p,ys,rfl,hq,q⟩:=h
  obtain ⟨u,rfl,rx⟩:=vals1 r
  cases rx
  have hn:=line63
  rcases hq with hq | hq
  · obtain ⟨its,r',pl,hz⟩:=I.list hq
    have hlen:=r'.length
    exact Calls.call_len_list pl.isList (by simp only [List.size_toArray] <;> lia) ⟨.int ys.length,H,I.tok _,⟨s.toks+1,by rw [List.size_toArray,hlen]⟩,q⟩
  · obtain ⟨its,r',pl,hz⟩:=I.tuple hq
    have hlen:=r'.length
    exact len_tuple pl (by simp only [List.size_toArray] <;> lia) ⟨.int ys.length,H,I.tok _,⟨s.toks+1,by rw [List.size_toArray,hlen]⟩,q⟩
theorem zjg:zch X (.type "list") (fun xs H Q=>∃ p ys,xs = [.ref p]∧(SqL X.K H p ys∨SqT X.K H p ys)∧∀ l,H l=none→Q (.ref l) (upd H l (.lst ys))):=by
  intro pins s σ H xs us Q I r h
  obtain ⟨p,ys,rfl,hq,q⟩:=h
  obtain ⟨u,rfl,rx⟩:=vals1 r
  cases rx
  have fin:∀ (its:List Value),Vals ys its→ys.length≤sizeLine→∀ (h':Heap) (c':Nat),(∀ b o',s.heap.get? b=some o'→h'.get? b=some o') →
      h'.get? s.heap.objs.size=some { cls := .type "list",dict:=none,data := .seq its.toArray c',slots:=#[] }→EP X pins σ Q (.ref s.heap.objs.size) { s with heap:=h' }:=fun its r' hz h' c' kp e =>
    ⟨.ref s.heap.objs.size,_,I.laid (t':=s.toks) kp (Nat.le_refl _) (show ObjOk X.prog X.w _ h' _ (.lst ys) from ⟨hz,its,c',r',e⟩),rfl,q _ (I.hok.fresh (Nat.le_refl _))⟩
  rcases hq with hq | hq
  · obtain ⟨its,r',pl,hz⟩:=I.list hq
    have hlen:=r'.length
    obtain ⟨o,ho,hc,n,hd⟩:=pl.isList
    exact call_list_seq p (.inl rfl) ho hc hd (fun h' c' kp e=>fin its r' hz h' c' kp e) (by simp only [List.size_toArray] <;> lia)
  · obtain ⟨its,r',pl,hz⟩:=I.tuple hq
    have hlen:=r'.length
    obtain ⟨o,ho,hc,n,hd⟩:=pl
    exact call_list_seq p (.inr rfl) ho hc hd (fun h' c' kp e=>fin its r' hz h' c' kp e) (by simp only [List.size_toArray] <;> lia)
theorem zyd:zch X (.type "tuple") (fun xs H Q=>∃ p ys,xs = [.ref p]∧((SqL X.K H p ys∧∀ l,H l=none→Q (.ref l) (upd H l (.tup ys)))∨(SqT X.K H p ys∧Q (.ref p) H))):=by
  intro pins s σ H xs us Q I r h
  obtain ⟨p,ys,rfl,h⟩:=h
  obtain ⟨u,rfl,rx⟩:=vals1 r
  cases rx
  rcases h with ⟨hq,q⟩ | ⟨hq,q⟩
  · obtain ⟨its,r',pl,hz⟩:=I.list hq
    have hlen:=r'.length
    refine call_tuple_list pl.isList (fun h' kp=>?_) (by simp only [List.size_toArray] <;> lia)
    have I1:Inv X pins σ H { s with heap:=h' }:=I.kept (t':=s.toks) kp
    have I2:Inv X pins σ (upd H h'.objs.size (.tup ys)) { s with heap:=h'.push { cls := .type "tuple",data := .seq its.toArray } } :=
      I1.laid (t':=s.toks) (fun b o e=>Heap.get?_push_of_some _ e) (Nat.le_refl _) (show ObjOk X.prog X.w _ _ _ (.tup ys) from ⟨hz,its,r',IsTup.new _ _⟩)
    exact ⟨.ref h'.objs.size,_,I2,rfl,q _ (I1.hok.fresh (Nat.le_refl _))⟩
  · obtain ⟨its,r',pl,hz⟩:=I.tuple hq
    exact call_tuple_same pl ⟨.ref p,H,I,rfl,q⟩
noncomputable def tyV (K:PySem.W.Frag) (T:String) (x:V) (H:Hp):Prop:=match x with
  | .str _=>T = "str"
  | .int _=>T = "int"
  | .ref p=>(T = "list"∧∃ xs,SqL K H p xs)∨(T = "tuple"∧∃ o,K.lookup p=some o∧o.cls = .type "tuple"∧o.dict=none) ∨
      (T = "dict"∧((∃ kvs,H p=some (.dK kvs))∨∃ kvs,H p=some (.dT kvs)))∨(T = "set"∧∃ S n,H p=some (.set S n))
  | _=>False
theorem zFr {pins:List (Addr×Obj)} {σ:St} {H:Hp} {s:Shared} {T:String} {x:V} {v:Value} (I:Inv X pins σ H s) (r:RelV x v) (ty:tyV X.K T x H) :
    s.TypeIs v T∧∀ a,v = .ref a→∃ ob,s.heap.get? a=some ob∧ob.dict=none:=by
  cases x with
  | str z =>
    obtain ⟨t,rfl⟩:=r
    cases (show T = "str" from ty)
    exact ⟨typeIs_str s z t,fun _ e=>nomatch e⟩
  | int i =>
    obtain ⟨t,rfl⟩:=r
    cases (show T = "int" from ty)
    exact ⟨typeIs_int s i t,fun _ e=>nomatch e⟩
  | ref p =>
    cases r
    rcases ty with ⟨rfl,xs,hq⟩ | ⟨rfl,o,hk,hc,hd⟩ | ⟨rfl,hk⟩ | ⟨rfl,S,n,hk⟩
    · obtain ⟨its,_,pl,_⟩:=I.list hq
      refine ⟨pl.isList.typeIs,fun a e=>?_⟩
      cases e
      obtain ⟨o,n,e,c,hd,_⟩:=pl
      exact ⟨o,e,hd⟩
    · refine ⟨⟨o,I.kIn p o hk,hc⟩,fun a e=>?_⟩
      cases e
      exact ⟨o,I.kIn _ o hk,hd⟩
    · have z:∃ o,s.heap.get? p=some o∧o.ExactDict:=by
        rcases hk with ⟨kvs,hk⟩ | ⟨kvs,hk⟩
        · obtain ⟨_,_,_,_,o,_,_,e,ex,_⟩:=I.hok p _ hk
          exact ⟨o,e,ex⟩
        · obtain ⟨_,_,_,_,o,_,_,e,ex,_⟩:=I.hok p _ hk
          exact ⟨o,e,ex⟩
      obtain ⟨o,e,ex⟩:=z
      refine ⟨⟨o,e,ex.1⟩,fun a e2=>?_⟩
      cases e2
      exact ⟨o,e,ex.2.1⟩
    · obtain ⟨o,_,_,_,e,ex,_⟩:=I.hok p _ hk
      refine ⟨⟨o,e,ex.1⟩,fun a e2=>?_⟩
      cases e2
      exact ⟨o,e,ex.2.1⟩
  | _=>exact False.elim ty
noncomputable def tBM (K:PySem.W.Frag) (T:String) (r:V→List V→Hp→VK→Prop) (to:TE) (t:TA):TE:=fun σ H Q=>to σ H fun x H1=>tyV K T x H1∧t σ H1 fun xs H2=>r x xs H2 Q
variable {o e:Expr} {es:List Expr} {to:TE} {t:TA} {name:Str} {apos cpos:Pos} {T id:String} {r:V→List V→Hp→VK→Prop}
theorem zlt (pa:PlainAttrs T) (slot:Slot T name id) (hty:typeOf (.builtin id)=pure (.type "method_descriptor")) (hm:MtR X id r) (ho:PE X o to) (ha:PA X (e :: es) t)
    (hbase:attributeBase o name X.env (eval o X.env)=eval o X.env:=by rfl)
    (hfew:((backTo cpos (starEach (e :: es) X.env)).all (fun x=>!x.1) && (backToKw cpos (keywordEach [] X.env)).all (fun x=>x.1.isSome)
      && decide ((e :: es).length+([]:List Keyword).length+(if ([]:List Keyword).isEmpty then 0 else 1)<30))=true:=by rfl)
    (hline:(apos.endLine == cpos.line)=true:=by rfl) (hs:starEach (e :: es) X.env=(false,eval e X.env) :: starEach es X.env:=by rfl) (hplain:(backTo cpos (starEach es X.env)).any (·.1)=false:=by rfl) :
    PE X (.Call (.Attribute o name apos) (e :: es) [] cpos) (tBM X.K T r to t):=by
  intro pins s σ H Q I h
  refine wpAny_Call_method_late hbase hfew hline rfl (thn (ho pins s σ H _ I h) fun v s1 ⟨x,H1,I1,r1,ty,q1⟩=>?_)
  obtain ⟨h1,h2⟩:=zFr I1 r1 ty
  refine ⟨T,id,pa,slot,hty,h1,h2,?_⟩
  have hA:=ha cpos pins s1 σ H1 _ I1 q1
  rw [hs] at hA ⊢
  refine Calls.callWith_builtin (by show (false || (backTo cpos (starEach es X.env)).any (·.1))=false;rw [hplain] <;> rfl) (Calls.evalArgs_plain ?_)
  exact thn hA fun us s2 ⟨vs,H2,I2,r2,q2⟩=>hm pins s2 σ H2 x vs v us Q I2 r1 r2 q2
end
end L2
namespace L2
open PySem PySem.Spec PyProof.Rows
noncomputable def MtM (X:Cx) (id:String) (r:V→List V→Hp→VK→Prop):Prop :=
  ∀ (pins:List (Addr×Obj)) (s:Shared) (σ:St) (H:Hp) (x:V) (xs:List V) (v:Value) (us:List Value) (Q:VK),Inv X pins σ H s→RelV x v→Vals xs us→r x xs H Q →
    wpAny (model X.prog X.w) X.A (call (.builtin id) (v :: us)) (EP X pins σ Q) X.xe s
theorem Vals.uncons {x:V} {xs:List V} {us:List Value} (h:Vals (x :: xs) us):∃ u ws,us=u :: ws∧RelV x u∧Vals xs ws:=by
  cases h with
  | cons r t=>exact ⟨_,_,rfl,r,t⟩
theorem Vals.unnil {us:List Value} (h:Vals [] us):us = []:=by
  cases h
  rfl
theorem Vals.one {x:V} {us:List Value} (h:Vals [x] us):∃ u,us = [u]∧RelV x u:=by
  obtain ⟨u,ws,e,r,t⟩:=h.uncons
  exact ⟨u,by rw [e,t.unnil],r⟩
theorem Vals.reverse {xs:List V} {us:List Value} (h:Vals xs us):Vals xs.reverse us.reverse:=by
  induction h with
  | nil=>exact .nil
  | cons r t ih=>rw [List.reverse_cons,List.reverse_cons];exact Vals.append ih (.cons r .nil)
theorem Vals.rep {xs:List V} {us:List Value} (h:Vals xs us):∀ k:Nat,Vals (List.replicate k xs).flatten (List.replicate k us).flatten
  | 0 => .nil
  | k+1=>by
    rw [List.replicate_succ,List.replicate_succ,List.flatten_cons,List.flatten_cons]
    exact Vals.append h (Vals.rep h k)
theorem z6j (its:List Value):∀ (k:Nat) (acc:List Value),
    List.foldl (fun x1 x2=>x1++x2) acc.toArray (List.replicate k its.toArray)=(acc++(List.replicate k its).flatten).toArray
  | 0,acc=>by simp
  | k+1,acc=>by
    have e:acc.toArray++its.toArray=(acc++its).toArray:=by simp
    have e2:(acc++its)++(List.replicate k its).flatten=acc++(List.replicate (k+1) its).flatten:=by
      rw [List.replicate_succ,List.flatten_cons,List.append_assoc]
    rw [← e2,← z6j its k (acc++its),← e,List.replicate_succ,List.foldl_cons]
section
variable {X:Cx} {pins:List (Addr×Obj)} {σ:St} {H:Hp} {s:Shared} {l b:Addr} {xs ys zs:List V}
theorem Inv.lset {its its':List Value} {n:Nat} {f:Array Value→Array Value} {t':Nat} (I:Inv X pins σ H s) (hH:H l=some (.lst xs))
    (e:s.heap.get? l=some { cls := .type "list",data := .seq its.toArray n }) (hf:f its.toArray=its'.toArray) (hv:Vals ys its') (hz:ys.length≤sizeLine) :
    Inv X pins σ (upd H l (.lst ys)) { s with heap:=s.heap.update l (Obj.mapSeq f),toks:=t' }:=by
  have q:=PySem.IsL.update e f
  rw [hf] at q
  refine I.write (x:=l) (e:=l) (by rw [hH];exact trivial) (.inl rfl) (fun b' u hb hu=>(Heap.get?_update_other s.heap (Obj.mapSeq f) (Ne.symm hb)).trans hu) ⟨_,q⟩ ?_
  exact ⟨hz,its',_,hv,q⟩
theorem Inv.lnew {its:List Value} {t':Nat} (I:Inv X pins σ H s) (hv:Vals ys its) (hz:ys.length≤sizeLine) :
    Inv X pins σ (upd H s.heap.objs.size (.lst ys)) { s with heap:=s.heap.push { cls := .type "list",data := .seq its.toArray },toks:=t' } :=
  I.laid (fun _ _ q=>Heap.get?_push_of_some _ q) (Nat.le_refl _) ⟨hz,its,0,hv,Heap.get?_push_size _ rfl⟩
theorem Inv.fresh (I:Inv X pins σ H s):H s.heap.objs.size=none:=I.hok.fresh (Nat.le_refl _)
theorem Inv.lstM (I:Inv X pins σ H s) (hH:H l=some (.lst xs)):xs.length≤sizeLine∧∃ (its:List Value) (n:Nat),Vals xs its∧xs.length=its.length∧s.heap.get? l=some { cls := .type "list",data := .seq its.toArray n }:=by
  obtain ⟨z,its,n,r,e⟩:=I.hok l _ hH
  exact ⟨z,its,n,r,r.length,e⟩
theorem notLongL {n:Nat} (h:n≤sizeLine):Builtin.List.listTooLong n=false:=by
  unfold Builtin.List.listTooLong
  exact decide_eq_false (by first|decide|lia)
end
section
variable {X:Cx}
noncomputable def z3p:V→List V→Hp→VK→Prop:=fun x vs H Q=>∃ l xs y,x = .ref l∧vs = [y]∧H l=some (.lst xs)∧xs.length<sizeLine∧Q .non (upd H l (.lst (xs ++ [y])))
theorem zUm:MtM X "list.append" z3p:=by
  intro pins s σ H x vs v us Q I rx rv h
  obtain ⟨l,xs,y,rfl,rfl,hH,hz,q⟩:=h
  cases rx
  obtain ⟨u,rfl,ru⟩:=rv.one
  obtain ⟨z,its,n,r,hl,e⟩:=I.lstM hH
  refine call_meets F.slot_list_append ⟨_,e,rfl⟩ F.entry_list_append (F.args_list_append_2 _ _) (PySem.list_append l its.toArray n u (by rw [List.size_toArray];lia)) ⟨e,?_⟩
  refine ⟨.non,_,I.lset (its':=its ++ [u]) hH e (by simp) (r.append (.cons ru .nil)) ?_,rfl,q⟩
  rw [List.length_append,List.length_singleton]
  lia
noncomputable def zUq:V→List V→Hp→VK→Prop:=fun x vs H Q=>∃ l b xs zs,x = .ref l∧vs = [.ref b]∧H l=some (.lst xs)∧H b=some (.lst zs)∧xs.length+zs.length≤sizeLine∧Q .non (upd H l (.lst (xs++zs)))
theorem zon:MtM X "list.extend" zUq:=by
  intro pins s σ H x vs v us Q I rx rv h
  obtain ⟨l,b,xs,zs,rfl,rfl,hH,hB,hz,q⟩:=h
  cases rx
  obtain ⟨u,rfl,ru⟩:=rv.one
  cases ru
  obtain ⟨z,its,n,r,hl,e⟩:=I.lstM hH
  obtain ⟨z2,its2,n2,r2,hl2,e2⟩:=I.lstM hB
  have hsz:its.toArray.size+its2.toArray.size≤sizeLine:=by rw [List.size_toArray,List.size_toArray];lia
  have hlong:¬ (!its.toArray.isEmpty && Builtin.List.listTooLong (its.toArray.size+its2.toArray.size))=true:=by
    rw [notLongL hsz,Bool.and_false]
    exact Bool.false_ne_true
  refine call_meets F.slot_list_extend ⟨_,e,rfl⟩ F.entry_list_extend (F.args_list_extend_2 _ _)
    (AutoSeq1.list_extend_list_list_0 l its.toArray n b its2.toArray n2 hlong (by rw [List.size_toArray];lia) (by first|decide|lia)) ⟨e,e2,?_⟩
  refine ⟨.non,_,I.lset (its':=its++its2) hH e (by simp) (r.append r2) ?_,rfl,q⟩
  rw [List.length_append]
  lia
noncomputable def zdu:R2:=fun x y H Q=>∃ l b xs zs,x = .ref l∧y = .ref b∧H l=some (.lst xs)∧H b=some (.lst zs)∧xs.length+zs.length≤sizeLine∧∀ p,H p=none→Q (.ref p) (upd H p (.lst (xs++zs)))
theorem z4r:OpR X (binaryOp .Add) zdu:=by
  intro pins s σ H x y v u Q I rx ry h
  obtain ⟨l,b,xs,zs,rfl,rfl,hH,hB,hz,q⟩:=h
  cases rx
  cases ry
  obtain ⟨z,its,n,r,hl,e⟩:=I.lstM hH
  obtain ⟨z2,its2,n2,r2,hl2,e2⟩:=I.lstM hB
  refine PySem.P.add_list e e2 ?_ (by rw [List.size_toArray,List.size_toArray];lia)
  have ea:its.toArray++its2.toArray=(its++its2).toArray:=by simp
  rw [ea]
  exact ⟨.ref _,_,I.lnew (t':=s.toks) (r.append r2) (by rw [List.length_append];lia),rfl,q _ I.fresh⟩
noncomputable def zlu:R2:=fun x y H Q=>∃ l k xs,x = .ref l∧y = .int k∧H l=some (.lst xs)∧-(2 ^ 63)≤k∧k<2 ^ 63∧xs.length * k.toNat≤sizeLine ∧
  ∀ p,H p=none→Q (.ref p) (upd H p (.lst (List.replicate k.toNat xs).flatten))
theorem z7m {α:Type} (xs:List α) (k:Nat):(List.replicate k xs).flatten.length=k * xs.length:=by
  induction k with
  | zero=>simp
  | succ k ih=>rw [List.replicate_succ,List.flatten_cons,List.length_append,ih,Nat.succ_mul,Nat.add_comm]
theorem zWr:OpR X (binaryOp .Mult) zlu:=by
  intro pins s σ H x y v u Q I rx ry h
  obtain ⟨l,k,xs,rfl,rfl,hH,h1,h2,hz,q⟩:=h
  cases rx
  obtain ⟨t,rfl⟩:=ry
  obtain ⟨z,its,n,r,hl,e⟩:=I.lstM hH
  have hlen:its.toArray.size * k.toNat≤sizeLine:=by rw [List.size_toArray,← hl];exact hz
  have hcap:¬ its.toArray.size * k.toNat > (2 ^ 63 - 1) / 8:=by
    have:(sizeLine:Nat)≤(2 ^ 63 - 1) / 8:=by decide
    lia
  have hfit:¬ (!Builtin.List.listFitsIndex k)=true:=by
    rw [fitsIndex_both h1 h2]
    exact Bool.false_ne_true
  have hlong:¬ Builtin.List.listTooLong (its.toArray.size * k.toNat)=true:=by
    rw [notLongL hlen]
    exact Bool.false_ne_true
  have hnew:List.foldl (fun x1 x2=>x1++x2) #[] (List.replicate (if its.toArray.isEmpty=true then 0 else k.toNat) its.toArray)=(List.replicate k.toNat its).flatten.toArray:=by
    have f0:∀ m:Nat,List.foldl (fun x1 x2=>x1++x2) #[] (List.replicate m its.toArray)=(List.replicate m its).flatten.toArray:=fun m=>by
      have:=z6j its m []
      rw [List.nil_append] at this
      exact this
    rw [f0]
    cases its with
    | nil=>simp
    | cons a r'=>rw [if_neg (by simp)]
  refine wpAny_binaryOp_repeat_ref (T:="list") (U:="int") (by decide) ⟨_,e,rfl⟩ (fun s'=>typeIs_int s' k t) noFill_list_mul F.fills_int_mul F.slot_int_rmul repeat_list F.slot_int_index.lookup
    (call_meets F.slot_int_rmul (typeIs_int s k t) F.entry_int_rmul (F.args_int_rmul_2 _ _) (int___rmul___int_list k t l its.toArray n)
      ⟨e,rfl,⟨_,e,rfl⟩,call_meets F.slot_list_mul ⟨_,e,rfl⟩ F.entry_list_mul (F.args_list_mul_2 _ _) (AutoListH.list___mul___list_int_3 l its.toArray n k t hfit hcap hlong) ⟨e,?_⟩⟩)
  rw [hnew]
  exact ⟨.ref _,_,I.lnew (t':=s.toks) (r.rep k.toNat) (by rw [z7m,Nat.mul_comm];exact hz),rfl,q _ I.fresh⟩
end
section
variable {prog:Program} {w:World} {A:Around} {E:Value→Shared→Prop} {s:Shared}
end
section
variable {X:Cx}
end
end L2
namespace Att
open PySem PySem.W PySem.Calls PyProof.Rows
theorem zSg {P:Params} {h:Heap}:∀ (ns:List Int) (vs:List Value),WellAll P h vs (ns.map WData.int)→IntsAre vs ns:=by
  intro ns
  induction ns with
  | nil =>
    intro vs w
    rw [List.map_nil] at w
    cases w
    exact .nil
  | cons n ns ih =>
    intro vs w
    rw [List.map_cons] at w
    cases w with
    | cons a b =>
      cases a
      exact .cons _ _ (ih _ b)
theorem zVm {l:OpenLaw} {n:Nat} (hn:l.most=some n) {P:Params} {h:Heap} {args:List WData} {vals:List Value}
    (hpre:l.row.toRowW.claim.pre args=true) (hwl:WellAll P h vals args) :
    ∃ a vs ns,vals = [Value.ref a]∧args = [WData.list (ns.map WData.int)]∧h.get? a=some { cls := .type "list",data := .seq vs.toArray }∧IntsAre vs ns∧ns.length≤n:=by
  have hsh:WShape.hasAll [] args [.list .int]=true:=(pre_splitW hpre).1
  have hc:l.pre.holds [] { args:=args } = true:=(pre_splitW hpre).2
  obtain ⟨d,r,rfl,h1,h2⟩:=hasAllW_cons hsh
  obtain rfl:=hasAllW_nil h2
  obtain ⟨xs,rfl,h3⟩:=hasW_list h1
  obtain ⟨ns,rfl⟩:=items_int h3
  have hlen:ns.length≤n:=by
    unfold OpenLaw.pre at hc
    have h4:(WTm.not (.lt (.lit (.int (n:Int))) (.len (.arg 0)))).holds [] { args:=[.list (ns.map .int)] } = true:=by
      have h4:=(holds_andW hc).1
      rw [hn] at h4
      exact h4
    have h5:=condW_of h4 (w_not (w_lt w_lit (w_len_list (w_arg rfl))))
    rw [List.length_map] at h5
    refine Nat.le_of_not_lt fun q=>?_
    have q':(n:Int)<((ns.length:Nat):Int):=by lia
    first
      | (rw [decide_eq_true q'] at h5;exact absurd h5 (by decide))
      | (simp at h5;lia)
  cases hwl with
  | cons w1 w2 =>
    cases w2
    cases w1 with
    | list ho hall=>exact ⟨_,_,ns,rfl,rfl,ho,zSg ns _ hall,hlen⟩
theorem zfn (l:OpenLaw) (args:List WData):l.row.toRowW.claim.post args (.bool true) args=true :=
  postW_of (r:=l.row.toRowW) (X:=(true == true))
    (show WShape.has [] (.bool true) .bool=true by first | rfl | decide | simp [WShape.has,WShape.arms,WShape.armsAll])
    (show (WTm.eq .res (.lit (.bool true))).value [] { args:=args,res:=some (.bool true),after:=args } = some (.bool (true == true)) from w_eq_bool (w_res rfl) w_lit) rfl
theorem attach_call {l:OpenLaw} {n:Nat} {q:Program} {loose:List Str} {XP:(Str→Option Value)→Heap→Prop} {YP:World→Heap→Prop} {d:DefRec}
    (hn:l.most=some n) (hdf:d.params.defaults = [])
    (call:∀ (w:World) (s₀ s₁:Shared) (mg mb:Str→Option Value) (fa:Addr) (o:Obj) (pm cd doc:Value) (a:Addr) (vs:List Value) (ns:List Int),
      Ground q loose [] XP w s₀ mg mb s₁.heap→YP w s₁.heap →
      s₁.heap.get? fa=some o→o.data = .func (docDef d.name d.params d.body d.scope pm cd doc)→s₁.heap.CodeRec cd d.name→mg d.name=some (.ref fa) →
      s₁.heap.get? a=some { cls := .type "list",data := .seq vs.toArray }→IntsAre vs ns→ns.length≤n→s₁.gens = #[] →
      codeAny (model l.prog w) callerA (.call (.ref fa) ⟨[.ref a],[]⟩) (fun r s'=>r = .ok (.ret (.bool true))∧OldK s₁.heap s'.heap∧s'.os=s₁.os∧AllBare s'.gens) s₁) :
    WalkO q loose XP YP l.row.toRowW d [] (fun f vs=>PySem.call f vs):=by
  intro w s₀ s₁ mg mb G Y fa o pm cd doc dV kV ho hd hcd hD hmg hg args vals as hpre hlay hrd hwl hlo
  obtain rfl:dV = .none:=Dflts.none hD hdf
  obtain rfl:kV = .none:=Dflts.noKw hD
  obtain ⟨a,vs,ns,rfl,rfl,hobj,hints,hlen⟩:=zVm hn hpre hwl
  refine enter_call (codeAny_mono (call w s₀ s₁ mg mb fa o pm cd doc a vs ns G Y ho (fd_plain hd) hcd hmg hobj hints hlen hg) fun r s' hq=>?_)
  obtain ⟨rfl,h2,h3,h4⟩:=hq
  exact ⟨.inl ⟨.bool true, .bool true,[],rfl,fun _=>rfl, .bool true,zfn l _,fun _=>⟨List.Pairwise.nil,fun _ hm=>(nomatch hm)⟩⟩,h2,h3,h4⟩
section
variable {prog:Program} {w:World} {A:Around} {E:Value→Shared→Prop} {s:Shared} {K:Frag}
end
end Att
namespace L2
open PySem PySem.Spec PyProof.Rows
theorem zbk:∀ {vs:List Value} {ns:List Int},IntsAre vs ns→Vals (ns.map V.int) vs
  | _,_, .nil => .nil
  | _,_, .cons n t h => .cons ⟨t,rfl⟩ (zbk h)
noncomputable def zVs (H:Hp):Prop:=∀ b,H b=none∨∃ o xs,H b=some (.frz o (.lst xs))
theorem znp {P:Program} {w:World} {K:PySem.W.Frag} {mg mb:Str→Option Value} {CX:CXT} {k:Nat} {fa a:Addr} {fd:FuncData} {x:Str} {sp:Sp} {s₁:Shared} {vs:List Value} {ns:List Int}
    (KX:K.In s₁.heap) (hns:s₁.heap.Ns mainGlobals mg) (hb:s₁.heap.Ns builtinsNs mb) (hbb:∀ x:Str,x≠"__name__"→mb x=bootBuiltins x) (hlim:s₁.heap.NoLimit) (hg:s₁.gens = #[])
    (ha:s₁.heap.get? a=some { cls := .type "list",data := .seq vs.toArray }) (hi:IntsAre vs ns) (hl:ns.length≤sizeLine) (hr:Room k callerA)
    (F:∀ base:Heap,K.In base→base.Ns mainGlobals mg→FnOk P w K mg base CX k fa fd [x] sp) (hbind:∀ (s:Shared) (u:Value),BindsTo s fd ⟨[u],[]⟩ [(x,u)])
    (hsp:∀ H:Hp,zVs H→SqL K H a (ns.map V.int)→sp [.ref a] H (fun v _=>v = .bl true) fun _ _ _=>False)
    (hCX:∀ H e s',CX [] H s₁ (fun _ _ _=>False) e s'→False) :
    codeAny (model P w) callerA (.call (.ref fa) ⟨[.ref a],[]⟩) (fun r s'=>r = .ok (.ret (.bool true))∧OldK s₁.heap s'.heap∧s'.os=s₁.os∧AllBare s'.gens) s₁:=by
  have rv:=zbk hi
  have lenV:=hi.length
  have core:∀ H:Hp,zVs H→SqL K H a (ns.map V.int)→HOk P w H s₁.heap→(∀ b,H b≠none→b=a)→(H a≠none→K.lookup a=none) →
      codeAny (model P w) callerA (.call (.ref fa) ⟨[.ref a],[]⟩) (fun r s'=>r = .ok (.ret (.bool true))∧OldK s₁.heap s'.heap∧s'.os=s₁.os∧AllBare s'.gens) s₁:=by
    intro H hO hS hok hA hK
    have base_of:∀ {b:Addr} {o:Obj},s₁.heap.get? b=some o→H b=none→(zQo s₁.heap H).get? b=some o:=fun e n=>zbp e n
    have noA:∀ {b:Addr} {o:Obj} {es:Array DictEntry} {ep:Nat},s₁.heap.get? b=some o→o.data = .dict es ep→H b=none:=fun {b o es ep} e d=>by
      cases q:H b with
      | none=>rfl
      | some u =>
        have e':b=a:=hA b (by rw [q];simp)
        subst e'
        rw [ha] at e;cases e
        have d':Data.seq vs.toArray _=Data.dict es ep:=d
        cases d'
    have nsK:∀ {b:Addr} {m:Str→Option Value},s₁.heap.Ns b m→(zQo s₁.heap H).Ns b m:=fun {b m} ⟨o,es,ep,e,d,r⟩=>⟨o,es,ep,base_of e (noA e d),d,r⟩
    have hKb:K.In (zQo s₁.heap H):=fun b o e=>base_of (KX b o e) (by
      cases q:H b with
      | none=>rfl
      | some u =>
        have e':b=a:=hA b (by rw [q];simp)
        subst e'
        rw [hK (by rw [q];simp)] at e;cases e)
    have hM:Mod K mg (zQo s₁.heap H):=⟨hKb,nsK hns,⟨mb,nsK hb,hbb⟩,let ⟨mc,h1,h2⟩:=hlim;⟨mc,nsK h1,h2⟩⟩
    have e0:Env0 P w K mg (zQo s₁.heap H) callerA [] s₁ H:=⟨rfl,hM,fun b o e=>zWq e,Nat.le_of_eq (zun _ _),trivial,fun b hb=>absurd (show b∈([]:List Addr) from hb) (by simp),hok, .of_eq hg⟩
    refine codeAny_mono ((F _ hKb (nsK hns)).run callerA [] s₁ H ⟨[.ref a],[]⟩ [.ref a] [.ref a] _ _ hr e0 (hbind s₁ (.ref a)) (.cons rfl .nil) (hsp H hO hS)) fun r s' h=>?_
    cases r with
    | error e=>exact (hCX H e s' h).elim
    | ok fl =>
      cases fl with
      | next=>exact False.elim h
      | brk=>exact False.elim h
      | cont=>exact False.elim h
      | ret u =>
        obtain ⟨v,H',os,bare,un,hok',r',q⟩:=h
        have q':v = .bl true:=q
        subst q'
        obtain rfl:u=Value.bool true:=r'
        refine ⟨rfl,OldK.of_keep fun b o e=>?_,os,bare⟩
        cases q:H b with
        | none=>exact un.keep b o e q (by intro z;exact absurd (show b∈([]:List Addr) from z) (by simp)) (by simp)
        | some u =>
          rcases hO b with z | ⟨ob,xs,z⟩
          · rw [q] at z;cases z
          · have z2:=un.frzs b ob _ z
            obtain ⟨e1,_⟩:=hok b _ z
            obtain ⟨e2,_⟩:=hok' b _ z2
            rw [e] at e1;cases e1
            exact e2
  cases hk:K.lookup a with
  | some o =>
    have e:=KX a o hk
    rw [ha] at e
    cases e
    refine core (fun _=>none) (fun _ => .inl rfl) (.inr ⟨_,vs.toArray,_,hk,rfl,rfl,rfl,by rw [List.size_toArray,lenV];exact hl,by simpa using rv⟩) (fun b u z=>by have z':(none:Option HO)=some u:=z;cases z') (fun b z=>absurd rfl z) fun z=>absurd rfl z
  | none =>
    refine core (fun b=>if b=a then some (.frz { cls := .type "list",data := .seq vs.toArray } (.lst (ns.map V.int))) else none) (fun b=>?_) (.inl (.inr ⟨{ cls := .type "list",data := .seq vs.toArray },if_pos rfl⟩)) (fun b u z=>?_) (fun b z=>?_) fun _=>hk
    · by_cases hb:b=a
      · exact .inr ⟨_,_,if_pos hb⟩
      · exact .inl (if_neg hb)
    · by_cases hb:b=a
      · have z':=(if_pos hb).symm.trans z
        cases z'
        subst hb
        exact ⟨ha,by rw [List.length_map];exact hl,vs,_,rv,ha⟩
      · have z':=(if_neg hb).symm.trans z
        cases z'
    · by_cases hb:b=a
      · exact hb
      · exact absurd (if_neg hb) z
end L2
namespace L2
open PySem PySem.Spec PyProof.Rows
theorem walk_of {l:PySem.W.OpenLaw} {n k:Nat} {q:Program} {loose:List Str} {XP:(Str→Option Value)→Heap→Prop} {YP:World→Heap→Prop} {d:DefRec} {K:Params→PySem.W.Frag} {CX:World→CXT} {sp:World→Sp} {x:Str}
    (hn:l.most=some n) (hn2:n≤sizeLine) (hdf:d.params.defaults = []) (hr:Room k callerA)
    (hY:∀ (w:World) (h:Heap),YP w h→(K w.params).In h)
    (F:∀ (w:World) (mg:Str→Option Value) (fa:Addr) (h:Heap),(K w.params).In h→h.Ns mainGlobals mg→mg d.name=some (.ref fa) →
      ∃ fd:FuncData,(∀ (s:Shared) (u:Value),BindsTo s fd ⟨[u],[]⟩ [(x,u)]) ∧
        ∀ base:Heap,(K w.params).In base→base.Ns mainGlobals mg→FnOk l.prog w (K w.params) mg base (CX w) k fa fd [x] (sp w))
    (hsp:∀ (w:World) (H:Hp) (a:Addr) (ns:List Int),ns.length≤n→zVs H→SqL (K w.params) H a (ns.map V.int)→sp w [.ref a] H (fun v _=>v = .bl true) fun _ _ _=>False)
    (hCX:∀ (w:World) (H:Hp) (s:Shared) (e:Value) (s':Shared),CX w [] H s (fun _ _ _=>False) e s'→False) :
    PySem.W.WalkO q loose XP YP l.row.toRowW d [] (fun f vs=>PySem.call f vs):=by
  refine Att.attach_call hn hdf fun w s₀ s₁ mg mb fa o pm cd doc a vs ns G Y ho hd hcd hmg hobj hints hlen hg=>?_
  have KX:=hY w _ Y
  obtain ⟨fd,hb,hF⟩:=F w mg fa _ KX G.T.g hmg
  exact znp KX G.T.g G.T.b G.T.builtins G.T.nolimit hg hobj hints (Nat.le_trans hlen hn2) hr hF hb (fun H hO hS=>hsp w H a ns hlen hO hS) fun H e s'=>hCX w H s₁ e s'
end L2
namespace L2
open PySem PySem.Spec PyProof.Rows
noncomputable def zJ (s:Stmt):Arguments:=match s with
  | .FunctionDef _ a _ _ _ _ _ _ _ _=>a
  | _=>{ posonlyargs:=[],args:=[],vararg:=none,kwonlyargs:=[],kw_defaults:=[],kwarg:=none,defaults:=[] }
noncomputable def zD (s:Stmt):List Stmt:=match s with
  | .FunctionDef _ _ b _ _ _ _ _ _ _=>b
  | _=>[]
noncomputable def zi (s:Stmt):Scope:=match s with
  | .FunctionDef _ _ _ _ _ _ sc _ _ _=>sc
  | _=>{ kind := .function,names:=[],isGenerator:=false,isCoroutine:=false }
noncomputable abbrev CX0:CXT:=fun _ _ _ _ _ _=>False
noncomputable abbrev E0:XK:=fun _ _ _=>False
theorem pass0 {X:Cx}:zWm CX0 X E0:=fun _ _ _ _ _ _ _ h=>h.elim
structure Fun (K:PySem.W.Frag) (x qual:Str) (st:Stmt) (f:Addr) (fd:FuncData):Prop where
  ex:∃ (oc:Value) (od:Option Addr) (kV doc pm:Value) (an:Option Addr) (cdv ct:Value) (osl:Array (Option Value)),
    fd=PySem.W.fnOf x qual (zJ st) (zD st) (zi st) .none kV doc pm an cdv ct∧K.lookup f=some ⟨oc,od, .func fd,osl⟩∧PySem.W.codeIn K cdv qual=true
  kp:PySem.W.keepIn K (.ref f)=true
section
variable {P:Program} {w:World} {K:PySem.W.Frag} {mg:Str→Option Value} {base:Heap}
theorem Fun.ok {x qual:Str} {st:Stmt} {f:Addr} {fd:FuncData} {N ps:List Str} {k:Nat} {sp:Sp} (F:Fun K x qual st f fd) (S:FnScope N ps (zi st)) (len:∀ vs H Q E,sp vs H Q E→vs.length=ps.length)
    (hbody:∀ (cdv:Value) (A:Around) (outer:List Env) (s:Shared) (H:Hp) (vs:List V) (Q:VK) (E:XK),Room k (A.deeper (envOfC qual (zi st) s.heap.objs.size f cdv))→sp vs H Q E →
      ∃ t,PSs (zen CX0 P w K mg base N qual (zi st) f cdv A outer s H E).nox (zD st) t∧t { nx:=fun _ H'=>Q .non H',rt:=Q } (start N vs) H):FnOk P w K mg base CX0 (k+1) f fd ps sp:=by
  obtain ⟨oc,od,kV,doc,pm,an,cdv,ct,osl,rfl,lk,hcd⟩:=F.ex
  refine zKs lk hcd S len fun A outer s H vs Q E hr hsp=>?_
  obtain ⟨t,h,q⟩:=hbody cdv A outer s H vs Q E hr hsp
  exact ⟨t,h.nox,q⟩
theorem Fun.binds {x qual:Str} {st:Stmt} {f:Addr} {fd:FuncData} {ps:List Str} (F:Fun K x qual st f fd)
    (h:∀ (kV doc pm:Value) (an:Option Addr) (cdv ct:Value) (us:List Value),us.length=ps.length→bindArgs (PySem.W.fnOf x qual (zJ st) (zD st) (zi st) .none kV doc pm an cdv ct) ⟨us,[]⟩ = pure (ps.zip us)):Binds K fd ps []:=by
  obtain ⟨oc,od,kV,doc,pm,an,cdv,ct,osl,rfl,lk,hcd⟩:=F.ex
  exact .all (h kV doc pm an cdv ct)
theorem zy {x qual:Str} {st:Stmt} {f:Addr} {oc:Value} {od an:Option Addr} {osl:Array (Option Value)} {kV doc pm cdv ct:Value} (l:K.lookup f=some ⟨oc,od, .func (PySem.W.fnOf x qual (zJ st) (zD st) (zi st) .none kV doc pm an cdv ct),osl⟩)
    (c:PySem.W.codeIn K cdv qual=true) (k:PySem.W.keepIn K (.ref f)=true):Fun K x qual st f (PySem.W.fnOf x qual (zJ st) (zD st) (zi st) .none kV doc pm an cdv ct):=⟨⟨oc,od,kV,doc,pm,an,cdv,ct,osl,rfl,l,c⟩,k⟩
end
theorem small1000 {n:Nat} (h:n≤1000):n<sizeLine:=Nat.lt_of_le_of_lt h (by decide)
section
variable {X:Cx}
theorem pv (i:Nat) {x:Str} {pos:Pos} (hN:X.N[i]?=some x:=by rfl) (hv:Vis X.env.scope x:=by first | exact Or.inl rfl | exact Or.inr (Or.inl rfl) | exact Or.inr (Or.inr rfl)) (hd:(x == ("__debug__":Str))=false:=by decide)
    (hcd:(x == ("__classdict__":Str))=false:=by decide):PE X (.Name x pos) (zMt i):=zMp hN hv hd hcd
end
theorem iteF {A B:Prop} (h:B):if false=true then A else B:=by
  rw [if_neg Bool.false_ne_true]
  exact h
theorem iteT {A B:Prop} (h:A):if true=true then A else B:=by
  rw [if_pos rfl]
  exact h
end L2
set_option Elab.async false
set_option linter.all false
set_option maxRecDepth 100000
set_option autoImplicit false
namespace L2
open PySem PySem.Spec PyProof.Rows
theorem zKh (f:Array Value→Array Value) (o:Obj):(Obj.mapFields f o).dict=o.dict:=by
  unfold Obj.mapFields
  split <;> rfl
noncomputable def Trc (B h:Heap) (e:Addr) (x:Value):Prop:=x = .none∨∃ T oT ts y,x = .ref T∧B.get? T=none∧T≠e∧h.get? T=some oT∧oT.data = .fields ts∧ts[3]?=some y
structure Fly (B:Heap) (l:List Env) (e:Addr) (cls:Value) (dx:Option Addr) (h:Heap):Prop where
  st:B.StaysIn h
  new:B.get? e=none
  ff:h.FunFrames B l
  ob:∃ oe vs x,h.get? e=some oe∧oe.cls=cls∧oe.dict=dx∧oe.data = .fields vs∧vs[1]?=some x∧Trc B h e x
section
variable {M:Model} {A:Around} {E:Value→Shared→Prop} {s:Shared} {B:Heap} {l outer:List Env} {env:Env} {e L:Addr} {cls:Value} {dx:Option Addr} {Q:Unit→Shared→Prop}
theorem Fly.recW {h:Heap} {T:Addr} {oT:Obj} {ts:Array Value} (F:Fly B l e cls dx h) (hb:B.get? T=none) (hT:h.get? T=some oT) (hd:oT.data = .fields ts) (g:Array Value→Array Value)
    (hob:∃ oe vs x,(h.update T (Obj.mapFields g)).get? e=some oe∧oe.cls=cls∧oe.dict=dx∧oe.data = .fields vs∧vs[1]?=some x∧Trc B (h.update T (Obj.mapFields g)) e x) :
    Fly B l e cls dx (h.update T (Obj.mapFields g))∧h.UpToSlots (h.update T (Obj.mapFields g)):=by
  have other:∀ b,b≠T→(h.update T (Obj.mapFields g)).get? b=h.get? b:=fun b hb=>Heap.get?_update_other _ _ (Ne.symm hb)
  have noR:∀ b o,h.get? b=some o→(∀ vs,o.data≠.fields vs)→b≠T:=fun b o q hn z=>by
    rw [z,hT] at q;cases q;exact hn ts hd
  exact ⟨⟨fun b o q=>(other b fun z=>by rw [z,hb] at q;cases q).trans (F.st b o q),F.new,F.ff.of_keeps fun b o q hn=>⟨o,(other b (noR b o q hn)).trans q,rfl⟩,hob⟩,fun b o q hn=>⟨o.slots,(other b (noR b o q hn)).trans q⟩⟩
theorem zSe (F:Fly B l e cls dx s.heap) (h:∀ h',Fly B l e cls dx h'→s.heap.UpToSlots h'→Q () { s with heap:=h' }):wpAny M A (setFlight (.ref e) none) Q E s:=by
  obtain ⟨oe,vs,x,he,hc,hx,hd,h1,tr⟩:=F.ob
  unfold setFlight
  refine wpAny_bind (wpAny_field he hd h1 ?_)
  rcases tr with rfl | ⟨T,oT,ts,y,rfl,hb,hne,hT,hdT,h3⟩
  · rw [if_neg (by decide)]
    exact wpAny_pure (h _ F (.refl _))
  · rw [if_pos (show (Value.ref T != Value.none)=true from by simp)]
    have h3':=(Array.getElem?_eq_some_iff.mp h3).1
    refine wpAny_setField hT hdT h3' ?_
    obtain ⟨F',u⟩:=F.recW hb hT hdT (·.setIfInBounds 3 ((none:Option Addr).elim Value.none fun f=>rawInt f))
      ⟨oe,vs,_,(Heap.get?_update_other _ _ hne).trans he,hc,hx,hd,h1, .inr ⟨T,_,_, .none,rfl,hb,hne,Heap.get?_update_self _ hT (Obj.isFreed_of_fields (Obj.data_mapFields hdT _)),Obj.data_mapFields hdT _,by simp [h3']⟩⟩
    exact h _ F' u
theorem z6n {head:Value} {hadNext:Bool} (hfr:A.frames=some (env :: outer)) (hf:env.frame=some L) (F:Fly B (env :: outer) e cls dx s.heap) (h:∀ h',Fly B (env :: outer) e cls dx h'→s.heap.UpToSlots h'→Q () { s with heap:=h' }) :
    wpAny M A (do let a ← frameOf env;let pl ← entryPlaceOf L hadNext;let b ← EntryCells.newEntry head a .none (rawInt L) .none pl;setField (.ref e) 1 b) Q E s:=by
  obtain ⟨oe,vs,x,he,hc,hx,hd,h1,tr⟩:=F.ob
  have hl:=F.ff
  have hene:e∉(env :: outer).filterMap (·.frame):=fun hm=>by
    obtain ⟨_,o,ho,hnf⟩:=hl.mem hm
    rw [he] at ho;cases ho;exact hnf vs hd
  refine wpAny_bind (wpAny_frameOf_fun hfr hl hf fun h₁ hs=>?_)
  refine wpAny_bind (wpAny_entryPlaceOf fun pl hpl=>?_)
  unfold EntryCells.newEntry newFields
  refine wpAny_bind (wpAny_newObj_type ?_ (hpl.sizeOk5 _ _ _ _ _))
  generalize hts:([head,Value.ref L,Value.none,rawInt L,Value.none]++(if pl.isEmpty=true then List.replicate 6 Value.none else pl))=ts
  have hts3:ts.toArray[3]?=some (rawInt L):=by rw [← hts];simp
  have he₁:h₁.get? e=some oe:=(hs.2.1 e hene).trans he
  have hn:h₁.objs.size≠e:=Nat.ne_of_gt (Heap.lt_size he₁)
  have kb:B.StaysIn h₁:=fun b o q=>(hs.2.1 b fun hm=>by rw [(hl.mem hm).1] at q;cases q).trans (F.st b o q)
  have he₂:=Heap.get?_push_of_some (h:=h₁) { cls := .type "traceback",dict:=none,data := .fields ts.toArray } he₁
  refine wpAny_setField he₂ hd (Array.getElem?_eq_some_iff.mp h1).1 (h _ ?_ ?_)
  all_goals
    have keep:∀ b o,b≠e→h₁.get? b=some o→((h₁.push { cls := .type "traceback",dict:=none,data := .fields ts.toArray }).update e (Obj.mapFields (·.setIfInBounds 1 (Value.ref h₁.objs.size)))).get? b=some o:=fun b o hbe hb=>by
      rw [Heap.get?_update_other _ _ (Ne.symm hbe)]
      exact Heap.get?_push_of_some _ hb
    have noR:∀ b o,s.heap.get? b=some o→(∀ vs,o.data≠.fields vs)→b≠e:=fun b o q hn z=>by
      rw [z,he] at q;cases q;exact hn vs hd
  · refine ⟨fun b o q=>keep b o (fun z=>by rw [z,F.new] at q;cases q) (kb b o q),F.new,hl.of_keeps fun b o q hn=>?_,?_⟩
    · obtain ⟨sl,z⟩:=hs.2.2 b o q
      exact ⟨_,keep b _ (noR b o q hn) z,rfl⟩
    · have hd₃:=Obj.data_mapFields hd (·.setIfInBounds 1 (Value.ref h₁.objs.size))
      refine ⟨_,_,_,Heap.get?_update_self _ he₂ (Obj.isFreed_of_fields hd₃),(Obj.cls_mapFields _ _).trans hc,(zKh _ _).trans hx,hd₃,by simp [(Array.getElem?_eq_some_iff.mp h1).1], .inr ⟨h₁.objs.size,{ cls := .type "traceback",dict:=none,data := .fields ts.toArray },ts.toArray,rawInt L,rfl,kb.fresh,hn,?_,rfl,hts3⟩⟩
      exact (Heap.get?_update_other _ _ (Ne.symm hn)).trans (Heap.get?_push_size h₁ rfl)
  · intro b o q hn
    obtain ⟨sl,z⟩:=hs.2.2 b o q
    exact ⟨sl,keep b _ (noR b o q hn) z⟩
theorem zTg (hfr:A.frames=some (env :: outer)) (hf:env.frame=some L) (F:Fly B (env :: outer) e cls dx s.heap) (h:∀ h',Fly B (env :: outer) e cls dx h'→s.heap.UpToSlots h'→Q () { s with heap:=h' }) :
    wpAny M A (noteFrame (.ref e) env) Q E s:=by
  obtain ⟨oe,vs,x,he,hc,hx,hd,h1,tr⟩:=F.ob
  unfold noteFrame
  simp only [hf]
  refine wpAny_bind (wpAny_field he hd h1 ?_)
  rcases tr with rfl | ⟨T,oT,ts,y,rfl,hb,hne,hT,hdT,h3⟩
  · rw [if_neg (by decide)]
    exact z6n hfr hf F h
  · rw [if_pos (show (Value.ref T != Value.none)=true from by simp)]
    refine wpAny_bind (wpAny_field hT hdT h3 ?_)
    by_cases hy:(y == rawInt L)=true
    · rw [if_pos hy]
      exact wpAny_pure (h _ F (.refl _))
    · rw [if_neg hy]
      have h3':=(Array.getElem?_eq_some_iff.mp h3).1
      refine wpAny_bind (wpAny_setField hT hdT h3' ?_)
      obtain ⟨F',u⟩:=F.recW hb hT hdT (·.setIfInBounds 3 Value.none)
        ⟨oe,vs,_,(Heap.get?_update_other _ _ hne).trans he,hc,hx,hd,h1, .inr ⟨T,_,_, .none,rfl,hb,hne,Heap.get?_update_self _ hT (Obj.isFreed_of_fields (Obj.data_mapFields hdT _)),Obj.data_mapFields hdT _,by simp [h3']⟩⟩
      exact z6n hfr hf F' fun h' F'' u'=>h h' F'' (u.trans u')
theorem zto (hfr:A.frames=some (env :: outer)) (hf:env.frame=some L) (F:Fly B (env :: outer) e cls dx s.heap) (h:∀ h',Fly B outer e cls dx h'→s.heap.UpToSlots h'→Q () { s with heap:=h' }) :
    wpAny M A (leaving env (.ref e)) Q E s:=by
  unfold leaving
  refine wpAny_bind (zTg hfr hf F fun h1 F1 u1=>?_)
  refine zSe (s:={ s with heap:=h1 }) F1 fun h2 F2 u2=>?_
  exact h h2 ⟨F2.st,F2.new,F2.ff.2.2,F2.ob⟩ (u1.trans u2)
end
end L2
set_option Elab.async false
set_option linter.all false
set_option maxRecDepth 100000
set_option autoImplicit false
namespace L2
open PySem PySem.Spec PyProof.Rows
theorem ObjOk.there {P:Program} {w:World} {H:Hp} {h:Heap} {a:Addr} {o:HO} (x:ObjOk P w H h a o):∃ u,h.get? a=some u:=by
  cases o with
  | lst xs=>obtain ⟨_,_,_,_,e⟩:=x;exact ⟨_,e⟩
  | tup xs=>obtain ⟨_,_,_,o,e,_⟩:=x;exact ⟨_,e⟩
  | dK kvs=>obtain ⟨_,_,_,_,o,_,_,e,_⟩:=x;exact ⟨_,e⟩
  | dT kvs=>obtain ⟨_,_,_,_,o,_,_,e,_⟩:=x;exact ⟨_,e⟩
  | set S n=>obtain ⟨o,_,_,_,e,_⟩:=x;exact ⟨_,e⟩
  | ins C dx fs=>obtain ⟨_,_,_,e,_⟩:=x;exact ⟨_,e⟩
  | own y=>obtain ⟨_,e⟩:=x;exact ⟨_,e⟩
  | xd fs=>obtain ⟨_,⟨_,_,_,e,_⟩,_⟩:=x;exact ⟨_,e⟩
  | rng lo hi=>obtain ⟨_,_,_,e⟩:=x;exact ⟨_,e⟩
  | frz ob u=>obtain ⟨e,_⟩:=x;exact ⟨_,e⟩
  | tbl ps=>exact ⟨_,(show h.get? a=some _ from x)⟩
  | met f y=>exact ⟨_,(show h.get? a=some _ from x)⟩
  | ext φ=>obtain ⟨_,⟨_,e⟩,_⟩:=x;exact ⟨_,e⟩
structure Cov (outer:List Env) (H':Hp) (h B:Heap):Prop where
  tr:∀ b o,H' b=some o→∃ u,B.get? b=some u
  old:∀ b o,h.get? b=some o→b∉frs outer→∃ u,B.get? b=some u
structure FlyX (P:Program) (w:World) (outer:List Env) (H:Hp) (s:Shared) (C:Value) (dx:Option Addr) (H':Hp) (e:Value) (s':Shared):Prop where
  os:s'.os=s.os
  bare:AllBare s'.gens
  un:Un (frs outer) [] H H' s.heap s'.heap
  hok:HOk P w H' s'.heap
  fly:∃ a B,e = .ref a∧Fly B outer a C dx s'.heap∧Cov outer H' s.heap B
noncomputable def CXq (P:Program) (w:World):CXT:=fun outer H s E e s'=>∃ C dx H',FlyX P w outer H s C dx H' e s'∧E C dx H'
section
variable {P:Program} {w:World} {outer:List Env} {H H':Hp} {h0 h h' B base:Heap}
theorem zan (u:Un (frs outer) [] H H' h0 h) (c:Cov outer H' h0 B) (st:B.StaysIn h) (st':B.StaysIn h') (sm:h.UpToSlots h') (ff:h0.FunFrames base outer) (frf:∀ b∈frs outer,H b=none):Un (frs outer) [] H H' h0 h' where
  keep:=fun b o q n hb hx=>by
    obtain ⟨v,hv⟩:=c.old b o q hb
    have e1:=u.keep b o q n hb hx
    have e2:=st b v hv
    rw [e1] at e2
    cases e2
    exact st' b o hv
  slot:=fun b o q n hb hx=>by
    obtain ⟨sl,e1⟩:=u.slot b o q n hb hx
    obtain ⟨_,o',ho',hd⟩:=ff.mem hb
    rw [q] at ho'
    cases ho'
    obtain ⟨sl',e2⟩:=sm b _ e1 hd
    exact ⟨sl',e2⟩
  free:=u.free
  there:=fun b o q hx=>by
    by_cases hb:b∈frs outer
    · obtain ⟨sl,e1⟩:=u.slot b o q (frf b hb) hb hx
      obtain ⟨_,o',ho',hd⟩:=ff.mem hb
      rw [q] at ho'
      cases ho'
      obtain ⟨sl',e2⟩:=sm b _ e1 hd
      exact ⟨_,e2⟩
    · obtain ⟨v,hv⟩:=c.old b o q hb
      exact ⟨v,st' b v hv⟩
  tups:=u.tups
  frzs:=u.frzs
  tbls:=u.tbls
theorem zPl (x:HOk P w H' h) (c:Cov outer H' h0 B) (st:B.StaysIn h) (st':B.StaysIn h'):HOk P w H' h':=fun a o e=>by
  refine (x a o e).stay (fun b u hb q=>?_) (fun _ q=>q) fun _ _ q=>q
  have hb:∃ o',H' b=some o':=by
    rcases hb with rfl | hb
    · exact ⟨_,e⟩
    · exact ⟨_,hb⟩
  obtain ⟨o',hb⟩:=hb
  obtain ⟨v,hv⟩:=c.tr b o' hb
  have e2:=st b v hv
  rw [q] at e2
  cases e2
  exact st' b u hv
end
section
variable {X:Cx} {pins:List (Addr×Obj)} {σ:St} {H H':Hp} {s s':Shared} {C:Value} {a:Addr} {dx:Option Addr}
theorem Inv.fly {B h':Heap} (I:Inv X pins σ H s) (F:FlyX X.prog X.w X.stack H s C dx H' (.ref a) s') (c:Cov X.stack H' s.heap B) (st:B.StaysIn s'.heap) (st':B.StaysIn h') (sm:s'.heap.UpToSlots h') {t':Nat} {d':Drawn} :
    Inv X pins σ H' { s' with heap:=h',toks:=t',drawn:=d' } :=
  I.call' F.os (zan F.un c st st' sm I.stack I.stkFree) (zPl F.hok c st st') F.bare fun b z=>absurd z (by simp)
end
noncomputable def zYj (X:Cx) (C:Value) (dx:Option Addr) (H':Hp):Prop:=∀ pins σ H s e s',Inv X pins σ H s→FlyX X.prog X.w X.stack H s C dx H' e s'→X.xe e s'
section
variable {P:Program} {w:World} {K:PySem.W.Frag} {mg:Str→Option Value} {base:Heap} {N:List Str} {qual:Str} {scope:Scope} {f:Addr} {cd:Value} {A:Around} {outer:List Env} {s:Shared} {H H':Hp} {E:XK} {C:Value} {dx:Option Addr}
theorem zcr {X:Cx} {pins:List (Addr×Obj)} {σ:St} {H1:Hp} {s1:Shared} {B:Heap} (I:Inv X pins σ H1 s1) (hs:X.stack=X.env :: X.outer) (hf:X.env.frame=some X.env.locals) (hex:X.ex = []) (c:Cov X.stack H' s1.heap B):Cov X.outer H' X.s₀.heap B where
  tr:=c.tr
  old:=fun b o q hb=>by
    obtain ⟨o1,e1⟩:=I.base.there b o q (by rw [hex];simp)
    refine c.old b o1 e1 ?_
    rw [hs]
    unfold frs
    rw [List.filterMap_cons,hf]
    intro hm
    rcases List.mem_cons.mp hm with rfl | hm
    · exact absurd (Nat.lt_of_lt_of_le (Heap.lt_size q) I.ok.above) (Nat.lt_irrefl _)
    · exact hb hm
theorem zJm (hE:E C dx H'):zYj (zen (CXq P w) P w K mg base N qual scope f cd A outer s H E) C dx H':=by
  intro pins σ H1 s1 e s' I F
  have hf:(envOfC qual scope s.heap.objs.size f cd).frame=some (envOfC qual scope s.heap.objs.size f cd).locals:=rfl
  obtain ⟨a,B,rfl,fl,c⟩:=F.fly
  refine zto I.ok.frames hf fl fun h'' fl' sm=>?_
  have J:Inv (zen (CXq P w) P w K mg base N qual scope f cd A outer s H E) pins σ H' { s' with heap:=h'' }:=I.fly F c fl.st fl'.st sm
  exact ⟨C,dx,H',⟨J.os,J.bare,J.base,J.hok,a,B,rfl,fl',zcr (X:=zen (CXq P w) P w K mg base N qual scope f cd A outer s H E) I rfl rfl rfl c⟩,hE⟩
end
end L2
set_option Elab.async false
set_option linter.all false
set_option maxRecDepth 100000
set_option autoImplicit false
namespace M
open PySem PySem.Spec PyProof.Rows L2
inductive D where
  | non | bl (b:Bool) | int (i:Int) | str (x:Str) | ty (n:String)
    | tup (ds:List D)
    | fz (ds:List D)
    | loc (n:Nat)
    | own (c:Str)
inductive LObj where
  | lst (ds:List D)
    | dct (kvs:List (Int×D))
    | dcf (kvs:List (Int×D))
    | exc (c:Str) (fs:List (Str×D))
noncomputable abbrev Mem:=List LObj
noncomputable def z7s (a C:Addr) (dx:Option Addr):Heap→Prop:=fun h=>∃ o vs,h.get? a=some o∧o.cls = .ref C∧o.dict=dx∧o.data = .fields vs
noncomputable abbrev Loc:=List (Option D)
section
variable (K:PySem.W.Frag)
noncomputable def FzL (H:Hp) (a:Addr) (vs:List V):Prop :=
  (∃ o,H a=some (.frz o (.lst vs)))∨∃ (o:Obj) (its:Array Value) (n:Nat),K.lookup a=some o∧o.cls = .type "list"∧o.dict=none∧o.data = .seq its n∧its.size≤sizeLine∧Vals vs its.toList
mutual
noncomputable def RepV (ρ:List Addr) (H:Hp):D→V→Prop
  | .non,v=>v = .non
  | .bl b,v=>v = .bl b
  | .int i,v=>v = .int i
  | .str x,v=>v = .str x
  | .ty n,v=>v = .ty n
  | .tup ds,v=>∃ a vs,v = .ref a∧H a=some (.tup vs)∧RepVs ρ H ds vs
  | .fz ds,v=>∃ a vs,v = .ref a∧FzL K H a vs∧RepVs ρ H ds vs
  | .loc n,v=>∃ a,v = .ref a∧ρ[n]?=some a
  | .own c,v=>∃ a,v = .ref a∧PySem.W.nsIn K mainGlobals c=some (some (.ref a))
noncomputable def RepVs (ρ:List Addr) (H:Hp):List D→List V→Prop
  | [],vs=>vs = []
  | d :: ds,vs=>∃ v r,vs=v :: r∧RepV ρ H d v∧RepVs ρ H ds r
end
noncomputable def RepX (ρ:List Addr) (H:Hp) (fs:List (Str×D)) (dx:Option Addr):Prop:=(fs = []∧dx=none)∨∃ p vs,dx=some p∧H p=some (.xd vs)∧vs.map (·.1)=fs.map (·.1)∧RepVs K ρ H (fs.map (·.2)) (vs.map (·.2))
noncomputable def RepO (ρ:List Addr) (H:Hp) (a:Addr):LObj→Prop
  | .lst ds=>∃ vs,H a=some (.lst vs)∧RepVs K ρ H ds vs
  | .dct kvs=>∃ vs,H a=some (.dK vs)∧vs.map (·.1)=kvs.map (fun p=>Sum.inl p.1)∧RepVs K ρ H (kvs.map (·.2)) (vs.map (·.2))
  | .dcf kvs=>∃ o vs,H a=some (.frz o (.dK vs))∧vs.map (·.1)=kvs.map (fun p=>Sum.inl p.1)∧RepVs K ρ H (kvs.map (·.2)) (vs.map (·.2))
  | .exc c fs=>∃ C dx,PySem.W.nsIn K mainGlobals c=some (some (.ref C))∧H a=some (.ext (z7s a C dx))∧RepX K ρ H fs dx
structure RepH (ρ:List Addr) (H:Hp) (μ:Mem):Prop where
  nd:ρ.Nodup
  len:ρ.length = μ.length
  at_:∀ (n:Nat) a o,ρ[n]?=some a→μ[n]?=some o→RepO K ρ H a o
structure Ext (ρ:List Addr) (H:Hp) (ρ':List Addr) (H':Hp):Prop where
  pre:∃ more,ρ' = ρ ++ more
  tup:∀ a vs,H a=some (.tup vs)→H' a=some (.tup vs)
  frz:∀ a o u,H a=some (.frz o u)→H' a=some (.frz o u)
  xd:∀ a fs,H a=some (.xd fs)→H' a=some (.xd fs)
noncomputable def RepSt (ρ:List Addr) (H:Hp) (σ:L2.St) (δ:Loc):Prop:=∀ (i:Nat) d,δ[i]?=some (some d)→∃ v,σ[i]?=some (some v)∧RepV K ρ H d v
end
section
variable {K:PySem.W.Frag} {ρ ρ' ρ'':List Addr} {H H' H'':Hp} {μ:Mem} {σ:L2.St} {δ:Loc}
theorem Ext.refl:Ext ρ H ρ H:=⟨⟨[],by simp⟩,fun _ _ h=>h,fun _ _ _ h=>h,fun _ _ h=>h⟩
theorem Ext.trans (a:Ext ρ H ρ' H') (b:Ext ρ' H' ρ'' H''):Ext ρ H ρ'' H'':=by
  obtain ⟨m,e⟩:=a.pre
  obtain ⟨m',e'⟩:=b.pre
  exact ⟨⟨m++m',by rw [e',e,List.append_assoc]⟩,fun _ _ h=>b.tup _ _ (a.tup _ _ h),fun _ _ _ h=>b.frz _ _ _ (a.frz _ _ _ h),fun _ _ h=>b.xd _ _ (a.xd _ _ h)⟩
theorem Ext.get (e:Ext ρ H ρ' H') {n:Nat} {a:Addr} (h:ρ[n]?=some a):ρ'[n]?=some a:=by
  obtain ⟨m,e⟩:=e.pre
  rw [e,List.getElem?_append_left (List.getElem?_eq_some_iff.mp h).1]
  exact h
theorem Ext.fz (e:Ext ρ H ρ' H') {a:Addr} {vs:List V} (h:FzL K H a vs):FzL K H' a vs:=by
  rcases h with ⟨o,h⟩ | h
  · exact .inl ⟨o,e.frz _ _ _ h⟩
  · exact .inr h
mutual
theorem RepV.ext (e:Ext ρ H ρ' H'):∀ {d:D} {v:V},RepV K ρ H d v→RepV K ρ' H' d v
  | .non,_,h=>by unfold RepV at h ⊢;exact h
  | .bl _,_,h=>by unfold RepV at h ⊢;exact h
  | .int _,_,h=>by unfold RepV at h ⊢;exact h
  | .str _,_,h=>by unfold RepV at h ⊢;exact h
  | .ty _,_,h=>by unfold RepV at h ⊢;exact h
  | .tup ds,_,h=>by
    unfold RepV at h ⊢
    obtain ⟨a,vs,e1,e2,r⟩:=h
    exact ⟨a,vs,e1,e.tup _ _ e2,RepVs.ext e r⟩
  | .fz ds,_,h=>by
    unfold RepV at h ⊢
    obtain ⟨a,vs,e1,e2,r⟩:=h
    exact ⟨a,vs,e1,e.fz e2,RepVs.ext e r⟩
  | .loc n,_,h=>by
    unfold RepV at h ⊢
    obtain ⟨a,e1,e2⟩:=h
    exact ⟨a,e1,e.get e2⟩
  | .own c,_,h=>by unfold RepV at h ⊢;exact h
theorem RepVs.ext (e:Ext ρ H ρ' H'):∀ {ds:List D} {vs:List V},RepVs K ρ H ds vs→RepVs K ρ' H' ds vs
  | [],_,h=>by unfold RepVs at h ⊢;exact h
  | d :: ds,_,h=>by
    unfold RepVs at h ⊢
    obtain ⟨v,r,e1,h1,h2⟩:=h
    exact ⟨v,r,e1,RepV.ext e h1,RepVs.ext e h2⟩
end
theorem RepSt.ext (e:Ext ρ H ρ' H') (h:RepSt K ρ H σ δ):RepSt K ρ' H' σ δ:=fun i d q =>
  let ⟨v,e1,r⟩:=h i d q
  ⟨v,e1,r.ext e⟩
theorem RepVs.length:∀ {ds:List D} {vs:List V},RepVs K ρ H ds vs→ds.length=vs.length
  | [],_,h=>by unfold RepVs at h;subst h;rfl
  | d :: ds,_,h=>by
    unfold RepVs at h
    obtain ⟨v,r,e1,_,h2⟩:=h
    subst e1
    have:=RepVs.length h2
    simp [this]
theorem RepVs.get:∀ {ds:List D} {vs:List V} {i:Nat} {d:D},RepVs K ρ H ds vs→ds[i]?=some d→∃ v,vs[i]?=some v∧RepV K ρ H d v
  | [],_,_,_,_,q=>by simp at q
  | d :: ds,_,0,d',h,q=>by
    unfold RepVs at h
    obtain ⟨v,r,e1,h1,_⟩:=h
    subst e1
    simp at q
    subst q
    exact ⟨v,by simp,h1⟩
  | d :: ds,_,i+1,d',h,q=>by
    unfold RepVs at h
    obtain ⟨v,r,e1,_,h2⟩:=h
    subst e1
    obtain ⟨w,e2,h3⟩:=RepVs.get (i:=i) h2 (by simpa using q)
    exact ⟨w,by simpa using e2,h3⟩
theorem RepVs.cons {d:D} {v:V} {ds:List D} {vs:List V} (h1:RepV K ρ H d v) (h2:RepVs K ρ H ds vs):RepVs K ρ H (d :: ds) (v :: vs):=by
  unfold RepVs
  exact ⟨v,vs,rfl,h1,h2⟩
theorem RepVs.nil:RepVs K ρ H [] []:=by unfold RepVs;rfl
theorem RepVs.cons_inv {d:D} {ds:List D} {vs:List V} (h:RepVs K ρ H (d :: ds) vs):∃ v r,vs=v :: r∧RepV K ρ H d v∧RepVs K ρ H ds r:=by
  unfold RepVs at h
  exact h
theorem RepVs.nil_inv {vs:List V} (h:RepVs K ρ H [] vs):vs = []:=by unfold RepVs at h;exact h
theorem RepVs.append:∀ {ds es:List D} {vs us:List V},RepVs K ρ H ds vs→RepVs K ρ H es us→RepVs K ρ H (ds++es) (vs++us)
  | [],_,_,_,h,q=>by rw [h.nil_inv];exact q
  | d :: ds,_,_,_,h,q=>by
    obtain ⟨v,r,rfl,h1,h2⟩:=h.cons_inv
    exact .cons h1 (RepVs.append h2 q)
theorem RepVs.take:∀ {ds:List D} {vs:List V} (n:Nat),RepVs K ρ H ds vs→RepVs K ρ H (ds.take n) (vs.take n)
  | [],_,n,h=>by rw [h.nil_inv];simp [RepVs.nil]
  | d :: ds,_,0,h=>by simp [RepVs.nil]
  | d :: ds,_,n+1,h=>by
    obtain ⟨v,r,rfl,h1,h2⟩:=h.cons_inv
    simpa using RepVs.cons h1 (RepVs.take n h2)
theorem RepVs.drop:∀ {ds:List D} {vs:List V} (n:Nat),RepVs K ρ H ds vs→RepVs K ρ H (ds.drop n) (vs.drop n)
  | [],_,n,h=>by rw [h.nil_inv];simp [RepVs.nil]
  | d :: ds,_,0,h=>by simpa using h
  | d :: ds,_,n+1,h=>by
    obtain ⟨v,r,rfl,h1,h2⟩:=h.cons_inv
    simpa using RepVs.drop n h2
theorem RepVs.set:∀ {ds:List D} {vs:List V} {d:D} {v:V} (n:Nat),RepV K ρ H d v→RepVs K ρ H ds vs→RepVs K ρ H (ds.set n d) (vs.set n v)
  | [],_,_,_,n,_,h=>by rw [h.nil_inv];simp [RepVs.nil]
  | d :: ds,_,_,_,0,q,h=>by
    obtain ⟨v,r,rfl,h1,h2⟩:=h.cons_inv
    simpa using RepVs.cons q h2
  | d :: ds,_,_,_,n+1,q,h=>by
    obtain ⟨v,r,rfl,h1,h2⟩:=h.cons_inv
    simpa using RepVs.cons h1 (RepVs.set n q h2)
theorem RepV.int_inv {i:Int} {v:V} (h:RepV K ρ H (.int i) v):v = .int i:=by unfold RepV at h;exact h
theorem RepV.bl_inv {i:Bool} {v:V} (h:RepV K ρ H (.bl i) v):v = .bl i:=by unfold RepV at h;exact h
theorem RepV.non_inv {v:V} (h:RepV K ρ H .non v):v = .non:=by unfold RepV at h;exact h
theorem RepV.str_inv {x:Str} {v:V} (h:RepV K ρ H (.str x) v):v = .str x:=by unfold RepV at h;exact h
theorem RepV.tup_inv {ds:List D} {v:V} (h:RepV K ρ H (.tup ds) v):∃ a vs,v = .ref a∧H a=some (.tup vs)∧RepVs K ρ H ds vs:=by unfold RepV at h;exact h
theorem RepV.fz_inv {ds:List D} {v:V} (h:RepV K ρ H (.fz ds) v):∃ a vs,v = .ref a∧FzL K H a vs∧RepVs K ρ H ds vs:=by unfold RepV at h;exact h
theorem RepV.loc_inv {n:Nat} {v:V} (h:RepV K ρ H (.loc n) v):∃ a,v = .ref a∧ρ[n]?=some a:=by unfold RepV at h;exact h
theorem RepV.int {i:Int}:RepV K ρ H (.int i) (.int i):=by unfold RepV;rfl
theorem RepV.bl {i:Bool}:RepV K ρ H (.bl i) (.bl i):=by unfold RepV;rfl
theorem RepV.non:RepV K ρ H .non .non:=by unfold RepV;rfl
theorem RepV.str {x:Str}:RepV K ρ H (.str x) (.str x):=by unfold RepV;rfl
theorem RepV.tup {ds:List D} {a:Addr} {vs:List V} (e:H a=some (.tup vs)) (h:RepVs K ρ H ds vs):RepV K ρ H (.tup ds) (.ref a):=by unfold RepV;exact ⟨a,vs,rfl,e,h⟩
theorem RepV.fz {ds:List D} {a:Addr} {vs:List V} (e:FzL K H a vs) (h:RepVs K ρ H ds vs):RepV K ρ H (.fz ds) (.ref a):=by unfold RepV;exact ⟨a,vs,rfl,e,h⟩
theorem RepV.loc {n:Nat} {a:Addr} (e:ρ[n]?=some a):RepV K ρ H (.loc n) (.ref a):=by unfold RepV;exact ⟨a,rfl,e⟩
theorem FzL.sq {a:Addr} {vs:List V} (h:FzL K H a vs):SqL K H a vs:=by
  rcases h with h | h
  · exact .inl (.inr h)
  · exact .inr h
theorem RepO.some {a:Addr} {o:LObj} (h:RepO K ρ H a o):∃ u,H a=some u:=by
  cases o with
  | lst ds=>obtain ⟨vs,e,_⟩:=h;exact ⟨_,e⟩
  | dct kvs=>obtain ⟨vs,e,_⟩:=h;exact ⟨_,e⟩
  | dcf kvs=>obtain ⟨o,vs,e,_⟩:=h;exact ⟨_,e⟩
  | exc c fs=>obtain ⟨C,dx,_,e,_⟩:=h;exact ⟨_,e⟩
theorem RepH.mem_some (R:RepH K ρ H μ) {a:Addr} (h:a∈ρ):∃ u,H a=some u:=by
  obtain ⟨n,h1,e⟩:=List.mem_iff_getElem.mp h
  have h2:n < μ.length:=by rw [← R.len];exact h1
  exact (R.at_ n a μ[n] (by rw [List.getElem?_eq_getElem h1,e]) (by simp [h2])).some
theorem RepX.ext {fs:List (Str×D)} {dx:Option Addr} (e:Ext ρ H ρ' H') (h:RepX K ρ H fs dx):RepX K ρ' H' fs dx:=by
  rcases h with h | ⟨p,vs,e1,e2,e3,r⟩
  · exact .inl h
  · exact .inr ⟨p,vs,e1,e.xd _ _ e2,e3,r.ext e⟩
theorem RepO.ext {a:Addr} {o:LObj} (e:Ext ρ H ρ' H') (h:RepO K ρ H a o) (s:H' a=H a):RepO K ρ' H' a o:=by
  cases o with
  | lst ds=>obtain ⟨vs,q,r⟩:=h;exact ⟨vs,s.trans q,r.ext e⟩
  | dct kvs=>obtain ⟨vs,q,q2,r⟩:=h;exact ⟨vs,s.trans q,q2,r.ext e⟩
  | dcf kvs=>obtain ⟨o,vs,q,q2,r⟩:=h;exact ⟨o,vs,s.trans q,q2,r.ext e⟩
  | exc c fs=>obtain ⟨C,dx,n,q,r⟩:=h;exact ⟨C,dx,n,s.trans q,r.ext e⟩
theorem Ext.new {p:Addr} {o:HO} (hp:H p=none):Ext ρ H ρ (upd H p o) :=
  ⟨⟨[],by simp⟩,fun a vs e=>by rw [zA (zu e hp)];exact e,fun a o u e=>by rw [zA (zu e hp)];exact e,fun a fs e=>by rw [zA (zu e hp)];exact e⟩
theorem RepH.other (R:RepH K ρ H μ) (e:Ext ρ H ρ H') (s:∀ a∈ρ,H' a=H a):RepH K ρ H' μ :=
  ⟨R.nd,R.len,fun n a o h1 h2=>(R.at_ n a o h1 h2).ext e (s a (List.mem_of_getElem? h1))⟩
theorem RepH.newTup (R:RepH K ρ H μ) {p:Addr} {o:HO} (hp:H p=none):RepH K ρ (upd H p o) μ :=
  R.other (Ext.new hp) fun a ha=>by
    obtain ⟨u,e⟩:=R.mem_some ha
    exact zA (zu e hp)
theorem Ext.push {p:Addr} {o:HO} (hp:H p=none):Ext ρ H (ρ ++ [p]) (upd H p o) :=
  ⟨⟨[p],rfl⟩,(Ext.new (ρ:=ρ) hp).tup,(Ext.new (ρ:=ρ) hp).frz,(Ext.new (ρ:=ρ) hp).xd⟩
theorem RepH.push (R:RepH K ρ H μ) {p:Addr} {o:HO} {lo:LObj} (hp:H p=none) (h:RepO K (ρ ++ [p]) (upd H p o) p lo):RepH K (ρ ++ [p]) (upd H p o) (μ ++ [lo]):=by
  refine ⟨?_,by simp [R.len],fun n a u h1 h2=>?_⟩
  · rw [List.nodup_append]
    refine ⟨R.nd,by simp,fun a ha b hb=>?_⟩
    simp at hb
    subst hb
    obtain ⟨u,e⟩:=R.mem_some ha
    exact zu e hp
  · by_cases hn:n < ρ.length
    · rw [List.getElem?_append_left hn] at h1
      rw [List.getElem?_append_left (by rw [← R.len];exact hn)] at h2
      have q:=R.at_ n a u h1 h2
      obtain ⟨z,e⟩:=q.some
      exact q.ext (Ext.push hp) (zA (zu e hp))
    · have hl:n<(ρ ++ [p]).length:=(List.getElem?_eq_some_iff.mp h1).1
      have e:n = ρ.length:=by simp at hl;lia
      subst e
      rw [List.getElem?_append_right (Nat.le_refl _)] at h1
      rw [R.len,List.getElem?_append_right (Nat.le_refl _)] at h2
      simp at h1 h2
      subst h1 h2
      exact h
theorem zvb {p:Addr} (R:RepH K ρ H μ):(ρ ++ [p])[μ.length]?=some p:=by
  rw [← R.len];simp
theorem Ext.wr {p:Addr} {o:HO} (hm:Mut (H p)):Ext ρ H ρ (upd H p o) :=
  ⟨⟨[],by simp⟩,fun a vs e=>by rw [zA (by rintro rfl;rw [e] at hm;exact hm)];exact e,fun a o u e=>by rw [zA (by rintro rfl;rw [e] at hm;exact hm)];exact e,fun a fs e=>by rw [zA (by rintro rfl;rw [e] at hm;exact hm)];exact e⟩
theorem RepH.wr (R:RepH K ρ H μ) {n:Nat} {p:Addr} {o:HO} {lo:LObj} (hm:Mut (H p)) (hn:ρ[n]?=some p) (h:RepO K ρ (upd H p o) p lo):RepH K ρ (upd H p o) (μ.set n lo):=by
  have hlt:=(List.getElem?_eq_some_iff.mp hn).1
  refine ⟨R.nd,by simp [R.len],fun m a u h1 h2=>?_⟩
  by_cases hmn:m=n
  · subst hmn
    rw [hn] at h1
    cases h1
    rw [List.getElem?_set_self (by rw [← R.len];exact hlt)] at h2
    cases h2
    exact h
  · rw [List.getElem?_set_ne (Ne.symm hmn)] at h2
    have hap:a≠p:=by
      rintro rfl
      obtain ⟨x1,y1⟩:=List.getElem?_eq_some_iff.mp h1
      obtain ⟨x2,y2⟩:=List.getElem?_eq_some_iff.mp hn
      exact hmn ((List.getElem_inj R.nd).mp (y1.trans y2.symm))
    exact (R.at_ m a u h1 h2).ext (Ext.wr hm) (zA hap)
end
noncomputable abbrev FE:=Loc→Mem→Option (D×Mem)
noncomputable abbrev FT:=Loc→Mem→Option (Bool×Mem)
noncomputable abbrev FA:=Loc→Mem→Option (List D×Mem)
inductive Out where
  | next (δ:Loc) (μ:Mem) | ret (d:D) (μ:Mem) | brk (δ:Loc) (μ:Mem) | cont (δ:Loc) (μ:Mem)
    | exc (c:Str) (fs:List (Str×D)) (μ:Mem)
noncomputable abbrev FS:=Loc→Mem→Option Out
section
variable (K:PySem.W.Frag)
structure At (ρ:List Addr) (H:Hp) (σ:L2.St) (δ:Loc) (μ:Mem):Prop where
  st:RepSt K ρ H σ δ
  hp:RepH K ρ H μ
  len:σ.length = δ.length
noncomputable def tM (φ:FE):TE:=fun σ H Q=>∃ ρ δ μ d μ',At K ρ H σ δ μ∧φ δ μ = some (d,μ')∧∀ ρ' H' v,Ext ρ H ρ' H'→RepH K ρ' H' μ'→RepV K ρ' H' d v→Q v H'
noncomputable def tMT (φ:FT):TT:=fun σ H Q=>∃ ρ δ μ b μ',At K ρ H σ δ μ∧φ δ μ = some (b,μ')∧∀ ρ' H',Ext ρ H ρ' H'→RepH K ρ' H' μ'→Q b H'
noncomputable def tMA (φ:FA):TA:=fun σ H Q=>∃ ρ δ μ ds μ',At K ρ H σ δ μ∧φ δ μ = some (ds,μ')∧∀ ρ' H' vs,Ext ρ H ρ' H'→RepH K ρ' H' μ'→RepVs K ρ' H' ds vs→Q vs H'
noncomputable def OutOk (W:XK) (ρ:List Addr) (H:Hp) (E:Ends):Out→Prop
  | .next δ' μ'=>∀ ρ' σ' H',Ext ρ H ρ' H'→At K ρ' H' σ' δ' μ'→E.nx σ' H'
  | .brk δ' μ'=>∀ ρ' σ' H',Ext ρ H ρ' H'→At K ρ' H' σ' δ' μ'→E.bk σ' H'
  | .cont δ' μ'=>∀ ρ' σ' H',Ext ρ H ρ' H'→At K ρ' H' σ' δ' μ'→E.ct σ' H'
  | .ret d μ'=>∀ ρ' v H',Ext ρ H ρ' H'→RepH K ρ' H' μ'→RepV K ρ' H' d v→E.rt v H'
  | .exc c fs μ'=>∀ ρ' H' C dx,PySem.W.nsIn K mainGlobals c=some (some (.ref C))→Ext ρ H ρ' H'→RepH K ρ' H' μ'→RepX K ρ' H' fs dx→W (.ref C) dx H'
noncomputable def tMS (W:XK) (ψ:FS):TS:=fun E σ H=>∃ ρ δ μ o,At K ρ H σ δ μ∧ψ δ μ = some o∧OutOk K W ρ H E o
end
noncomputable def ME (X:Cx) (e:Expr) (φ:FE):Prop:=PE X e (tM X.K φ)
noncomputable def MT (X:Cx) (e:Expr) (φ:FT):Prop:=PT X e (tMT X.K φ)
noncomputable def MW (X:Cx) (e:Expr) (φ:FT):Prop:=PW X e (tMT X.K φ)
noncomputable def MA (X:Cx) (es:List Expr) (φ:FA):Prop:=PA X es (tMA X.K φ)
noncomputable def MS (X:Cx) (st:Stmt) (ψ:FS):Prop:=PS X st (tMS X.K (zYj X) ψ)
noncomputable def MSs (X:Cx) (st:List Stmt) (ψ:FS):Prop:=PSs X st (tMS X.K (zYj X) ψ)
noncomputable abbrev FF:=List D→Mem→Option (D×Mem)
noncomputable def spM (K:PySem.W.Frag) (n:Nat) (F:FF):Sp:=fun vs H Q _=>vs.length=n∧∃ ρ ds μ d μ',RepVs K ρ H ds vs∧RepH K ρ H μ∧F ds μ = some (d,μ')∧∀ ρ' H' v,Ext ρ H ρ' H'→RepH K ρ' H' μ'→RepV K ρ' H' d v→Q v H'
theorem At.ext {K:PySem.W.Frag} {ρ ρ':List Addr} {H H':Hp} {σ:L2.St} {δ:Loc} {μ μ':Mem} (a:At K ρ H σ δ μ) (e:Ext ρ H ρ' H') (R:RepH K ρ' H' μ'):At K ρ' H' σ δ μ':=⟨a.st.ext e,R,a.len⟩
theorem zfd {X:Cx} {e:Expr} {t:TE} {φ:FE} (h:PE X e t) (w:∀ ρ δ μ σ H d μ' Q,At X.K ρ H σ δ μ→φ δ μ = some (d,μ')→(∀ ρ' H' v,Ext ρ H ρ' H'→RepH X.K ρ' H' μ'→RepV X.K ρ' H' d v→Q v H')→t σ H Q):ME X e φ :=
  by intro pins s σ H Q I hh;obtain ⟨ρ,δ,μ,d,μ',a,e,k⟩:=hh;exact h pins s σ H Q I (w ρ δ μ σ H d μ' Q a e k)
theorem zBq {X:Cx} {e:Expr} {t:TT} {φ:FT} (h:PT X e t) (w:∀ ρ δ μ σ H b μ' Q,At X.K ρ H σ δ μ→φ δ μ = some (b,μ')→(∀ ρ' H',Ext ρ H ρ' H'→RepH X.K ρ' H' μ'→Q b H')→t σ H Q):MT X e φ :=
  by intro pins s σ H Q I hh;obtain ⟨ρ,δ,μ,d,μ',a,e,k⟩:=hh;exact h pins s σ H Q I (w ρ δ μ σ H d μ' Q a e k)
theorem zIs {X:Cx} {e:Expr} {t:TT} {φ:FT} (h:PW X e t) (w:∀ ρ δ μ σ H b μ' Q,At X.K ρ H σ δ μ→φ δ μ = some (b,μ')→(∀ ρ' H',Ext ρ H ρ' H'→RepH X.K ρ' H' μ'→Q b H')→t σ H Q):MW X e φ :=
  fun wh pins s σ H Q I ⟨ρ,δ,μ,d,μ',a,e,k⟩=>h wh pins s σ H Q I (w ρ δ μ σ H d μ' Q a e k)
theorem zgs {X:Cx} {e:List Expr} {t:TA} {φ:FA} (h:PA X e t) (w:∀ ρ δ μ σ H ds μ' Q,At X.K ρ H σ δ μ→φ δ μ = some (ds,μ')→(∀ ρ' H' vs,Ext ρ H ρ' H'→RepH X.K ρ' H' μ'→RepVs X.K ρ' H' ds vs→Q vs H')→t σ H Q):MA X e φ :=
  fun pos pins s σ H Q I ⟨ρ,δ,μ,d,μ',a,e,k⟩=>h pos pins s σ H Q I (w ρ δ μ σ H d μ' Q a e k)
theorem zBh {X:Cx} {e:Stmt} {t:TS} {ψ:FS} (h:PS X e t) (w:∀ ρ δ μ σ H o E,At X.K ρ H σ δ μ→ψ δ μ = some o→OutOk X.K (zYj X) ρ H E o→t E σ H):MS X e ψ :=
  by intro pins s σ H E I hh;obtain ⟨ρ,δ,μ,o,a,e,k⟩:=hh;exact h pins s σ H E I (w ρ δ μ σ H o E a e k)
theorem zEp {X:Cx} {e:List Stmt} {t:TS} {ψ:FS} (h:PSs X e t) (w:∀ ρ δ μ σ H o E,At X.K ρ H σ δ μ→ψ δ μ = some o→OutOk X.K (zYj X) ρ H E o→t E σ H):MSs X e ψ :=
  by intro pins s σ H E I hh;obtain ⟨ρ,δ,μ,o,a,e,k⟩:=hh;exact h pins s σ H E I (w ρ δ μ σ H o E a e k)
end M
set_option Elab.async false
set_option linter.all false
set_option maxRecDepth 100000
set_option autoImplicit false
namespace M
open PySem PySem.Spec PyProof.Rows L2
theorem zf {α β:Type} {o:Option α} {f:α→Option β} {b:β} (h:o.bind f=some b):∃ a,o=some a∧f a=some b:=by
  cases o with
  | none=>cases h
  | some a=>exact ⟨a,rfl,h⟩
section
variable {X:Cx} {a b c e:Expr} {es:List Expr} {φ ψ χ:FE} {pos:Pos}
@[simp] noncomputable def zk (i:Nat):FE:=fun δ μ=>match δ[i]? with
  | some (some d)=>some (d,μ)
  | _=>none
@[simp] noncomputable def fC (d:D):FE:=fun _ μ=>some (d,μ)
theorem zRs {i:Nat} {x:Str} (h:PE X (.Name x pos) (zMt i)):ME X (.Name x pos) (zk i) :=
  zfd h fun ρ δ μ σ H d μ' Q A e k=>by
    unfold zk at e
    split at e
    · rename_i d' hd
      cases e
      obtain ⟨v,hv,r⟩:=A.st i _ hd
      exact ⟨v,hv,k ρ H v Ext.refl A.hp r⟩
    · cases e
theorem zUs {v:V} {d:D} (h:PE X e (tC v)) (r:∀ ρ H,RepV X.K ρ H d v):ME X e (fC d) :=
  zfd h fun ρ δ μ σ H d' μ' Q A e k=>by
    cases e
    exact k ρ H v Ext.refl A.hp (r ρ H)
theorem zl {i j}:ME X (.Constant (.int i) j pos) (fC (.int i)):=zUs zQr fun _ _ => .int
theorem z5l {i j}:ME X (.Constant (.bool i) j pos) (fC (.bl i)):=zUs ztt fun _ _ => .bl
theorem z3c {j}:ME X (.Constant .none j pos) (fC .non):=zUs zTs fun _ _ => .non
theorem zpd {x j}:ME X (.Constant (.str x) j pos) (fC (.str x)):=zUs zas fun _ _ => .str
theorem mv (i:Nat) {x:Str} (hN:X.N[i]?=some x:=by rfl) (hv:Vis X.env.scope x:=by first | exact Or.inl rfl | exact Or.inr (Or.inl rfl) | exact Or.inr (Or.inr rfl)) (hd:(x == ("__debug__":Str))=false:=by decide)
    (hcd:(x == ("__classdict__":Str))=false:=by decide):ME X (.Name x pos) (zk i):=zRs (zMp hN hv hd hcd)
noncomputable abbrev G2:=D→D→Mem→Option (D×Mem)
noncomputable def rM (K:PySem.W.Frag) (g:G2):R2:=fun x y H Q=>∃ ρ dx dy μ d μ',RepV K ρ H dx x∧RepV K ρ H dy y∧RepH K ρ H μ∧g dx dy μ = some (d,μ')∧∀ ρ' H' v,Ext ρ H ρ' H'→RepH K ρ' H' μ'→RepV K ρ' H' d v→Q v H'
noncomputable def OpM (X:Cx) (f:Value→Value→Sem Value) (g:G2):Prop:=OpR X f (rM X.K g)
theorem OpM.of {X:Cx} {f:Value→Value→Sem Value} {g:G2} (h:∀ (pins:List (Addr×Obj)) (s:Shared) (σ:L2.St) (H:Hp) (x y:V) (v u:Value) (Q:VK),Inv X pins σ H s→RelV x v→RelV y u→∀ (ρ:List Addr) (dx dy:D) (μ:Mem) (d:D) (μ':Mem),RepV X.K ρ H dx x→RepV X.K ρ H dy y→RepH X.K ρ H μ→g dx dy μ = some (d,μ')→(∀ ρ' H' v,Ext ρ H ρ' H'→RepH X.K ρ' H' μ'→RepV X.K ρ' H' d v→Q v H')→wpAny (model X.prog X.w) X.A (f v u) (EP X pins σ Q) X.xe s):OpM X f g:=by
  intro pins s σ H x y v u Q I rx ry hh
  obtain ⟨ρ,dx,dy,μ,d,μ',r1,r2,R,e,k⟩:=hh
  exact h pins s σ H x y v u Q I rx ry ρ dx dy μ d μ' r1 r2 R e k
@[simp] noncomputable def zt (g:G2) (φ ψ:FE):FE:=fun δ μ=>(φ δ μ).bind fun p=>(ψ δ p.2).bind fun q=>g p.1 q.1 q.2
theorem zjn {g:G2} {ρ:List Addr} {δ:Loc} {μ:Mem} {σ:L2.St} {H:Hp} {d:D} {μ':Mem} {Q:VK} (A:At X.K ρ H σ δ μ) (e:zt g φ ψ δ μ = some (d,μ'))
    (k:∀ ρ' H' v,Ext ρ H ρ' H'→RepH X.K ρ' H' μ'→RepV X.K ρ' H' d v→Q v H'):tOp (rM X.K g) (tM X.K φ) (tM X.K ψ) σ H Q:=by
  obtain ⟨⟨x,μ1⟩,e1,e⟩:=zf e
  obtain ⟨⟨y,μ2⟩,e2,e⟩:=zf e
  refine ⟨ρ,δ,μ,x,μ1,A,e1,fun ρ1 H1 v x1 R1 r1=>?_⟩
  refine ⟨ρ1,δ,μ1,y,μ2,A.ext x1 R1,e2,fun ρ2 H2 u x2 R2 r2=>?_⟩
  exact ⟨ρ2,x,y,μ2,d,μ',r1.ext x2,r2,R2,e,fun ρ3 H3 w x3 R3 r3=>k ρ3 H3 w (x1.trans (x2.trans x3)) R3 r3⟩
theorem z5 {op:Operator} {g:G2} (ho:OpM X (binaryOp op) g) (ha:ME X a φ) (hb:ME X b ψ):ME X (.BinOp a op b pos) (zt g φ ψ) :=
  zfd (zct ho ha hb) fun _ _ _ _ _ _ _ _ A e k=>zjn A e k
theorem zof {op:CmpOp} {g:G2} (ho:OpM X (compareOp op) g) (ha:ME X a φ) (hb:ME X b ψ) (hm:behindInMarks op b=false:=by first | exact nobehind _ (by decide) (by decide) | rfl | with_unfolding_all rfl):ME X (.Compare a [op] [b] pos) (zt g φ ψ) :=
  zfd (zOq ho ha hb hm) fun _ _ _ _ _ _ _ _ A e k=>zjn A e k
@[simp] noncomputable def z9 (φ:FE):FT:=fun δ μ=>(φ δ μ).bind fun p=>match p.1 with
  | .bl b=>some (b,p.2)
  | _=>none
theorem zIl {δ:Loc} {μ μ':Mem} {b:Bool} (h:z9 φ δ μ = some (b,μ')):φ δ μ = some (.bl b,μ'):=by
  obtain ⟨⟨x,μ1⟩,e1,e⟩:=zf h
  dsimp only at e
  split at e
  · cases e
    exact e1
  · cases e
theorem zS {op:CmpOp} {g:G2} (ho:OpM X (compareOp op) g) (ha:ME X a φ) (hb:ME X b ψ) (hm:behindInMarks op b=false:=by first | exact nobehind _ (by decide) (by decide) | rfl | with_unfolding_all rfl):MT X (.Compare a [op] [b] pos) (z9 (zt g φ ψ)) :=
  zBq (zZq ho ha hb hm) fun ρ δ μ σ H b μ' Q A e k=>zjn (Q:=fun x H'=>∃ k,x = .bl k∧Q k H') A (zIl e) fun ρ' H' v x R r=>⟨b,r.bl_inv,k ρ' H' x R⟩
@[simp] noncomputable def zxd:G2:=fun x y μ=>match x,y with
  | .int i, .int j=>some (.int (i+j),μ)
  | .tup as, .tup bs=>bif decide (as.length+bs.length≤1000000) then some (.tup (as++bs),μ) else none
  | .loc l, .loc m=>match μ[l]?,μ[m]? with
    | some (.lst as),some (.lst bs)=>bif decide (as.length+bs.length≤1000000) then some (.loc μ.length,μ ++ [.lst (as++bs)]) else none
    | _,_=>none
  | _,_=>none
@[simp] noncomputable def zqq:G2:=fun x y μ=>match x,y with
  | .int i, .int j=>some (.int (i - j),μ)
  | _,_=>none
noncomputable def zzh (i j:Int):Bool:=decide (-(2 ^ 64)<i∧i<2 ^ 64) || decide (-(2 ^ 64)<j∧j<2 ^ 64) || (decide (i.natAbs<2 ^ 1000) && decide (j.natAbs<2 ^ 1000))
theorem zBp {i j:Int} (h:zzh i j=true):IntMulOk i j:=by
  unfold zzh at h
  rw [Bool.or_eq_true,Bool.or_eq_true,Bool.and_eq_true] at h
  rcases h with (h | h) | ⟨h1,h2⟩
  · have h:=of_decide_eq_true h
    exact .of_left (intBits_le_64 h.1 h.2)
  · have h:=of_decide_eq_true h
    exact .of_right (intBits_le_64 h.1 h.2)
  · exact .of_le (m:=1000) (n:=1000) (intBits_le (of_decide_eq_true h1)) (intBits_le (of_decide_eq_true h2)) (by decide)
noncomputable def zYg:G2:=fun x y μ=>match x,y with
  | .int i, .int j=>bif zzh i j then some (.int (i * j),μ) else none
  | .tup ds, .int n=>bif decide (2≤n∧n≤1000∧0<ds.length∧ds.length≤1000) then some (.tup (List.replicate n.toNat ds).flatten,μ) else none
  | .loc l, .int n=>match μ[l]? with
    | some (.lst ds)=>bif decide (n≤1000∧-(2 ^ 62)≤n∧ds.length≤1000) then some (.loc μ.length,μ ++ [.lst (List.replicate n.toNat ds).flatten]) else none
    | _=>none
  | _,_=>none
@[simp] noncomputable def zgl:G2:=fun x y μ=>match x,y with
  | .int i, .int j=>bif decide (0<j) then some (.int (i % j),μ) else none
  | _,_=>none
@[simp] noncomputable def z8p:G2:=fun x y μ=>match x,y with
  | .int i, .int j=>bif decide (0<j∧j<1606938044258990275541962092341162602522202993782792835301376) then some (.int (i / j),μ) else none
  | _,_=>none
noncomputable def zpr:G2:=fun x y μ=>match x,y with
  | .int i, .int j=>bif decide (0≤j∧j≤100000∧i.natAbs<1606938044258990275541962092341162602522202993782792835301376) then some (.int (i ^ j.toNat),μ) else none
  | _,_=>none
theorem zL {α:Type} {c:Bool} {o:Option α} {x:α} (h:(bif c then o else none)=some x):c=true∧o=some x:=by
  cases c with
  | true=>exact ⟨rfl,h⟩
  | false=>cases h
theorem zyi {f:Value→Value→Sem Value} {g:G2} {C:Int→Int→Prop} {h:Int→Int→Int} (o:OpR X f (rI C fun i j => .int (h i j)))
    (w:∀ x y μ d μ',g x y μ = some (d,μ')→∃ i j,x = .int i∧y = .int j∧C i j∧d = .int (h i j)∧μ' = μ):OpM X f g:=by
  refine OpM.of fun pins s σ H x y v u Q I rx ry ρ dx dy μ d μ' r1 r2 R e k=>?_
  obtain ⟨i,j,rfl,rfl,hc,rfl,rfl⟩:=w _ _ _ _ _ e
  refine o pins s σ H x y v u Q I rx ry ⟨i,j,r1.int_inv,r2.int_inv,hc,?_⟩
  exact k ρ H _ Ext.refl R .int
theorem zHn:OpM X (binaryOp .Sub) zqq:=zyi (C:=fun _ _=>True) (h:=fun i j=>i - j) (opI fun _ _ _ _ _ _ _ _ q=>sub_int q) fun x y μ d μ' e=>by
  unfold zqq at e
  split at e
  · cases e;exact ⟨_,_,rfl,rfl,trivial,rfl,rfl⟩
  · cases e
theorem z9d:OpM X (binaryOp .Mod) zgl:=zyi (h:=fun i j=>i % j) zcs fun x y μ d μ' e=>by
  unfold zgl at e
  split at e
  · obtain ⟨h1,e⟩:=zL e
    cases e;have h2:=of_decide_eq_true h1;exact ⟨_,_,rfl,rfl,h2,rfl,rfl⟩
  · cases e
noncomputable def zEs (i j:Int):Prop:=0<j∧j<1606938044258990275541962092341162602522202993782792835301376
theorem z0o:OpR X (binaryOp .FloorDiv) (rI zEs fun i j => .int (i / j)):=opI fun i j _ _ _ _ _ hc q=>by
  have h1:(0:Int)<j:=hc.1
  have h2:j<1606938044258990275541962092341162602522202993782792835301376:=hc.2
  refine floordiv_int (by first|decide|lia) (by rw [Int.fdiv_eq_ediv_of_nonneg i (by first|decide|lia)];exact q) (.inl (PyProof.noPylong_of_log2 ?_))
  have:j.natAbs.log2<200:=(Nat.log2_lt (by first|decide|lia)).mpr (by rw [show 2 ^ 200=1606938044258990275541962092341162602522202993782792835301376 from rfl];lia)
  lia
theorem zZk:OpM X (binaryOp .FloorDiv) z8p:=zyi (C:=zEs) (h:=fun i j=>i / j) z0o fun x y μ d μ' e=>by
  unfold z8p at e
  split at e
  · obtain ⟨h1,e⟩:=zL e
    cases e;have h2:=of_decide_eq_true h1;exact ⟨_,_,rfl,rfl,h2,rfl,rfl⟩
  · cases e
noncomputable def zNr (i j:Int):Prop:=0≤j∧j≤100000∧i.natAbs<1606938044258990275541962092341162602522202993782792835301376
theorem z4p:OpR X (binaryOp .Pow) (rI zNr fun i j => .int (i ^ j.toNat)):=opI fun i j _ _ _ _ _ hc q=>by
  refine pow_int hc.1 ?_ q
  have hb:Builtin.Int.intBits i≤200:=intBits_le (by rw [show 2 ^ 200=1606938044258990275541962092341162602522202993782792835301376 from rfl];exact hc.2.2)
  have h2:=hc.2.1
  have h1:=hc.1
  calc (Builtin.Int.intBits i:Int) * j≤200 * 100000:=Int.mul_le_mul (by first|decide|lia) h2 h1 (by first|decide|lia)
    _≤2 ^ 27:=by decide
theorem z1q:OpM X (binaryOp .Pow) zpr:=zyi (C:=zNr) (h:=fun i j=>i ^ j.toNat) z4p fun x y μ d μ' e=>by
  unfold zpr at e
  split at e
  · obtain ⟨h1,e⟩:=zL e
    cases e;have h2:=of_decide_eq_true h1;exact ⟨_,_,rfl,rfl,h2,rfl,rfl⟩
  · cases e
@[simp] noncomputable def zSl (p:Int→Int→Bool):G2:=fun x y μ=>match x,y with
  | .int i, .int j=>some (.bl (p i j),μ)
  | _,_=>none
theorem zpk {f:Value→Value→Sem Value} {p:Int→Int→Bool} (o:OpR X f (rI0 fun i j => .bl (p i j))):OpM X f (zSl p):=by
  refine OpM.of fun pins s σ H x y v u Q I rx ry ρ dx dy μ d μ' r1 r2 R e k=>?_
  unfold zSl at e
  split at e
  · cases e
    exact o pins s σ H x y v u Q I rx ry ⟨_,_,r1.int_inv,r2.int_inv,k ρ H _ Ext.refl R .bl⟩
  · cases e
theorem zgk:OpM X (compareOp .Lt) (zSl fun i j=>decide (i<j)):=zpk zut
theorem z2p:OpM X (compareOp .Gt) (zSl fun i j=>decide (j<i)):=zpk z3s
theorem zNs:OpM X (compareOp .GtE) (zSl fun i j=>decide (j≤i)):=zpk z0s
@[simp] noncomputable def fOr (φ ψ:FE):FE:=fun δ μ=>(φ δ μ).bind fun p=>match p.1 with
  | .bl false=>ψ δ p.2
  | .bl true=>some (.bl true,p.2)
  | _=>none
theorem zDr {op} (h:ME X a φ):ME X (.BoolOp op [a] pos) φ:=zur h
theorem zJt {rest:List Expr} (ha:ME X a φ) (hb:ME X (.BoolOp .Or (b :: rest) pos) ψ):ME X (.BoolOp .Or (a :: b :: rest) pos) (fOr φ ψ) :=
  zfd (z9s ha hb) fun ρ δ μ σ H d μ' Q A e k=>by
    obtain ⟨⟨x,μ1⟩,e1,e⟩:=zf e
    refine ⟨ρ,δ,μ,x,μ1,A,e1,fun ρ1 H1 v x1 R1 r1=>?_⟩
    dsimp only at e
    split at e
    · exact ⟨false,r1.bl_inv,iteF ⟨ρ1,δ,μ1,d,μ',A.ext x1 R1,e,fun ρ2 H2 w x2 R2 r2=>k ρ2 H2 w (x1.trans x2) R2 r2⟩⟩
    · cases e
      exact ⟨true,r1.bl_inv,iteT (k ρ1 H1 _ x1 R1 .bl)⟩
    · cases e
@[simp] noncomputable def zUo (φ ψ:FT):FT:=fun δ μ=>(φ δ μ).bind fun p=>bif p.1 then ψ δ p.2 else some (false,p.2)
@[simp] noncomputable def zqr (φ ψ:FT):FT:=fun δ μ=>(φ δ μ).bind fun p=>bif p.1 then some (true,p.2) else ψ δ p.2
@[simp] noncomputable def z0q (φ:FT):FT:=fun δ μ=>(φ δ μ).bind fun p=>some (!p.1,p.2)
theorem zQj {φ:FE} (h:ME X a φ) (he:∀ whole,isTrue a X.env whole=(do let v ← whole;standAt a.pos;holding [v] (truthy v)):=by intro _;rfl):MT X a (z9 φ) :=
  zBq (zPs h he) fun ρ δ μ σ H b μ' Q A e k=>⟨ρ,δ,μ, .bl b,μ',A,zIl e,fun ρ' H' v x R r=>⟨b,r.bl_inv,k ρ' H' x R⟩⟩
theorem MW.mt {φ:FT} (h:MW X a φ):MT X a φ:=h _
theorem zTn {φ:FT} (h:MT X a φ):MW X (.BoolOp .And [a] pos) φ:=zrq h
theorem zHl {φ:FT} (h:MT X a φ):MW X (.BoolOp .Or [a] pos) φ:=zCs h
theorem zPp {φ ψ:FT} {rest:List Expr} (ha:MT X a φ) (hb:MW X (.BoolOp .And (b :: rest) pos) ψ):MW X (.BoolOp .And (a :: b :: rest) pos) (zUo φ ψ) :=
  zIs (z3r ha hb) fun ρ δ μ σ H b μ' Q A e k=>by
    obtain ⟨⟨x,μ1⟩,e1,e⟩:=zf e
    refine ⟨ρ,δ,μ,x,μ1,A,e1,fun ρ1 H1 x1 R1=>?_⟩
    cases x with
    | true=>exact iteT ⟨ρ1,δ,μ1,b,μ',A.ext x1 R1,e,fun ρ2 H2 x2 R2=>k ρ2 H2 (x1.trans x2) R2⟩
    | false =>
      cases e
      exact iteF (k ρ1 H1 x1 R1)
theorem zVo {φ ψ:FT} {rest:List Expr} (ha:MT X a φ) (hb:MW X (.BoolOp .Or (b :: rest) pos) ψ):MW X (.BoolOp .Or (a :: b :: rest) pos) (zqr φ ψ) :=
  zIs (zit ha hb) fun ρ δ μ σ H b μ' Q A e k=>by
    obtain ⟨⟨x,μ1⟩,e1,e⟩:=zf e
    refine ⟨ρ,δ,μ,x,μ1,A,e1,fun ρ1 H1 x1 R1=>?_⟩
    cases x with
    | false=>exact iteF ⟨ρ1,δ,μ1,b,μ',A.ext x1 R1,e,fun ρ2 H2 x2 R2=>k ρ2 H2 (x1.trans x2) R2⟩
    | true =>
      cases e
      exact iteT (k ρ1 H1 x1 R1)
theorem zvs {φ:FT} (ha:MT X a φ):MT X (.UnaryOp .Not a pos) (z0q φ) :=
  zBq (zEr ha) fun ρ δ μ σ H b μ' Q A e k=>by
    obtain ⟨⟨x,μ1⟩,e1,e⟩:=zf e
    cases e
    exact ⟨ρ,δ,μ,x,μ1,A,e1,fun ρ1 H1 x1 R1=>k ρ1 H1 x1 R1⟩
structure MAn (X:Cx) (es:List Expr) (φ:FA):Prop where
  ma:MA X es φ
  len:∀ δ μ ds μ',φ δ μ = some (ds,μ')→ds.length=es.length
@[simp] noncomputable def zF:FA:=fun _ μ=>some ([],μ)
@[simp] noncomputable def ze (φ:FE) (ψ:FA):FA:=fun δ μ=>(φ δ μ).bind fun p=>(ψ δ p.2).bind fun q=>some (p.1 :: q.1,q.2)
theorem zd:MAn X [] zF:=⟨zgs zee fun ρ δ μ σ H ds μ' Q A e k=>by
    cases e
    exact k ρ H [] Ext.refl A.hp .nil,fun _ _ _ _ e=>by cases e;rfl⟩
noncomputable def zPr:Expr→Bool
  | .Starred ..=>false
  | _=>true
theorem zYe {e:Expr} {es:List Expr} {env:Env} (h:zPr e=true):starEach (e :: es) env=(false,eval e env) :: starEach es env:=by
  cases e <;> first | rfl | cases h
theorem za {φ:FE} {ψ:FA} (ha:ME X e φ) (hr:MAn X es ψ) (hs:starEach (e :: es) X.env=(false,eval e X.env) :: starEach es X.env:=by exact zYe rfl):MAn X (e :: es) (ze φ ψ) :=
  ⟨zgs (zsc ha hr.ma hs) fun ρ δ μ σ H ds μ' Q A e k=>by
    obtain ⟨⟨x,μ1⟩,e1,e⟩:=zf e
    obtain ⟨⟨y,μ2⟩,e2,e⟩:=zf e
    cases e
    refine ⟨ρ,δ,μ,x,μ1,A,e1,fun ρ1 H1 v x1 R1 r1=>?_⟩
    refine ⟨ρ1,δ,μ1,y,μ2,A.ext x1 R1,e2,fun ρ2 H2 u x2 R2 r2=>?_⟩
    exact k ρ2 H2 _ (x1.trans x2) R2 (.cons (r1.ext x2) r2),fun δ μ ds μ' e=>by
    obtain ⟨⟨x,μ1⟩,e1,e⟩:=zf e
    obtain ⟨⟨y,μ2⟩,e2,e⟩:=zf e
    cases e
    have:=hr.len _ _ _ _ e2
    simp [this]⟩
@[simp] noncomputable def zBg (φ:FA):FE:=fun δ μ=>(φ δ μ).bind fun p=>some (.tup p.1,p.2)
@[simp] noncomputable def zQi (φ:FA):FE:=fun δ μ=>(φ δ μ).bind fun p=>some (.loc p.2.length,p.2 ++ [.lst p.1])
theorem z1b {x1} {φ:FA} (h:MAn X es φ) (hn:es.length≤1000:=by decide):ME X (.Tuple es x1 pos) (zBg φ) :=
  zfd (z2r h.ma) fun ρ δ μ σ H d μ' Q A e k=>by
    obtain ⟨⟨x,μ1⟩,e1,e⟩:=zf e
    cases e
    refine ⟨ρ,δ,μ,x,μ1,A,e1,fun ρ1 H1 vs x1 R1 r1=>⟨?_,fun p hp=>?_⟩⟩
    · rw [← r1.length,h.len _ _ _ _ e1]
      exact Nat.le_of_lt (small1000 hn)
    · exact k ρ1 _ _ (x1.trans (Ext.new hp)) (R1.newTup hp) (.tup zo (r1.ext (Ext.new hp)))
theorem zkd {φ:FA} (h:MAn X es φ) (hn:es.length≤1000:=by decide):ME X (.List es pos) (zQi φ) :=
  zfd (zzr h.ma) fun ρ δ μ σ H d μ' Q A e k=>by
    obtain ⟨⟨x,μ1⟩,e1,e⟩:=zf e
    cases e
    refine ⟨ρ,δ,μ,x,μ1,A,e1,fun ρ1 H1 vs x1 R1 r1=>⟨?_,fun p hp=>?_⟩⟩
    · rw [← r1.length,h.len _ _ _ _ e1]
      exact Nat.le_of_lt (small1000 hn)
    · exact k _ _ _ (x1.trans (Ext.push hp)) (R1.push hp ⟨vs,zo,r1.ext (Ext.push hp)⟩) (.loc (zvb R1))
@[simp] noncomputable def zz (F:FF) (φ:FA):FE:=fun δ μ=>(φ δ μ).bind fun p=>F p.1 p.2
theorem zxq {k n:Nat} {f:Addr} {fd:FuncData} {ps:List Str} {F:FF} {x:Str} {p:Pos} {φ:FA} (G:FnOk X.prog X.w X.K X.mg X.base CX0 k f fd ps (spM X.K n F)) (hr:Room k X.A) (hm:X.mg x=some (.ref f)) (hk:PySem.W.keepIn X.K (.ref f)=true) (hb:Binds X.K fd ps [])
    (ha:MAn X (e :: es) φ) (hn:(e :: es).length=n:=by rfl) (hg:Gl X x:=by rfl) (hdb:(x == ("__debug__":Str))=false:=by decide) (he:starEach (e :: es) X.env=(false,eval e X.env) :: starEach es X.env:=by exact zYe rfl) (hpl:(backTo pos (starEach es X.env)).any (·.1)=false:=by rfl) :
    ME X (.Call (.Name x p) (e :: es) [] pos) (zz F φ) :=
  zfd (zQq G hr hg hm hk hb .nil pass0 ha.ma hdb he hpl) fun ρ δ μ σ H d μ' Q A e k=>by
    obtain ⟨⟨x,μ1⟩,e1,e⟩:=zf e
    refine ⟨ρ,δ,μ,x,μ1,A,e1,fun ρ1 H1 vs x1 R1 r1=>?_⟩
    show spM X.K n F (vs ++ []) H1 Q E0
    rw [List.append_nil]
    exact ⟨by rw [← r1.length,ha.len _ _ _ _ e1];exact hn,ρ1,x,μ1,d,μ',r1,R1,e,fun ρ2 H2 v x2 R2 r2=>k ρ2 H2 v (x1.trans x2) R2 r2⟩
noncomputable abbrev GL:=List D→Mem→Option (D×Mem)
noncomputable def rCM (K:PySem.W.Frag) (g:GL):List V→Hp→VK→Prop:=fun vs H Q=>∃ ρ ds μ d μ',RepVs K ρ H ds vs∧RepH K ρ H μ∧g ds μ = some (d,μ')∧∀ ρ' H' v,Ext ρ H ρ' H'→RepH K ρ' H' μ'→RepV K ρ' H' d v→Q v H'
noncomputable def CallM (X:Cx) (f:Value) (g:GL):Prop:=zch X f (rCM X.K g)
theorem CallM.of {X:Cx} {f:Value} {g:GL} (h:∀ (pins:List (Addr×Obj)) (s:Shared) (σ:L2.St) (H:Hp) (xs:List V) (us:List Value) (Q:VK),Inv X pins σ H s→Vals xs us→∀ (ρ:List Addr) (ds:List D) (μ:Mem) (d:D) (μ':Mem),RepVs X.K ρ H ds xs→RepH X.K ρ H μ→g ds μ = some (d,μ')→(∀ ρ' H' v,Ext ρ H ρ' H'→RepH X.K ρ' H' μ'→RepV X.K ρ' H' d v→Q v H')→wpAny (model X.prog X.w) X.A (call f us) (EP X pins σ Q) X.xe s):CallM X f g:=by
  intro pins s σ H xs us Q I r hh
  obtain ⟨ρ,ds,μ,d,μ',r1,R,e,k⟩:=hh
  exact h pins s σ H xs us Q I r ρ ds μ d μ' r1 R e k
theorem zQt {g:GL} {φ:FA} {ρ:List Addr} {δ:Loc} {μ:Mem} {σ:L2.St} {H:Hp} {d:D} {μ':Mem} {Q:VK} (A:At X.K ρ H σ δ μ) (e:zz g φ δ μ = some (d,μ'))
    (k:∀ ρ' H' v,Ext ρ H ρ' H'→RepH X.K ρ' H' μ'→RepV X.K ρ' H' d v→Q v H'):tCB (rCM X.K g) (tMA X.K φ) σ H Q:=by
  obtain ⟨⟨x,μ1⟩,e1,e⟩:=zf e
  exact ⟨ρ,δ,μ,x,μ1,A,e1,fun ρ1 H1 vs x1 R1 r1=>⟨ρ1,x,μ1,d,μ',r1,R1,e,fun ρ2 H2 v x2 R2 r2=>k ρ2 H2 v (x1.trans x2) R2 r2⟩⟩
theorem zcb {g:GL} {id:String} {x:Str} {p:Pos} {φ:FA} (hc:CallM X (.builtin id) g) (hm:X.mg x=none) (hv:bootBuiltins x=some (.builtin id)) (ha:MAn X (e :: es) φ) (hg:Gl X x:=by rfl) (hn:x≠"__name__":=by decide) (hdb:(x == ("__debug__":Str))=false:=by decide)
    (he:starEach (e :: es) X.env=(false,eval e X.env) :: starEach es X.env:=by exact zYe rfl) (hpl:(backTo pos (starEach es X.env)).any (·.1)=false:=by rfl):ME X (.Call (.Name x p) (e :: es) [] pos) (zz g φ) :=
  zfd (zPi hc hg hm hv ha.ma hn hdb he hpl) fun _ _ _ _ _ _ _ _ A e k=>zQt A e k
theorem zEc {g:GL} {T:String} {x:Str} {p:Pos} {φ:FA} (hc:CallM X (.type T) g) (hm:X.mg x=none) (hv:bootBuiltins x=some (.type T)) (ha:MAn X (e :: es) φ) (hg:Gl X x:=by rfl) (hn:x≠"__name__":=by decide) (hdb:(x == ("__debug__":Str))=false:=by decide)
    (he:starEach (e :: es) X.env=(false,eval e X.env) :: starEach es X.env:=by exact zYe rfl) (hpl:(backTo pos (starEach es X.env)).any (·.1)=false:=by rfl):ME X (.Call (.Name x p) (e :: es) [] pos) (zz g φ) :=
  zfd (zwd hc hg hm hv ha.ma hn hdb he hpl) fun _ _ _ _ _ _ _ _ A e k=>zQt A e k
end
section
variable {K:PySem.W.Frag} {ρ:List Addr} {H:Hp} {μ:Mem}
@[simp] noncomputable def items (μ:Mem):D→Option (List D)
  | .tup ds=>some ds
  | .fz ds=>some ds
  | .loc n=>match μ[n]? with
    | some (.lst ds)=>some ds
    | _=>none
  | _=>none
theorem zwf {d:D} {v:V} {ds:List D} (R:RepH K ρ H μ) (r:RepV K ρ H d v) (e:items μ d=some ds):∃ p vs,v = .ref p∧(SqL K H p vs∨SqT K H p vs)∧RepVs K ρ H ds vs:=by
  unfold items at e
  split at e
  · cases e
    obtain ⟨a,vs,e1,e2,q⟩:=r.tup_inv
    exact ⟨a,vs,e1, .inr (SqT.of e2),q⟩
  · cases e
    obtain ⟨a,vs,e1,e2,q⟩:=r.fz_inv
    exact ⟨a,vs,e1, .inl e2.sq,q⟩
  · split at e
    · rename_i h
      cases e
      obtain ⟨a,e1,e2⟩:=r.loc_inv
      obtain ⟨vs,e3,q⟩:=R.at_ _ _ _ e2 h
      exact ⟨a,vs,e1, .inl (SqL.of e3),q⟩
    · cases e
  · cases e
end
section
variable {X:Cx} {a b c e:Expr} {es:List Expr} {φ ψ χ:FE} {pos:Pos}
@[simp] noncomputable def gIx:G2:=fun x y μ=>match y with
  | .int i=>(items μ x).bind fun ds=>(atI ds i).bind fun d=>some (d,μ)
  | _=>none
theorem zIq {K:PySem.W.Frag} {ρ:List Addr} {H:Hp} {ds:List D} {vs:List V} {i:Int} {d:D} (r:RepVs K ρ H ds vs) (e:atI ds i=some d):∃ v,atI vs i=some v∧RepV K ρ H d v:=by
  unfold atI at e ⊢
  rw [r.length] at e
  obtain ⟨j,e1,e2⟩:=zf e
  obtain ⟨v,e3,q⟩:=r.get e2
  exact ⟨v,by rw [e1];exact e3,q⟩
theorem ixM:IxR X (rM X.K gIx):=by
  intro value slice pins s σ H x y v u Q I rx ry ⟨ρ,dx,dy,μ,d,μ',r1,r2,R,e,k⟩ hs
  unfold gIx at e
  split at e
  · obtain ⟨ds,e1,e⟩:=zf e
    obtain ⟨d',e2,e⟩:=zf e
    cases e
    obtain ⟨p,vs,rfl,hq,rr⟩:=zwf R r1 e1
    obtain ⟨w,e3,q⟩:=zIq rr e2
    rcases hq with hq | hq
    · exact z0p value slice pins s σ H _ y v u Q I rx ry (.inl ⟨p,vs,_,w,rfl,r2.int_inv,hq,e3,k ρ H w Ext.refl R q⟩) hs
    · exact z0p value slice pins s σ H _ y v u Q I rx ry (.inr (.inl ⟨p,vs,_,w,rfl,r2.int_inv,hq,e3,k ρ H w Ext.refl R q⟩)) hs
  · cases e
theorem zB (ha:ME X a φ) (hb:ME X b ψ) (hs:zfl b:=by exact fun _ _=>rfl):ME X (.Subscript a b pos) (zt gIx φ ψ) :=
  zfd (zOs ixM ha hb hs) fun _ _ _ _ _ _ _ _ A e k=>zjn A e k
@[simp] noncomputable def zzi:GL:=fun ds μ=>match ds with
  | [d]=>(items μ d).bind fun xs=>some (.int xs.length,μ)
  | _=>none
theorem zZ:CallM X (.builtin "len") zzi:=by
  refine CallM.of fun pins s σ H xs us Q I r ρ ds μ d μ' r1 R e k=>?_
  unfold zzi at e
  split at e
  · obtain ⟨ds,e1,e⟩:=zf e
    cases e
    obtain ⟨v,rr,rfl,q1,q2⟩:=r1.cons_inv
    have q2:=q2.nil_inv
    subst q2
    obtain ⟨p,vs,rfl,hq,rr⟩:=zwf R q1 e1
    exact zck pins s σ H _ us Q I r ⟨p,vs,rfl,hq,k ρ H _ Ext.refl R (by rw [rr.length];exact .int)⟩
  · cases e
@[simp] noncomputable def z8n:GL:=fun ds μ=>match ds with
  | [d]=>(items μ d).bind fun xs=>some (.loc μ.length,μ ++ [.lst xs])
  | _=>none
theorem zRh:CallM X (.type "list") z8n:=by
  refine CallM.of fun pins s σ H xs us Q I r ρ ds μ d μ' r1 R e k=>?_
  unfold z8n at e
  split at e
  · obtain ⟨ds,e1,e⟩:=zf e
    cases e
    obtain ⟨v,rr,rfl,q1,q2⟩:=r1.cons_inv
    have q2:=q2.nil_inv
    subst q2
    obtain ⟨p,vs,rfl,hq,rr⟩:=zwf R q1 e1
    exact zjg pins s σ H _ us Q I r ⟨p,vs,rfl,hq,fun l hl=>k _ _ _ (Ext.push hl) (R.push hl ⟨vs,zo,rr.ext (Ext.push hl)⟩) (.loc (zvb R))⟩
  · cases e
@[simp] noncomputable def zid:GL:=fun ds μ=>match ds with
  | [.tup xs]=>some (.tup xs,μ)
  | [d]=>(items μ d).bind fun xs=>some (.tup xs,μ)
  | _=>none
theorem zgc:CallM X (.type "tuple") zid:=by
  refine CallM.of fun pins s σ H xs us Q I r ρ ds μ d μ' r1 R e k=>?_
  have key:∃ x ys,ds = [x]∧items μ x=some ys∧d = .tup ys∧μ' = μ:=by
    unfold zid at e
    split at e
    · cases e;exact ⟨_,_,rfl,rfl,rfl,rfl⟩
    · obtain ⟨ds,e1,e⟩:=zf e
      cases e
      exact ⟨_,_,rfl,e1,rfl,rfl⟩
    · cases e
  obtain ⟨x,ys,rfl,e1,rfl,rfl⟩:=key
  obtain ⟨v,rr,rfl,q1,q2⟩:=r1.cons_inv
  have q2:=q2.nil_inv
  subst q2
  cases x with
  | tup zs =>
    cases e1
    obtain ⟨a,vs,rfl,e2,q⟩:=q1.tup_inv
    exact zyd pins s σ H _ us Q I r ⟨a,vs,rfl, .inr ⟨SqT.of e2,k ρ H _ Ext.refl R q1⟩⟩
  | fz zs =>
    cases e1
    obtain ⟨a,vs,rfl,e2,q⟩:=q1.fz_inv
    exact zyd pins s σ H _ us Q I r ⟨a,vs,rfl, .inl ⟨e2.sq,fun l hl=>k ρ _ _ (Ext.new hl) (R.newTup hl) (.tup zo (q.ext (Ext.new hl)))⟩⟩
  | loc n =>
    unfold items at e1
    dsimp only at e1
    split at e1
    · rename_i h
      cases e1
      obtain ⟨a,rfl,e2⟩:=q1.loc_inv
      obtain ⟨vs,e3,q⟩:=R.at_ _ _ _ e2 h
      exact zyd pins s σ H _ us Q I r ⟨a,vs,rfl, .inl ⟨SqL.of e3,fun l hl=>k ρ _ _ (Ext.new hl) (R.newTup hl) (.tup zo (q.ext (Ext.new hl)))⟩⟩
    · cases e1
  | _=>cases e1
end
end M
set_option Elab.async false
set_option linter.all false
set_option maxRecDepth 100000
set_option autoImplicit false
namespace M
open PySem PySem.Spec PyProof.Rows L2
theorem zGj {prog:Program} {w:World} {A:Around} {R:Result→Shared→Prop} {s:Shared} {elt target iter:Expr} {ifs:List Expr} {scope:Scope} {pos:Pos} {it acc:Value} {env:Env} (I:Nat→Shared→Prop)
    (turn:∀ n s,I n s→wpAny (model prog w) A (pyNext it) (fun r s₁=>match r with
      | none=>R (.ok .next) s₁
      | some v=>wpAny (model prog w) A (letOwnedTupleGo target it v) (fun _ s₁'=>wpAny (model prog w) A (assign target env v) (fun _ s₂ =>
          wpAny (model prog w) A (forIn ifs true fun c r=>if r=true then do let ok ← isTrue c env (eval c env);pure (ForInStep.yield ok) else pure (ForInStep.yield r)) (fun ok s₃ =>
            if ok=true then wpAny (model prog w) A (eval elt env) (fun x s₄ =>
              wpAny (model prog w) A (call (.builtin "list.append") [acc,x]) (fun _ s₅=>∃ m,m<n∧I m s₅) (fun _ _=>False) s₄) (fun _ _=>False) s₃
            else ∃ m,m<n∧I m s₃) (fun _ _=>False) s₂) (fun _ _=>False) s₁') (fun _ _=>False) s₁) (fun _ _=>False) s)
    (n:Nat) (h:I n s) :
    codeAny (model prog w) A (.compLoop (.ListComp elt [⟨target,iter,ifs,0⟩] scope pos) 0 it acc env) R s:=by
  refine codeAny_loop rfl I (fun n s hI=>?_) n h
  show wpAny _ A ((compTurn (.ListComp elt [⟨target,iter,ifs,0⟩] scope pos) 0 it acc env).onRaise (fun x=>do noteFrame x env;theTreesLotGoes x)) _ _ s
  refine wpAny_noted ?_
  rw [compTurn_list]
  refine wpAny_bind (wpAny_standAt (wpAny_bind (wpAny_mono (turn n s hI) (fun r s₁ h₁=>?_) fun _ _ h'=>h'.elim)))
  cases r with
  | none=>exact wpAny_pure h₁
  | some v =>
    refine wpAny_bind (wpAny_mono h₁ (fun _ s₁' h₁=>?_) fun _ _ h'=>h'.elim)
    refine wpAny_bind (wpAny_mono h₁ (fun _ s₂ h₂=>wpAny_bind (wpAny_mono h₂ (fun ok s₃ h₃=>?_) fun _ _ h'=>h'.elim)) fun _ _ h'=>h'.elim)
    cases ok with
    | false=>exact wpAny_pure ⟨rfl,h₃⟩
    | true =>
      exact wpAny_bind (wpAny_bind (wpAny_mono h₃ (fun x s₄ h₄=>wpAny_bind (wpAny_mono h₄ (fun _ s₅ h₅=>wpAny_pure (wpAny_pure ⟨rfl,h₅⟩)) fun _ _ h'=>h'.elim)) fun _ _ h'=>h'.elim))
noncomputable def zub (cells:List (Str×Addr)):List (Str×NameKind)→List (Str×Addr)→List (Str×Addr)
  | [],acc=>acc
  | (n,k) :: r,acc=>zub cells r (if k == .free then (match cells.lookup n with | some c=>(n,c) :: acc | none=>acc) else acc)
theorem zig {env:Env}:∀ (names:List (Str×NameKind)) (acc:List (Str×Addr)),(∀ x∈names,x.2 = .free→∃ c,env.cells.lookup x.1=some c) →
    (forIn names acc fun (x:Str×NameKind) (cs:List (Str×Addr))=>(match x with | (name,kind)=>if kind == .free then do let c ← cellOf env name;pure (ForInStep.yield ((name,c) :: cs)) else pure (ForInStep.yield cs):Sem (ForInStep (List (Str×Addr)))))=(pure (zub env.cells names acc):Sem (List (Str×Addr)))
  | [],acc,_=>rfl
  | (n,k) :: r,acc,h=>by
    have ih:=fun acc'=>zig r acc' fun x hx=>h x (List.mem_cons_of_mem _ hx)
    rw [List.forIn_cons]
    by_cases hk:k = .free
    · subst hk
      obtain ⟨c,hc⟩:=h (n, .free) List.mem_cons_self rfl
      have e:cellOf env n=pure c:=by unfold cellOf;rw [hc]
      have:zub env.cells ((n,NameKind.free) :: r) acc=zub env.cells r ((n,c) :: acc):=by
        show zub env.cells r (if (NameKind.free == NameKind.free)=true then (match env.cells.lookup n with | some c=>(n,c) :: acc | none=>acc) else acc)=_
        rw [hc];rfl
      rw [this,← ih]
      show ((do let c ← cellOf env n;pure (ForInStep.yield ((n,c) :: acc))) >>= _:Sem _)=_
      rw [e]
      rfl
    · have hb:(k == NameKind.free)=false:=by simpa using hk
      have:zub env.cells ((n,k) :: r) acc=zub env.cells r acc:=by
        show zub env.cells r (if (k == NameKind.free)=true then _ else acc)=_
        rw [hb];rfl
      rw [this,← ih]
      simp only [hb,Bool.false_eq_true,if_false]
      rfl
theorem zai {scope:Scope} {env:Env} (h:∀ x∈scope.names,x.2 = .free→∃ c,env.cells.lookup x.1=some c):closureFor scope env=pure (zub env.cells scope.names []):=by
  have e:=zig (env:=env) scope.names [] h
  unfold closureFor
  show (forIn scope.names [] _ >>= fun r=>pure r:Sem _)=_
  rw [show (forIn scope.names ([]:List (Str×Addr)) fun (x:Str×NameKind) (r:List (Str×Addr))=>(match x with | (name,kind)=>if kind == .free then do let c ← cellOf env name;pure (ForInStep.yield ((name,c) :: r)) else pure (ForInStep.yield r):Sem (ForInStep (List (Str×Addr)))))=pure (zub env.cells scope.names []) from e]
  rfl
end M
set_option Elab.async false
set_option linter.all false
set_option maxRecDepth 100000
set_option autoImplicit false
namespace M
open PySem PySem.Spec PyProof.Rows L2
theorem zDi {cells:List (Str×Addr)} {x:Str} {c:Addr}:∀ (names:List (Str×NameKind)) (acc:List (Str×Addr)),(zub cells names acc).lookup x=some c→acc.lookup x=some c∨cells.lookup x=some c
  | [],_,h => .inl h
  | (n,k) :: r,acc,h=>by
    rcases zDi r _ h with q | q
    · by_cases hk:(k == NameKind.free)=true
      · rw [if_pos hk] at q
        cases e:cells.lookup n with
        | none=>rw [e] at q;exact .inl q
        | some a =>
          rw [e] at q
          simp only [List.lookup_cons] at q
          by_cases hx:(x == n)=true
          · rw [hx] at q
            have hx':x=n:=by simpa using hx
            subst hx'
            cases q
            exact .inr e
          · have hx':(x == n)=false:=by simpa using hx
            rw [hx'] at q
            exact .inl q
      · rw [if_neg hk] at q
        exact .inl q
    · exact .inr q
theorem zeo {cells:List (Str×Addr)} {x:Str}:∀ (names:List (Str×NameKind)) (acc:List (Str×Addr)),(acc.lookup x).isSome=true→((zub cells names acc).lookup x).isSome=true
  | [],_,h=>h
  | (n,k) :: r,acc,h=>by
    refine zeo r _ ?_
    by_cases hk:(k == NameKind.free)=true
    · rw [if_pos hk]
      cases e:cells.lookup n with
      | none=>exact h
      | some a =>
        simp only [List.lookup_cons]
        by_cases hx:(x == n)=true
        · rw [hx];rfl
        · have hx':(x == n)=false:=by simpa using hx
          rw [hx'];exact h
    · rw [if_neg hk];exact h
theorem zRp {cells:List (Str×Addr)} {x:Str} {c:Addr} (hc:cells.lookup x=some c):∀ (names:List (Str×NameKind)) (acc:List (Str×Addr)),(x,NameKind.free)∈names→((zub cells names acc).lookup x).isSome=true
  | [],_,h=>by cases h
  | (n,k) :: r,acc,h=>by
    rcases List.mem_cons.mp h with h | h
    · cases h
      refine zeo r _ ?_
      rw [if_pos (by rfl),hc]
      simp [List.lookup_cons]
    · exact zRp hc r _ h
noncomputable def cxC (X:Cx) (own:List Str) (fr:List Nat) (scope:Scope) (cl:List (Str×Addr)) (C:Addr) (s₀:Shared) (H₀:Hp) (fp:List Addr):Cx :=
  { X with N:=own++fr.map fun i=>X.N.getD i Str.empty,s₀:=s₀,H₀:=H₀,env:=compEnvC scope cl C X.env,outer:=X.stack,ex:=fp,fn:=fun x=>scope.names.lookup x == some .cell,xe:=fun _ _=>False }
noncomputable def σC (n:Nat) (fr:List Nat) (σ:L2.St):L2.St:=List.replicate n none++fr.map fun i=>(σ[i]?).getD none
noncomputable def zFq (σ σ':L2.St):Prop:=σ'.length = σ.length∧∀ (i:Nat) v,σ[i]?=some (some v)→σ'[i]?=some (some v)
noncomputable def PF (X:Cx) (ifs:List Expr) (t:TT):Prop:=∀ (pins:List (Addr×Obj)) (s:Shared) (σ:L2.St) (H:Hp) (Q:Bool→Hp→Prop),Inv X pins σ H s→t σ H Q →
  wpAny (model X.prog X.w) X.A (forIn ifs true fun c r=>if r=true then do let ok ← isTrue c X.env (eval c X.env);pure (ForInStep.yield ok) else pure (ForInStep.yield r)) (TP X pins σ Q) X.xe s
theorem zOr {X:Cx}:PF X [] (fun σ H Q=>Q true H):=fun pins s σ H Q I h=>wpAny_tests_nil ⟨H,I,h⟩
theorem zus {X:Cx} {c:Expr} {t:TT} (h:PT X c t):PF X [c] t:=fun pins s σ H Q I hw=>wpAny_tests_one (h pins s σ H Q I hw)
noncomputable def tLC (n:Nat) (fr:List Nat) (wi:TI) (g:TG) (tc:TT) (te:TE):TE:=fun σ H Q=>wi σ H fun J H1=>∃ W:Nat→Nat→List V→Hp→Prop,(∃ m,W 0 m [] H1)∧∀ i m ys H,W i m ys H →
  (J.stop i H∧∀ p,H p=none→Q (.ref p) (upd H p (.lst ys))) ∨
  (J.go i H∧ys.length<sizeLine∧∀ x H',J.yld i H x H'→g x (σC n fr σ) H' fun σ2 H2=>zFq (σC n fr σ) σ2∧tc σ2 H2 fun b H3 =>
    if b=true then te σ2 H3 fun y H4=>∃ m',m'<m∧W (i+1) m' (ys ++ [y]) H4 else ∃ m',m'<m∧W (i+1) m' ys H3)
section
variable {X:Cx} {own:List Str} {fr:List Nat} {scope:Scope} {pins:List (Addr×Obj)} {σ:L2.St} {H:Hp} {s:Shared}
theorem zcd {env:Env} {x:Str} {k:NameKind}:∀ {names:List (Str×NameKind)},(names.map fun (n,k)=>if (k == NameKind.free && env.scope.kind == .function && env.kindOf n == some .cell) then (n,NameKind.cell) else (n,k)).lookup x=some k →
    (k = .cell∨k = .free)→(x,NameKind.free)∈names∨(x,NameKind.cell)∈names
  | [],h,_=>by simp at h
  | (n,k') :: r,h,hk=>by
    rw [List.map_cons] at h
    by_cases hx:x=n
    · subst hx
      by_cases hb:(k' == NameKind.free && env.scope.kind == .function && env.kindOf x == some .cell)=true
      · have:k' = .free:=by
          simp only [Bool.and_eq_true,beq_iff_eq] at hb
          exact hb.1.1
        subst this
        exact .inl List.mem_cons_self
      · have h2:((x,k') :: r.map fun (n,k)=>if (k == NameKind.free && env.scope.kind == .function && env.kindOf n == some .cell) then (n,NameKind.cell) else (n,k)).lookup x=some k:=by
          have e:(if (k' == NameKind.free && env.scope.kind == .function && env.kindOf x == some .cell)=true then (x,NameKind.cell) else (x,k'))=(x,k'):=if_neg hb
          rw [← e];exact h
        simp only [List.lookup_cons,beq_self_eq_true] at h2
        cases h2
        rcases hk with rfl | rfl
        · exact .inr List.mem_cons_self
        · exact .inl List.mem_cons_self
    · have hx':(x == n)=false:=by simpa using hx
      have h2:(r.map fun (n,k)=>if (k == NameKind.free && env.scope.kind == .function && env.kindOf n == some .cell) then (n,NameKind.cell) else (n,k)).lookup x=some k:=by
        by_cases hb:(k' == NameKind.free && env.scope.kind == .function && env.kindOf n == some .cell)=true
        · have e:(if (k' == NameKind.free && env.scope.kind == .function && env.kindOf n == some .cell)=true then (n,NameKind.cell) else (n,k'))=(n,NameKind.cell):=if_pos hb
          have h3:((n,NameKind.cell) :: r.map fun (n,k)=>if (k == NameKind.free && env.scope.kind == .function && env.kindOf n == some .cell) then (n,NameKind.cell) else (n,k)).lookup x=some k:=by rw [← e];exact h
          simpa only [List.lookup_cons,hx'] using h3
        · have e:(if (k' == NameKind.free && env.scope.kind == .function && env.kindOf n == some .cell)=true then (n,NameKind.cell) else (n,k'))=(n,k'):=if_neg hb
          have h3:((n,k') :: r.map fun (n,k)=>if (k == NameKind.free && env.scope.kind == .function && env.kindOf n == some .cell) then (n,NameKind.cell) else (n,k)).lookup x=some k:=by rw [← e];exact h
          simpa only [List.lookup_cons,hx'] using h3
      rcases zcd h2 hk with q | q
      · exact .inl (List.mem_cons_of_mem _ q)
      · exact .inr (List.mem_cons_of_mem _ q)
theorem z9f {env:Env} {x:Str}:∀ {names:List (Str×NameKind)},names.lookup x=some .free →
    (names.map fun (n,k)=>if (k == NameKind.free && env.scope.kind == .function && env.kindOf n == some .cell) then (n,NameKind.cell) else (n,k)).lookup x=some .cell ∨
    (names.map fun (n,k)=>if (k == NameKind.free && env.scope.kind == .function && env.kindOf n == some .cell) then (n,NameKind.cell) else (n,k)).lookup x=some .free
  | [],h=>by simp at h
  | (n,k') :: r,h=>by
    rw [List.map_cons]
    by_cases hx:x=n
    · subst hx
      simp only [List.lookup_cons,beq_self_eq_true] at h
      cases h
      by_cases hb:(NameKind.free == NameKind.free && env.scope.kind == .function && env.kindOf x == some .cell)=true
      · have e:(if (NameKind.free == NameKind.free && env.scope.kind == .function && env.kindOf x == some .cell)=true then (x,NameKind.cell) else (x,NameKind.free))=(x,NameKind.cell):=if_pos hb
        left
        show List.lookup x ((if (NameKind.free == NameKind.free && env.scope.kind == .function && env.kindOf x == some .cell)=true then (x,NameKind.cell) else (x,NameKind.free)) :: _)=_
        rw [e];simp [List.lookup_cons]
      · have e:(if (NameKind.free == NameKind.free && env.scope.kind == .function && env.kindOf x == some .cell)=true then (x,NameKind.cell) else (x,NameKind.free))=(x,NameKind.free):=if_neg hb
        right
        show List.lookup x ((if (NameKind.free == NameKind.free && env.scope.kind == .function && env.kindOf x == some .cell)=true then (x,NameKind.cell) else (x,NameKind.free)) :: _)=_
        rw [e];simp [List.lookup_cons]
    · have hx':(x == n)=false:=by simpa using hx
      simp only [List.lookup_cons,hx'] at h
      have ih:=z9f (env:=env) h
      have step:∀ k,(r.map fun (n,k)=>if (k == NameKind.free && env.scope.kind == .function && env.kindOf n == some .cell) then (n,NameKind.cell) else (n,k)).lookup x=some k →
        List.lookup x ((if (k' == NameKind.free && env.scope.kind == .function && env.kindOf n == some .cell)=true then (n,NameKind.cell) else (n,k')) :: (r.map fun (n,k)=>if (k == NameKind.free && env.scope.kind == .function && env.kindOf n == some .cell) then (n,NameKind.cell) else (n,k)))=some k:=fun k hk=>by
          by_cases hb:(k' == NameKind.free && env.scope.kind == .function && env.kindOf n == some .cell)=true
          · rw [if_pos hb];simpa only [List.lookup_cons,hx'] using hk
          · rw [if_neg hb];simpa only [List.lookup_cons,hx'] using hk
      rcases ih with ih | ih
      · exact .inl (step _ ih)
      · exact .inr (step _ ih)
theorem zMk {b:Addr} (I:Inv X pins σ H s) (h1:b≠X.env.locals) (h2:b∉X.fs):b∉frs X.stack:=fun z =>
  (List.mem_cons.mp (I.stkSub b z)).elim h1 h2
theorem σC_get {n:Nat} {i:Nat} {v:V} (h:(σC n fr σ)[i]?=some (some v)):n≤i∧∃ j,fr[i - n]?=some j∧σ[j]?=some (some v):=by
  unfold σC at h
  by_cases hi:i<n
  · rw [List.getElem?_append_left (by simpa using hi),List.getElem?_replicate] at h
    split at h <;> cases h
  · have hi:n≤i:=Nat.le_of_not_lt hi
    rw [List.getElem?_append_right (by simpa using hi),List.length_replicate,List.getElem?_map] at h
    cases e:fr[i - n]? with
    | none=>rw [e] at h;cases h
    | some j =>
      rw [e] at h
      refine ⟨hi,j,rfl,?_⟩
      have h':(σ[j]?).getD none=some v:=Option.some.inj h
      cases e2:σ[j]? with
      | none=>rw [e2] at h';cases h'
      | some o=>rw [e2] at h';exact congrArg some h'
theorem zti:∀ (names:List (Str×NameKind)) (n:Nat) (acc:List (Str×Addr)),cellsFrom n names acc=cellsFrom n names []++acc
  | [],n,acc=>rfl
  | (x,k) :: r,n,acc=>by
    unfold cellsFrom
    split
    · rw [zti r (n+1) ((x,n) :: acc),zti r (n+1) [(x,n)]]
      simp
    · exact zti r n acc
theorem zbi:∀ (names:List (Str×NameKind)) (n:Nat) (x:Str) (c:Addr),(x,c)∈cellsFrom n names []→n≤c∧(x,NameKind.cell)∈names
  | [],n,x,c,h=>by cases h
  | (y,k) :: r,n,x,c,h=>by
    unfold cellsFrom at h
    split at h
    · rename_i hk
      rw [zti] at h
      rcases List.mem_append.mp h with h | h
      · obtain ⟨h1,h2⟩:=zbi r (n+1) x c h
        exact ⟨Nat.le_of_succ_le h1,List.mem_cons_of_mem _ h2⟩
      · have e:(x,c)=(y,n):=by simpa using h
        cases e
        rw [beq_iff_eq.mp hk]
        exact ⟨Nat.le_refl _,List.mem_cons_self⟩
    · obtain ⟨h1,h2⟩:=zbi r n x c h
      exact ⟨h1,List.mem_cons_of_mem _ h2⟩
theorem zKk {names:List (Str×NameKind)} {n:Nat} {acc:List (Str×Addr)} {x:Str} {c:Addr} (h:(cellsFrom n names acc).lookup x=some c):(cellsFrom n names []).lookup x=some c∨((cellsFrom n names []).lookup x=none∧acc.lookup x=some c):=by
  rw [zti,List.lookup_append] at h
  cases e:(cellsFrom n names []).lookup x with
  | none=>rw [e] at h;exact .inr ⟨rfl,h⟩
  | some d=>rw [e] at h;exact .inl h
theorem zer {names:List (Str×NameKind)} {n:Nat} {x:Str} (hn:∀ y∈names,names.lookup y.1=some y.2) (h:(x,NameKind.free)∈names):(cellsFrom n names []).lookup x=none:=by
  cases e:(cellsFrom n names []).lookup x with
  | none=>rfl
  | some c =>
    have h1:=hn _ (zbi _ _ _ _ (PySem.mem_of_lookup e)).2
    have h2:=hn _ h
    rw [h1] at h2
    cases h2
theorem zNo {fp:List Addr} {D C:Addr} {lo:Nat} {h1:Heap} {t:Nat} {mC:Str→Option Value} {oD:Obj} (I:Inv X pins σ H s) (hf:∀ b∈fp,zXl X pins H b) (hfl:∀ b∈fp,b<s.heap.objs.size)
    (hk:scope.kind = .function) (hnm:∀ y∈scope.names,scope.names.lookup y.1=some y.2) (hfree:∀ x∈scope.names,x.2 = .free→(X.env.kindOf x.1=some .cell∨X.env.kindOf x.1=some .free))
    (hfr:∀ i∈fr,∃ x,X.N[i]?=some x∧scope.names.lookup x=some .free) (hlo:C<lo) (hOC:CellsOk h1 lo (cellsFrom lo scope.names []))
    (old:∀ b o,s.heap.get? b=some o→h1.get? b=some o) (hD:s.heap.objs.size≤D) (hC:s.heap.objs.size≤C) (hDC:D≠C) (hDlo:D<lo) (eD:h1.get? D=some oD) (dD:∀ v,oD.data≠.cell v) (nC:h1.Ns C mC) :
    Inv (cxC X own fr scope (cellsFrom lo scope.names (zub X.env.cells scope.names [])) C s H fp) (pins ++ [(D,oD)]) (σC own.length fr σ) H { s with heap:=h1,toks:=t }:=by
  have cl1:∀ x c,(zub X.env.cells scope.names []).lookup x=some c→X.env.cells.lookup x=some c:=fun x c e=>by
    rcases zDi _ _ e with q | q
    · cases q
    · exact q
  have clH:∀ x,(x,NameKind.free)∈scope.names→∃ c,(cellsFrom lo scope.names (zub X.env.cells scope.names [])).lookup x=some c∧X.env.cells.lookup x=some c:=fun x hx=>by
    obtain ⟨c,hc⟩:=I.ok.has x (hfree _ hx rfl)
    obtain ⟨c',hc'⟩:=Option.isSome_iff_exists.mp (zRp hc scope.names [] hx)
    exact ⟨c',by rw [zti,List.lookup_append,zer hnm hx];exact hc',cl1 _ _ hc'⟩
  have two:∀ x c,(cellsFrom lo scope.names (zub X.env.cells scope.names [])).lookup x=some c→((cellsFrom lo scope.names []).lookup x=some c∧lo≤c)∨X.env.cells.lookup x=some c:=fun x c e=>by
    rcases zKk e with q | ⟨_,q⟩
    · exact .inl ⟨q,(zbi _ _ _ _ (PySem.mem_of_lookup q)).1⟩
    · exact .inr (cl1 _ _ q)
  have oldc:∀ x c,X.env.cells.lookup x=some c→c<s.heap.objs.size:=fun x c e=>by
    obtain ⟨v,o,ho,_⟩:=I.cell x c e
    exact Heap.lt_size ho
  have hslo:s.heap.objs.size≤lo:=Nat.le_trans hC (Nat.le_of_lt hlo)
  refine ⟨⟨I.ok.mod,hk,I.ok.glob,I.ok.blt,hC,fun x y c e1 e2=>?inj,fun x hx=>?_,fun x c hx e=>?cab,I.ok.hd,I.ok.frames, .inl rfl,fun b hb=>⟨?_,fun x c e=>?exf⟩,I.bs,Nat.le_trans I.ok.bsz I.sz,fun b o e hb=>?_,fun b hb=>?_,I.stack,I.stkFree⟩,
    rfl,I.bare,Un.kept old,⟨mC,nC,fun i x v h1 h2 h3=>?_⟩,fun x c e=>?cell,I.hok.fresh hC,fun x c e=>?freeC,fun p hp=>?_,I.hok.kept old,?_⟩
  case inj =>
    rcases two x c e1 with ⟨q1,l1⟩ | q1
    · rcases two y c e2 with ⟨q2,_⟩ | q2
      · exact name_of_addr hOC.apart (PySem.mem_of_lookup q1) (PySem.mem_of_lookup q2)
      · exact absurd (Nat.lt_of_lt_of_le (oldc y c q2) (Nat.le_trans hslo l1)) (Nat.lt_irrefl _)
    · rcases two y c e2 with ⟨_,l2⟩ | q2
      · exact absurd (Nat.lt_of_lt_of_le (oldc x c q1) (Nat.le_trans hslo l2)) (Nat.lt_irrefl _)
      · exact I.ok.inj x y c q1 q2
  case cab =>
    have hx:(scope.names.lookup x == some .cell)=true:=hx
    obtain ⟨d,hd⟩:=Option.isSome_iff_exists.mp (PySem.W.cellsFrom_some scope.names lo [] (.inl (beq_iff_eq.mp hx)))
    rcases zKk (show (cellsFrom lo scope.names (zub X.env.cells scope.names [])).lookup x=some c from e) with q | ⟨q,_⟩
    · exact Nat.le_trans hslo (zbi _ _ _ _ (PySem.mem_of_lookup q)).1
    · rw [q] at hd;cases hd
  case exf =>
    rcases two x c e with ⟨_,l⟩ | q
    · exact Nat.ne_of_gt (Nat.lt_of_lt_of_le (hfl b hb) (Nat.le_trans hslo l))
    · exact (hf b hb).2.2.2.2.1 x c q
  case cell =>
    rcases two x c e with ⟨q,_⟩ | q
    · exact ⟨none,(hOC.empty x c (PySem.mem_of_lookup q)).1⟩
    · obtain ⟨v,o,ho,hd⟩:=I.cell x c q
      exact ⟨v,o,old _ _ ho,hd⟩
  case freeC =>
    rcases two x c e with ⟨_,l⟩ | q
    · exact I.hok.fresh (Nat.le_trans hslo l)
    · exact I.freeC x c q
  · have hx':(relabel scope X.env).names.lookup x=some .cell∨(relabel scope X.env).names.lookup x=some .free:=hx
    have hm:(x,NameKind.free)∈scope.names∨(x,NameKind.cell)∈scope.names:=by
      rcases hx' with h | h
      · exact zcd (env:=X.env) h (.inl rfl)
      · exact zcd (env:=X.env) h (.inr rfl)
    rcases hm with hm | hm
    · obtain ⟨c,e,_⟩:=clH x hm
      exact ⟨c,e⟩
    · exact Option.isSome_iff_exists.mp (PySem.W.cellsFrom_some scope.names lo _ (.inl (hnm _ hm)))
  · exact Nat.ne_of_lt (Nat.lt_of_lt_of_le (hfl b hb) hC)
  · rcases (hf b hb).2.2.2.1 with z | z
    · exact I.ok.noex b o e z
    · exact absurd (Nat.lt_of_lt_of_le (Heap.lt_size e) (Nat.le_trans I.ok.bsz z)) (Nat.lt_irrefl _)
  · exact zMk I (hf b hb).2.1 (hf b hb).2.2.1
  · obtain ⟨hi,j,e1,e2⟩:=σC_get h2
    have hjm:j∈fr:=List.mem_of_getElem? e1
    obtain ⟨y,ey,ly⟩:=hfr j hjm
    have hxy:x=y:=by
      have h1':(own++fr.map fun i=>X.N.getD i Str.empty)[i]?=some x:=h1
      rw [List.getElem?_append_right hi,List.getElem?_map,e1] at h1'
      have h1'':X.N.getD j Str.empty=x:=Option.some.inj h1'
      rw [List.getD_eq_getElem?_getD,ey] at h1''
      exact h1''.symm
    subst hxy
    have hm:(x,NameKind.free)∈scope.names:=PySem.mem_of_lookup ly
    have hv:Vis X.env.scope x:=by
      rcases hfree _ hm rfl with q | q
      · exact .inr (.inl q)
      · exact .inr (.inr q)
    obtain ⟨m,hn,hl⟩:=id I.loc
    obtain ⟨u,ru,q⟩:=hl j x v ey e2 hv
    obtain ⟨c,c1,c2⟩:=clH x hm
    refine ⟨u,ru, .inr ⟨z9f (env:=X.env) ly,c,c1,?_⟩⟩
    rcases q with ⟨k,_⟩ | ⟨k,c',e',z⟩
    · rcases hfree _ hm rfl with q | q
      · rw [show X.env.kindOf (x,NameKind.free).1=X.env.kindOf x from rfl,k] at q;cases q
      · rw [show X.env.kindOf (x,NameKind.free).1=X.env.kindOf x from rfl,k] at q;cases q
    · rw [c2] at e';cases e'
      obtain ⟨o,ho,hd⟩:=z
      exact ⟨o,old _ _ ho,hd⟩
  · have hp':p∈X.pn++(pins ++ [(D,oD)]):=hp
    rw [← List.append_assoc] at hp'
    rcases List.mem_append.mp hp' with hp' | hp'
    · obtain ⟨a1,a2,a3,a4,a5⟩:=I.pin p hp'
      exact ⟨old _ _ a1,a2,Nat.ne_of_lt (Nat.lt_of_lt_of_le (Heap.lt_size a1) hC),zMk I a3 a4,a5⟩
    · have:p=(D,oD):=by simpa using hp'
      subst this
      refine ⟨eD,I.hok.fresh hD,hDC,fun z=>?_,dD⟩
      rcases List.mem_cons.mp (I.stkSub _ z) with z | z
      · exact absurd (Nat.lt_of_lt_of_le I.lt (z▸hD)) (Nat.lt_irrefl _)
      · exact I.nofs hD z
  · show (σC own.length fr σ).length=(own++fr.map fun i=>X.N.getD i Str.empty).length
    unfold σC
    simp
end
end M
set_option Elab.async false
set_option linter.all false
set_option maxRecDepth 100000
set_option autoImplicit false
namespace M
open PySem PySem.Spec PyProof.Rows L2
theorem HOk.track {P:Program} {w:World} {H:Hp} {h:Heap} {a:Addr} {o:HO} (x:HOk P w H h) (hn:H a=none) (new:ObjOk P w (upd H a o) h a o):HOk P w (upd H a o) h:=fun b u e=>by
  by_cases hb:b=a
  · subst hb;rw [zo] at e;cases e;exact new
  · rw [zA hb] at e
    exact (x b u e).stay (fun c v _ q=>q) (fun c q=>by rw [zA (zu q hn)];exact q) fun c xs q=>by rw [zA (zu q hn)];exact q
theorem newEnvC {M:Model} {A:Around} {E:Value→Shared→Prop} {s:Shared} {scope:Scope} {globals:Addr} {cl:List (Str×Addr)} {qual:Str} {env:Env} {Q:Env→Shared→Prop}
    (hQ:Q (newEnv scope s.heap.objs.size globals (cellsFrom (s.heap.objs.size+1) scope.names cl) qual none .none (some env) builtinsNs) { s with heap:=pushCells (s.heap.push { cls := .type "dict",data := .dict #[] }) scope.names }) :
    wpAny M A (newFunctionEnv scope globals cl [] qual none .none (some env)) Q E s:=by
  simp only [newFunctionEnv,Option.isSome_some,if_true]
  refine wpAny_bind (wpAny_alloc ?_)
  refine wpAny_bind (wpAny_layCells _ (fun name kind cells=>by cases hkc:kind == NameKind.cell <;> simp [hkc]) _ _ _ _ ?_)
  rw [show ({ s with heap:=s.heap.push { cls := .type "dict",data := .dict #[] } }:Shared).heap.objs.size=s.heap.objs.size+1 from Heap.size_push ..]
  refine wpAny_bind ?_
  rw [List.forIn_nil]
  exact wpAny_pure (wpAny_pure hQ)
section
variable {X:Cx} {own:List Str} {fr:List Nat} {scope:Scope}
structure Walked (X:Cx) (pins:List (Addr×Obj)) (σ:L2.St) (H:Hp) (ys:List V) (D C:Addr) (s:Shared):Prop where
  inv:Inv X pins σ (upd H D (.lst ys)) s
  free:H D=none
  freeC:upd H D (.lst ys) C=none
  own:∃ m,s.heap.Ns C m
  notL:C≠X.env.locals
  young:X.s₀.heap.objs.size≤C
  notCell:∀ x c,X.env.cells.lookup x=some c→c≠C
  notPin:∀ p∈X.pn++pins,p.1≠C
theorem z6m {elt tg iter:Expr} {ifs:List Expr} {pos:Pos} {g:TG} {tc:TT} {te:TE} {pins:List (Addr×Obj)} {σ:L2.St} {s2:Shared} {Qn:List V→Hp→Prop} {itv:Value} {RR:Value→Addr→Result→Shared→Prop} (own:List Str) (fr:List Nat) (hc:X.calm=true)
    (hg:∀ cl C s₀ H₀ fp,PG (cxC X own fr scope cl C s₀ H₀ fp) tg g) (hq:∀ cl C s₀ H₀ fp,PF (cxC X own fr scope cl C s₀ H₀ fp) ifs tc) (he:∀ cl C s₀ H₀ fp,PE (cxC X own fr scope cl C s₀ H₀ fp) elt te)
    (hk:scope.kind = .function) (hnm:∀ y∈scope.names,scope.names.lookup y.1=some y.2)
    (hfree:∀ x∈scope.names,x.2 = .free→(X.env.kindOf x.1=some .cell∨X.env.kindOf x.1=some .free)) (hfr:∀ i∈fr,∃ x,X.N[i]?=some x∧scope.names.lookup x=some .free)
    (h2:PIE X pins σ tg (fun J H1=>∃ W:Nat→Nat→List V→Hp→Prop,(∃ m,W 0 m [] H1)∧∀ i m ys H,W i m ys H →
      (J.stop i H∧Qn ys H)∨(J.go i H∧ys.length<sizeLine∧∀ x H',J.yld i H x H'→g x (σC own.length fr σ) H' fun σ2 H2=>zFq (σC own.length fr σ) σ2∧tc σ2 H2 fun b H3 =>
        if b=true then te σ2 H3 fun y H4=>∃ m',m'<m∧W (i+1) m' (ys ++ [y]) H4 else ∃ m',m'<m∧W (i+1) m' ys H3)) itv s2)
    (fin:∀ ys H D C s4,Qn ys H→Walked X pins σ H ys D C s4→RR (.ref D) C (.ok .next) s4) :
    wpAny (model X.prog X.w) X.A (newList []) (fun acc s₃=>wpAny (model X.prog X.w) X.A (newFunctionEnv scope X.env.globals (zub X.env.cells scope.names []) [] X.env.qual none .none (some X.env)) (fun cenv s₄ =>
      codeAny (model X.prog X.w) X.A (.compStart (.ListComp elt [⟨tg,iter,ifs,0⟩] scope pos) 0 itv acc { cenv with scope:=relabel scope X.env }) (RR acc cenv.locals) s₄) X.xe s₃) X.xe s2:=by
  obtain ⟨it,fp,tn,J,H2,e,I2,T,st2,f2,W,⟨m0,w0⟩,turn⟩:=h2
  subst e
  have hfl:∀ b∈fp,b<s2.heap.objs.size:=fun b hb=>by
    obtain ⟨o,e,_⟩:=T.obj _ _ st2 b hb
    exact Heap.lt_size e
  refine wpAny_newObj_type (newEnvC ?_)
  dsimp only
  generalize hH2:s2.heap.push { cls := .type "list",dict:=none,data := .seq ([]:List Value).toArray } = G2
  have hC:G2.objs.size=s2.heap.objs.size+1:=by rw [← hH2,Heap.size_push]
  have hDC:s2.heap.objs.size≠G2.objs.size:=by rw [hC];exact Nat.ne_of_lt (Nat.lt_succ_self _)
  have hCle:s2.heap.objs.size≤G2.objs.size:=by rw [hC];exact Nat.le_succ _
  have below:∀ b,b<s2.heap.objs.size→b≠G2.objs.size∧b≠s2.heap.objs.size:=fun b hb=>⟨by rw [hC];exact Nat.ne_of_lt (Nat.lt_succ_of_lt hb),Nat.ne_of_lt hb⟩
  have hns₁:(pushCells (G2.push { cls := .type "dict",data := .dict #[] }) scope.names).Ns G2.objs.size (fun _=>none):=(Heap.Ns.new G2 (.type "dict")).keeps fun b o e=>pushCells_keeps _ _ _ _ e
  have hok₁:CellsOk (pushCells (G2.push { cls := .type "dict",data := .dict #[] }) scope.names) (G2.objs.size+1) (cellsFrom (G2.objs.size+1) scope.names []):=by
    have:=cellsFrom_ok scope.names (G2.push { cls := .type "dict",data := .dict #[] }) (G2.objs.size+1) [] ⟨fun _ _ hm=>(nomatch hm),List.Pairwise.nil⟩ (by rw [Heap.size_push];exact Nat.le_refl _)
    rw [Heap.size_push] at this
    exact this
  have hk₁:∀ b o,G2.get? b=some o→(pushCells (G2.push { cls := .type "dict",data := .dict #[] }) scope.names).get? b=some o:=fun b o e=>pushCells_keeps _ _ _ _ (Heap.get?_push_of_some _ e)
  generalize pushCells (G2.push { cls := .type "dict",data := .dict #[] }) scope.names=h₁ at hns₁ hok₁ hk₁ ⊢
  have old:∀ b o,s2.heap.get? b=some o→h₁.get? b=some o:=fun b o e=>hk₁ b o (hH2▸Heap.get?_push_of_some _ e)
  have hacc:h₁.get? s2.heap.objs.size=some { cls := .type "list",data := .seq ([]:List Value).toArray 0 }:=hk₁ _ _ (hH2▸Heap.get?_push_size _ rfl)
  generalize hXC:cxC X own fr scope (cellsFrom (G2.objs.size+1) scope.names (zub X.env.cells scope.names [])) G2.objs.size s2 H2 fp=XC
  have eenv:compEnvC scope (cellsFrom (G2.objs.size+1) scope.names (zub X.env.cells scope.names [])) G2.objs.size X.env=XC.env:=by rw [← hXC];rfl
  have eprog:XC.prog=X.prog:=by rw [← hXC];rfl
  have ew:XC.w=X.w:=by rw [← hXC];rfl
  have eA:XC.A=X.A:=by rw [← hXC];rfl
  have eK:XC.K=X.K:=by rw [← hXC];rfl
  have ecalm:XC.calm=true:=by rw [← hXC];exact hc
  have exe:XC.xe=fun _ _=>False:=by rw [← hXC];rfl
  have eloc:XC.env.locals=G2.objs.size:=by rw [← hXC];rfl
  have eex:XC.ex=fp:=by rw [← hXC];rfl
  have efs:XC.fs=frs X.stack:=by rw [← hXC];rfl
  have es0:XC.s₀ = s2:=by rw [← hXC];rfl
  have eH0:XC.H₀ = H2:=by rw [← hXC];rfl
  have epn:XC.pn=X.pn:=by rw [← hXC];rfl
  have ecells:∀ x c,XC.env.cells.lookup x=some c→X.env.cells.lookup x=some c∨G2.objs.size<c:=fun x c e=>by
    rw [← hXC] at e
    rcases zKk (show (cellsFrom (G2.objs.size+1) scope.names (zub X.env.cells scope.names [])).lookup x=some c from e) with q | ⟨_,q⟩
    · exact .inr (zbi _ _ _ _ (PySem.mem_of_lookup q)).1
    · rcases zDi _ _ q with q | q
      · cases q
      · exact .inl q
  have hg':PG XC tg g:=hXC▸hg _ _ _ _ _
  have hq':PF XC ifs tc:=hXC▸hq _ _ _ _ _
  have he':PE XC elt te:=hXC▸he _ _ _ _ _
  have fpok:∀ {H':Hp} {pl:List (Addr×Obj)},(∀ b∈fp,H' b=none)→(∀ p∈pl,p.1=s2.heap.objs.size)→∀ b∈fp,zXl XC (pins++pl) H' b:=fun {H' pl} hn hpl b hb=>by
    obtain ⟨_,f2,f3,f4,f5,f6⟩:=f2 b hb
    refine ⟨hn b hb,by rw [eloc];exact (below b (hfl b hb)).1,by rw [efs];exact zMk I2 f2 f3, .inl (by rw [eex];exact hb),fun x c e=>?c5,fun p hp=>?_⟩
    case c5 =>
      rcases ecells x c e with q | q
      · exact f5 x c q
      · exact Nat.ne_of_gt (Nat.lt_of_lt_of_le (hfl b hb) (Nat.le_trans hCle (Nat.le_of_lt q)))
    rw [epn,← List.append_assoc] at hp
    rcases List.mem_append.mp hp with hp | hp
    · exact f6 p hp
    · rw [hpl p hp];exact Ne.symm (below b (hfl b hb)).2
  have loop:∀ s₃:Shared,s₃ = { s2 with heap:=h₁ } →
      codeAny (model X.prog X.w) X.A (.compLoop (.ListComp elt [⟨tg,iter,ifs,0⟩] scope pos) 0 (.ref it) (.ref s2.heap.objs.size) (compEnvC scope (cellsFrom (G2.objs.size+1) scope.names (zub X.env.cells scope.names [])) G2.objs.size X.env))
        (RR (.ref s2.heap.objs.size) G2.objs.size) s₃:=by
    rintro s₃ rfl
    have I0:=zNo (own:=own) (fr:=fr) (t:=s2.toks) (lo:=G2.objs.size+1) I2 f2 hfl hk hnm hfree hfr (Nat.lt_succ_self _) hok₁ old (Nat.le_refl _) hCle hDC (Nat.lt_succ_of_le hCle) hacc (by intro v z;cases z) hns₁
    rw [hXC] at I0
    refine zGj (fun n s'=>∃ (i:Nat) (ys:List V) (its:Array Value) (k:Nat) (H':Hp),Inv XC (pins ++ [(s2.heap.objs.size,({ cls := .type "list",data := .seq its k }:Obj))]) (σC own.length fr σ) H' s'∧Vals ys its.toList∧ys.length≤sizeLine∧tn i s'.heap∧(∀ b∈fp,H' b=none)∧W i n ys H') ?_ m0
      ⟨0,[],#[],0,H2,I0, .nil,Nat.zero_le _,T.keep _ _ _ st2 (fun b hb o e=>old b o e),fun b hb=>(f2 b hb).1,w0⟩
    rintro n s3 ⟨i,ys,its,kk,H3,I3,rv,hz,st3,fr3,w3⟩
    have pl1:∀ p∈[(s2.heap.objs.size,({ cls := .type "list",data := .seq its kk }:Obj))],p.1=s2.heap.objs.size:=fun p hp=>by
      rw [List.mem_singleton.mp hp]
    rcases turn i n ys H3 w3 with ⟨stop,qn⟩ | ⟨go,hlt,step⟩
    · have td:=T.done XC eprog ew eK ecalm i _ s3 _ H3 (fun _ _=>False) I3 (fpok fr3 pl1) st3 stop
      rw [eA] at td
      refine thn td fun r s4 ⟨hr,I4⟩=>?_
      subst hr
      obtain ⟨m,hn,_⟩:=id I4.loc
      rw [eloc] at hn
      obtain ⟨p1,p2,p3,p4,p5⟩:=I4.pin (s2.heap.objs.size,_) (List.mem_append_right _ (List.mem_append_right _ List.mem_cons_self))
      have hnC:H3 G2.objs.size=none:=by have:=I4.free;rw [eloc] at this;exact this
      have hokf:HOk X.prog X.w (upd H3 s2.heap.objs.size (.lst ys)) s4.heap:=by
        refine HOk.track (by have:=I4.hok;rw [eprog,ew] at this;exact this) p2 ⟨hz,its.toList,kk,rv,by simpa using p1⟩
      have u0:Un (frs X.stack) fp H2 H3 s2.heap s4.heap:=by
        have:=I4.base
        rw [efs,eex,es0,eH0] at this
        exact this
      have u1:Un (frs X.stack) fp H2 (upd H3 s2.heap.objs.size (.lst ys)) s2.heap s4.heap:=by
        have bd:∀ b o,s2.heap.get? b=some o→b≠s2.heap.objs.size:=fun b o e=>(below b (Heap.lt_size e)).2
        refine ⟨u0.keep,u0.slot,fun b o e n hx=>by rw [zA (bd b o e)];exact u0.free b o e n hx,u0.there,fun b xs e=>?_,fun b o u e=>?_,fun b ps e=>?_⟩
        · have q:=u0.tups b xs e
          rw [zA (zu q p2)];exact q
        · have q:=u0.frzs b o u e
          rw [zA (zu q p2)];exact q
        · obtain ⟨more,q⟩:=u0.tbls b ps e
          exact ⟨more,by rw [zA (zu q p2)];exact q⟩
      have os4:s4.os=s2.os:=by have:=I4.os;rw [es0] at this;exact this
      have IF:Inv X pins σ (upd H3 s2.heap.objs.size (.lst ys)) { s2 with heap:=s4.heap,gens:=s4.gens,drawn:=s4.drawn,toks:=s4.toks } :=
        I2.call (h':=s4.heap) (ch:=fp) u1 hokf I4.bare fun b hb=>by
          obtain ⟨_,f2,f3,f4,f5,f6⟩:=f2 b hb
          exact ⟨f4,f2,f5,f6⟩
      have es:s4 = { s2 with heap:=s4.heap,gens:=s4.gens,drawn:=s4.drawn,toks:=s4.toks }:=by
        obtain ⟨a1,a2,a3,a4,a5⟩:=s4
        have:a5=s2.os:=os4
        subst this
        rfl
      rw [← es] at IF
      refine fin ys H3 _ _ s4 qn ⟨IF,p2,by rw [zA (Ne.symm hDC)];exact hnC,⟨m,hn⟩,Ne.symm (below _ I2.lt).1,Nat.le_trans I2.sz hCle,fun x c e=>?_,fun p hp=>?_⟩
      · obtain ⟨v,o,ho,_⟩:=I2.cell x c e
        exact (below c (Heap.lt_size ho)).1
      · exact (below p.1 (Heap.lt_size (I2.pin p hp).1)).1
    · have td:=T.item XC eprog ew eK ecalm i _ s3 _ H3 (fun _ _=>False) I3 (fpok fr3 pl1) st3 go
      rw [eA] at td
      refine thn td fun r s4 ⟨u,hr,h4⟩=>?_
      subst hr
      refine thn h4 fun _ s5 ⟨x,H5,I5,r5,y5,st5,fr5⟩=>?_
      have I5':=I5.pinned (fpok fr5 pl1) (T.obj _ _ st5)
      have hgw:=hg' _ s5 _ H5 x u _ I5' r5 (step x H5 y5)
      rw [exe,eprog,ew,eA] at hgw
      rw [eenv]
      refine thn hgw fun _ s6 ⟨σ6,H6,I6,⟨hsl,hsub⟩,q6⟩=>?_
      have hqw:=hq' _ s6 σ6 H6 _ I6 q6
      rw [exe,eprog,ew,eA] at hqw
      refine thn hqw fun ok s7 ⟨H7,I7,q7⟩=>?_
      have back:∀ {H8:Hp} {s8:Shared},Inv XC (pins ++ [(s2.heap.objs.size,({ cls := .type "list",data := .seq its kk }:Obj))]++zWj fp s5.heap) σ6 H8 s8 →
          Inv XC (pins ++ [(s2.heap.objs.size,({ cls := .type "list",data := .seq its kk }:Obj))]) (σC own.length fr σ) H8 s8∧tn (i+1) s8.heap∧∀ b∈fp,H8 b=none:=fun {H8 s8} I8=>by
        refine ⟨I8.unpinned.weak hsl.symm hsub,T.keep _ _ _ st5 fun b hb o e=>(I8.pin (b,o) (List.mem_append_right _ (List.mem_append_right _ (zne hb e)))).1,fun b hb=>?_⟩
        obtain ⟨o,e,d⟩:=T.obj _ _ st5 b hb
        exact (I8.pin (b,o) (List.mem_append_right _ (List.mem_append_right _ (zne hb e)))).2.1
      cases ok with
      | false =>
        have q7':∃ m',m'<n∧W (i+1) m' ys H7:=by simpa using q7
        rw [if_neg Bool.false_ne_true]
        obtain ⟨m',hm,w7⟩:=q7'
        obtain ⟨J1,J2,J3⟩:=back I7
        exact ⟨m',hm,i+1,ys,its,kk,H7,J1,rv,hz,J2,J3,w7⟩
      | true =>
        rw [if_pos rfl] at q7 ⊢
        have hew:=he' _ s7 σ6 H7 _ I7 q7
        rw [exe,eprog,ew,eA] at hew
        refine thn hew fun y s8 ⟨vy,H8,I8,r8,m',hm,w8⟩=>?_
        obtain ⟨J1,J2,J3⟩:=back I8
        obtain ⟨p1,p2,p3,p4,p5⟩:=J1.pin (s2.heap.objs.size,_) (List.mem_append_right _ (List.mem_append_right _ List.mem_cons_self))
        have hil:its.size=ys.length:=by rw [rv.length];simp
        refine append_at (hsz:=by rw [hil];exact hz) p1 fun h9 sb9 e9=>?_
        have Df:s2.heap.objs.size∉fp:=fun z=>absurd (hfl _ z) (Nat.lt_irrefl _)
        have J0:Inv XC pins (σC own.length fr σ) H8 s8:=J1.unpinned
        have J9:Inv XC pins (σC own.length fr σ) H8 { s8 with heap:=h9 }:=by
          refine J0.turned (t':=s8.toks) (it:=s2.heap.objs.size) (fun b o hb e=>(sb9.2 b hb).trans e) p2 p3 (.inr (by rw [es0];exact Nat.le_refl _)) (fun x c e z=>?_) (fun p hp z=>?_)
          · rcases ecells x c e with q | q
            · obtain ⟨v,o,ho,_⟩:=I2.cell x c q
              exact (below c (Heap.lt_size ho)).2 z
            · exact Nat.ne_of_gt (Nat.lt_of_le_of_lt hCle q) z
          · rw [epn] at hp
            exact (below p.1 (Heap.lt_size (I2.pin p hp).1)).2 z
        refine ⟨m',hm,i+1,ys ++ [vy],its.push y,kk+1,H8,J9.pins_of fun p hp=>?_,?_,by simp;exact hlt,T.keep _ _ _ J2 (fun b hb o e=>(sb9.2 b (fun z=>Df (z▸hb))).trans e),J3,w8⟩
        · rcases List.mem_append.mp hp with hp | hp
          · exact J9.pin p (List.mem_append_right _ hp)
          · have e:=List.mem_singleton.mp hp
            subst e
            exact ⟨e9,p2,p3,p4,by intro v z;cases z⟩
        · rw [Array.toList_push]
          exact rv.append (.cons r8 .nil)
  exact codeAny_compStart_list (loop _ rfl) (T.self X.A 0 _ _ _ (T.keep _ _ _ st2 fun b hb o e=>old b o e) (loop _ rfl))
theorem Walked.gone {pins:List (Addr×Obj)} {σ:L2.St} {H:Hp} {ys:List V} {D C:Addr} {s:Shared} (w:Walked X pins σ H ys D C s) {h':Heap} (sb:Heap.SameBut C s.heap h'):Inv X pins σ (upd H D (.lst ys)) { s with heap:=h' } :=
  w.inv.turned (t':=s.toks) (fun b o hb e=>(sb.2 b hb).trans e) w.freeC (Ne.symm (Ne.symm w.notL)) (.inr w.young) w.notCell w.notPin
theorem zqt {elt tg iter:Expr} {ifs:List Expr} {pos:Pos} {wi:TI} {g:TG} {tc:TT} {te:TE} (own:List Str) (fr:List Nat) (hc:X.calm=true) (hi:PI X tg iter wi)
    (hg:∀ cl C s₀ H₀ fp,PG (cxC X own fr scope cl C s₀ H₀ fp) tg g) (hq:∀ cl C s₀ H₀ fp,PF (cxC X own fr scope cl C s₀ H₀ fp) ifs tc) (he:∀ cl C s₀ H₀ fp,PE (cxC X own fr scope cl C s₀ H₀ fp) elt te)
    (hk:scope.kind = .function) (hnm:∀ y∈scope.names,scope.names.lookup y.1=some y.2)
    (hfree:∀ x∈scope.names,x.2 = .free→(X.env.kindOf x.1=some .cell∨X.env.kindOf x.1=some .free)) (hfr:∀ i∈fr,∃ x,X.N[i]?=some x∧scope.names.lookup x=some .free)
    (hs:∀ x,foldedSetIterable iter X.env x=pure x:=by intro _;rfl):PE X (.ListComp elt [⟨tg,iter,ifs,0⟩] scope pos) (tLC own.length fr wi g tc te):=by
  intro pins s σ H Q I h
  rw [eval_ListComp]
  have hclos:closureFor scope X.env=pure (zub X.env.cells scope.names []):=zai fun x hx e=>I.ok.has x.1 (hfree x hx e)
  refine wpAny_comprehension_free (use:=none) rfl hs hclos hk (fun x hx e=>by rw [hnm x hx,e]) ?_
  show wpAny _ _ (eval iter X.env) _ _ s
  refine thn (hi pins s σ H _ I h) fun v s1 h1=>thn h1 fun itv s2 h2=>?_
  refine z6m (RR:=fun acc C=>compPost (model X.prog X.w) X.A X.xe none (EP X pins σ Q) acc C) own fr hc hg hq he hk hnm hfree hfr h2 fun ys H3 D C s4 q w=>?_
  obtain ⟨m,hn⟩:=w.own
  exact ⟨m,hn,fun h' sb=>⟨.ref D,_,w.gone sb,rfl,q D w.free⟩⟩
theorem zwp {elt tg iter:Expr} {ifs:List Expr} {pos spos py:Pos} {wi:TI} {g:TG} {tc:TT} {te:TE} {y:Str} {i:Nat} (own:List Str) (fr:List Nat) (hN:X.N.Nodup) (hiN:X.N[i]?=some y) (hy:X.env.scope.names.lookup y=some .local) (hc:X.calm=true) (hi:PI X tg iter wi)
    (hsw:swapsWith (.ListComp elt [⟨tg,iter,ifs,0⟩] scope pos) (some (.Name y py)) spos.line X.env=pure true)
    (hg:∀ cl C s₀ H₀ fp,PG (cxC X own fr scope cl C s₀ H₀ fp) tg g) (hq:∀ cl C s₀ H₀ fp,PF (cxC X own fr scope cl C s₀ H₀ fp) ifs tc) (he:∀ cl C s₀ H₀ fp,PE (cxC X own fr scope cl C s₀ H₀ fp) elt te)
    (hk:scope.kind = .function) (hnm:∀ y∈scope.names,scope.names.lookup y.1=some y.2)
    (hfree:∀ x∈scope.names,x.2 = .free→(X.env.kindOf x.1=some .cell∨X.env.kindOf x.1=some .free)) (hfr:∀ i∈fr,∃ x,X.N[i]?=some x∧scope.names.lookup x=some .free)
    (hs:∀ x,foldedSetIterable iter X.env x=pure x:=by intro _;rfl):PS X (.Assign [.Name y py] (.ListComp elt [⟨tg,iter,ifs,0⟩] scope pos) spos) (zrt (tLC own.length fr wi g tc te) (zcq i)):=by
  intro pins s σ H E I h
  rw [exec_Assign_Name_used _ _ _ _ hsw]
  refine wpAny_bind (wpAny_standAt (wpAny_bind ?_))
  have hclos:closureFor scope X.env=pure (zub X.env.cells scope.names []):=zai fun x hx e=>I.ok.has x.1 (hfree x hx e)
  show wpAny _ X.A (do let _ ← comprehension (.ListComp elt [⟨tg,iter,ifs,0⟩] scope pos) scope X.env _ (newList []) false (eval iter X.env) (some (assign (.Name y py) X.env))) _ _ s
  refine wpAny_bind (wpAny_mono (wpAny_comprehension_free (use:=some (assign (.Name y py) X.env)) (Q:=fun _ s'=>SP X pins E .next s') rfl hs hclos hk (fun x hx e=>by rw [hnm x hx,e]) ?_) (fun _ s' hq=>wpAny_pure (wpAny_pure hq)) fun _ _ e=>e)
  show wpAny _ _ (eval iter X.env) _ _ s
  refine thn (hi pins s σ H _ I h) fun v s1 h1=>thn h1 fun itv s2 h2=>?_
  refine z6m (RR:=fun acc C=>compPost (model X.prog X.w) X.A X.xe (some (assign (.Name y py) X.env)) (fun _ s'=>SP X pins E .next s') acc C) own fr hc hg hq he hk hnm hfree hfr h2 fun ys H3 D C s4 q w=>?_
  show wpAny _ X.A (assign (.Name y py) X.env (.ref D)) _ _ s4
  obtain ⟨m,hn⟩:=w.own
  refine wpAny_assign_Name (zmj (v:=V.ref D) w.inv hN hiN (.inl hy) rfl (fun s5 I5 ⟨a,sb,ha⟩=>?_) (.inr hy))
  have haC:C≠a:=by
    rcases ha with e | e
    · rw [e];exact w.notL
    · exact Ne.symm (w.notCell y a e)
  refine ⟨m,hn.sameBut sb haC,fun h' sb'=>?_⟩
  refine ⟨_,_,I5.turned (t':=s5.toks) (fun b o hb e=>(sb'.2 b hb).trans e) w.freeC w.notL (.inr w.young) w.notCell w.notPin,q D w.free⟩
end
end M
set_option Elab.async false
set_option linter.all false
set_option maxRecDepth 100000
set_option autoImplicit false
namespace M
open PySem PySem.Spec PyProof.Rows L2
section
variable {K:PySem.W.Frag} {ρ ρ1:List Addr} {H H1:Hp}
theorem OutOk.ext {W:XK} {E:Ends} {o:Out} (h:OutOk K W ρ H E o) (x:Ext ρ H ρ1 H1):OutOk K W ρ1 H1 E o:=by
  cases o with
  | next δ μ=>exact fun ρ' σ' H' x' A=>h ρ' σ' H' (x.trans x') A
  | brk δ μ=>exact fun ρ' σ' H' x' A=>h ρ' σ' H' (x.trans x') A
  | cont δ μ=>exact fun ρ' σ' H' x' A=>h ρ' σ' H' (x.trans x') A
  | ret d μ=>exact fun ρ' v H' x' R r=>h ρ' v H' (x.trans x') R r
  | exc c fs μ=>exact fun ρ' H' C dx hc x' R r=>h ρ' H' C dx hc (x.trans x') R r
theorem At.set {σ:L2.St} {δ:Loc} {μ:Mem} {d:D} {v:V} (A:At K ρ H σ δ μ) (r:RepV K ρ H d v) (i:Nat):At K ρ H (σ.set i (some v)) (δ.set i (some d)) μ:=by
  refine ⟨fun j d' e=>?_,A.hp,by simp [A.len]⟩
  by_cases hj:j=i
  · subst hj
    have hl:j < δ.length:=by
      have:=(List.getElem?_eq_some_iff.mp e).1
      simpa using this
    rw [List.getElem?_set_self hl] at e
    cases e
    exact ⟨v,by rw [List.getElem?_set_self (by rw [A.len];exact hl)],r⟩
  · rw [List.getElem?_set_ne (Ne.symm hj)] at e
    obtain ⟨u,e1,q⟩:=A.st j d' e
    exact ⟨u,by rw [List.getElem?_set_ne (Ne.symm hj)];exact e1,q⟩
end
section
variable {X:Cx} {a b c e:Expr} {es:List Expr} {φ ψ χ:FE} {pos:Pos} {st:Stmt} {rest:List Stmt}
@[simp] noncomputable def zbc:FS:=fun δ μ=>some (.next δ μ)
@[simp] noncomputable def zV (p q:FS):FS:=fun δ μ=>match p δ μ with
  | some (.next δ' μ')=>q δ' μ'
  | o=>o
theorem zW:MSs X [] zbc:=zEp zGq fun ρ δ μ σ H o E A e k=>by
  cases e
  exact k ρ σ H Ext.refl A
theorem zm {p:FS} (h:MS X st p):MSs X [st] p:=z9m h
theorem zh {p q:FS} (h1:MS X st p) (h2:MSs X rest q):MSs X (st :: rest) (zV p q) :=
  zEp (zol h1 h2) fun ρ δ μ σ H o E A e k=>by
    unfold zV at e
    show tMS X.K (zYj X) p { E with nx:=tMS X.K (zYj X) q E } σ H
    cases ep:p δ μ with
    | none=>rw [ep] at e;cases e
    | some op =>
      rw [ep] at e
      refine ⟨ρ,δ,μ,op,A,ep,?_⟩
      cases op with
      | next δ' μ'=>exact fun ρ' σ' H' x' A'=>⟨ρ',δ',μ',o,A',e,k.ext x'⟩
      | brk δ' μ'=>cases e;exact k
      | cont δ' μ'=>cases e;exact k
      | ret d μ'=>cases e;exact k
      | exc C fs μ'=>cases e;exact k
@[simp] noncomputable def zqc (φ:FE):FS:=fun δ μ=>(φ δ μ).bind fun p=>some (.ret p.1 p.2)
theorem zN (h:ME X e φ):MS X (.Return (some e) pos) (zqc φ):=zBh (zMr h) fun ρ δ μ σ H o E A e k=>by
  obtain ⟨⟨x,μ1⟩,e1,e⟩:=zf e
  cases e
  exact ⟨ρ,δ,μ,x,μ1,A,e1,fun ρ' H' v x' R r=>k ρ' v H' x' R r⟩
@[simp] noncomputable def zph (φ:FE):FS:=fun δ μ=>(φ δ μ).bind fun p=>some (.next δ p.2)
theorem zde (h:ME X e φ) (hs:swapsWith e none pos.line X.env=pure false:=by rfl):MS X (.Expr e pos) (zph φ):=zBh (z2m h hs) fun ρ δ μ σ H o E A e k=>by
  obtain ⟨⟨x,μ1⟩,e1,e⟩:=zf e
  cases e
  exact ⟨ρ,δ,μ,x,μ1,A,e1,fun ρ' H' v x' R r=>k ρ' σ H' x' (A.ext x' R)⟩
@[simp] noncomputable def zVb (i:Nat) (φ:FE):FS:=fun δ μ=>(φ δ μ).bind fun p=>some (.next (δ.set i (some p.1)) p.2)
theorem zH {x:Str} {pos':Pos} (i:Nat) (he:ME X e φ) (hN:X.N.Nodup:=by first | assumption | decide) (hi:X.N[i]?=some x:=by rfl) (hx:L2.Loc X.env.scope x:=by first | exact Or.inl rfl | exact Or.inr rfl) (hs:swapsWith e (some (.Name x pos')) pos.line X.env=pure false:=by rfl)
    (hf:X.fn x=true∨X.env.scope.names.lookup x=some .local:=by first | exact .inl rfl | exact .inr rfl | assumption):MS X (.Assign [.Name x pos'] e pos) (zVb i φ):=zBh (ztr hN hi hx he hs hf) fun ρ δ μ σ H o E A e k=>by
  obtain ⟨⟨x,μ1⟩,e1,e⟩:=zf e
  cases e
  exact ⟨ρ,δ,μ,x,μ1,A,e1,fun ρ' H' v x' R r=>k ρ' _ H' x' ((A.ext x' R).set r i)⟩
@[simp] noncomputable def sIf (c:FT) (p q:FS):FS:=fun δ μ=>(c δ μ).bind fun t=>bif t.1 then p δ t.2 else q δ t.2
theorem zrc {s1 s2:List Stmt} {t:FT} {p q:FS} (hc:MT X c t) (h1:MSs X s1 p) (h2:MSs X s2 q):MS X (.If c s1 s2 pos) (sIf t p q):=zBh (zCt hc h1 h2) fun ρ δ μ σ H o E A e k=>by
  obtain ⟨⟨x,μ1⟩,e1,e⟩:=zf e
  refine ⟨ρ,δ,μ,x,μ1,A,e1,fun ρ' H' x' R=>?_⟩
  cases x with
  | true=>exact iteT ⟨ρ',δ,μ1,o,A.ext x' R,e,k.ext x'⟩
  | false=>exact iteF ⟨ρ',δ,μ1,o,A.ext x' R,e,k.ext x'⟩
noncomputable def zso:FS:=fun _ _=>none
theorem zGl:MS X st zso:=zBh z2o fun _ _ _ _ _ _ _ _ e _=>by cases e
noncomputable abbrev FG:=D→Loc→Mem→Option (Loc×Mem)
noncomputable abbrev FGs:=List D→Loc→Mem→Option (Loc×Mem)
noncomputable def tMG (K:PySem.W.Frag) (g:FG):TG:=fun v σ H Q=>∃ ρ δ μ d δ' μ',At K ρ H σ δ μ∧RepV K ρ H d v∧g d δ μ = some (δ',μ')∧∀ ρ' σ' H',Ext ρ H ρ' H'→At K ρ' H' σ' δ' μ'→Q σ' H'
noncomputable def zku (K:PySem.W.Frag) (g:FGs):TGs:=fun vs σ H Q=>∃ ρ δ μ ds δ' μ',At K ρ H σ δ μ∧RepVs K ρ H ds vs∧g ds δ μ = some (δ',μ')∧∀ ρ' σ' H',Ext ρ H ρ' H'→At K ρ' H' σ' δ' μ'→Q σ' H'
noncomputable def MG (X:Cx) (t:Expr) (g:FG):Prop:=PG X t (tMG X.K g)
noncomputable def MGs (X:Cx) (t:List Expr) (g:FGs):Prop:=PGs X t (zku X.K g)
theorem mg_of {t:Expr} {tt:TG} {g:FG} (h:PG X t tt) (w:∀ ρ δ μ d δ' μ' v σ H Q,At X.K ρ H σ δ μ→RepV X.K ρ H d v→g d δ μ = some (δ',μ')→(∀ ρ' σ' H',Ext ρ H ρ' H'→At X.K ρ' H' σ' δ' μ'→Q σ' H')→tt v σ H Q):MG X t g :=
  by intro pins s σ H v u Q I r hh;obtain ⟨ρ,δ,μ,d,δ',μ',A,q,e,k⟩:=hh;exact h pins s σ H v u Q I r (w ρ δ μ d δ' μ' v σ H Q A q e k)
theorem zNp {t:List Expr} {tt:TGs} {g:FGs} (h:PGs X t tt) (w:∀ ρ δ μ d δ' μ' v σ H Q,At X.K ρ H σ δ μ→RepVs X.K ρ H d v→g d δ μ = some (δ',μ')→(∀ ρ' σ' H',Ext ρ H ρ' H'→At X.K ρ' H' σ' δ' μ'→Q σ' H')→tt v σ H Q):MGs X t g :=
  by intro pins s σ H v u Q I r hh;obtain ⟨ρ,δ,μ,d,δ',μ',A,q,e,k⟩:=hh;exact h pins s σ H v u Q I r (w ρ δ μ d δ' μ' v σ H Q A q e k)
@[simp] noncomputable def gN (i:Nat):FG:=fun d δ μ=>some (δ.set i (some d),μ)
theorem z6 {x:Str} (i:Nat) (hN:X.N.Nodup:=by first | assumption | decide) (hi:X.N[i]?=some x:=by rfl) (hx:L2.Loc X.env.scope x:=by first | exact Or.inl rfl | exact Or.inr rfl) (hf:X.fn x=true∨X.env.scope.names.lookup x=some .local:=by first | exact .inl rfl | exact .inr rfl | assumption):MG X (.Name x pos) (gN i) :=
  mg_of (zxn hN hi hx hf) fun ρ δ μ d δ' μ' v σ H Q A q e k=>by
    cases e
    exact k ρ _ H Ext.refl (A.set q i)
@[simp] noncomputable def zLf:FGs:=fun ds δ μ=>match ds with
  | []=>some (δ,μ)
  | _=>none
@[simp] noncomputable def zxb (g:FG) (gs:FGs):FGs:=fun ds δ μ=>match ds with
  | d :: r=>(g d δ μ).bind fun p=>gs r p.1 p.2
  | _=>none
theorem z4g:MGs X [] zLf:=zNp zln fun ρ δ μ ds δ' μ' vs σ H Q A q e k=>by
  unfold zLf at e
  split at e
  · cases e
    exact ⟨q.nil_inv,k ρ σ H Ext.refl A⟩
  · cases e
theorem zLb {g:FG} {gs:FGs} (h1:MG X e g) (h2:MGs X es gs) (hs:(assignEach (e :: es) X.env).map (·.2)=assign e X.env :: (assignEach es X.env).map (·.2):=by rfl):MGs X (e :: es) (zxb g gs) :=
  zNp (zkl h1 h2 hs) fun ρ δ μ ds δ' μ' vs σ H Q A q e k=>by
    unfold zxb at e
    split at e
    · obtain ⟨⟨δ1,μ1⟩,e1,e⟩:=zf e
      obtain ⟨v,r,rfl,q1,q2⟩:=q.cons_inv
      refine ⟨v,r,rfl,ρ,δ,μ,_,δ1,μ1,A,q1,e1,fun ρ1 σ1 H1 x1 A1=>?_⟩
      exact ⟨ρ1,δ1,μ1,_,δ',μ',A1,q2.ext x1,e,fun ρ2 σ2 H2 x2 A2=>k ρ2 σ2 H2 (x1.trans x2) A2⟩
    · cases e
@[simp] noncomputable def gT (n:Nat) (gs:FGs):FG:=fun d δ μ=>match d with
  | .tup ds=>bif ds.length == n then gs ds δ μ else none
  | _=>none
theorem zJl {k n:Nat} {gs:FGs} (h:MGs X es gs) (hc:X.calm=true:=by rfl) (hn:(assignEach es X.env).length=n:=by rfl) (hst:(assignEach es X.env).findIdx? (·.1)=none:=by rfl):MG X (.Tuple es k pos) (gT n gs) :=
  mg_of (z1p hc h hn hst) fun ρ δ μ d δ' μ' v σ H Q A q e k=>by
    unfold gT at e
    split at e
    · obtain ⟨h1,e⟩:=zL e
      obtain ⟨a,vs,rfl,e2,q2⟩:=q.tup_inv
      exact ⟨a,vs,rfl,SqT.of e2,by rw [← q2.length];exact beq_iff_eq.mp h1,ρ,δ,μ,_,δ',μ',A,q2,e,k⟩
    · cases e
@[simp] noncomputable def gAt (φ ψ:FE):FG:=fun d δ μ=>(φ δ μ).bind fun p=>(ψ δ p.2).bind fun q=>match p.1,q.1 with
  | .loc n, .int i=>match q.2[n]? with
    | some (.lst ds)=>(ixN ds.length i).bind fun j=>some (δ,q.2.set n (.lst (ds.set j d)))
    | _=>none
  | _,_=>none
theorem zXq {o i:Expr} (ho:ME X o φ) (hi:ME X i ψ) (ha:∀ v,assign (.Subscript o i pos) X.env v=(do
      let ov ← holding [v] (eval o X.env)
      let iv ← holding [v,ov] (eval i X.env)
      standAt pos
      holding [v,ov,iv] (setItem ov iv v)
      release [v,ov,iv] []):=by intro _;rfl):MG X (.Subscript o i pos) (gAt φ ψ) :=
  mg_of (zHp ho hi zzp ha) fun ρ δ μ d δ' μ' v σ H Q A q e k=>by
    obtain ⟨⟨x,μ1⟩,e1,e⟩:=zf e
    obtain ⟨⟨y,μ2⟩,e2,e⟩:=zf e
    refine ⟨ρ,δ,μ,x,μ1,A,e1,fun ρ1 H1 v1 x1 R1 r1=>?_⟩
    refine ⟨ρ1,δ,μ1,y,μ2,A.ext x1 R1,e2,fun ρ2 H2 v2 x2 R2 r2=>?_⟩
    dsimp only at e
    split at e
    · split at e
      · rename_i hm
        obtain ⟨j,e3,e⟩:=zf e
        cases e
        obtain ⟨ad,rfl,hr⟩:=(r1.ext x2).loc_inv
        obtain ⟨vs,hv,q3⟩:=R2.at_ _ _ _ hr hm
        have hmu:Mut (H2 ad):=by rw [hv];trivial
        refine ⟨ad,vs,_,j,rfl,r2.int_inv,hv,by rw [← q3.length];exact e3,?_⟩
        have xx:=x1.trans x2
        have R3:=R2.wr (o := .lst (vs.set j v)) (lo := .lst _) hmu hr ⟨_,zo,RepVs.ext (Ext.wr hmu) (q3.set j (q.ext xx))⟩
        exact k ρ2 σ _ (xx.trans (Ext.wr hmu)) (A.ext (xx.trans (Ext.wr hmu)) R3)
      · cases e
    · cases e
@[simp] noncomputable def zAo (φ:FE) (g:FG):FS:=fun δ μ=>(φ δ μ).bind fun p=>(g p.1 δ p.2).bind fun q=>some (.next q.1 q.2)
theorem zvi {tg:Expr} {g:FG} (he:ME X e φ) (hg:MG X tg g) (hs:swapsWithSole [tg] e pos.line X.env=pure false:=by rfl) (hw:swappedStores [tg] e X.env=pure none:=by rfl)
    (h1:(assignEach [tg] X.env).map (·.2) = [assign tg X.env]:=by rfl):MS X (.Assign [tg] e pos) (zAo φ g):=zBh (zes he hg hs hw h1) fun ρ δ μ σ H o E A e k=>by
  obtain ⟨⟨x,μ1⟩,e1,e⟩:=zf e
  obtain ⟨⟨δ1,μ2⟩,e2,e⟩:=zf e
  cases e
  refine ⟨ρ,δ,μ,x,μ1,A,e1,fun ρ1 H1 v1 x1 R1 r1=>?_⟩
  exact ⟨ρ1,δ,μ1,x,δ1,μ2,A.ext x1 R1,r1,e2,fun ρ2 σ2 H2 x2 A2=>k ρ2 σ2 H2 (x1.trans x2) A2⟩
noncomputable abbrev FI:=Loc→Mem→Option (List D×(Mem→Bool)×Mem)
structure ItIs (K:PySem.W.Frag) (J:It) (ρ:List Addr) (H:Hp) (ds:List D) (ok:Mem→Bool):Prop where
  go:∀ ρ' H' μ' (i:Nat),Ext ρ H ρ' H'→RepH K ρ' H' μ'→ok μ'=true→i<ds.length→J.go i H'
  yld:∀ ρ' H' μ' (i:Nat) x H'' d,Ext ρ H ρ' H'→RepH K ρ' H' μ'→ok μ'=true→ds[i]?=some d→J.yld i H' x H''→Ext ρ' H' ρ' H''∧RepH K ρ' H'' μ'∧RepV K ρ' H'' d x
  stop:∀ ρ' H' μ',Ext ρ H ρ' H'→RepH K ρ' H' μ'→ok μ'=true→J.stop ds.length H'
noncomputable def tMI (K:PySem.W.Frag) (φ:FI):TI:=fun σ H R=>∃ ρ δ μ ds ok μ',At K ρ H σ δ μ∧φ δ μ = some (ds,ok,μ')∧∀ ρ' H' J,Ext ρ H ρ' H'→RepH K ρ' H' μ'→ItIs K J ρ' H' ds ok→R J H'
noncomputable def MI (X:Cx) (tg iter:Expr) (φ:FI):Prop:=PI X tg iter (tMI X.K φ)
theorem zdn {tg it:Expr} {t:TI} {φ:FI} (h:PI X tg it t) (w:∀ ρ δ μ σ H ds ok μ' R,At X.K ρ H σ δ μ→φ δ μ = some (ds,ok,μ')→(∀ ρ' H' J,Ext ρ H ρ' H'→RepH X.K ρ' H' μ'→ItIs X.K J ρ' H' ds ok→R J H')→t σ H R):MI X tg it φ :=
  by intro pins s σ H R I hh;obtain ⟨ρ,δ,μ,ds,ok,μ',A,e,k⟩:=hh;exact h pins s σ H R I (w ρ δ μ σ H ds ok μ' R A e k)
@[simp] noncomputable def yes:Mem→Bool:=fun _=>true
@[simp] noncomputable def z2c (φ:FA):FI:=fun δ μ=>(φ δ μ).bind fun p=>match p.1 with
  | [.int j]=>bif decide (-(2 ^ 62)≤j∧j<2 ^ 62) then some ((List.range j.toNat).map fun (k:Nat) => .int k,yes,p.2) else none
  | _=>none
theorem zFd {tg:Expr} {p:Pos} {φ:FA} (hm:X.mg "range" = none) (ha:MAn X [a] φ) (hg:Gl X "range":=by rfl) (hs:starEach [a] X.env = [(false,eval a X.env)]:=by rfl):MI X tg (.Call (.Name "range" p) [a] [] pos) (z2c φ) :=
  zdn (zAn hg hm ha.ma hs) fun ρ δ μ σ H ds ok μ' R A e k=>by
    obtain ⟨⟨x,μ1⟩,e1,e⟩:=zf e
    refine ⟨ρ,δ,μ,x,μ1,A,e1,fun ρ1 H1 v1 x1 R1 r1=>?_⟩
    dsimp only at e
    split at e
    · rename_i j
      obtain ⟨h1,e⟩:=zL e
      have h2:=of_decide_eq_true h1
      cases e
      obtain ⟨w,r,rfl,q1,q2⟩:=r1.cons_inv
      refine ⟨j,by rw [q1.int_inv,q2.nil_inv],h2.1,h2.2,k ρ1 H1 _ x1 R1 ⟨fun ρ' H' μ' i _ _ _ h=>by rw [List.length_map,List.length_range] at h;exact h,fun ρ' H' μ' i x H'' d _ RR _ e ⟨y1,y2⟩=>⟨y1▸Ext.refl,y1▸RR,?_⟩,fun ρ' H' μ' _ _ _=>by show j.toNat≤_;simp⟩⟩
      rw [List.getElem?_map] at e
      cases e3:(List.range j.toNat)[i]? with
      | none=>rw [e3] at e;cases e
      | some m =>
        rw [e3] at e
        have hmi:m=i:=by
          obtain ⟨w1,w2⟩:=List.getElem?_eq_some_iff.mp e3
          simpa using w2.symm
        subst hmi
        have e':D.int (m:Nat)=d:=Option.some.inj e
        subst e'
        rw [y2,show (0:Int)+(m:Nat)=(m:Int) by lia]
        exact .int
    · cases e
theorem zIp {K:PySem.W.Frag} {ρ:List Addr} {H:Hp} {a:Addr} {vs:List V} {ds:List D} (h:H a=some (.tup vs)) (r:RepVs K ρ H ds vs):ItIs K (Itt K a) ρ H ds yes:=by
  refine ⟨fun ρ' H' μ' i x R _ hi=>?_,fun ρ' H' μ' i x H'' d x' R _ e ⟨y1,y2⟩=>⟨y1▸Ext.refl,y1▸R,y1▸?_⟩,fun ρ' H' μ' x R _=>⟨vs,SqT.of (x.tup _ _ h),by rw [r.length];exact Nat.le_refl _⟩⟩
  · have hi':i<vs.length:=by rw [← r.length];exact hi
    exact ⟨vs,vs[i],SqT.of (x.tup _ _ h),by simp [hi']⟩
  · have q:=y2 vs (SqT.of (x'.tup _ _ h))
    obtain ⟨w,e1,rr⟩:=(r.ext x').get e
    rw [q] at e1;cases e1
    exact rr
@[simp] noncomputable def zJp (φ:FE):FI:=fun δ μ=>(φ δ μ).bind fun p=>match p.1 with
  | .tup ds=>some (ds,yes,p.2)
  | _=>none
theorem zCr {tg:Expr} (h:ME X a φ):MI X tg a (zJp φ) :=
  zdn (zTr h) fun ρ δ μ σ H ds ok μ' R A e k=>by
    obtain ⟨⟨x,μ1⟩,e1,e⟩:=zf e
    refine ⟨ρ,δ,μ,x,μ1,A,e1,fun ρ1 H1 v1 x1 R1 r1=>?_⟩
    dsimp only at e
    split at e
    · cases e
      obtain ⟨a,vs,rfl,e2,q2⟩:=r1.tup_inv
      exact ⟨a,rfl,⟨vs,SqT.of e2⟩,k ρ1 H1 _ x1 R1 (zIp e2 q2)⟩
    · cases e
noncomputable def zHh (n:Nat) (ds:List D):Mem→Bool:=fun μ=>@decide (μ[n]?=some (.lst ds)) (Classical.propDecidable _)
theorem stays_iff {n:Nat} {ds:List D} {μ:Mem}:zHh n ds μ = true↔μ[n]?=some (.lst ds):=by
  unfold zHh
  exact @decide_eq_true_iff _ (Classical.propDecidable _)
noncomputable def z0m (φ:FE):FI:=fun δ μ=>(φ δ μ).bind fun p=>match p.1 with
  | .fz ds=>some (ds,yes,p.2)
  | .loc n=>match p.2[n]? with
    | some (.lst ds)=>some (ds,zHh n ds,p.2)
    | _=>none
  | _=>none
theorem zUl {K:PySem.W.Frag} {ρ:List Addr} {H:Hp} {a:Addr} {ds:List D} {ok:Mem→Bool} (h:∀ ρ' H' μ',Ext ρ H ρ' H'→RepH K ρ' H' μ'→ok μ'=true→∃ vs,SqL K H' a vs∧RepVs K ρ' H' ds vs):ItIs K (Itl K a) ρ H ds ok:=by
  refine ⟨fun ρ' H' μ' i x R o hi=>?_,fun ρ' H' μ' i x H'' d x' R o e ⟨y1,y2⟩=>⟨y1▸Ext.refl,y1▸R,y1▸?_⟩,fun ρ' H' μ' x R o=>?_⟩
  · obtain ⟨vs,s,r⟩:=h ρ' H' μ' x R o
    have hi':i<vs.length:=by rw [← r.length];exact hi
    exact ⟨vs,vs[i],s,by simp [hi']⟩
  · obtain ⟨vs,s,r⟩:=h ρ' H' μ' x' R o
    have q:=y2 vs s
    obtain ⟨w,e1,rr⟩:=r.get e
    rw [q] at e1;cases e1
    exact rr
  · obtain ⟨vs,s,r⟩:=h ρ' H' μ' x R o
    exact ⟨vs,s,by rw [r.length];exact Nat.le_refl _⟩
theorem zko {tg:Expr} (h:ME X a φ):MI X tg a (z0m φ) :=
  zdn (z4q h) fun ρ δ μ σ H ds ok μ' R A e k=>by
    obtain ⟨⟨x,μ1⟩,e1,e⟩:=zf e
    refine ⟨ρ,δ,μ,x,μ1,A,e1,fun ρ1 H1 v1 x1 R1 r1=>?_⟩
    dsimp only at e
    split at e
    · cases e
      obtain ⟨a,vs,rfl,e2,q2⟩:=r1.fz_inv
      exact ⟨a,rfl,⟨vs,e2.sq⟩,k ρ1 H1 _ x1 R1 (zUl fun ρ' H' μ' x _ _=>⟨vs,(x.fz e2).sq,q2.ext x⟩)⟩
    · split at e
      · rename_i hm
        cases e
        obtain ⟨a,rfl,e2⟩:=r1.loc_inv
        obtain ⟨vs,e3,q3⟩:=R1.at_ _ _ _ e2 hm
        refine ⟨a,rfl,⟨vs,SqL.of e3⟩,k ρ1 H1 _ x1 R1 (zUl fun ρ' H' μ'' x R' o=>?_)⟩
        obtain ⟨vs',e4,q4⟩:=R'.at_ _ _ _ (x.get e2) (stays_iff.mp o)
        exact ⟨vs',SqL.of e4,q4⟩
      · cases e
    · cases e
noncomputable def zQf (g:FG) (body:FS) (ok:Mem→Bool):List D→FS
  | [],δ,μ=>bif ok μ then some (.next δ μ) else none
  | x :: xs,δ,μ=>bif ok μ then (g x δ μ).bind fun p=>match body p.1 p.2 with
    | some (.next δ' μ')=>zQf g body ok xs δ' μ'
    | some (.cont δ' μ')=>zQf g body ok xs δ' μ'
    | some (.brk δ' μ')=>some (.next δ' μ')
    | some (.ret d μ')=>some (.ret d μ')
    | some (.exc C fs μ')=>some (.exc C fs μ')
    | none=>none
    else none
@[simp] noncomputable def zAh (i:FI) (g:FG) (body:FS):FS:=fun δ μ=>(i δ μ).bind fun p=>zQf g body p.2.1 p.1 δ p.2.2
theorem zIc {tg iter:Expr} {body:List Stmt} {i:FI} {g:FG} {p:FS} (hi:MI X tg iter i) (hg:MG X tg g) (hb:MSs X body p) (hx:PassesOwn (model X.prog X.w) X.A X.env X.xe:=by first | exact PassesOwn.never | exact PassesOwn.leaving) (hc:X.calm=true:=by rfl)
    (hs:∀ x,foldedSetIterable iter X.env x=pure x:=by intro _;rfl):MS X (.For tg iter body [] pos) (zAh i g p) :=
  zBh (z0r hx hc hi hg hb hs) fun ρ δ μ σ H o E A e k=>by
    obtain ⟨⟨ds,ok,μ1⟩,e1,e⟩:=zf e
    refine ⟨ρ,δ,μ,ds,ok,μ1,A,e1,fun ρ1 H1 J x1 R1 II=>?_⟩
    refine ⟨fun i m σ' H'=>∃ ρ' δ' μ',Ext ρ1 H1 ρ' H'∧At X.K ρ' H' σ' δ' μ'∧i≤ds.length∧m=ds.length - i∧zQf g p ok (ds.drop i) δ' μ'=some o,⟨_,ρ1,δ,μ1,Ext.refl,A.ext x1 R1,Nat.zero_le _,rfl,e⟩,?_⟩
    rintro i m σ' H' ⟨ρ',δ',μ',x',A',hi,rfl,ef⟩
    by_cases hlt:i<ds.length
    · right
      have hd:ds.drop i=ds[i] :: ds.drop (i+1):=List.drop_eq_getElem_cons hlt
      rw [hd] at ef
      unfold zQf at ef
      obtain ⟨hok,ef⟩:=zL ef
      obtain ⟨⟨δ2,μ2⟩,e2,ef⟩:=zf ef
      refine ⟨II.go ρ' H' μ' i x' A'.hp hok hlt,fun σ3 H3=>∃ ρ3 δ3 μ3,Ext ρ1 H1 ρ3 H3∧At X.K ρ3 H3 σ3 δ3 μ3∧zQf g p ok (ds.drop (i+1)) δ3 μ3=some o,fun σ3 H3 ⟨ρ3,δ3,μ3,x3,A3,e3⟩=>⟨ds.length - (i+1),by first|decide|lia,ρ3,δ3,μ3,x3,A3,hlt,rfl,e3⟩,fun x H'' y=>?_⟩
      obtain ⟨xe,Re,rx⟩:=II.yld ρ' H' μ' i x H'' ds[i] x' A'.hp hok (by simp [hlt]) y
      have x':=x'.trans xe
      refine ⟨ρ',δ',μ',ds[i],δ2,μ2,A'.ext xe Re,rx,e2,fun ρ4 σ4 H4 x4 A4=>?_⟩
      cases eb:p δ2 μ2 with
      | none=>rw [eb] at ef;cases ef
      | some ob =>
        rw [eb] at ef
        refine ⟨ρ4,δ2,μ2,ob,A4,eb,?_⟩
        have x5:=x'.trans x4
        cases ob with
        | next δ6 μ6=>exact fun ρ6 σ6 H6 x6 A6=>⟨ρ6,δ6,μ6,x5.trans x6,A6,ef⟩
        | cont δ6 μ6=>exact fun ρ6 σ6 H6 x6 A6=>⟨ρ6,δ6,μ6,x5.trans x6,A6,ef⟩
        | brk δ6 μ6=>cases ef;exact (k.ext x1).ext x5
        | ret d μ6=>cases ef;exact (k.ext x1).ext x5
        | exc C fs μ6=>cases ef;exact (k.ext x1).ext x5
    · left
      have e0:i=ds.length:=by lia
      subst e0
      rw [List.drop_length] at ef
      unfold zQf at ef
      obtain ⟨hok,ef⟩:=zL ef
      cases ef
      exact ⟨II.stop ρ' H' μ' x' A'.hp hok,k ρ' σ' H' (x1.trans x') A'⟩
end
noncomputable def zBo (g:FG) (c:FT) (φ:FE) (ok:Mem→Bool) (δ:Loc):List D→List D→Mem→Option (D×Mem)
  | [],ys,μ=>bif ok μ then some (.loc μ.length,μ ++ [.lst ys]) else none
  | x :: xs,ys,μ=>bif ok μ then (g x δ μ).bind fun p=>(c p.1 p.2).bind fun t=>bif t.1 then (φ p.1 t.2).bind fun q=>zBo g c φ ok δ xs (ys ++ [q.1]) q.2 else zBo g c φ ok δ xs ys t.2 else none
@[simp] noncomputable def δC (n:Nat) (fr:List Nat) (δ:Loc):Loc:=List.replicate n none++fr.map fun i=>(δ[i]?).getD none
@[simp] noncomputable def few (ds:List D):Bool:=decide (ds.length≤1000000)
@[simp] noncomputable def fLC (n:Nat) (fr:List Nat) (i:FI) (g:FG) (c:FT) (φ:FE):FE:=fun δ μ=>(i δ μ).bind fun p=>bif few p.1 then zBo g c φ p.2.1 (δC n fr δ) p.1 [] p.2.2 else none
noncomputable def MF (X:Cx) (ifs:List Expr) (c:FT):Prop:=PF X ifs (tMT X.K c)
@[simp] noncomputable def zSk:FT:=fun _ μ=>some (true,μ)
theorem zIe {X:Cx}:MF X [] zSk:=by intro pins s σ H Q I hh;obtain ⟨ρ,δ,μ,b,μ',A,e,k⟩:=hh;exact zOr pins s σ H Q I (by cases e;exact k ρ H Ext.refl A.hp)
theorem zJj {X:Cx} {e:Expr} {c:FT} (h:MT X e c):MF X [e] c:=zus h
theorem At.δC {K:PySem.W.Frag} {ρ:List Addr} {H:Hp} {σ:L2.St} {δ:Loc} {μ:Mem} (A:At K ρ H σ δ μ) (n:Nat) (fr:List Nat):At K ρ H (σC n fr σ) (M.δC n fr δ) μ:=by
  refine ⟨fun i d e=>?_,A.hp,by unfold σC M.δC;simp⟩
  unfold M.δC at e
  unfold σC
  by_cases hi:i<n
  · rw [List.getElem?_append_left (by simpa using hi),List.getElem?_replicate] at e
    split at e <;> cases e
  · have hi:n≤i:=Nat.le_of_not_lt hi
    rw [List.getElem?_append_right (by simpa using hi),List.length_replicate,List.getElem?_map] at e
    rw [List.getElem?_append_right (by simpa using hi),List.length_replicate,List.getElem?_map]
    cases e1:fr[i - n]? with
    | none=>rw [e1] at e;cases e
    | some j =>
      rw [e1] at e
      have e2:(δ[j]?).getD none=some d:=Option.some.inj e
      have e3:δ[j]?=some (some d):=by
        cases q:δ[j]? with
        | none=>rw [q] at e2;cases e2
        | some z=>rw [q] at e2;exact congrArg some e2
      obtain ⟨v,hv,r⟩:=A.st j d e3
      exact ⟨v,by rw [Option.map_some,hv];rfl,r⟩
noncomputable def Front (n:Nat) (σ σ':L2.St):Prop:=σ'.length = σ.length∧∀ (i:Nat),n≤i→σ'[i]? = σ[i]?
theorem Front.refl {n:Nat} {σ:L2.St}:Front n σ σ:=⟨rfl,fun _ _=>rfl⟩
theorem Front.trans {n:Nat} {σ σ1 σ2:L2.St} (a:Front n σ σ1) (b:Front n σ1 σ2):Front n σ σ2:=⟨b.1.trans a.1,fun i h=>(b.2 i h).trans (a.2 i h)⟩
noncomputable def tGc (K:PySem.W.Frag) (n:Nat) (g:FG):TG:=fun v σ H Q=>∃ ρ δ μ d δ' μ',At K ρ H σ δ μ∧RepV K ρ H d v∧g d δ μ = some (δ',μ')∧∀ ρ' σ' H',Ext ρ H ρ' H'→At K ρ' H' σ' δ' μ'→Front n σ σ'→Q σ' H'
noncomputable def zpu (K:PySem.W.Frag) (n:Nat) (g:FGs):TGs:=fun vs σ H Q=>∃ ρ δ μ ds δ' μ',At K ρ H σ δ μ∧RepVs K ρ H ds vs∧g ds δ μ = some (δ',μ')∧∀ ρ' σ' H',Ext ρ H ρ' H'→At K ρ' H' σ' δ' μ'→Front n σ σ'→Q σ' H'
noncomputable def MGc (X:Cx) (n:Nat) (t:Expr) (g:FG):Prop:=PG X t (tGc X.K n g)
noncomputable def zZs (X:Cx) (n:Nat) (t:List Expr) (g:FGs):Prop:=PGs X t (zpu X.K n g)
section
variable {X:Cx} {e:Expr} {es:List Expr} {pos:Pos} {n:Nat}
theorem z8 {x:Str} (i:Nat) (hin:i<n:=by decide) (hN:X.N.Nodup:=by first | assumption | decide) (hi:X.N[i]?=some x:=by rfl) (hx:L2.Loc X.env.scope x:=by first | exact Or.inl rfl | exact Or.inr rfl) (hf:X.fn x=true∨X.env.scope.names.lookup x=some .local:=by first | exact .inl rfl | exact .inr rfl | assumption):MGc X n (.Name x pos) (gN i) :=
  by intro pins s σ H v u Q I r hh;obtain ⟨ρ,δ,μ,d,δ',μ',A,q,e,k⟩:=hh;exact zxn hN hi hx hf pins s σ H v u Q I r (by
    cases e
    exact k ρ _ H Ext.refl (A.set q i) ⟨by simp,fun j hj=>List.getElem?_set_ne (by first|decide|lia)⟩)
theorem zNi:zZs X n [] zLf:=by intro pins s σ H v u Q I r hh;obtain ⟨ρ,δ,μ,d,δ',μ',A,q,e,k⟩:=hh;exact zln pins s σ H v u Q I r (by
  unfold zLf at e
  split at e
  · cases e
    exact ⟨q.nil_inv,k ρ σ H Ext.refl A Front.refl⟩
  · cases e)
theorem ztd {g:FG} {gs:FGs} (h1:MGc X n e g) (h2:zZs X n es gs) (hs:(assignEach (e :: es) X.env).map (·.2)=assign e X.env :: (assignEach es X.env).map (·.2):=by rfl):zZs X n (e :: es) (zxb g gs) :=
  by intro pins s σ H vs us Q I r hh;obtain ⟨ρ,δ,μ,ds,δ',μ',A,q,e,k⟩:=hh;exact zkl h1 h2 hs pins s σ H vs us Q I r (by
    unfold zxb at e
    split at e
    · obtain ⟨⟨δ1,μ1⟩,e1,e⟩:=zf e
      obtain ⟨v,vr,rfl,q1,q2⟩:=q.cons_inv
      refine ⟨v,vr,rfl,ρ,δ,μ,_,δ1,μ1,A,q1,e1,fun ρ1 σ1 H1 x1 A1 f1=>?_⟩
      exact ⟨ρ1,δ1,μ1,_,δ',μ',A1,q2.ext x1,e,fun ρ2 σ2 H2 x2 A2 f2=>k ρ2 σ2 H2 (x1.trans x2) A2 (f1.trans f2)⟩
    · cases e)
theorem zrk {k m:Nat} {gs:FGs} (h:zZs X n es gs) (hc:X.calm=true:=by rfl) (hn:(assignEach es X.env).length=m:=by rfl) (hst:(assignEach es X.env).findIdx? (·.1)=none:=by rfl):MGc X n (.Tuple es k pos) (gT m gs) :=
  by intro pins s σ H v u Q I r hh;obtain ⟨ρ,δ,μ,d,δ',μ',A,q,e,k⟩:=hh;exact z1p hc h hn hst pins s σ H v u Q I r (by
    unfold gT at e
    split at e
    · obtain ⟨h1,e⟩:=zL e
      obtain ⟨a,vs,rfl,e2,q2⟩:=q.tup_inv
      exact ⟨a,vs,rfl,SqT.of e2,by rw [← q2.length];exact beq_iff_eq.mp h1,ρ,δ,μ,_,δ',μ',A,q2,e,k⟩
    · cases e)
end
theorem z4m {n:Nat} {fr:List Nat} {σ σ':L2.St} (f:Front n (σC n fr σ) σ'):zFq (σC n fr σ) σ':=by
  refine ⟨f.1,fun i v e=>?_⟩
  obtain ⟨hi,_⟩:=σC_get e
  rw [f.2 i hi]
  exact e
theorem million:1000000<sizeLine:=by rw [sizeLine_eq];decide
theorem zVt {K:PySem.W.Frag} {n:Nat} {fr:List Nat} {i:FI} {g:FG} {c:FT} {φ:FE} {ρ:List Addr} {δ:Loc} {μ:Mem} {σ:L2.St} {H:Hp} {d:D} {μ':Mem} {Q:VK} (A:At K ρ H σ δ μ) (e:fLC n fr i g c φ δ μ = some (d,μ'))
    (k:∀ ρ' H' v,Ext ρ H ρ' H'→RepH K ρ' H' μ'→RepV K ρ' H' d v→Q v H'):tLC n fr (tMI K i) (tGc K n g) (tMT K c) (tM K φ) σ H Q:=by
  obtain ⟨⟨ds,ok,μ1⟩,e1,e⟩:=zf e
  obtain ⟨hfew,e⟩:=zL e
  have hfew:ds.length≤1000000:=of_decide_eq_true hfew
  refine ⟨ρ,δ,μ,ds,ok,μ1,A,e1,fun ρ1 H1 J x1 R1 II=>?_⟩
  refine ⟨fun i m ys H'=>∃ ρ' es μ2,Ext ρ1 H1 ρ' H'∧RepH K ρ' H' μ2∧RepVs K ρ' H' es ys∧es.length≤i∧i≤ds.length∧m=ds.length - i∧zBo g c φ ok (δC n fr δ) (ds.drop i) es μ2=some (d,μ'),⟨_,ρ1,[],μ1,Ext.refl,R1, .nil,Nat.zero_le _,Nat.zero_le _,rfl,e⟩,?_⟩
  rintro i m ys H' ⟨ρ',es,μ2,x',R',re,hel,hi,rfl,ef⟩
  by_cases hlt:i<ds.length
  · right
    have hd:ds.drop i=ds[i] :: ds.drop (i+1):=List.drop_eq_getElem_cons hlt
    rw [hd] at ef
    unfold zBo at ef
    obtain ⟨hok,ef⟩:=zL ef
    obtain ⟨⟨δ2,μ3⟩,e2,ef⟩:=zf ef
    obtain ⟨⟨b,μ4⟩,e3,ef⟩:=zf ef
    refine ⟨II.go ρ' H' μ2 i x' R' hok hlt,?_,fun x H'' y=>?_⟩
    · rw [← re.length]
      exact Nat.lt_of_le_of_lt (Nat.le_trans hel (Nat.le_trans hi hfew)) million
    · obtain ⟨xe,Re,rx⟩:=II.yld ρ' H' μ2 i x H'' ds[i] x' R' hok (by simp [hlt]) y
      have x':=x'.trans xe
      have re:=re.ext xe
      have A':At K ρ' H'' (σC n fr σ) (δC n fr δ) μ2:=((A.ext x1 R1).ext x' Re).δC n fr
      refine ⟨ρ',_,μ2,ds[i],δ2,μ3,A',rx,e2,fun ρ4 σ4 H4 x4 A4 f4=>⟨z4m f4,?_⟩⟩
      refine ⟨ρ4,δ2,μ3,b,μ4,A4,e3,fun ρ5 H5 x5 R5=>?_⟩
      cases b with
      | false=>exact iteF ⟨ds.length - (i+1),by first|decide|lia,ρ5,es,μ4,x'.trans (x4.trans x5),R5,re.ext (x4.trans x5),by first|decide|lia,hlt,rfl,ef⟩
      | true =>
        obtain ⟨⟨y,μ6⟩,e4,ef⟩:=zf ef
        refine iteT ⟨ρ5,δ2,μ4,y,μ6,A4.ext x5 R5,e4,fun ρ6 H6 v x6 R6 r6=>?_⟩
        exact ⟨ds.length - (i+1),by first|decide|lia,ρ6,es ++ [y],μ6,x'.trans (x4.trans (x5.trans x6)),R6,(re.ext (x4.trans (x5.trans x6))).append (.cons r6 .nil),by simp;exact hel,hlt,rfl,ef⟩
  · left
    have e0:i=ds.length:=by lia
    subst e0
    rw [List.drop_length] at ef
    unfold zBo at ef
    obtain ⟨hok,ef⟩:=zL ef
    cases ef
    refine ⟨II.stop ρ' H' μ2 x' R' hok,fun p hp=>?_⟩
    exact k _ _ _ (x1.trans (x'.trans (Ext.push hp))) (R'.push hp ⟨ys,zo,re.ext (Ext.push hp)⟩) (.loc (zvb R'))
theorem zxt {X:Cx} {scope:Scope} {elt tg iter:Expr} {ifs:List Expr} {pos:Pos} {i:FI} {g:FG} {c:FT} {φ:FE} (own:List Str) (fr:List Nat) (hi:MI X tg iter i)
    (hg:∀ cl C s₀ H₀ fp,MGc (cxC X own fr scope cl C s₀ H₀ fp) own.length tg g) (hq:∀ cl C s₀ H₀ fp,MF (cxC X own fr scope cl C s₀ H₀ fp) ifs c) (he:∀ cl C s₀ H₀ fp,ME (cxC X own fr scope cl C s₀ H₀ fp) elt φ)
    (hc:X.calm=true:=by rfl) (hk:scope.kind = .function:=by rfl) (hnm:∀ y∈scope.names,scope.names.lookup y.1=some y.2:=by decide)
    (hfree:∀ x∈scope.names,x.2 = .free→(X.env.kindOf x.1=some .cell∨X.env.kindOf x.1=some .free):=by decide) (hfr:∀ i∈fr,∃ x,X.N[i]?=some x∧scope.names.lookup x=some .free)
    (hs:∀ x,foldedSetIterable iter X.env x=pure x:=by intro _;rfl):ME X (.ListComp elt [⟨tg,iter,ifs,0⟩] scope pos) (fLC own.length fr i g c φ) :=
  zfd (zqt (wi:=tMI X.K i) (g:=tGc X.K own.length g) (tc:=tMT X.K c) (te:=tM X.K φ) own fr hc hi (fun cl C s₀ H₀ fp=>hg cl C s₀ H₀ fp) (fun cl C s₀ H₀ fp=>hq cl C s₀ H₀ fp) (fun cl C s₀ H₀ fp=>he cl C s₀ H₀ fp) hk hnm hfree hfr hs) fun ρ δ μ σ H d μ' Q A e k=>zVt A e k
end M
set_option Elab.async false
set_option linter.all false
set_option maxRecDepth 100000
set_option autoImplicit false
namespace M
open PySem PySem.Spec PyProof.Rows L2
noncomputable def toP (μ:Mem):Nat→D→Option PyData
  | 0,_=>none
  | n+1,d=>match d with
    | .non=>some .none
    | .bl b=>some (.bool b)
    | .int i=>some (.int i)
    | .str x=>bif PyData.strOk x then some (.str x) else none
    | .ty _=>none
    | .own _=>none
    | .tup ds=>(ds.mapM (toP μ n)).bind fun ps=>some (.tuple ps)
    | .fz ds=>(ds.mapM (toP μ n)).bind fun ps=>some (.list ps)
    | .loc k=>match μ[k]? with
      | some (.lst ds)=>(ds.mapM (toP μ n)).bind fun ps=>some (.list ps)
      | _=>none
theorem zbg {f:D→Option PyData} {ps:List PyData} (h:([]:List D).mapM f=some ps):ps = []:=by
  simp at h;exact h
theorem zef {f:D→Option PyData} {d:D} {ds:List D} {ps:List PyData} (h:(d :: ds).mapM f=some ps):∃ p r,f d=some p∧ds.mapM f=some r∧ps=p :: r:=by
  rw [List.mapM_cons] at h
  obtain ⟨p,e1,h⟩:=zf h
  obtain ⟨r,e2,h⟩:=zf h
  cases h
  exact ⟨p,r,e1,e2,rfl⟩
theorem zZh {f:D→Option PyData} {m:Nat} (hf:∀ d p,f d=some p→p.canLay0=true∧p.depth≤m):∀ {ds:List D} {ps:List PyData},ds.mapM f=some ps→PyData.canLayAll0 ps=true∧PyData.depthAll ps≤m
  | [],ps,h=>by rw [zbg h];exact ⟨rfl,Nat.zero_le _⟩
  | d :: ds,ps,h=>by
    obtain ⟨p,r,e1,e2,rfl⟩:=zef h
    obtain ⟨h1,h2⟩:=hf d p e1
    obtain ⟨h3,h4⟩:=zZh hf e2
    refine ⟨?_,?_⟩
    · simp only [PyData.canLayAll0,h1,h3,Bool.and_true]
    · simp only [PyData.depthAll];lia
theorem zKj {μ:Mem}:∀ (n:Nat) (d:D) (p:PyData),toP μ n d=some p→p.canLay0=true∧p.depth≤n
  | 0,d,p,h=>by cases h
  | n+1,d,p,h=>by
    have seq:∀ {ds:List D} {c:List PyData→PyData},(∀ ps,(c ps).canLay0=PyData.canLayAll0 ps)→(∀ ps,(c ps).depth=PyData.depthAll ps+1)→((ds.mapM (toP μ n)).bind fun ps=>some (c ps))=some p→p.canLay0=true∧p.depth≤n+1:=fun {ds c} h1 h2 h=>by
      obtain ⟨ps,e1,e2⟩:=zf h
      cases e2
      obtain ⟨q1,q2⟩:=zZh (zKj n) e1
      exact ⟨by rw [h1];exact q1,by rw [h2];lia⟩
    unfold toP at h
    cases d with
    | non=>cases h;exact ⟨rfl,Nat.zero_le _⟩
    | bl b=>cases h;exact ⟨rfl,Nat.zero_le _⟩
    | int b=>cases h;exact ⟨rfl,Nat.zero_le _⟩
    | str x =>
      obtain ⟨h1,h2⟩:=zL h
      cases h2
      exact ⟨h1,Nat.zero_le _⟩
    | ty _=>cases h
    | own _=>cases h
    | tup ds=>exact seq (fun _=>rfl) (fun _=>rfl) h
    | fz ds=>exact seq (fun _=>rfl) (fun _=>rfl) h
    | loc k =>
      dsimp only at h
      split at h
      · exact seq (fun _=>rfl) (fun _=>rfl) h
      · cases h
section
variable {X:Cx} {pins:List (Addr×Obj)} {σ:L2.St} {H:Hp} {s:Shared} {ρ:List Addr} {μ:Mem}
theorem z2e {f:D→Option PyData} (hf:∀ d p v u,f d=some p→RepV X.K ρ H d v→RelV v u→∃ as,Reads s.heap u p as):∀ {ds:List D} {ps:List PyData} {vs:List V} {us:List Value},ds.mapM f=some ps→RepVs X.K ρ H ds vs→Vals vs us→∃ as,ReadsAll s.heap us ps as
  | [],ps,vs,us,h,r,q=>by
    rw [zbg h]
    rw [r.nil_inv] at q
    cases q
    exact ⟨[], .nil⟩
  | d :: ds,ps,vs,us,h,r,q=>by
    obtain ⟨p,pr,e1,e2,rfl⟩:=zef h
    obtain ⟨v,vr,rfl,r1,r2⟩:=r.cons_inv
    cases q with
    | cons q1 q2 =>
      obtain ⟨a1,h1⟩:=hf _ _ _ _ e1 r1 q1
      obtain ⟨a2,h2⟩:=z2e hf e2 r2 q2
      exact ⟨_, .cons h1 h2⟩
theorem zPd (I:Inv X pins σ H s) (R:RepH X.K ρ H μ):∀ (n:Nat) (d:D) (p:PyData) (v:V) (u:Value),toP μ n d=some p→RepV X.K ρ H d v→RelV v u→∃ as,Reads s.heap u p as
  | 0,d,p,v,u,h,_,_=>by cases h
  | n+1,d,p,v,u,h,r,q=>by
    unfold toP at h
    cases d with
    | non=>cases h;rw [r.non_inv] at q;cases q;exact ⟨_, .none⟩
    | bl b=>cases h;rw [r.bl_inv] at q;cases q;exact ⟨_, .bool b⟩
    | int b=>cases h;rw [r.int_inv] at q;obtain ⟨t,rfl⟩:=q;exact ⟨_, .int b t⟩
    | str x =>
      obtain ⟨h1,h2⟩:=zL h
      cases h2
      rw [r.str_inv] at q;obtain ⟨t,rfl⟩:=q;exact ⟨_, .str x t⟩
    | ty _=>cases h
    | own _=>cases h
    | tup ds =>
      obtain ⟨ps,e1,e2⟩:=zf h
      cases e2
      obtain ⟨a,vs,rfl,e3,rr⟩:=r.tup_inv
      cases q
      obtain ⟨its,rv,⟨o,ho,hc,k,hd⟩,_⟩:=I.tuple (SqT.of e3)
      obtain ⟨as,ha⟩:=z2e (zPd I R n) e1 rr rv
      exact ⟨_,reads_tuple_at ho hc hd (by simpa using ha)⟩
    | fz ds =>
      obtain ⟨ps,e1,e2⟩:=zf h
      cases e2
      obtain ⟨a,vs,rfl,e3,rr⟩:=r.fz_inv
      cases q
      obtain ⟨its,rv,⟨o,k,ho,hc,_,hd⟩,_⟩:=I.list e3.sq
      obtain ⟨as,ha⟩:=z2e (zPd I R n) e1 rr rv
      exact ⟨_,reads_list_at ho hc hd (by simpa using ha)⟩
    | loc k =>
      dsimp only at h
      split at h
      · rename_i hm
        obtain ⟨ps,e1,e2⟩:=zf h
        cases e2
        obtain ⟨a,rfl,e2⟩:=r.loc_inv
        obtain ⟨vs,e3,rr⟩:=R.at_ _ _ _ e2 hm
        cases q
        obtain ⟨its,rv,⟨o,k,ho,hc,_,hd⟩,_⟩:=I.list (SqL.of (K:=X.K) e3)
        obtain ⟨as,ha⟩:=z2e (zPd I R n) e1 rr rv
        exact ⟨_,reads_list_at ho hc hd (by simpa using ha)⟩
      · cases h
end
noncomputable def gEq:G2:=fun x y μ=>(toP μ 8 x).bind fun p=>(toP μ 8 y).bind fun q=>some (.bl (PyData.eqv p q),μ)
noncomputable def gNe:G2:=fun x y μ=>(toP μ 8 x).bind fun p=>(toP μ 8 y).bind fun q=>some (.bl (!PyData.eqv p q),μ)
theorem zff {μ:Mem} {d:D} {p:PyData} (h:toP μ 8 d=some p):SeqAt.shaped p=true:=by
  obtain ⟨h1,h2⟩:=zKj 8 d p h
  unfold SeqAt.shaped
  rw [h1,decide_eq_true (by first|decide|lia)]
  rfl
section
variable {X:Cx} {a b c e:Expr} {es:List Expr} {φ ψ χ:FE} {pos:Pos}
theorem zcc (hu:X.A.units+64<cLine):OpM X (compareOp .Eq) gEq:=by
  refine OpM.of fun pins s σ H x y v u Q I rx ry ρ dx dy μ d μ' r1 r2 R e k=>?_
  obtain ⟨p,e1,e⟩:=zf e
  obtain ⟨q,e2,e⟩:=zf e
  cases e
  obtain ⟨as,h1⟩:=zPd I R 8 dx p x v e1 r1 rx
  obtain ⟨bs,h2⟩:=zPd I R 8 dy q y u e2 r2 ry
  exact eq_dataH h1 h2 (zff e1) (zff e2) hu ⟨.bl _,H,I,rfl,k ρ H _ Ext.refl R .bl⟩
theorem znj (hu:X.A.units+64<cLine):OpM X (compareOp .NotEq) gNe:=by
  refine OpM.of fun pins s σ H x y v u Q I rx ry ρ dx dy μ d μ' r1 r2 R e k=>?_
  obtain ⟨p,e1,e⟩:=zf e
  obtain ⟨q,e2,e⟩:=zf e
  cases e
  obtain ⟨as,h1⟩:=zPd I R 8 dx p x v e1 r1 rx
  obtain ⟨bs,h2⟩:=zPd I R 8 dy q y u e2 r2 ry
  exact ne_dataH h1 h2 (zff e1) (zff e2) hu ⟨.bl _,H,I,rfl,k ρ H _ Ext.refl R .bl⟩
@[simp] noncomputable def gIs:G2:=fun x y μ=>match x,y with
  | .bl i, .bl j=>some (.bl (i == j),μ)
  | .non, .non=>some (.bl true,μ)
  | .bl _, .non=>some (.bl false,μ)
  | .int _, .non=>some (.bl false,μ)
  | .str _, .non=>some (.bl false,μ)
  | .tup _, .non=>some (.bl false,μ)
  | .loc _, .non=>some (.bl false,μ)
  | _,_=>none
@[simp] noncomputable def z7f:G2:=fun x y μ=>match x,y with
  | .bl i, .bl j=>some (.bl (i != j),μ)
  | .non, .non=>some (.bl false,μ)
  | .bl _, .non=>some (.bl true,μ)
  | .int _, .non=>some (.bl true,μ)
  | .str _, .non=>some (.bl true,μ)
  | .tup _, .non=>some (.bl true,μ)
  | .loc _, .non=>some (.bl true,μ)
  | _,_=>none
theorem zDp:OpM X (compareOp .Is) gIs:=by
  refine OpM.of fun pins s σ H x y v u Q I rx ry ρ dx dy μ d μ' r1 r2 R e k=>?_
  unfold gIs at e
  split at e <;> cases e
  · rw [r1.bl_inv] at rx;rw [r2.bl_inv] at ry;cases rx;cases ry
    exact is_bool ⟨.bl _,H,I,rfl,k ρ H _ Ext.refl R .bl⟩
  · exact zui pins s σ H x y v u Q I rx ry ⟨r2.non_inv,by rw [r1.non_inv];exact k ρ H _ Ext.refl R .bl⟩
  · exact zui pins s σ H x y v u Q I rx ry ⟨r2.non_inv,by rw [r1.bl_inv];exact k ρ H _ Ext.refl R .bl⟩
  · exact zui pins s σ H x y v u Q I rx ry ⟨r2.non_inv,by rw [r1.int_inv];exact k ρ H _ Ext.refl R .bl⟩
  · exact zui pins s σ H x y v u Q I rx ry ⟨r2.non_inv,by rw [r1.str_inv];exact k ρ H _ Ext.refl R .bl⟩
  · exact zui pins s σ H x y v u Q I rx ry ⟨r2.non_inv,by obtain ⟨a,vs,rfl,_⟩:=r1.tup_inv;exact k ρ H _ Ext.refl R .bl⟩
  · exact zui pins s σ H x y v u Q I rx ry ⟨r2.non_inv,by obtain ⟨a,rfl,_⟩:=r1.loc_inv;exact k ρ H _ Ext.refl R .bl⟩
theorem z5d:OpM X (compareOp .IsNot) z7f:=by
  refine OpM.of fun pins s σ H x y v u Q I rx ry ρ dx dy μ d μ' r1 r2 R e k=>?_
  unfold z7f at e
  split at e <;> cases e
  · rw [r1.bl_inv] at rx;rw [r2.bl_inv] at ry;cases rx;cases ry
    exact isnot_bool ⟨.bl _,H,I,rfl,k ρ H _ Ext.refl R .bl⟩
  · exact zMf pins s σ H x y v u Q I rx ry ⟨r2.non_inv,by rw [r1.non_inv];exact k ρ H _ Ext.refl R .bl⟩
  · exact zMf pins s σ H x y v u Q I rx ry ⟨r2.non_inv,by rw [r1.bl_inv];exact k ρ H _ Ext.refl R .bl⟩
  · exact zMf pins s σ H x y v u Q I rx ry ⟨r2.non_inv,by rw [r1.int_inv];exact k ρ H _ Ext.refl R .bl⟩
  · exact zMf pins s σ H x y v u Q I rx ry ⟨r2.non_inv,by rw [r1.str_inv];exact k ρ H _ Ext.refl R .bl⟩
  · exact zMf pins s σ H x y v u Q I rx ry ⟨r2.non_inv,by obtain ⟨a,vs,rfl,_⟩:=r1.tup_inv;exact k ρ H _ Ext.refl R .bl⟩
  · exact zMf pins s σ H x y v u Q I rx ry ⟨r2.non_inv,by obtain ⟨a,rfl,_⟩:=r1.loc_inv;exact k ρ H _ Ext.refl R .bl⟩
inductive Ty where
  | non | bl | int | str | tup | lst | dict
  deriving DecidableEq
theorem zGo {scope:Scope} {elt tg iter:Expr} {ifs:List Expr} {spos py:Pos} {y:Str} {fi:FI} {g:FG} {ct:FT} (i:Nat) (own:List Str) (fr:List Nat) (hi:MI X tg iter fi)
    (hg:∀ cl C s₀ H₀ fp,MGc (cxC X own fr scope cl C s₀ H₀ fp) own.length tg g) (hq:∀ cl C s₀ H₀ fp,MF (cxC X own fr scope cl C s₀ H₀ fp) ifs ct) (he:∀ cl C s₀ H₀ fp,ME (cxC X own fr scope cl C s₀ H₀ fp) elt φ)
    (hfr:∀ i∈fr,∃ x,X.N[i]?=some x∧scope.names.lookup x=some .free)
    (hN:X.N.Nodup:=by first | assumption | decide) (hiN:X.N[i]?=some y:=by rfl) (hy:X.env.scope.names.lookup y=some .local:=by rfl)
    (hsw:swapsWith (.ListComp elt [⟨tg,iter,ifs,0⟩] scope pos) (some (.Name y py)) spos.line X.env=pure true:=by rfl)
    (hc:X.calm=true:=by rfl) (hk:scope.kind = .function:=by rfl) (hnm:∀ y∈scope.names,scope.names.lookup y.1=some y.2:=by decide)
    (hfree:∀ x∈scope.names,x.2 = .free→(X.env.kindOf x.1=some .cell∨X.env.kindOf x.1=some .free):=by decide)
    (hs:∀ x,foldedSetIterable iter X.env x=pure x:=by intro _;rfl):MS X (.Assign [.Name y py] (.ListComp elt [⟨tg,iter,ifs,0⟩] scope pos) spos) (zVb i (fLC own.length fr fi g ct φ)) :=
  zBh (zwp (wi:=tMI X.K fi) (g:=tGc X.K own.length g) (tc:=tMT X.K ct) (te:=tM X.K φ) own fr hN hiN hy hc hi hsw (fun cl C s₀ H₀ fp=>hg cl C s₀ H₀ fp) (fun cl C s₀ H₀ fp=>hq cl C s₀ H₀ fp) (fun cl C s₀ H₀ fp=>he cl C s₀ H₀ fp) hk hnm hfree hfr hs) fun ρ δ μ σ H o E A e k=>by
    obtain ⟨⟨x,μ1⟩,e1,e⟩:=zf e
    cases e
    exact zVt A e1 fun ρ' H' v x' R r=>k ρ' _ H' x' ((A.ext x' R).set r i)
end
@[simp] noncomputable def zWb:Option Out→Option (D×Mem)
  | some (.ret d μ)=>some (d,μ)
  | some (.next _ μ)=>some (.non,μ)
  | _=>none
@[simp] noncomputable def zP (N:List Str) (ds:List D):Loc:=ds.map some++List.replicate (N.length - ds.length) none
theorem zsl {K:PySem.W.Frag} {ρ:List Addr} {H:Hp} {μ:Mem} {N:List Str} {ds:List D} {vs:List V} (r:RepVs K ρ H ds vs) (R:RepH K ρ H μ):At K ρ H (L2.start N vs) (zP N ds) μ:=by
  refine ⟨fun i d e=>?_,R,by unfold L2.start zP;simp [r.length]⟩
  unfold zP at e
  unfold L2.start
  by_cases hi:i<ds.length
  · rw [List.getElem?_append_left (by simpa using hi),List.getElem?_map] at e
    cases e1:ds[i]? with
    | none=>rw [e1] at e;cases e
    | some d' =>
      rw [e1] at e
      cases e
      obtain ⟨v,e2,q⟩:=r.get e1
      refine ⟨v,?_,q⟩
      rw [List.getElem?_append_left (by simpa [← r.length] using hi),List.getElem?_map,e2]
      rfl
  · rw [List.getElem?_append_right (by simpa using hi),List.getElem?_replicate] at e
    split at e <;> cases e
theorem fnM {P:Program} {w:World} {K:PySem.W.Frag} {mg:Str→Option Value} {base:Heap} {x qual:Str} {st:Stmt} {f:Addr} {fd:FuncData} {N ps:List Str} {k n:Nat} {F:FF} (G:Fun K x qual st f fd) (S:FnScope N ps (zi st)) (hn:ps.length=n)
    (hbody:∀ (cdv:Value) (A:Around) (outer:List Env) (s:Shared) (H:Hp) (E:XK),Room k (A.deeper (envOfC qual (zi st) s.heap.objs.size f cdv)) →
      ∃ p,MSs (zen CX0 P w K mg base N qual (zi st) f cdv A outer s H E).nox (zD st) p∧∀ ds μ d μ',ds.length=n→F ds μ = some (d,μ')→zWb (p (zP N ds) μ)=some (d,μ')) :
    FnOk P w K mg base CX0 (k+1) f fd ps (spM K n F):=by
  refine G.ok S (fun vs H Q E h=>by rw [hn];exact h.1) (fun cdv A outer s H vs Q E hr h=>?_)
  obtain ⟨p,hp,hF⟩:=hbody cdv A outer s H E hr
  refine ⟨_,hp,?_⟩
  obtain ⟨hl,ρ,ds,μ,d,μ',r,R,e,k⟩:=h
  have e':=hF ds μ d μ' (by rw [r.length];exact hl) e
  cases eo:p (zP N ds) μ with
  | none=>rw [eo] at e';cases e'
  | some o =>
    rw [eo] at e'
    refine ⟨ρ,zP N ds,μ,o,zsl r R,eo,?_⟩
    cases o with
    | ret d2 μ2=>cases e';exact fun ρ' v H' x' R' r'=>k ρ' H' v x' R' r'
    | next δ2 μ2=>cases e';exact fun ρ' σ' H' x' A'=>k ρ' H' .non x' A'.hp .non
    | brk _ _=>cases e'
    | cont _ _=>cases e'
    | exc _ _ _=>cases e'
end M
set_option Elab.async false
set_option linter.all false
set_option maxRecDepth 100000
set_option autoImplicit false
namespace M
open PySem PySem.Spec PyProof.Rows L2
noncomputable def zCp (sc inner:Scope):Bool:=(inner.kind == .function) && inner.names.all (fun y=>inner.names.lookup y.1 == some y.2) &&
  inner.names.all fun x=>x.2 != .free || sc.names.lookup x.1 == some .cell || sc.names.lookup x.1 == some .free
theorem zVj {sc inner:Scope} (h:zCp sc inner=true):inner.kind = .function:=by
  unfold zCp at h
  simp only [Bool.and_eq_true,beq_iff_eq] at h
  exact h.1.1
theorem zcn {sc inner:Scope} (h:zCp sc inner=true):∀ y∈inner.names,inner.names.lookup y.1=some y.2:=by
  unfold zCp at h
  simp only [Bool.and_eq_true] at h
  intro y hy
  exact beq_iff_eq.mp (List.all_eq_true.mp h.1.2 y hy)
theorem zZj {sc inner:Scope} (h:zCp sc inner=true):∀ x∈inner.names,x.2 = .free→(sc.names.lookup x.1=some .cell∨sc.names.lookup x.1=some .free):=by
  unfold zCp at h
  simp only [Bool.and_eq_true] at h
  intro y hy e
  have:=List.all_eq_true.mp h.2 y hy
  simpa [e] using this
theorem z7 {N:List Str} (h:decide N.Nodup=true):N.Nodup:=of_decide_eq_true h
theorem zTc {P:Nat→Prop}:∀ i∈([]:List Nat),P i:=fun i h=>nomatch h
theorem zjb {P:Nat→Prop} {i:Nat} {l:List Nat} (h:P i) (r:∀ j∈l,P j):∀ j∈i :: l,P j:=fun j hj=>by
  rcases List.mem_cons.mp hj with rfl | hj
  · exact h
  · exact r j hj
section
variable {X:Cx} {a b c e:Expr} {es:List Expr} {φ ψ χ:FE} {pos:Pos}
theorem mlc {scope:Scope} {elt tg iter:Expr} {ifs:List Expr} {i:FI} {g:FG} {ct:FT} (own:List Str) (fr:List Nat) (hi:MI X tg iter i)
    (hg:∀ cl C s₀ H₀ fp,MGc (cxC X own fr scope cl C s₀ H₀ fp) own.length tg g) (hq:∀ cl C s₀ H₀ fp,MF (cxC X own fr scope cl C s₀ H₀ fp) ifs ct) (he:∀ cl C s₀ H₀ fp,ME (cxC X own fr scope cl C s₀ H₀ fp) elt φ)
    (hfr:∀ i∈fr,∃ x,X.N[i]?=some x∧scope.names.lookup x=some .free) (hok:zCp X.env.scope scope=true:=by rfl) (hc:X.calm=true:=by rfl) (hs:∀ x,foldedSetIterable iter X.env x=pure x:=by intro _;rfl) :
    ME X (.ListComp elt [⟨tg,iter,ifs,0⟩] scope pos) (fLC own.length fr i g ct φ) :=
  zxt own fr hi hg hq he hc (zVj hok) (zcn hok) (zZj hok) hfr hs
theorem mslc {scope:Scope} {elt tg iter:Expr} {ifs:List Expr} {spos py:Pos} {y:Str} {fi:FI} {g:FG} {ct:FT} (i:Nat) (own:List Str) (fr:List Nat) (hi:MI X tg iter fi)
    (hg:∀ cl C s₀ H₀ fp,MGc (cxC X own fr scope cl C s₀ H₀ fp) own.length tg g) (hq:∀ cl C s₀ H₀ fp,MF (cxC X own fr scope cl C s₀ H₀ fp) ifs ct) (he:∀ cl C s₀ H₀ fp,ME (cxC X own fr scope cl C s₀ H₀ fp) elt φ)
    (hfr:∀ i∈fr,∃ x,X.N[i]?=some x∧scope.names.lookup x=some .free) (hN:X.N.Nodup) (hiN:X.N[i]?=some y:=by rfl) (hy:X.env.scope.names.lookup y=some .local:=by rfl)
    (hsw:swapsWith (.ListComp elt [⟨tg,iter,ifs,0⟩] scope pos) (some (.Name y py)) spos.line X.env=pure true:=by rfl) (hok:zCp X.env.scope scope=true:=by rfl) (hc:X.calm=true:=by rfl) (hs:∀ x,foldedSetIterable iter X.env x=pure x:=by intro _;rfl) :
    MS X (.Assign [.Name y py] (.ListComp elt [⟨tg,iter,ifs,0⟩] scope pos) spos) (zVb i (fLC own.length fr fi g ct φ)) :=
  zGo i own fr hi hg hq he hfr hN hiN hy hsw hc (zVj hok) (zcn hok) (zZj hok) hs
structure FnAt (K:PySem.W.Frag) (mg:Str→Option Value) (x:Str) (st:Stmt) (ps:List Str) (f:Addr) (fd:FuncData):Prop where
  fn:Fun K x x st f fd
  at_:mg x=some (.ref f)
  bd:Binds K fd ps []
theorem mcall {k j n:Nat} {st:Stmt} {f:Addr} {fd:FuncData} {ps:List Str} {F:FF} {x:Str} {p:Pos} {φ:FA} (B:FnAt X.K X.mg x st ps f fd) (G:FnOk X.prog X.w X.K X.mg X.base CX0 j f fd ps (spM X.K n F)) (hr:Room k X.A)
    (ha:MAn X (e :: es) φ) (hj:j≤k:=by decide) (hn:(e :: es).length=n:=by rfl) (hg:Gl X x:=by rfl) (hdb:(x == ("__debug__":Str))=false:=by decide) (he:starEach (e :: es) X.env=(false,eval e X.env) :: starEach es X.env:=by exact zYe rfl) (hpl:(backTo pos (starEach es X.env)).any (·.1)=false:=by rfl) :
    ME X (.Call (.Name x p) (e :: es) [] pos) (zz F φ):=zxq G (hr.mono hj) B.at_ B.fn.kp B.bd ha hn hg hdb he hpl
end
end M
set_option Elab.async false
set_option linter.all false
set_option maxRecDepth 100000
set_option autoImplicit false
namespace M
open PySem PySem.Spec PyProof.Rows L2
section
variable {X:Cx} {a b c e:Expr} {es:List Expr} {φ ψ χ:FE} {pos:Pos}
theorem cat0 {prog:Program} {w:World} {A:Around} {E:Value→Shared→Prop} {s:Shared} {t b:Addr} {vs ws:List Value} {Q:Value→Shared→Prop} (ht:IsTup s.heap t vs.toArray) (hb:IsTup s.heap b ws.toArray) (hv:vs = []) (h:Q (.ref b) s) :
    wpAny (model prog w) A (binaryOp .Add (.ref t) (.ref b)) Q E s:=by
  obtain ⟨⟨cls,dd,data,sl⟩,ho,hc,n,hd⟩:=id ht
  obtain ⟨⟨cls2,dd2,data2,sl2⟩,ho2,hc2,n2,hd2⟩:=id hb
  simp only at hc hd hc2 hd2
  subst hc hd hc2 hd2
  refine concat_meets ⟨_,ho,rfl⟩ ⟨_,ho2,rfl⟩ noFill_tuple_add seq_tuple_add PySem.F.slot_tuple_add PySem.F.entry_tuple_add (PySem.F.args_tuple_add_2 _ _) (tuple_addW0 t b vs.toArray ws.toArray n n2 dd dd2 sl sl2 (by rw [hv];rfl)) ⟨ho,ho2,h⟩
theorem zX:OpM X (binaryOp .Add) zxd:=by
  refine OpM.of fun pins s σ H x y v u Q I rx ry ρ dx dy μ d μ' r1 r2 R e k=>?_
  unfold zxd at e
  split at e
  · cases e
    rw [r1.int_inv] at rx;rw [r2.int_inv] at ry
    obtain ⟨t,rfl⟩:=rx
    obtain ⟨t',rfl⟩:=ry
    exact add_int ⟨.int _,H,I.tok _,⟨_,rfl⟩,k ρ H _ Ext.refl R .int⟩
  · rename_i as bs
    obtain ⟨h1,e⟩:=zL e
    have h1:=of_decide_eq_true h1
    cases e
    obtain ⟨a1,vs,rfl,e1,q1⟩:=r1.tup_inv
    obtain ⟨a2,ws,rfl,e2,q2⟩:=r2.tup_inv
    have hm:=million
    have hl1:=q1.length
    have hl2:=q2.length
    by_cases hv:vs = []
    · cases rx;cases ry
      obtain ⟨its,rv,p1,_⟩:=I.tuple (SqT.of (K:=X.K) e1)
      obtain ⟨its2,rv2,p2,_⟩:=I.tuple (SqT.of (K:=X.K) e2)
      refine cat0 p1 p2 (rv.nil_iff.mpr hv) ⟨.ref a2,H,I,rfl,k ρ H _ Ext.refl R ?_⟩
      have ha:as = []:=by rw [hv] at hl1;exact List.length_eq_zero_iff.mp hl1
      rw [ha,List.nil_append]
      exact r2
    · refine zVq pins s σ H _ _ v u Q I rx ry ⟨a1,a2,vs,ws,rfl,rfl,SqT.of e1,SqT.of e2,hv,by first|decide|lia,fun hw=>?_,fun _ p hp=>?_⟩
      · have hb:bs = []:=by rw [hw] at hl2;exact List.length_eq_zero_iff.mp hl2
        rw [hb,List.append_nil] at k
        exact k ρ H _ Ext.refl R r1
      · exact k ρ _ _ (Ext.new hp) (R.newTup hp) (.tup zo ((q1.append q2).ext (Ext.new hp)))
  · split at e
    · rename_i hm1 hm2
      obtain ⟨h1,e⟩:=zL e
      have h1:=of_decide_eq_true h1
      cases e
      obtain ⟨a1,rfl,e1⟩:=r1.loc_inv
      obtain ⟨a2,rfl,e2⟩:=r2.loc_inv
      obtain ⟨vs,e3,q1⟩:=R.at_ _ _ _ e1 hm1
      obtain ⟨ws,e4,q2⟩:=R.at_ _ _ _ e2 hm2
      have hm:=million
      have hl1:=q1.length
      have hl2:=q2.length
      exact z4r pins s σ H _ _ v u Q I rx ry ⟨a1,a2,vs,ws,rfl,rfl,e3,e4,by first|decide|lia,fun p hp=>k _ _ _ (Ext.push hp) (R.push hp ⟨_,zo,(q1.append q2).ext (Ext.push hp)⟩) (.loc (zvb R))⟩
    · cases e
  · cases e
theorem zCh:fillsNumberSlot (.type "tuple") "mul" = pure false :=
  PyProof.Rows.fillsNumberSlot_seq (id:="tuple.__mul__") (r:=some (.builtin "tuple.__rmul__")) PySem.F.slot_tuple_mul.lookup (by decide +kernel) PySem.F.slot_tuple_rmul.lookup (by decide +kernel)
theorem z9l:seqRepeat? (.type "tuple")=pure (some (.builtin "tuple.__mul__")):=by
  unfold seqRepeat?
  rw [PyProof.Rows.seqSlot_of (T:="tuple") (name:="__mul__") (id:="tuple.__mul__") PySem.F.slot_tuple_mul.lookup (by decide +kernel),PyProof.Rows.seqSlot_of (T:="tuple") (name:="__rmul__") (id:="tuple.__rmul__") PySem.F.slot_tuple_rmul.lookup (by decide +kernel)]
  rfl
theorem z3f (i:Int) (t:Tok) (l:Addr) (items:Array Value) (n:Nat) (dd:Option Addr) (sl:Array (Option Value)) :
    Meets (Builtin.«int.__rmul__» ⟨[.int i t, .ref l],[]⟩) (fun _ R s=>s.heap.get? l=some { cls := .type "tuple",dict:=dd,data := .seq items n,slots:=sl }∧R (.ok (.ret Value.notImplemented)) s) :=
  .of_wp fun prog w A R s h=>by
    obtain ⟨hp,g,d,tk,os⟩:=s
    obtain ⟨hl,h⟩:=h
    wp_walk
    exact ⟨_,rfl,h⟩
theorem zVi (l:Addr) (items:Array Value) (n:Nat) (dd:Option Addr) (sl:Array (Option Value)) (i:Int) (t:Tok) (h2:2≤i) (h3:i≤1000) (h4:items.isEmpty=false) (h5:items.size≤1000)
    (hsz:((List.replicate i.toNat items).foldl (fun x1 x2=>x1++x2) #[]).size≤sizeLine) :
    Meets (Builtin.«tuple.__mul__» ⟨[.ref l, .int i t],[]⟩) (fun _ R s=>s.heap.get? l=some { cls := .type "tuple",dict:=dd,data := .seq items n,slots:=sl } ∧
      R (.ok (.ret (Value.ref s.heap.objs.size))) { s with heap:=s.heap.push { cls:=Value.type "tuple",data:=Data.seq ((List.replicate i.toNat items).foldl (fun x1 x2=>x1++x2) #[]) },toks:=s.toks }) :=
  .of_wp fun prog w A R s h=>by
    obtain ⟨hp,g,d,tk,os⟩:=s
    obtain ⟨hl,h⟩:=h
    have f1:=AutoSeq1.idx_int
    have c1:¬ ((decide (i < -(2 ^ 63)) || decide (i ≥ 2 ^ 63))=true):=by
      rw [decide_eq_false (by first|decide|lia),decide_eq_false (by first|decide|lia)]
      exact Bool.false_ne_true
    have c2:¬ ((items.isEmpty || i == 1)=true):=by
      rw [h4,show (i == 1)=false by simp;lia]
      exact Bool.false_ne_true
    have c3:¬ ((decide (i≤0) || items.isEmpty)=true):=by
      rw [h4,decide_eq_false (by first|decide|lia)]
      exact Bool.false_ne_true
    have c4:¬ ((items.size:Int) * i > (2 ^ 63 - 1) / 8):=by
      have h6:(items.size:Int) * i≤1000 * 1000:=Int.mul_le_mul (by first|decide|lia) h3 (by first|decide|lia) (by first|decide|lia)
      lia
    have c5:¬ (Builtin.Tuple.tupleTooMany ((items.size:Int) * i)=true):=by
      have h6:(items.size:Int) * i≤1000 * 1000:=Int.mul_le_mul (by first|decide|lia) h3 (by first|decide|lia) (by first|decide|lia)
      have hz:(sizeLine:Int)=16777216:=by rw [sizeLine_eq];rfl
      unfold Builtin.Tuple.tupleTooMany
      rw [decide_eq_false (by first|decide|lia)]
      exact Bool.false_ne_true
    wp_walk using wpAny_loadPart' hl
    rw [if_neg c1]
    wp_walk using wpAny_loadPart' hl
    rw [if_neg c2]
    dsimp only
    rw [if_neg c3,if_neg c4,if_neg c5]
    refine wpAny_bind (m:=Builtin.Tuple.tupleExact _) (wpAny_newObj_type (wpAny_pure ⟨_,rfl,h⟩) hsz)
theorem zUh (its:List Value):∀ (n:Nat) (acc:List Value),List.foldl (fun x1 x2=>x1++x2) acc.toArray (List.replicate n its.toArray)=(acc++(List.replicate n its).flatten).toArray
  | 0,acc=>by simp
  | n+1,acc=>by
    rw [List.replicate_succ,List.foldl_cons,List.append_toArray,zUh its n,List.replicate_succ,List.flatten_cons,List.append_assoc]
theorem zHk {K:PySem.W.Frag} {ρ:List Addr} {H:Hp} {ds:List D} {vs:List V} (r:RepVs K ρ H ds vs):∀ n:Nat,RepVs K ρ H (List.replicate n ds).flatten (List.replicate n vs).flatten
  | 0 => .nil
  | n+1=>by
    rw [List.replicate_succ,List.replicate_succ,List.flatten_cons,List.flatten_cons]
    exact r.append (zHk r n)
theorem zRi {vs:List V} {us:List Value} (r:Vals vs us):∀ n:Nat,Vals (List.replicate n vs).flatten (List.replicate n us).flatten
  | 0 => .nil
  | n+1=>by
    rw [List.replicate_succ,List.replicate_succ,List.flatten_cons,List.flatten_cons]
    exact r.append (zRi r n)
theorem zKd:OpM X (binaryOp .Mult) zYg:=by
  refine OpM.of fun pins s σ H x y v u Q I rx ry ρ dx dy μ d μ' r1 r2 R e k=>?_
  unfold zYg at e
  split at e
  · obtain ⟨h1,e⟩:=zL e
    cases e
    rw [r1.int_inv] at rx;rw [r2.int_inv] at ry
    obtain ⟨t,rfl⟩:=rx
    obtain ⟨t',rfl⟩:=ry
    exact mul_int ⟨.int _,H,I.tok _,⟨_,rfl⟩,k ρ H _ Ext.refl R .int⟩ (zBp h1)
  · rename_i ds i
    obtain ⟨h1,e⟩:=zL e
    have h1:=of_decide_eq_true h1
    obtain ⟨h2,h3,h4,h5⟩:=h1
    cases e
    obtain ⟨a1,vs,rfl,e1,q1⟩:=r1.tup_inv
    rw [r2.int_inv] at ry
    cases rx
    obtain ⟨t,rfl⟩:=ry
    obtain ⟨its,rv,⟨⟨cls,dd,data,sl⟩,ho,hc,n,hd⟩,hz⟩:=I.tuple (SqT.of (K:=X.K) e1)
    simp only at hc hd
    subst hc hd
    have hl:its.length=ds.length:=by rw [q1.length,rv.length]
    have hlen:((List.replicate i.toNat vs).flatten).length≤sizeLine:=by
      rw [z7m]
      have hm:=million
      have h6:i.toNat * vs.length≤1000 * 1000:=Nat.mul_le_mul (by first|decide|lia) (by rw [← q1.length];exact h5)
      lia
    have e2:=zUh its i.toNat []
    rw [List.nil_append] at e2
    have hsz:((List.replicate i.toNat its.toArray).foldl (fun x1 x2=>x1++x2) #[]).size≤sizeLine:=by
      rw [show (#[]:Array Value)=([]:List Value).toArray from rfl,e2,List.size_toArray,← (zRi rv i.toNat).length]
      exact hlen
    refine wpAny_binaryOp_repeat_ref (T:="tuple") (U:="int") (by decide) ⟨_,ho,rfl⟩ (fun s'=>typeIs_int s' i t) zCh PySem.F.fills_int_mul PySem.F.slot_int_rmul z9l PySem.F.slot_int_index.lookup
      (call_meets PySem.F.slot_int_rmul (typeIs_int s i t) PySem.F.entry_int_rmul (PySem.F.args_int_rmul_2 _ _) (z3f i t a1 its.toArray n dd sl)
        ⟨ho,rfl,⟨_,ho,rfl⟩,call_meets PySem.F.slot_tuple_mul ⟨_,ho,rfl⟩ PySem.F.entry_tuple_mul (PySem.F.args_tuple_mul_2 _ _) (zVi a1 its.toArray n dd sl i t h2 h3 (by rw [List.isEmpty_toArray,List.isEmpty_eq_false_iff_exists_mem];exact ⟨_,List.getElem_mem (by lia:0<its.length)⟩) (by rw [List.size_toArray,hl];exact h5) hsz) ⟨ho,?_⟩⟩)
    rw [show (#[]:Array Value)=([]:List Value).toArray from rfl,e2]
    have hf:=I.hok.fresh (Nat.le_refl s.heap.objs.size)
    refine ⟨.ref s.heap.objs.size,_,I.laid (t':=s.toks) (o := .tup (List.replicate i.toNat vs).flatten) (fun b ob q=>Heap.get?_push_of_some _ q) (Nat.le_refl _) ?_,rfl,k ρ _ _ (Ext.new hf) (R.newTup hf) (.tup zo ((zHk q1 i.toNat).ext (Ext.new hf)))⟩
    exact ⟨hlen,_,zRi rv i.toNat,IsTup.new _ _⟩
  · rename_i l n
    split at e
    · rename_i ds hm
      obtain ⟨h1,e⟩:=zL e
      have h1:=of_decide_eq_true h1
      obtain ⟨h2,h3,h4⟩:=h1
      cases e
      obtain ⟨a1,rfl,ea⟩:=r1.loc_inv
      obtain ⟨vs,e3,q3⟩:=R.at_ _ _ _ ea hm
      refine zWr pins s σ H _ _ v u Q I rx ry ⟨a1,n,vs,rfl,r2.int_inv,e3,by first|decide|lia,by first|decide|lia,?_,fun p hp=>k _ _ _ (Ext.push hp) (R.push hp ⟨_,zo,(zHk q3 n.toNat).ext (Ext.push hp)⟩) (.loc (zvb R))⟩
      have hmi:=million
      have h6:vs.length * n.toNat≤1000 * 1000:=Nat.mul_le_mul (by rw [← q3.length];exact h4) (by first|decide|lia)
      lia
    · cases e
  · cases e
noncomputable abbrev FO:=Loc→Mem→Option (Option Int×Mem)
noncomputable def tMO (K:PySem.W.Frag) (φ:FO):TO:=fun σ H Q=>∃ ρ δ μ o μ',At K ρ H σ δ μ∧φ δ μ = some (o,μ')∧∀ ρ' H',Ext ρ H ρ' H'→RepH K ρ' H' μ'→Q o H'
noncomputable def MO (X:Cx) (e:Option Expr) (φ:FO):Prop:=PO X e (tMO X.K φ)
@[simp] noncomputable def pNo:FO:=fun _ μ=>some (none,μ)
@[simp] noncomputable def zSm (φ:FE):FO:=fun δ μ=>(φ δ μ).bind fun p=>match p.1 with
  | .int i=>some (some i,p.2)
  | _=>none
noncomputable def cutD (xs:List D) (lo hi:Option Int):List D:=(xs.drop (HT.sIx xs.length 0 lo)).take (HT.sIx xs.length xs.length hi - HT.sIx xs.length 0 lo)
@[simp] noncomputable def fSl (φ:FE) (lo hi:FO):FE:=fun δ μ=>(φ δ μ).bind fun p=>(lo δ p.2).bind fun l=>(hi δ l.2).bind fun h=>match p.1 with
  | .tup ds=>some (.tup (cutD ds l.1 h.1),h.2)
  | .loc n=>match h.2[n]? with
    | some (.lst ds)=>some (.loc h.2.length,h.2 ++ [.lst (cutD ds l.1 h.1)])
    | _=>none
  | _=>none
end
end M
set_option Elab.async false
set_option linter.all false
set_option maxRecDepth 100000
set_option autoImplicit false
namespace M
open PySem PySem.Spec PyProof.Rows L2
theorem z5m {prog:Program} {w:World} {A:Around} {E:Value→Shared→Prop} {s:Shared} {t sl:Addr} {items:Array Value} {vl vu:Value} {lo hi:Option Int} {Q:Value→Shared→Prop} (ht:IsTup s.heap t items) (hs:s.heap.IsSliceOf sl vl vu .none) (pl:IsPart vl lo) (pu:IsPart vu hi)
    (hw:HT.sIx items.size 0 lo=0∧HT.sIx items.size items.size hi=items.size) (h:Q (.ref t) s):wpAny (model prog w) A (getItem (.ref t) (.ref sl)) Q E s:=by
  obtain ⟨os,hos,hcs,hds⟩:=id hs
  have hTs:s.TypeIs (.ref sl) "slice":=⟨os,hos,hcs⟩
  unfold getItem
  try with_reducible refine wpAny_holding ?_
  first | refine wpAny_bind (wpAny_pure ?_) | skip
  refine wpAny_bind (wpAny_sequenceKey ht.typeIs (by decide) ?_)
  refine wpAny_bind (wpAny_callSpecial?_slot (name:=Str.ofString "__getitem__") ht.typeIs PyProof.Rows.slot_tuple_getitem
    (wpAny_call_entry PyProof.Rows.slot_tuple_getitem ht.typeIs entry_tuple_getitem ?_ (args_tuple_getitem _ _)))
  show wpAny _ _ (Builtin.Tuple.tupleItemsOf (.ref t) >>= _) _ _ s
  refine wpAny_bind (tupleItemsOf_ ht ?_)
  refine wpAny_bind (wpAny_typeOf hTs ?_)
  rw [if_pos (by decide)]
  refine wpAny_bind (HT.sliceApplied_gen hs pl pu ?_)
  have hyes:(((HT.sIx items.size 0 lo:Nat):Int) == 0 && (1:Int) == 1 && (HT.sIx items.size items.size hi - HT.sIx items.size 0 lo) == items.size)=true:=by
    rw [hw.1,hw.2]
    simp
  show wpAny _ _ (if (((HT.sIx items.size 0 lo:Nat):Int) == 0 && (1:Int) == 1 && (HT.sIx items.size items.size hi - HT.sIx items.size 0 lo) == items.size)=true then _ else _) _ _ s
  rw [if_pos hyes]
  refine wpAny_bind (m:=Builtin.Tuple.tupleIsExact _) ?_
  unfold Builtin.Tuple.tupleIsExact
  refine wpAny_bind (wpAny_typeOf ht.typeIs (wpAny_pure ?_))
  rw [if_pos (by decide)]
  exact wpAny_bind (wpAny_rule (wpAny_pure ⟨_,rfl,wpAny_pure h⟩))
section
variable {X:Cx} {a b c e:Expr} {es:List Expr} {φ ψ χ:FE} {pos p2:Pos} {lo hi:Option Expr}
noncomputable def rSl (K:PySem.W.Frag):V→Option Int→Option Int→Hp→VK→Prop:=fun x lo hi H Q=>∃ a xs,x = .ref a∧H a=some (.tup xs) ∧
  ((HT.sIx xs.length 0 lo=0∧HT.sIx xs.length xs.length hi=xs.length)→Q (.ref a) H)∧∀ p,H p=none→Q (.ref p) (upd H p (.tup (z8m xs lo hi)))
theorem zss:SlR X (rSl X.K):=by
  intro pins s σ H x v vl vu lo hi sl Q I rx hs pl pu h
  obtain ⟨a,xs,rfl,hx,h1,h2⟩:=h
  by_cases hw:HT.sIx xs.length 0 lo=0∧HT.sIx xs.length xs.length hi=xs.length
  · cases rx
    obtain ⟨its,r,ht,hz⟩:=I.tuple (SqT.of (K:=X.K) hx)
    have hlen:its.toArray.size=xs.length:=by rw [List.size_toArray];exact r.length.symm
    exact ⟨"tuple",_,PyProof.Rows.slot_tuple_getitem.lookup,ht.typeIs,z5m ht hs pl pu (by rw [hlen];exact hw) ⟨.ref a,H,I,rfl,h1 hw⟩⟩
  · exact zms pins s σ H _ v vl vu lo hi sl Q I rx hs pl pu ⟨a,xs,rfl,SqT.of hx,hw,h2⟩
theorem z2k:MO X none pNo:=by intro pins s σ H Q I hh;obtain ⟨ρ,δ,μ,o,μ',A,e,k⟩:=hh;exact zlr pins s σ H Q I (by cases e;exact k ρ H Ext.refl A.hp)
theorem zeg (h:ME X e φ):MO X (some e) (zSm φ):=by intro pins s σ H Q I hh;obtain ⟨ρ,δ,μ,o,μ',A,e,k⟩:=hh;exact zmr h pins s σ H Q I (by
  obtain ⟨⟨x,μ1⟩,e1,e⟩:=zf e
  refine ⟨ρ,δ,μ,x,μ1,A,e1,fun ρ1 H1 v x1 R1 r1=>?_⟩
  dsimp only at e
  split at e
  · cases e
    exact ⟨_,r1.int_inv,k ρ1 H1 x1 R1⟩
  · cases e)
theorem z6k {K:PySem.W.Frag} {ρ:List Addr} {H:Hp} {ds:List D} {vs:List V} {lo hi:Option Int} (r:RepVs K ρ H ds vs):RepVs K ρ H (cutD ds lo hi) (z8m vs lo hi):=by
  unfold cutD z8m
  rw [r.length]
  exact (r.drop _).take _
theorem zsk {l h:FO} (he:ME X e φ) (hl:MO X lo l) (hu:MO X hi h):ME X (.Subscript e (.Slice lo hi none p2) pos) (fSl φ l h) :=
  zfd (zSo (SlR.or zss zJq) he hl hu) fun ρ δ μ σ H d μ' Q A e k=>by
    obtain ⟨⟨x,μ1⟩,e1,e⟩:=zf e
    obtain ⟨⟨o1,μ2⟩,e2,e⟩:=zf e
    obtain ⟨⟨o2,μ3⟩,e3,e⟩:=zf e
    refine ⟨ρ,δ,μ,x,μ1,A,e1,fun ρ1 H1 v x1 R1 r1=>?_⟩
    refine ⟨ρ1,δ,μ1,o1,μ2,A.ext x1 R1,e2,fun ρ2 H2 x2 R2=>?_⟩
    refine ⟨ρ2,δ,μ2,o2,μ3,A.ext (x1.trans x2) R2,e3,fun ρ3 H3 x3 R3=>?_⟩
    dsimp only at e
    split at e
    · cases e
      obtain ⟨a,vs,rfl,ea,q⟩:=(r1.ext (x2.trans x3)).tup_inv
      have xx:=x1.trans (x2.trans x3)
      refine .inl ⟨a,vs,rfl,ea,fun hw=>k ρ3 H3 _ xx R3 (.tup ea ?_),fun p hp=>k ρ3 _ _ (xx.trans (Ext.new hp)) (R3.newTup hp) (.tup zo ((z6k q).ext (Ext.new hp)))⟩
      have e4:z8m vs o1 o2=vs:=by
        unfold z8m
        rw [hw.1,hw.2,Nat.sub_zero,List.drop_zero,List.take_length]
      have:=z6k (lo:=o1) (hi:=o2) q
      rw [e4] at this
      exact this
    · split at e
      · rename_i hm
        cases e
        obtain ⟨a,rfl,ea⟩:=(r1.ext (x2.trans x3)).loc_inv
        obtain ⟨vs,ev,q⟩:=R3.at_ _ _ _ ea hm
        have xx:=x1.trans (x2.trans x3)
        exact .inr ⟨a,vs,rfl,SqL.of ev,fun p hp=>k _ _ _ (xx.trans (Ext.push hp)) (R3.push hp ⟨_,zo,(z6k q).ext (Ext.push hp)⟩) (.loc (zvb R3))⟩
      · cases e
    · cases e
@[simp] noncomputable def zet (φ:FE):FE:=fun δ μ=>(φ δ μ).bind fun p=>match p.1 with
  | .int i=>some (.int (-i),p.2)
  | _=>none
theorem z5r (h:ME X a φ):ME X (.UnaryOp .USub a pos) (zet φ) :=
  zfd (zBt z6r h) fun ρ δ μ σ H d μ' Q A e k=>by
    obtain ⟨⟨x,μ1⟩,e1,e⟩:=zf e
    refine ⟨ρ,δ,μ,x,μ1,A,e1,fun ρ1 H1 v x1 R1 r1=>?_⟩
    dsimp only at e
    split at e
    · cases e
      exact ⟨_,r1.int_inv,k ρ1 H1 _ x1 R1 .int⟩
    · cases e
theorem big {pins:List (Addr×Obj)} {σ:L2.St} {H:Hp} {s:Shared} (I:Inv X pins σ H s):sysModules<s.heap.objs.size:=by
  have h:mainGlobals<s.heap.objs.size:=(I.mod.glob.keeps I.bk).lt
  exact Nat.lt_trans (by decide) h
@[simp] noncomputable def zDt:FE:=fun _ μ=>some (.loc μ.length,μ ++ [.dct []])
theorem zQs:ME X (.Dict [] [] pos) zDt:=by
  intro pins s σ H Q I hh
  obtain ⟨ρ,δ,μ,d,μ',A,e,k⟩:=hh
  cases e
  have hf:=I.hok.fresh (Nat.le_refl s.heap.objs.size)
  refine wpAny_Dict_empty ⟨.ref s.heap.objs.size,_,I.laid (a:=s.heap.objs.size) (o := .dK []) (t':=s.toks) (fun _ _ q=>Heap.get?_push_of_some _ q) (Nat.le_refl _) ?_,rfl,k _ _ _ (Ext.push hf) (A.hp.push hf ⟨[],zo,rfl, .nil⟩) (.loc (zvb A.hp))⟩
  exact ⟨Nat.zero_le _,beq_eq_false_iff_ne.mpr (Ne.symm (Nat.ne_of_lt (big I))),[], .nil,Heap.DictOf.new _⟩
noncomputable def ztc:D→Bool
  | .non | .bl _ | .int _ | .str _=>true
  | _=>false
noncomputable def eqF:D→D→Bool
  | .non, .non=>true
  | .bl a, .bl b=>a == b
  | .bl a, .int b=>(if a then 1 else 0) == b
  | .int a, .bl b=>a == (if b then 1 else 0)
  | .int a, .int b=>a == b
  | .str a, .str b=>a == b
  | _,_=>false
noncomputable def zdh:G2:=fun x y μ=>(items μ y).bind fun ds=>bif ztc x && ds.all ztc then some (.bl (!ds.any fun d=>eqF d x),μ) else none
theorem z3e {K:PySem.W.Frag} {ρ:List Addr} {H:Hp} {d:D} {v:V} (r:RepV K ρ H d v) (f:ztc d=true):zmg v=true:=by
  cases d with
  | non=>rw [r.non_inv];rfl
  | bl b=>rw [r.bl_inv];rfl
  | int b=>rw [r.int_inv];rfl
  | str b=>rw [r.str_inv];rfl
  | _=>cases f
theorem zLk {K:PySem.W.Frag} {ρ:List Addr} {H:Hp} {d d':D} {v v':V} (r:RepV K ρ H d v) (r':RepV K ρ H d' v') (f:ztc d=true) (f':ztc d'=true):eqV v v'=eqF d d':=by
  cases d with
  | non=>rw [r.non_inv];cases d' with
    | non=>rw [r'.non_inv];rfl
    | bl b=>rw [r'.bl_inv];rfl
    | int b=>rw [r'.int_inv];rfl
    | str b=>rw [r'.str_inv];rfl
    | _=>cases f'
  | bl b=>rw [r.bl_inv];cases d' with
    | non=>rw [r'.non_inv];rfl
    | bl b=>rw [r'.bl_inv];rfl
    | int b=>rw [r'.int_inv];rfl
    | str b=>rw [r'.str_inv];rfl
    | _=>cases f'
  | int b=>rw [r.int_inv];cases d' with
    | non=>rw [r'.non_inv];rfl
    | bl b=>rw [r'.bl_inv];rfl
    | int b=>rw [r'.int_inv];rfl
    | str b=>rw [r'.str_inv];rfl
    | _=>cases f'
  | str b=>rw [r.str_inv];cases d' with
    | non=>rw [r'.non_inv];rfl
    | bl b=>rw [r'.bl_inv];rfl
    | int b=>rw [r'.int_inv];rfl
    | str b=>rw [r'.str_inv];rfl
    | _=>cases f'
  | _=>cases f
theorem zWl {K:PySem.W.Frag} {ρ:List Addr} {H:Hp} {x:D} {v:V} (rx:RepV K ρ H x v) (fx:ztc x=true):∀ {ds:List D} {vs:List V},RepVs K ρ H ds vs→ds.all ztc=true→vs.all zmg=true∧inV v vs=ds.any fun d=>eqF d x
  | [],_,r,_=>by rw [r.nil_inv];exact ⟨rfl,rfl⟩
  | d :: ds,_,r,f=>by
    obtain ⟨w,ws,rfl,r1,r2⟩:=r.cons_inv
    rw [List.all_cons,Bool.and_eq_true] at f
    obtain ⟨h1,h2⟩:=zWl rx fx r2 f.2
    refine ⟨by rw [List.all_cons,z3e r1 f.1,h1];rfl,?_⟩
    unfold inV at h2 ⊢
    rw [List.any_cons,List.any_cons,h2,zLk r1 rx f.1 fx]
theorem zuh:OpM X (compareOp .NotIn) zdh:=by
  refine OpM.of fun pins s σ H x y v u Q I rx ry ρ dx dy μ d μ' r1 r2 R e k=>?_
  obtain ⟨ds,e1,e⟩:=zf e
  obtain ⟨h1,e⟩:=zL e
  rw [Bool.and_eq_true] at h1
  cases e
  obtain ⟨p,vs,rfl,hq,rr⟩:=zwf R r2 e1
  obtain ⟨h3,h4⟩:=zWl r1 h1.1 rr h1.2
  exact zzj pins s σ H x _ v u Q I rx ry ⟨p,vs,rfl,hq,z3e r1 h1.1,h3,by rw [if_pos rfl,h4];exact k ρ H _ Ext.refl R .bl⟩
noncomputable abbrev GM:=D→List D→Mem→Option (D×Mem)
@[simp] noncomputable def zYd (g:GM) (φ:FE) (ψ:FA):FE:=fun δ μ=>(φ δ μ).bind fun p=>match p.1 with
  | .loc n=>match p.2[n]? with
    | some (.lst _)=>(ψ δ p.2).bind fun q=>g (.loc n) q.1 q.2
    | _=>none
  | _=>none
@[simp] noncomputable def z4d:GM:=fun x ds μ=>match x,ds with
  | .loc n,[d]=>match μ[n]? with
    | some (.lst xs)=>bif decide (xs.length≤1000000) then some (.non,μ.set n (.lst (xs ++ [d]))) else none
    | _=>none
  | _,_=>none
noncomputable def MtG (X:Cx) (id:String) (g:GM):Prop:=MtR X id fun x xs H Q=>∃ ρ dx ds μ d μ',RepV X.K ρ H dx x∧RepVs X.K ρ H ds xs∧RepH X.K ρ H μ∧g dx ds μ = some (d,μ')∧∀ ρ' H' v,Ext ρ H ρ' H'→RepH X.K ρ' H' μ'→RepV X.K ρ' H' d v→Q v H'
theorem MtG.of {X:Cx} {id:String} {g:GM} (h:∀ (pins:List (Addr×Obj)) (s:Shared) (σ:L2.St) (H:Hp) (x:V) (xs:List V) (v:Value) (us:List Value) (Q:VK),Inv X pins σ H s→RelV x v→Vals xs us→∀ (ρ:List Addr) (dx:D) (ds:List D) (μ:Mem) (d:D) (μ':Mem),RepV X.K ρ H dx x→RepVs X.K ρ H ds xs→RepH X.K ρ H μ→g dx ds μ = some (d,μ')→(∀ ρ' H' v,Ext ρ H ρ' H'→RepH X.K ρ' H' μ'→RepV X.K ρ' H' d v→Q v H')→wpAny (model X.prog X.w) X.A (call (.builtin id) (v :: us)) (EP X pins σ Q) X.xe s):MtG X id g:=by
  intro pins s σ H x xs v us Q I rx rs hh
  obtain ⟨ρ,dx,ds,μ,d,μ',r1,r2,R,e,k⟩:=hh
  exact h pins s σ H x xs v us Q I rx rs ρ dx ds μ d μ' r1 r2 R e k
theorem zPf {o:Expr} {ψ:FA} {name:Str} {id:String} {g:GM} {apos:Pos} (slot:Slot "list" name id) (hty:typeOf (.builtin id)=pure (.type "method_descriptor")) (hm:MtG X id g) (ho:ME X o φ) (ha:MAn X (e :: es) ψ)
    (hbase:attributeBase o name X.env (eval o X.env)=eval o X.env:=by rfl)
    (hfew:((backTo pos (starEach (e :: es) X.env)).all (fun x=>!x.1) && (backToKw pos (keywordEach [] X.env)).all (fun x=>x.1.isSome)
      && decide ((e :: es).length+([]:List Keyword).length+(if ([]:List Keyword).isEmpty then 0 else 1)<30))=true:=by rfl)
    (hline:(apos.endLine == pos.line)=true:=by rfl) (hs:starEach (e :: es) X.env=(false,eval e X.env) :: starEach es X.env:=by rfl) (hplain:(backTo pos (starEach es X.env)).any (·.1)=false:=by rfl) :
    ME X (.Call (.Attribute o name apos) (e :: es) [] pos) (zYd g φ ψ) :=
  zfd (zlt PySem.F.plainAttrs_list slot hty hm ho ha.ma hbase hfew hline hs hplain) fun ρ δ μ σ H d μ' Q A e k=>by
    obtain ⟨⟨x,μ1⟩,e1,e⟩:=zf e
    refine ⟨ρ,δ,μ,x,μ1,A,e1,fun ρ1 H1 v x1 R1 r1=>?_⟩
    dsimp only at e
    split at e
    · split at e
      · rename_i hm'
        obtain ⟨⟨ds,μ2⟩,e2,e⟩:=zf e
        obtain ⟨a,rfl,ea⟩:=r1.loc_inv
        obtain ⟨vs,e3,q3⟩:=R1.at_ _ _ _ ea hm'
        refine ⟨.inl ⟨rfl,vs,SqL.of e3⟩,ρ1,δ,μ1,ds,μ2,A.ext x1 R1,e2,fun ρ2 H2 vs2 x2 R2 r2=>?_⟩
        exact ⟨ρ2,_,ds,μ2,d,μ',r1.ext x2,r2,R2,e,fun ρ3 H3 v3 x3 R3 r3=>k ρ3 H3 v3 (x1.trans (x2.trans x3)) R3 r3⟩
      · cases e
    · cases e
theorem zxm:MtG X "list.append" z4d:=by
  refine MtG.of fun pins s σ H x xs v us Q I rx rs ρ dx ds μ d μ' r1 r2 R e k=>?_
  unfold z4d at e
  split at e
  · split at e
    · rename_i hm
      obtain ⟨h1,e⟩:=zL e
      have h1:=of_decide_eq_true h1
      cases e
      obtain ⟨a,rfl,ea⟩:=r1.loc_inv
      obtain ⟨vs,e3,q3⟩:=R.at_ _ _ _ ea hm
      obtain ⟨w,r,rfl,q1,q2⟩:=r2.cons_inv
      rw [q2.nil_inv] at rs
      have hl:=q3.length
      have hmi:=million
      have hmu:Mut (H a):=by rw [e3];trivial
      refine zUm pins s σ H _ _ v us Q I rx rs ⟨a,vs,w,rfl,rfl,e3,by first|decide|lia,?_⟩
      exact k ρ _ _ (Ext.wr hmu) (R.wr hmu ea ⟨_,zo,RepVs.ext (Ext.wr hmu) (q3.append (.cons q1 .nil))⟩) .non
    · cases e
  · cases e
theorem z5e {o:Expr} {ψ:FA} {apos:Pos} (ho:ME X o φ) (ha:MAn X (e :: es) ψ)
    (hbase:attributeBase o "append" X.env (eval o X.env)=eval o X.env:=by rfl)
    (hfew:((backTo pos (starEach (e :: es) X.env)).all (fun x=>!x.1) && (backToKw pos (keywordEach [] X.env)).all (fun x=>x.1.isSome)
      && decide ((e :: es).length+([]:List Keyword).length+(if ([]:List Keyword).isEmpty then 0 else 1)<30))=true:=by rfl)
    (hline:(apos.endLine == pos.line)=true:=by rfl) (hs:starEach (e :: es) X.env=(false,eval e X.env) :: starEach es X.env:=by rfl) (hplain:(backTo pos (starEach es X.env)).any (·.1)=false:=by rfl) :
    ME X (.Call (.Attribute o "append" apos) (e :: es) [] pos) (zYd z4d φ ψ):=zPf PySem.F.slot_list_append PySem.F.type_list_append zxm ho ha hbase hfew hline hs hplain
end
end M
set_option Elab.async false
set_option linter.all false
set_option autoImplicit false
namespace M
open PySem
noncomputable def RS (xs:Array Nat):Prop:=xs.toList.Pairwise (· < ·)
theorem zfj (xs:Array Nat) (j:Nat) (h:RS xs):∀ (fuel lo hi:Nat),lo≤hi→hi≤xs.size→hi - lo≤fuel→(∀ i (hi':i<xs.size),i<lo→xs[i]<j)→(∀ i (hi':i<xs.size),hi≤i→j≤xs[i]) →
    SetTable.below.go xs j fuel lo hi≤xs.size∧(∀ i (hi':i<xs.size),i<SetTable.below.go xs j fuel lo hi→xs[i]<j)∧∀ i (hi':i<xs.size),SetTable.below.go xs j fuel lo hi≤i→j≤xs[i]
  | 0,lo,hi,h1,h2,h3,h4,h5=>by
    have:lo=hi:=by lia
    subst this
    unfold SetTable.below.go
    exact ⟨h2,h4,h5⟩
  | fuel+1,lo,hi,h1,h2,h3,h4,h5=>by
    have hp:∀ i k (hi:i<xs.size) (hk:k<xs.size),i<k→xs[i]<xs[k]:=fun i k hi hk hik=>by
      have:=List.pairwise_iff_getElem.mp h i k (by simpa using hi) (by simpa using hk) hik
      simpa using this
    unfold SetTable.below.go
    by_cases hlt:lo<hi
    · rw [if_pos hlt]
      dsimp only
      have hm:(lo+hi) / 2<xs.size:=by lia
      have hg:xs.getD ((lo+hi) / 2) j=xs[(lo+hi) / 2]:=by simp [Array.getD,hm]
      rw [hg]
      by_cases hc:xs[(lo+hi) / 2]<j
      · rw [if_pos hc]
        refine zfj xs j h fuel _ hi (by first|decide|lia) h2 (by first|decide|lia) (fun i hi' hil=>?_) h5
        by_cases e:i=(lo+hi) / 2
        · subst e;exact hc
        · exact Nat.lt_trans (hp i _ hi' hm (by first|decide|lia)) hc
      · rw [if_neg hc]
        refine zfj xs j h fuel lo _ (by first|decide|lia) (by first|decide|lia) (by first|decide|lia) h4 (fun i hi' hil=>?_)
        by_cases e:i=(lo+hi) / 2
        · subst e;lia
        · exact Nat.le_trans (by first|decide|lia) (Nat.le_of_lt (hp _ i hm hi' (by first|decide|lia)))
    · rw [if_neg hlt]
      have:lo=hi:=by lia
      subst this
      exact ⟨h2,h4,h5⟩
theorem zQh (xs:Array Nat) (j:Nat) (h:RS xs):SetTable.below xs j≤xs.size∧(∀ i (hi:i<xs.size),i<SetTable.below xs j→xs[i]<j)∧∀ i (hi':i<xs.size),SetTable.below xs j≤i→j≤xs[i] :=
  zfj xs j h xs.size 0 xs.size (Nat.zero_le _) (Nat.le_refl _) (by first|decide|lia) (fun i _ h=>by first|decide|lia) (fun i h1 h2=>by first|decide|lia)
theorem z6i {α:Type} (xs:Array α) (p:Nat) (x:α):(SetTable.insertAt xs p x).toList=xs.toList.take p++x :: xs.toList.drop p:=by
  unfold SetTable.insertAt
  simp
  rw [List.take_of_length_le (by simp)]
theorem zos {xs:Array Nat} {j:Nat} (h:RS xs) (hn:xs[SetTable.below xs j]?≠some j):RS (SetTable.insertAt xs (SetTable.below xs j) j):=by
  obtain ⟨h0,h1,h2⟩:=zQh xs j h
  unfold RS at h ⊢
  rw [z6i]
  generalize SetTable.below xs j=r at *
  have hd:∀ y∈xs.toList.drop r,j<y:=fun y hy=>by
    obtain ⟨i,hi,rfl⟩:=List.mem_iff_getElem.mp hy
    simp at hi
    have hi':r+i<xs.size:=by lia
    have h3:=h2 (r+i) hi' (by first|decide|lia)
    have e:(xs.toList.drop r)[i]'(by simp;lia)=xs[r+i]:=by simp
    rw [e]
    by_cases hz:i=0
    · subst hz
      have:xs[r]?=some xs[r]:=by simp
      simp only [Nat.add_zero] at h3 ⊢
      rw [this] at hn
      have:xs[r]≠j:=fun e=>hn (by rw [e])
      lia
    · have hp:=List.pairwise_iff_getElem.mp h r (r+i) (by simp;lia) (by simpa using hi') (by first|decide|lia)
      simp at hp
      have:=h2 r (by first|decide|lia) (Nat.le_refl _)
      lia
  have ht:∀ y∈xs.toList.take r,y<j:=fun y hy=>by
    obtain ⟨i,hi,rfl⟩:=List.mem_iff_getElem.mp hy
    simp at hi
    have e:(xs.toList.take r)[i]'(by simp;lia)=xs[i]:=by simp
    rw [e]
    exact h1 i (by first|decide|lia) (by first|decide|lia)
  rw [List.pairwise_append]
  refine ⟨h.sublist (List.take_sublist _ _),List.pairwise_cons.mpr ⟨hd,h.sublist (List.drop_sublist _ _)⟩,fun a ha b hb=>?_⟩
  rcases List.mem_cons.mp hb with rfl | hb
  · exact ht a ha
  · exact Nat.lt_trans (ht a ha) (hd b hb)
structure TOk (L:Bool) (t:SetTable):Prop where
  rs:RS t.place
  nd:t.dummies = #[]
  led:t.led=L
theorem zwl {j:Nat}:SetTable.has #[] j=false:=by
  unfold SetTable.has;simp
theorem z2l {t:SetTable} (hn:t.dummies = #[]) {ha:Nat→Int} {h:Int}:∀ (fuel:Nat) (p:SetTable.Probe) (j:Nat) (d:Option Nat),p.dummy=none→SetTable.probe.go t ha h fuel p=some (.empty j d)→t.slot j = .empty∧d=none
  | 0,p,j,d,_,e=>by unfold SetTable.probe.go at e;cases e
  | fuel+1,p,j,d,hd,e=>by
    unfold SetTable.probe.go at e
    have hadv:(t.advance p).dummy=none:=by
      unfold SetTable.advance
      split
      · exact hd
      · exact hd
    split at e
    · rename_i hs
      cases e
      exact ⟨hs,hd⟩
    · rename_i hs
      unfold SetTable.slot at hs
      dsimp only at hs
      rw [hn,zwl] at hs
      split at hs <;> simp at hs
    · split at e
      · cases e
      · exact z2l hn fuel _ j d hadv e
theorem zAi {t:SetTable} (hn:t.dummies = #[]) {h:Int} {j:Nat} {b:Bool} (e:t.freeSlot h=some (j,b)):t.place[SetTable.below t.place j]?≠some j:=by
  unfold SetTable.freeSlot at e
  split at e
  · rename_i j' d hp
    obtain ⟨h1,rfl⟩:=z2l hn _ _ _ _ rfl hp
    cases e
    unfold SetTable.slot at h1
    dsimp only at h1
    intro q
    simp only [Option.getD_none] at q
    rw [q] at h1
    simp at h1
  · cases e
theorem TOk.standIn {L:Bool} {t:SetTable} (h:TOk L t) (n:Nat):TOk L (t.standIn n):=by
  refine ⟨?_,rfl,h.led⟩
  unfold RS SetTable.standIn
  rw [Array.toList_range]
  exact List.pairwise_lt_range
theorem TOk.layNew {L:Bool} {t:SetTable} (h:TOk L t) (es:Array (Int×Value)) (hs:Int) (x:Value):TOk L (layNew t es hs x).2.1:=by
  unfold PySem.layNew
  split
  · rename_i slot wd e
    have hne:=zAi h.nd e
    have h1:TOk L (t.put slot).1:=⟨zos h.rs hne,by
      unfold SetTable.put
      dsimp only
      rw [h.nd,zwl]
      rfl,h.led⟩
    show TOk L ((t.put slot).1.orStandIn _)
    unfold SetTable.orStandIn
    split
    · exact h1
    · exact h1.standIn _
  · exact h.standIn _
theorem TOk.relay {L:Bool} {t:SetTable} (h:TOk L t) (es:Array (Int×Value)) (wanted:Nat):TOk L (relayAll t es wanted).2.1:=by
  unfold relayAll
  split
  · rename_i t' order e
    dsimp only
    split
    · unfold SetTable.relaid SetTable.laid at e
      obtain ⟨ow,_,e⟩:=Option.bind_eq_some_iff.mp e
      cases e
      refine ⟨?_,rfl,h.led⟩
      unfold RS
      dsimp only
      rw [List.pairwise_map]
      refine List.Pairwise.filterMap _ (fun a a' hlt b hb b' hb'=>?_) List.pairwise_lt_range
      simp at hb hb'
      obtain ⟨_,_,rfl⟩:=hb
      obtain ⟨_,_,rfl⟩:=hb'
      exact hlt
    · exact h.standIn _
  · exact h.standIn _
theorem TOk.fresh (L:Bool):TOk L (.fresh 0 0 L):=⟨List.Pairwise.nil,rfl,rfl⟩
end M
set_option Elab.async false
set_option linter.all false
set_option autoImplicit false
set_option maxRecDepth 100000
namespace M
open PySem
noncomputable def zgh (e:Int×Value):Int:=match e.2 with
  | .int i _=>i
  | _=>0
noncomputable def SetAt (prog:Program) (w:World) (h:Heap) (a:Addr) (ks:List Int):Prop :=
  ∃ o es ep t,h.get? a=some o∧o.ExactSet∧o.data = .set es ep t∧t.fits es.size=true∧TOk (!w.params.followText "set-order") t∧ElemsOf (intKind prog w) es.toList∧(es.toList.map zgh).Perm ks
section
variable {prog:Program} {w:World} {A:Around} {E:Value→Shared→Prop} {s:Shared}
theorem zsn {es:List (Int×Value)} {e:Int×Value} {k:Int} (h:ElemsOf (intKind prog w) es) (he:e∈es):(intKind prog w).is k e.2=true↔zgh e=k:=by
  obtain ⟨⟨j,hj,_⟩,_⟩:=h e he
  obtain ⟨t,ht⟩:=Value.isInt_shape (show Value.isInt j e.2=true from hj)
  unfold zgh
  rw [ht]
  constructor
  · intro q
    obtain ⟨u,hu⟩:=Value.isInt_shape (show Value.isInt k (.int j t)=true from q)
    cases hu
    rfl
  · intro q
    have q:j=k:=q
    rw [q]
    exact intKind_is prog w k t
theorem SetAt.at' {h h':Heap} {a:Addr} {ks:List Int} (x:SetAt prog w h a ks) (k:∀ o,h.get? a=some o→h'.get? a=some o):SetAt prog w h' a ks:=by
  obtain ⟨o,es,ep,t,h1,h2⟩:=x
  exact ⟨o,es,ep,t,k o h1,h2⟩
theorem zml (b:Bool) {Q:Unit→Shared→Prop} (h:Q () s):wpAny (model prog w) A (match b with | true=>rule "set.scan.the-table-gave-way" | false=>pure ()) Q E s:=by
  cases b
  · exact wpAny_pure h
  · exact wpAny_rule h
theorem stored {o:Obj} {h:Heap} {a:Addr} {es:Array (Int×Value)} {ep:Nat} {t:SetTable} (ho:h.get? a=some o) (hd:o.data = .set es ep t) (es1:Array (Int×Value)) (t1:SetTable) :
    (h.update a (Obj.putSet es1 t1)).get? a=some { o with data := .set es1 (ep+1) t1 }:=by
  have e:=putSet_of es1 t1 hd
  have q:=Heap.get?_update_self (Obj.putSet es1 t1) ho (by rw [e];rfl)
  rw [e] at q
  exact q
theorem zwq {a:Addr} {ks:List Int} {k:Int} {tk:Tok} {Q:Bool→Shared→Prop} (hS:SetAt prog w s.heap a ks) (hroom:ks.length+1<scanBound)
    (h:∀ b h',Heap.SameBut a s.heap h'→SetAt prog w h' a (if k∈ks then ks else ks ++ [k])→Q b { s with heap:=h' }):wpAny (model prog w) A (setAddHashed a (.int k tk) (hashInt k)) Q E s:=by
  obtain ⟨o,es,ep,t,ho,hex,hd,hf,hT,hel,hp⟩:=hS
  have hsz:es.size=ks.length:=by
    have:=hp.length_eq
    simpa using this
  have hmem:k∈ks↔∃ e∈es.toList,zgh e=k:=by
    rw [← hp.mem_iff,List.mem_map]
  unfold setAddHashed setAddHashedIn
  refine wpAny_holding (wpAny_bind (wpAny_setState_of ho hd hf ?_))
  dsimp only
  rw [byScan_of (knd:=intKind prog w) (x := .int k tk) rfl (by first|decide|lia) hel]
  simp only [↓reduceIte]
  unfold setAddByScan
  refine wpAny_bind (wpAny_bind (wpAny_rule (wpAny_bind (wpAny_setScan_of (knd:=intKind prog w) (k:=k) (intKind_is prog w k tk) ho hd hf hel ?_))))
  cases hr:List.findIdx? (fun e=>(intKind prog w).is k e.2) es.toList with
  | some j =>
    dsimp only
    obtain ⟨hj,hpj,_⟩:=List.findIdx?_eq_some_iff_getElem.mp hr
    have hk:k∈ks:=hmem.mpr ⟨es.toList[j],List.getElem_mem hj,(zsn hel (List.getElem_mem hj)).mp hpj⟩
    have q:=h false s.heap (Heap.SameBut.refl a s.heap) ⟨o,es,ep,t,ho,hex,hd,hf,hT,hel,by rw [if_pos hk];exact hp⟩
    exact wpAny_pure (wpAny_pure q)
  | none =>
    dsimp only
    have hk:k∉ks:=fun hk=>by
      obtain ⟨e,he,q⟩:=hmem.mp hk
      have:=List.findIdx?_eq_none_iff.mp hr e he
      rw [(zsn hel he).mpr q] at this
      cases this
    rw [if_neg hk] at h
    have p1:=layNew_perm t es (hashInt k) (.int k tk)
    have f1:=layNew_fits t es (hashInt k) (.int k tk)
    have T1:=hT.layNew es (hashInt k) (.int k tk)
    show wpAny _ _ (_ >>= _) _ _ _
    generalize layNew t es (hashInt k) (.int k tk)=L1 at p1 f1 T1 ⊢
    obtain ⟨es1,t1,wd,gv⟩:=L1
    dsimp only at p1 f1 T1 ⊢
    rw [Array.toList_push] at p1
    have el1:ElemsOf (intKind prog w) es1.toList:=(hel.push (intKind_is prog w k tk) rfl).perm p1
    have pk1:(es1.toList.map zgh).Perm (ks ++ [k]):=by
      refine (p1.map zgh).trans ?_
      rw [List.map_append]
      exact hp.append_right _
    have z1:es1.size=ks.length+1:=by
      have:=pk1.length_eq
      simpa using this
    refine wpAny_bind (zml gv ?_)
    have fin:wpAny (model prog w) A (do
        storeSet a es1 t1
        if (!wd && t1.tooFull)=true then
          match relayAll t1 es1 (SetTable.grown es1.size) with
          | (es2,t2,gv2)=>do
            (match gv2 with | true=>rule "set.scan.the-table-gave-way" | false=>pure ())
            storeSet a es2 t2
            pure (some true)
        else pure (some true)) (fun r s'=>∃ h',s' = { s with heap:=h' }∧r=some true∧Heap.SameBut a s.heap h'∧SetAt prog w h' a (ks ++ [k])) E s:=by
      refine wpAny_bind (wpAny_storeSet_of ho hd ?_ (fits_of_scanBound (by first|decide|lia)))
      have s1:=stored ho hd es1 t1
      have b1:=Heap.SameBut.update s.heap a (Obj.putSet es1 t1)
      split
      · have p2:=relayAll_perm t1 es1 (SetTable.grown es1.size)
        have f2:=relayAll_fits t1 es1 (SetTable.grown es1.size)
        have T2:=T1.relay es1 (SetTable.grown es1.size)
        generalize relayAll t1 es1 (SetTable.grown es1.size)=L2 at p2 f2 T2 ⊢
        obtain ⟨es2,t2,gv2⟩:=L2
        dsimp only at p2 f2 T2 ⊢
        have z2:es2.size=es1.size:=by
          have:=p2.length_eq
          simpa using this
        refine wpAny_bind (zml gv2 (wpAny_bind (wpAny_storeSet_of s1 rfl ?_ (fits_of_scanBound (by first|decide|lia)))))
        exact wpAny_pure ⟨_,rfl,rfl,b1.trans (Heap.SameBut.update _ a _),_,es2,_,t2,stored s1 rfl es2 t2,hex,rfl,f2,T2,el1.perm p2,(p2.map zgh).trans pk1⟩
      · exact wpAny_pure ⟨_,rfl,rfl,b1,_,es1,_,t1,s1,hex,rfl,f1,T1,el1,pk1⟩
    have goal2:wpAny (model prog w) A (do
        storeSet a es1 t1
        if (!wd && t1.tooFull)=true then
          match relayAll t1 es1 (SetTable.grown es1.size) with
          | (es2,t2,gv2)=>do
            (match gv2 with | true=>rule "set.scan.the-table-gave-way" | false=>pure ())
            storeSet a es2 t2
            pure (some true)
        else pure (some true)) (fun r s'=>wpAny (model prog w) A (match r with | some added=>pure added | none=>setAddHashedIn a (.int k tk) (hashInt k) 99999) Q E s') E s:=by
      refine wpAny_mono fin (fun r s' ⟨h',e1,e2,b,x⟩=>?_) fun _ _ z=>z
      subst e1 e2
      exact wpAny_pure (h true h' b x)
    split
    · refine wpAny_bind ?_
      rw [hashByValue_scannable 8 (x := .int k tk) rfl]
      exact wpAny_pure goal2
    · exact wpAny_bind (wpAny_pure goal2)
end
end M
set_option Elab.async false
set_option linter.all false
set_option autoImplicit false
set_option maxRecDepth 100000
namespace M
open PySem
theorem z1f {α:Type}:∀ (l:List α) (i:Nat) (h:i<l.length),(l[i] :: l.eraseIdx i).Perm l
  | [],i,h=>by simp at h
  | y :: ys,0,h=>by simp
  | y :: ys,i+1,h=>by
    have h':i<ys.length:=by simpa using h
    show (ys[i] :: y :: ys.eraseIdx i).Perm (y :: ys)
    exact (List.Perm.swap y ys[i] _).trans ((z1f ys i h').cons y)
theorem z9n {α:Type} (next:Nat→Nat):∀ (fuel k:Nat) (rest:List α) (out:Array α),rest.length≤fuel→(pickOrder.go next fuel k rest out).toList.Perm (out.toList++rest)
  | 0,k,rest,out,h=>by
    have:rest = []:=List.length_eq_zero_iff.mp (Nat.le_zero.mp h)
    subst this
    unfold pickOrder.go
    simp
  | fuel+1,k,rest,out,h=>by
    unfold pickOrder.go
    cases rest with
    | nil=>simp
    | cons y ys =>
      have hlt:next k % (y :: ys).length<(y :: ys).length:=Nat.mod_lt _ (by simp)
      rw [List.getElem?_eq_getElem hlt]
      dsimp only
      refine (z9n next fuel (k+1) _ _ (by rw [List.length_eraseIdx_of_lt hlt];simp at h ⊢;lia)).trans ?_
      rw [Array.toList_push,List.append_assoc]
      exact List.Perm.append_left _ (z1f _ _ hlt)
theorem zQg {α:Type} (next:Nat→Nat) (xs:Array α):(pickOrder next xs).toList.Perm xs.toList:=by
  unfold pickOrder
  exact (z9n next xs.size 0 xs.toList #[] (by simp)).trans (by simp)
theorem slot_si_next:Slot "set_iterator" "__next__" "set_iterator.__next__" :=
  .of (owner:="set_iterator") (n:="__next__") (by rw [typeLookup_type,builtinLookup_eq_fast];kernel_rfl) (by decide +kernel) (by decide +kernel) (by decide +kernel) (by first | exact .inl (by decide +kernel) | exact .inr (by decide +kernel)) (by rw [isSubtype_type];kernel_rfl)
theorem zgg:Slot "set_iterator" "__iter__" "set_iterator.__iter__" :=
  .of (owner:="set_iterator") (n:="__iter__") (by rw [typeLookup_type,builtinLookup_eq_fast];kernel_rfl) (by decide +kernel) (by decide +kernel) (by decide +kernel) (by first | exact .inl (by decide +kernel) | exact .inr (by decide +kernel)) (by rw [isSubtype_type];kernel_rfl)
theorem zwc:entryFor table "set_iterator.__next__" = some Builtin.«set_iterator.__next__»:=entryFor_of_tree (by kernel_rfl)
theorem zKi:entryFor table "set_iterator.__iter__" = some Builtin.«dict_keyiterator.__iter__»:=entryFor_alias (id':="dict_keyiterator.__iter__") (by kernel_rfl) rfl (by decide +kernel) (by kernel_rfl)
theorem z6c (a:Value):argsOk "set_iterator.__next__" ⟨[a],[]⟩:=by unfold argsOk;kernel_rfl
theorem zoj (a:Value):argsOk "set_iterator.__iter__" ⟨[a],[]⟩:=by unfold argsOk;kernel_rfl
theorem z3j:entryFor table "set.__iter__" = some Builtin.«frozenset.__iter__»:=entryFor_alias (id':="frozenset.__iter__") (by kernel_rfl) rfl (by decide +kernel) (by kernel_rfl)
end M
set_option Elab.async false
set_option linter.all false
set_option autoImplicit false
set_option maxRecDepth 100000
namespace M
open PySem
noncomputable def SIt (h:Heap) (it a:Addr) (first:Value) (i n ep:Nat):Prop:=∃ o,h.get? it=some o∧o.cls = .type "set_iterator"∧o.data = .fields #[first, .int i 0, .ref a, .int n 0, .int ep 0]
noncomputable def SOb (h:Heap) (a:Addr) (es:Array (Int×Value)) (ep:Nat) (t:SetTable):Prop:=∃ o,h.get? a=some o∧o.cls = .type "set"∧o.data = .set es ep t∧t.fits es.size=true
section
variable {prog:Program} {w:World} {A:Around} {E:Value→Shared→Prop} {s:Shared}
theorem SIt.typeIs {it a:Addr} {first:Value} {i n ep:Nat} (x:SIt s.heap it a first i n ep):s.TypeIs (.ref it) "set_iterator":=let ⟨o,ho,hc,_⟩:=x;⟨o,ho,hc⟩
theorem SIt.at' {h h':Heap} {it a:Addr} {first:Value} {i n ep:Nat} (x:SIt h it a first i n ep) (k:∀ o,h.get? it=some o→h'.get? it=some o):SIt h' it a first i n ep:=let ⟨o,ho,r⟩:=x;⟨o,k o ho,r⟩
theorem SOb.at' {h h':Heap} {a:Addr} {es:Array (Int×Value)} {ep:Nat} {t:SetTable} (x:SOb h a es ep t) (k:∀ o,h.get? a=some o→h'.get? a=some o):SOb h' a es ep t:=let ⟨o,ho,r⟩:=x;⟨o,k o ho,r⟩
theorem zho {it:Addr} {o:Obj} {vs:Array Value} {Q:Option Value→Shared→Prop} (hh:A.handled=none) (ho:s.heap.get? it=some o) (hd:o.data = .fields vs) (h2:2<vs.size)
    (hQ:∀ h',Heap.ExtBut it s.heap h'→Q none { s with heap:=h' }) :
    wpAny (model prog w) A.in1 (do setField (.ref it) 2 .none;raiseNew (← newExc (.type "StopIteration") []):Sem Fin)
      (fun _ _=>False) (fun e s'=>wpAny (model prog w) A (do if ← isInstance e (.type "StopIteration") then pure none else throw e) Q E s') s:=by
  refine wpAny_bind (wpAny_setField ho hd h2 ?_)
  refine wpAny_bind ?_
  simp only [newExc,newTuple]
  refine wpAny_bind (wpAny_newObj_type ?_ (by size_fits))
  refine wpAny_bind (m:=firstArgMember _ _) (wpAny_of_eq (a:=Value.none) (by first | rfl | (simp only [firstArgMember];rfl)) ?_)
  refine wpAny_newObj_type ?_ (by size_fits)
  simp only [raiseNew]
  refine wpAny_bind (wpAny_handled ?_)
  have e:A.in1.handled=none:=hh
  rw [e]
  refine wpAny_bind (wpAny_pure (wpAny_throw ?_))
  refine wpAny_bind (wpAny_isInstance (T:="StopIteration") (b:=true) ⟨_,Heap.get?_push_size _ rfl,rfl⟩ isSubtype_stop ?_)
  exact wpAny_pure (hQ _ (((Heap.SameBut.update s.heap it _).extBut.push _).push _))
end
end M
set_option Elab.async false
set_option linter.all false
set_option autoImplicit false
set_option maxRecDepth 100000
namespace M
open PySem
section
variable {prog:Program} {w:World} {A:Around} {E:Value→Shared→Prop} {s:Shared} {it a:Addr} {es:Array (Int×Value)} {ep i:Nat} {t:SetTable} {Q:Option Value→Shared→Prop}
theorem zCi (n:Nat):¬ (((n:Int) != (n:Int))=true):=by simp
theorem zUg {slot nx:Nat} {x:Value} (hI:SIt s.heap it a (.int slot 0) i es.size ep) (hO:SOb s.heap a es ep t)
    (hn:∀ (Q':Option (Value×Nat)→Shared→Prop) (E':Value→Shared→Prop),Q' (some (x,nx)) s→wpAny (model prog w) A.in1 (setNext a slot i ep) Q' E' s)
    (hQ:∀ h',SIt h' it a (.int nx 0) (i+1) es.size ep→Heap.SameBut it s.heap h'→Q (some x) { s with heap:=h' }):wpAny (model prog w) A (pyNext (.ref it)) Q E s:=by
  obtain ⟨o,ho,hc,hd⟩:=id hI
  obtain ⟨oa,hoa,_,hda,hfa⟩:=hO
  unfold pyNext
  refine wpAny_bind (wpAny_attempt (wpAny_callSpecial?_slot (name:=Str.ofString "__next__") hI.typeIs slot_si_next (wpAny_call_entry slot_si_next hI.typeIs zwc ?_ (z6c _))))
  unfold Builtin.«set_iterator.__next__»
  refine wpAny_bind (m:=slotArgs "__next__" 0 ⟨[Value.ref it],[]⟩) (wpAny_pure ?_)
  refine wpAny_bind (wpAny_fieldsOf ho hd ?_)
  dsimp only
  refine wpAny_bind (wpAny_setEntries_of hoa hda hfa ?_)
  rw [if_neg (zCi es.size)]
  refine wpAny_bind (hn _ _ ?_)
  dsimp only
  refine wpAny_bind (wpAny_setField ho hd (by simp) ?_)
  have ho1:=Heap.get?_update_self (Obj.mapFields (·.setIfInBounds 0 (rawInt nx))) ho (Obj.isFreed_of_fields (Obj.data_mapFields hd _))
  have hd1:=Obj.data_mapFields hd (·.setIfInBounds 0 (rawInt nx))
  refine wpAny_bind (wpAny_setField ho1 hd1 (by simp) (wpAny_pure ⟨x,rfl,wpAny_pure (hQ _ ?_ ((Heap.SameBut.update s.heap it _).trans (Heap.SameBut.update _ it _)))⟩))
  refine ⟨_,Heap.get?_update_self _ ho1 (Obj.isFreed_of_fields (Obj.data_mapFields hd1 _)),(Obj.cls_mapFields ..).trans ((Obj.cls_mapFields ..).trans hc),?_⟩
  rw [Obj.data_mapFields hd1]
  simp [rawInt]
theorem z4h {slot:Nat} (hh:A.handled=none) (hI:SIt s.heap it a (.int slot 0) i es.size ep) (hO:SOb s.heap a es ep t)
    (hn:∀ (Q':Option (Value×Nat)→Shared→Prop) (E':Value→Shared→Prop),Q' none s→wpAny (model prog w) A.in1 (setNext a slot i ep) Q' E' s)
    (hQ:∀ h',Heap.ExtBut it s.heap h'→Q none { s with heap:=h' }):wpAny (model prog w) A (pyNext (.ref it)) Q E s:=by
  obtain ⟨o,ho,hc,hd⟩:=id hI
  obtain ⟨oa,hoa,_,hda,hfa⟩:=hO
  unfold pyNext
  refine wpAny_bind (wpAny_attempt (wpAny_callSpecial?_slot (name:=Str.ofString "__next__") hI.typeIs slot_si_next (wpAny_call_entry slot_si_next hI.typeIs zwc ?_ (z6c _))))
  unfold Builtin.«set_iterator.__next__»
  refine wpAny_bind (m:=slotArgs "__next__" 0 ⟨[Value.ref it],[]⟩) (wpAny_pure ?_)
  refine wpAny_bind (wpAny_fieldsOf ho hd ?_)
  dsimp only
  refine wpAny_bind (wpAny_setEntries_of hoa hda hfa ?_)
  rw [if_neg (zCi es.size)]
  refine wpAny_bind (hn _ _ ?_)
  dsimp only
  exact wpAny_mono (zho (Q:=Q) (E:=E) hh ho hd (by simp) hQ) (fun _ _ z=>z.elim) fun _ _ z=>z
theorem zcl {tup:Addr} {ot:Obj} {items:Array Value} {nt place:Nat} {x:Value} {hx:Int} (hI:SIt s.heap it a (.ref tup) i es.size ep) (hO:SOb s.heap a es ep t) (hot:s.heap.get? tup=some ot) (hdt:ot.data = .seq items nt)
    (hp:items[i]?=some (.int place 0)) (he:es[place]?=some (hx,x))
    (hQ:∀ h',SIt h' it a (.ref tup) (i+1) es.size ep→Heap.SameBut it s.heap h'→Q (some x) { s with heap:=h' }):wpAny (model prog w) A (pyNext (.ref it)) Q E s:=by
  obtain ⟨o,ho,hc,hd⟩:=id hI
  obtain ⟨oa,hoa,_,hda,hfa⟩:=hO
  unfold pyNext
  refine wpAny_bind (wpAny_attempt (wpAny_callSpecial?_slot (name:=Str.ofString "__next__") hI.typeIs slot_si_next (wpAny_call_entry slot_si_next hI.typeIs zwc ?_ (z6c _))))
  unfold Builtin.«set_iterator.__next__»
  refine wpAny_bind (m:=slotArgs "__next__" 0 ⟨[Value.ref it],[]⟩) (wpAny_pure ?_)
  refine wpAny_bind (wpAny_fieldsOf ho hd ?_)
  dsimp only
  refine wpAny_bind (wpAny_setEntries_of hoa hda hfa ?_)
  rw [if_neg (zCi es.size)]
  refine wpAny_bind (wpAny_seqItems hot hdt ?_)
  dsimp only
  simp only [Int.toNat_natCast,hp]
  unfold setNextDrawn
  refine wpAny_bind (wpAny_bind (wpAny_setState_of hoa hda hfa ?_))
  dsimp only
  rw [if_neg (by simp),he]
  dsimp only
  refine wpAny_pure ?_
  refine wpAny_bind (wpAny_setField ho hd (by simp) (wpAny_pure ⟨x,rfl,wpAny_pure (hQ _ ?_ (Heap.SameBut.update s.heap it _))⟩))
  refine ⟨_,Heap.get?_update_self _ ho (Obj.isFreed_of_fields (Obj.data_mapFields hd _)),(Obj.cls_mapFields ..).trans hc,?_⟩
  rw [Obj.data_mapFields hd]
  simp [rawInt]
theorem zEm {tup:Addr} {ot:Obj} {items:Array Value} {nt:Nat} (hh:A.handled=none) (hI:SIt s.heap it a (.ref tup) i es.size ep) (hO:SOb s.heap a es ep t) (hot:s.heap.get? tup=some ot) (hdt:ot.data = .seq items nt)
    (hp:items[i]?=none) (hQ:∀ h',Heap.ExtBut it s.heap h'→Q none { s with heap:=h' }):wpAny (model prog w) A (pyNext (.ref it)) Q E s:=by
  obtain ⟨o,ho,hc,hd⟩:=id hI
  obtain ⟨oa,hoa,_,hda,hfa⟩:=hO
  unfold pyNext
  refine wpAny_bind (wpAny_attempt (wpAny_callSpecial?_slot (name:=Str.ofString "__next__") hI.typeIs slot_si_next (wpAny_call_entry slot_si_next hI.typeIs zwc ?_ (z6c _))))
  unfold Builtin.«set_iterator.__next__»
  refine wpAny_bind (m:=slotArgs "__next__" 0 ⟨[Value.ref it],[]⟩) (wpAny_pure ?_)
  refine wpAny_bind (wpAny_fieldsOf ho hd ?_)
  dsimp only
  refine wpAny_bind (wpAny_setEntries_of hoa hda hfa ?_)
  rw [if_neg (zCi es.size)]
  refine wpAny_bind (wpAny_seqItems hot hdt ?_)
  dsimp only
  simp only [Int.toNat_natCast,hp]
  refine wpAny_bind (wpAny_setField ho hd (by simp) ?_)
  have ho1:=Heap.get?_update_self (Obj.mapFields (·.setIfInBounds 0 (rawInt 0))) ho (Obj.isFreed_of_fields (Obj.data_mapFields hd _))
  have hd1:=Obj.data_mapFields hd (·.setIfInBounds 0 (rawInt 0))
  exact wpAny_mono (zho (Q:=Q) (E:=E) hh ho1 hd1 (by simp) fun h' x=>hQ h' fun b o' hb e=>x b o' hb ((Heap.SameBut.update s.heap it _).extBut b o' hb e)) (fun _ _ z=>z.elim) fun _ _ z=>z
end
end M
set_option Elab.async false
set_option linter.all false
set_option autoImplicit false
set_option maxRecDepth 100000
namespace M
open PySem
section
variable {prog:Program} {w:World} {A:Around} {E:Value→Shared→Prop} {s:Shared} {it a:Addr} {es:Array (Int×Value)} {ep i:Nat} {t:SetTable}
theorem zAf {Q:Bool→Shared→Prop} (h:Q (w.params.followText "set-order") s):wpAny (model prog w) A setsByText Q E s:=by
  unfold setsByText
  exact wpAny_bind (wpAny_askSetting (wpAny_pure h))
theorem zij {slot:Nat} (hw:w.params.followText "set-order" = true) (hO:SOb s.heap a es ep t) {Q:Option (Value×Nat)→Shared→Prop} (h:Q (((pickOrder (w.params.setOrder a ep) es)[i]?).map fun e=>(e.2,slot)) s) :
    wpAny (model prog w) A (setNext a slot i ep) Q E s:=by
  obtain ⟨oa,hoa,_,hda,hfa⟩:=hO
  unfold setNext
  refine wpAny_bind (wpAny_setState_of hoa hda hfa ?_)
  dsimp only
  refine wpAny_bind (zAf ?_)
  rw [hw,if_pos rfl,if_neg (by simp)]
  unfold setWalk
  refine wpAny_bind (wpAny_bind (wpAny_setState_of hoa hda hfa ?_))
  dsimp only
  refine wpAny_bind (zAf ?_)
  rw [hw,if_pos rfl]
  exact wpAny_bind (wpAny_askSetting (wpAny_pure (wpAny_pure h)))
noncomputable def zsd (t:SetTable) (i:Nat):Nat:=if i=0 then 0 else t.place.getD (i - 1) 0+1
theorem zjm (h:RS t.place) (hi:i≤t.place.size):SetTable.below t.place (zsd t i)=i:=by
  obtain ⟨h0,h1,h2⟩:=zQh t.place (zsd t i) h
  have hp:∀ i k (hi:i<t.place.size) (hk:k<t.place.size),i<k→t.place[i]<t.place[k]:=fun i k hi hk hik=>by
    have:=List.pairwise_iff_getElem.mp h i k (by simpa using hi) (by simpa using hk) hik
    simpa using this
  generalize hr:SetTable.below t.place (zsd t i)=r at *
  unfold zsd at h1 h2
  by_cases hz:i=0
  · subst hz
    rw [if_pos rfl] at h1
    by_cases hr0:0<r
    · have:=h1 0 (by first|decide|lia) hr0
      lia
    · lia
  · rw [if_neg hz] at h1 h2
    have hl:i - 1<t.place.size:=by lia
    have hg:t.place.getD (i - 1) 0=t.place[i - 1]:=by simp [Array.getD,hl]
    rw [hg] at h1 h2
    rcases Nat.lt_trichotomy r i with hlt | he | hgt
    · have h3:=h2 (i - 1) hl (by first|decide|lia)
      lia
    · exact he
    · have h3:=h1 i (by first|decide|lia) hgt
      have h4:=hp (i - 1) i hl (by first|decide|lia) (by first|decide|lia)
      lia
theorem zhi (hw:w.params.followText "set-order" = false) (hd:(!t.plain && decide (es.size > 1))=false) (hT:TOk true t) (hi:i≤es.size) (hO:SOb s.heap a es ep t) {Q:Option (Value×Nat)→Shared→Prop} (h:Q ((es[i]?).map fun e=>(e.2,zsd t (i+1))) s) :
    wpAny (model prog w) A (setNext a (zsd t i) i ep) Q E s:=by
  obtain ⟨oa,hoa,_,hda,hfa⟩:=hO
  have hsz:t.place.size=es.size:=by
    unfold SetTable.fits at hfa
    rw [Bool.and_eq_true] at hfa
    exact beq_iff_eq.mp hfa.1
  unfold setNext
  refine wpAny_bind (wpAny_setState_of hoa hda hfa ?_)
  dsimp only
  refine wpAny_bind (zAf ?_)
  rw [hw,if_neg Bool.false_ne_true]
  refine wpAny_ite_split (fun hab=>?_) fun _=>?_
  · have hab:(!t.plain && decide (es.size > 1))=true:=hab
    rw [hd] at hab
    cases hab
  · refine wpAny_bind ?_
    have led:wpAny (model prog w) A (if (!t.led && !es.isEmpty)=true then unsupported "set:maker-not-led" else pure ()) (fun _ s'=>wpAny (model prog w) A (pure (match es[SetTable.below t.place (zsd t i)]?,t.place[SetTable.below t.place (zsd t i)]? with
        | some (_,x),some j=>some (x,j+1)
        | _,_=>none):Sem (Option (Value×Nat))) Q E s') E s:=by
      rw [hT.led,if_neg (by simp)]
      refine wpAny_pure (wpAny_pure ?_)
      rw [zjm hT.rs (by first|decide|lia)]
      by_cases hlt:i<es.size
      · have e1:es[i]?=some es[i]:=by simp [hlt]
        have e2:t.place[i]?=some (t.place[i]'(by first|decide|lia)):=by simp [show i<t.place.size by lia]
        rw [e1] at h
        rw [e1,e2]
        have e3:zsd t (i+1)=t.place[i]'(by first|decide|lia)+1:=by
          unfold zsd
          rw [if_neg (by first|decide|lia)]
          simp [Array.getD,show i<t.place.size by lia]
        rw [e3] at h
        exact h
      · have e1:es[i]?=none:=by simp;lia
        rw [e1] at h
        rw [e1]
        exact h
    exact led
theorem zgi {α:Type}:∀ (n:Nat) (xs:List α) (s:Shared) (Q:List α→Shared→Prop),n=xs.length→(∀ ys d,ys.Perm xs→Q ys { s with drawn:=d })→wpAny (model prog w) A (drawOrder n xs) Q E s
  | 0,xs,s,Q,hn,h=>by
    have:xs = []:=List.length_eq_zero_iff.mp hn.symm
    subst this
    exact wpAny_pure (h [] s.drawn .nil)
  | n+1,[],s,Q,hn,h=>by simp at hn
  | n+1,x :: xs,s,Q,hn,h=>by
    unfold drawOrder
    refine wpAny_bind ?_
    intro Γ p hΓ
    unfold choose
    rw [Sem.wp_choose]
    refine ⟨by simp,?_⟩
    have hlt:(model prog w).w.draws .order (s.drawn.get .order) % (x :: xs).length<(x :: xs).length:=Nat.mod_lt _ (by simp)
    generalize (model prog w).w.draws .order (s.drawn.get .order) % (x :: xs).length=j at hlt ⊢
    generalize s.drawn.bump .order=d1
    have main:wpAny (model prog w) A (match (x :: xs)[j]? with
        | some y=>do return y :: (← drawOrder n ((x :: xs).eraseIdx j))
        | none=>unsupported "internal:drawOrder") Q E { s with drawn:=d1 }:=by
      rw [List.getElem?_eq_getElem hlt]
      dsimp only
      refine wpAny_bind (zgi n _ _ _ (by rw [List.length_eraseIdx_of_lt hlt];simp at hn ⊢;lia) fun ys d hp=>wpAny_pure (h _ d ?_))
      exact (hp.cons _).trans (z1f _ _ hlt)
    simp only [Sem.wp_pure]
    exact main
end
end M
set_option Elab.async false
set_option linter.all false
set_option autoImplicit false
set_option maxRecDepth 100000
namespace M
open PySem
section
variable {prog:Program} {w:World} {A:Around} {E:Value→Shared→Prop} {s:Shared} {I a:Addr} {es:Array (Int×Value)} {ep i:Nat} {t:SetTable}
theorem z3k {first:Value} {n:Nat} {Q:Value→Shared→Prop} (hI:SIt s.heap I a first i n ep) (h:Q (.ref I) s):wpAny (model prog w) A (pyIter (.ref I)) Q E s:=by
  refine wpAny_pyIter_slot hI.typeIs zgg (wpAny_call_entry zgg hI.typeIs zKi ?_ (zoj _))
  unfold Builtin.«dict_keyiterator.__iter__»
  refine wpAny_bind (m:=slotArgs "__iter__" 0 ⟨[Value.ref I],[]⟩) (wpAny_pure ?_)
  exact wpAny_pure ⟨_,rfl,"set_iterator",_,hI.typeIs,slot_si_next.lookup,h⟩
noncomputable abbrev zor (ent:List (Int×Value)) (i:Nat) (v:Value):Prop:=∃ k,ent[i]?=some (k,v)
theorem zoo (hh:A.handled=none) (hne:a≠I) (hw:w.params.followText "set-order" = true) :
    Walks prog w A I [I,a] [I] es.size (zor (pickOrder (w.params.setOrder a ep) es).toList) (fun i h=>SIt h I a (.int ((0:Nat):Int) 0) i es.size ep∧SOb h a es ep t) where
  sub:=fun b hb=>by simp at hb;simp [hb]
  frame:=fun _ _ _ st hk=>⟨st.1.at' fun o e=>hk I (by simp) o e,st.2.at' fun o e=>hk a (by simp) o e⟩
  item:=fun i s Q E hi st hQ=>by
    have hl:(pickOrder (w.params.setOrder a ep) es).size=es.size:=by
      have:=(zQg (w.params.setOrder a ep) es).length_eq
      simpa using this
    have hi':i<(pickOrder (w.params.setOrder a ep) es).size:=by lia
    have e1:(pickOrder (w.params.setOrder a ep) es)[i]?=some (pickOrder (w.params.setOrder a ep) es)[i]:=by simp [hi']
    refine zUg (nx:=0) (x:=(pickOrder (w.params.setOrder a ep) es)[i].2) st.1 st.2 (fun Q' E' hq=>zij hw st.2 (by rw [e1];exact hq)) fun h' x sb=>?_
    refine hQ _ h' s.toks ⟨_,by rw [Array.getElem?_toList,e1]⟩ ⟨x,st.2.at' fun o e=>sb.extBut a o hne e⟩ fun b o hb e=>sb.extBut b o (fun h=>hb (by simp [h])) e
  done:=fun s Q E st hQ=>by
    have hl:(pickOrder (w.params.setOrder a ep) es).size=es.size:=by
      have:=(zQg (w.params.setOrder a ep) es).length_eq
      simpa using this
    refine z4h hh st.1 st.2 (fun Q' E' hq=>zij hw st.2 (by rw [show (pickOrder (w.params.setOrder a ep) es)[es.size]?=none by simp;lia];exact hq)) fun h' x=>hQ h' s.toks fun b o hb e=>x b o (fun h=>hb (by simp [h])) e
  self:=fun _ _ _ _ st hQ=>z3k st.1 hQ
theorem zqm (hh:A.handled=none) (hne:a≠I) (hw:w.params.followText "set-order" = false) (hd:(!t.plain && decide (es.size > 1))=false) (hT:TOk true t) :
    Walks prog w A I [I,a] [I] es.size (zor es.toList) (fun i h=>SIt h I a (.int (zsd t i:Nat) 0) i es.size ep∧SOb h a es ep t) where
  sub:=fun b hb=>by simp at hb;simp [hb]
  frame:=fun _ _ _ st hk=>⟨st.1.at' fun o e=>hk I (by simp) o e,st.2.at' fun o e=>hk a (by simp) o e⟩
  item:=fun i s Q E hi st hQ=>by
    have e1:es[i]?=some es[i]:=by simp [hi]
    refine zUg (nx:=zsd t (i+1)) (x:=es[i].2) st.1 st.2 (fun Q' E' hq=>zhi hw hd hT (by first|decide|lia) st.2 (by rw [e1];exact hq)) fun h' x sb=>?_
    refine hQ _ h' s.toks ⟨_,by rw [Array.getElem?_toList,e1]⟩ ⟨x,st.2.at' fun o e=>sb.extBut a o hne e⟩ fun b o hb e=>sb.extBut b o (fun h=>hb (by simp [h])) e
  done:=fun s Q E st hQ=>by
    refine z4h hh st.1 st.2 (fun Q' E' hq=>zhi hw hd hT (by first|decide|lia) st.2 (by rw [show es[es.size]?=none by simp];exact hq)) fun h' x=>hQ h' s.toks fun b o hb e=>x b o (fun h=>hb (by simp [h])) e
  self:=fun _ _ _ _ st hQ=>z3k st.1 hQ
theorem zIm {tup:Addr} {ord:List Nat} {nt:Nat} (hh:A.handled=none) (hne:a≠I) (hne2:tup≠I) (hp:ord.Perm (List.range es.size)) :
    Walks prog w A I [I,a,tup] [I] es.size (zor (ord.map fun j=>es.getD j (0, .none))) (fun i h=>SIt h I a (.ref tup) i es.size ep∧SOb h a es ep t∧∃ ot,h.get? tup=some ot∧ot.data = .seq (ord.map fun (j:Nat)=>rawInt j).toArray nt) where
  sub:=fun b hb=>by simp at hb;simp [hb]
  frame:=fun _ _ _ st hk=>⟨st.1.at' fun o e=>hk I (by simp) o e,st.2.1.at' fun o e=>hk a (by simp) o e,let ⟨ot,h1,h2⟩:=st.2.2;⟨ot,hk tup (by simp) ot h1,h2⟩⟩
  item:=fun i s Q E hi st hQ=>by
    obtain ⟨st1,st2,ot,h1,h2⟩:=st
    have hl:ord.length=es.size:=by
      have:=hp.length_eq
      simpa using this
    have hi':i<ord.length:=by lia
    have hj:ord[i]<es.size:=by
      have:=hp.mem_iff.mp (List.getElem_mem hi')
      simpa using this
    have e1:es[ord[i]]?=some es[ord[i]]:=by simp [hj]
    refine zcl (x:=es[ord[i]].2) (place:=ord[i]) (hx:=es[ord[i]].1) st1 st2 h1 h2 (by simp [hi',rawInt]) e1 fun h' x sb=>?_
    refine hQ _ h' s.toks ⟨es[ord[i]].1,by simp [hi',Array.getD,hj]⟩ ⟨x,st2.at' fun o e=>sb.extBut a o hne e,ot,sb.extBut tup ot hne2 h1,h2⟩ fun b o hb e=>sb.extBut b o (fun h=>hb (by simp [h])) e
  done:=fun s Q E st hQ=>by
    obtain ⟨st1,st2,ot,h1,h2⟩:=st
    have hl:ord.length=es.size:=by
      have:=hp.length_eq
      simpa using this
    refine zEm hh st1 st2 h1 h2 (by simp;lia) fun h' x=>hQ h' s.toks fun b o hb e=>x b o (fun h=>hb (by simp [h])) e
  self:=fun _ _ _ _ st hQ=>z3k st.1 hQ
theorem z7i {ord:List Nat} (hp:ord.Perm (List.range es.size)):(ord.map fun j=>es.getD j (0, .none)).Perm es.toList:=by
  refine (hp.map _).trans ?_
  have:(List.range es.size).map (fun j=>es.getD j (0,Value.none))=es.toList:=by
    apply List.ext_getElem
    · simp
    · intro n h1 h2
      simp at h1 h2
      simp [Array.getD,h1]
  rw [this]
end
end M
set_option Elab.async false
set_option linter.all false
set_option autoImplicit false
set_option maxRecDepth 100000
namespace M
open PySem
section
variable {prog:Program} {w:World} {A:Around} {E:Value→Shared→Prop} {s:Shared} {a:Addr} {es:Array (Int×Value)} {ep:Nat} {t:SetTable}
noncomputable def zdt (prog:Program) (w:World) (A:Around) (s:Shared) (es:Array (Int×Value)) (a:Addr) (I:Addr) (s':Shared):Prop :=
  ∃ fp ent St,Walks prog w A I fp [I] es.size (zor ent) St∧St 0 s'.heap∧ent.Perm es.toList∧s.heap.objs.size≤I∧(∀ b∈fp,s.heap.objs.size≤b∨b=a)∧(∀ b∈fp,b<s'.heap.objs.size)∧(∀ b o,s.heap.get? b=some o→s'.heap.get? b=some o)∧∃ d,s' = { s with heap:=s'.heap,drawn:=d }
theorem zLo {Q:Value→Shared→Prop} (hh:A.handled=none) (hT:TOk (!w.params.followText "set-order") t) (hO:SOb s.heap a es ep t) (hsz:es.size≤sizeLine)
    (h:∀ I s',zdt prog w A s es a I s'→Q (.ref I) s'):wpAny (model prog w) A (pyIter (.ref a)) Q E s:=by
  obtain ⟨oa,hoa,hca,hda,hfa⟩:=id hO
  have hTy:s.TypeIs (.ref a) "set":=⟨oa,hoa,hca⟩
  have hlt:a<s.heap.objs.size:=Heap.lt_size hoa
  refine wpAny_pyIter_slot hTy F.slot_set_iter (wpAny_call_entry F.slot_set_iter hTy z3j ?_ (F.args_set_iter_1 _))
  unfold Builtin.«frozenset.__iter__»
  refine wpAny_bind (m:=Builtin.Frozenset.slot0 "__iter__" ⟨[Value.ref a],[]⟩) (wpAny_pure ?_)
  unfold Builtin.Frozenset.sizeOf
  refine wpAny_bind (wpAny_bind (wpAny_setEntries_of hoa hda hfa (wpAny_pure ?_)))
  unfold setDrawn
  refine wpAny_bind (wpAny_bind (wpAny_setState_of hoa hda hfa ?_))
  dsimp only
  refine wpAny_bind (zAf (wpAny_pure ?_))
  refine wpAny_ite_split (fun hab=>?_) fun hab=>?_
  · have hab:(!w.params.followText "set-order" && (!t.plain && decide (es.size > 1)))=true:=hab
    refine wpAny_bind (zgi es.size _ _ _ (by simp) fun ord d hp=>?_)
    have hol:ord.length=es.size:=by
      have:=hp.length_eq
      simpa using this
    unfold newTuple
    refine wpAny_bind (wpAny_newObj_type ?_ (by show (List.map (fun (i:Nat)=>rawInt i) ord).toArray.size≤sizeLine;simp;lia))
    have hg:(s.heap.push { cls := .type "tuple",data := .seq (ord.map fun (i:Nat)=>rawInt i).toArray }).get? a=some oa:=Heap.get?_push_of_some _ hoa
    refine wpAny_bind ?_
    unfold setEpoch
    refine wpAny_bind (wpAny_setState_of (s:={ s with heap:=_,drawn:=d }) hg hda hfa (wpAny_pure ?_))
    unfold newFields
    refine wpAny_bind (wpAny_newObj_type (wpAny_pure ⟨_,rfl,"set_iterator",_,⟨_,Heap.get?_push_size _ rfl,rfl⟩,slot_si_next.lookup,?_⟩))
    have hs1:(s.heap.push { cls := .type "tuple",data := .seq (ord.map fun (i:Nat)=>rawInt i).toArray }).objs.size=s.heap.objs.size+1:=by rw [Heap.size_push]
    refine h _ _ ⟨[(s.heap.push { cls := .type "tuple",data := .seq (ord.map fun (i:Nat)=>rawInt i).toArray }).objs.size,a,s.heap.objs.size],ord.map fun j=>es.getD j (0, .none),_,
      zIm (t:=t) (ep:=ep) (nt:=0) hh (by rw [hs1];exact Nat.ne_of_lt (Nat.lt_succ_of_lt hlt)) (by rw [hs1];exact Nat.ne_of_lt (Nat.lt_succ_self _)) hp,⟨⟨_,Heap.get?_push_size _ rfl,rfl,by simp [rawInt]⟩,⟨oa,Heap.get?_push_of_some _ hg,hca,hda,hfa⟩,_,Heap.get?_push_of_some _ (Heap.get?_push_size _ rfl),rfl⟩,
      z7i hp,by rw [hs1];exact Nat.le_succ _,?_,?_,fun b o e=>Heap.get?_push_of_some _ (Heap.get?_push_of_some _ e),d,rfl⟩
    · intro b hb
      rw [hs1] at hb
      simp at hb
      rcases hb with rfl | rfl | rfl
      · exact .inl (Nat.le_succ _)
      · exact .inr rfl
      · exact .inl (Nat.le_refl _)
    · intro b hb
      show b<((s.heap.push _).push _).objs.size
      rw [Heap.size_push,hs1]
      rw [hs1] at hb
      simp at hb
      rcases hb with rfl | rfl | rfl
      · exact Nat.lt_succ_self _
      · exact Nat.lt_succ_of_lt (Nat.lt_succ_of_lt hlt)
      · exact Nat.lt_succ_of_lt (Nat.lt_succ_self _)
  · have hab:¬ (!w.params.followText "set-order" && (!t.plain && decide (es.size > 1)))=true:=hab
    refine wpAny_bind (wpAny_pure ?_)
    refine wpAny_bind ?_
    unfold setEpoch
    refine wpAny_bind (wpAny_setState_of hoa hda hfa (wpAny_pure ?_))
    unfold newFields
    refine wpAny_bind (wpAny_newObj_type (wpAny_pure ⟨_,rfl,"set_iterator",_,⟨_,Heap.get?_push_size _ rfl,rfl⟩,slot_si_next.lookup,?_⟩))
    have pre:∀ (ent:List (Int×Value)) (St:Nat→Heap→Prop),Walks prog w A s.heap.objs.size [s.heap.objs.size,a] [s.heap.objs.size] es.size (zor ent) St→St 0 (s.heap.push { cls := .type "set_iterator",data := .fields #[rawInt 0,rawInt 0, .ref a,rawInt es.size,rawInt ep] })→ent.Perm es.toList →
        Q (.ref s.heap.objs.size) { s with heap:=s.heap.push { cls := .type "set_iterator",data := .fields #[rawInt 0,rawInt 0, .ref a,rawInt es.size,rawInt ep] } }:=fun ent St W st hp =>
      h _ _ ⟨_,ent,St,W,st,hp,Nat.le_refl _,fun b hb=>by simp at hb;rcases hb with rfl | rfl;exact .inl (Nat.le_refl _);exact .inr rfl,fun b hb=>by
        show b<(s.heap.push _).objs.size
        rw [Heap.size_push]
        simp at hb
        rcases hb with rfl | rfl
        · exact Nat.lt_succ_self _
        · exact Nat.lt_succ_of_lt hlt,fun b o e=>Heap.get?_push_of_some _ e,s.drawn,rfl⟩
    cases hw:w.params.followText "set-order" with
    | true=>exact pre _ _ (zoo (t:=t) (ep:=ep) hh (Nat.ne_of_lt hlt) hw) ⟨⟨_,Heap.get?_push_size _ rfl,rfl,by simp [rawInt]⟩,⟨oa,Heap.get?_push_of_some _ hoa,hca,hda,hfa⟩⟩ (zQg _ _)
    | false =>
      rw [hw] at hab hT
      exact pre _ _ (zqm (t:=t) (ep:=ep) hh (Nat.ne_of_lt hlt) hw (by simpa using hab) hT) ⟨⟨_,Heap.get?_push_size _ rfl,rfl,by simp [rawInt,zsd]⟩,⟨oa,Heap.get?_push_of_some _ hoa,hca,hda,hfa⟩⟩ (.refl _)
end
end M
set_option Elab.async false
set_option linter.all false
set_option autoImplicit false
set_option maxRecDepth 100000
namespace M
open PySem
section
variable {prog:Program} {w:World} {A:Around} {E:Value→Shared→Prop} {s:Shared} {a:Addr} {es:Array (Int×Value)} {ep:Nat} {t:SetTable}
theorem zZo {Q:Bool→Shared→Prop} (hT:s.TypeIs (.ref a) "set") (hq:Q false s):wpAny (model prog w) A (Builtin.List.listLengthHint (.ref a)) Q E s:=by
  unfold Builtin.List.listLengthHint
  refine wpAny_bind (wpAny_specialOf hT F.slot_set_len.lookup ?_)
  generalize hn:("set.__len__":String)=nm
  wp_delta
  rw [show splitId nm=some ("set","__len__") from by subst hn;decide +kernel]
  subst hn
  refine wpAny_bind (wpAny_isInstance (T:="set") (b:=true) hT (by rw [isSubtype_type];kernel_rfl) ?_)
  refine wpAny_ite_split (fun no=>absurd no (by decide)) fun _=>?_
  refine wpAny_ite_split (fun _=>?_) fun no=>absurd (by decide +kernel) no
  exact wpAny_bind (wpAny_typeOf hT (wpAny_pure hq))
noncomputable def zOt (s:Shared) (es:Array (Int×Value)) (vs:List Value) (s':Shared):Prop :=
  (∃ ent:List (Int×Value),ent.Perm es.toList∧vs=ent.map (·.2))∧(∀ b o,s.heap.get? b=some o→s'.heap.get? b=some o)∧s'.os=s.os∧s'.gens=s.gens∧s.heap.objs.size≤s'.heap.objs.size
theorem zTo {ent:List (Int×Value)} {acc:Array Value} {n:Nat} (hl:ent.length=n) (h:ItemsOf (zor ent) acc n):acc.toList=ent.map (·.2):=by
  apply List.ext_getElem
  · simp [h.1,hl]
  · intro j h1 h2
    have h1':j<acc.size:=by simpa using h1
    obtain ⟨k,e⟩:=h.2 j acc[j] (by simp [h1'])
    have h3:j<ent.length:=by simpa using h2
    rw [List.getElem?_eq_getElem h3] at e
    simp only [Option.some.injEq] at e
    simp [e]
theorem z7k {Q:List Value→Shared→Prop} (hh:A.handled=none) (hT:TOk (!w.params.followText "set-order") t) (hO:SOb s.heap a es ep t) (hsz:es.size≤sizeLine) (h:∀ vs s',zOt s es vs s'→Q vs s') :
    wpAny (model prog w) A (collect (.ref a)) Q E s:=by
  obtain ⟨oa,hoa,hca,hda,hfa⟩:=id hO
  have hlt:a<s.heap.objs.size:=Heap.lt_size hoa
  unfold collect
  refine wpAny_bind (wpAny_runValue (codeAny_builtin F.entry_proto_collect ?_))
  rw [Around.under_plainId F.plain_proto_collect _]
  show wpAny _ A.in1 (newList [] >>= fun l=>again (.builtin "list.__iadd__" ⟨[l, .ref a],[]⟩)) _ _ s
  refine wpAny_bind (wpAny_newObj_type ?_)
  refine wpAny_pure ⟨plainId_quiet F.plain_list_iadd _,codeAny_builtin F.entry_list_iadd ?_⟩
  rw [Around.under_plainId F.plain_list_iadd _]
  obtain ⟨S,hSe⟩:∃ S,S=s.heap.objs.size:=⟨_,rfl⟩
  have hL:(s.heap.push { cls := .type "list",data := .seq ([]:List Value).toArray }).get? S=some { cls := .type "list",data := .seq #[] }:=by rw [hSe];exact Heap.get?_push_size _ rfl
  have hk0:∀ b o,s.heap.get? b=some o→(s.heap.push { cls := .type "list",data := .seq ([]:List Value).toArray }).get? b=some o:=fun b o e=>Heap.get?_push_of_some _ e
  have hz0:(s.heap.push { cls := .type "list",data := .seq ([]:List Value).toArray }).objs.size=S+1:=by rw [hSe,Heap.size_push]
  show wpAny _ A.in1 (Builtin.List.listExtendWith (.ref s.heap.objs.size) (.ref a) (.ref s.heap.objs.size)) _ _ _
  rw [← hSe]
  generalize s.heap.push { cls := .type "list",data := .seq ([]:List Value).toArray } = h0 at hL hk0 hz0 ⊢
  have hO0:SOb h0 a es ep t:=hO.at' fun o e=>hk0 _ o e
  have hSa:S≠a:=by rw [hSe];exact Nat.ne_of_gt hlt
  have hTy:Shared.TypeIs { s with heap:=h0 } (.ref a) "set":=⟨oa,hk0 _ _ hoa,hca⟩
  unfold Builtin.List.listExtendWith
  refine wpAny_bind (wpAny_typeOf hTy ?_)
  have g1:Builtin.List.listSameRef (.ref S) (.ref a)=false:=by simp [Builtin.List.listSameRef,hSa]
  have g2:(Value.type "set" == Value.type "list")=false:=by decide
  have g3:(Value.type "set" == Value.type "tuple")=false:=by decide
  simp only [g1,g2,g3,Bool.or_false,Bool.false_eq_true,if_false]
  refine wpAny_bind (zLo (s:={ s with heap:=h0 }) hh hT hO0 hsz fun I s1 hI=>?_)
  obtain ⟨fp,ent,St,W,st,hp,hIs,hf1,hf2,hk1,d,hs1⟩:=hI
  have hL1:s1.heap.get? S=some { cls := .type "list",data := .seq #[] }:=hk1 _ _ hL
  have hIs:S+1≤I:=by rw [← hz0];exact hIs
  have hSf:S∉fp:=fun hm=>by
    rcases hf1 S hm with q | q
    · have q:h0.objs.size≤S:=q
      rw [hz0] at q
      exact Nat.lt_irrefl _ q
    · exact hSa q
  have hTy1:s1.TypeIs (.ref a) "set":=⟨oa,hk1 _ _ (hk0 _ _ hoa),hca⟩
  refine wpAny_bind (wpAny_holding (zZo hTy1 ?_))
  have loop:∀ (h2:Heap) (c:Nat),(∀ b o,b≠S→s1.heap.get? b=some o→h2.get? b=some o)→h2.get? S=some { cls := .type "list",data := .seq #[] c } →
      codeAny (model prog w) A (.builtin "list.extend.loop" ⟨[.ref S, .ref I, .ref S],[]⟩) (fun r s'=>∃ acc c',r = .ok (.ret (.ref S))∧s'.heap.get? S=some { cls := .type "list",dict:=none,data := .seq acc c',slots:=#[] }∧zOt s es acc.toList s') { s1 with heap:=h2 }:=by
    intro h2 c hk2 hL2
    refine codeAny_extend_loopS W.toS hsz S hSf (.ref S) es.size 0 _ #[] c rfl (Nat.zero_le _) (W.frame 0 _ _ st fun b hb o e=>hk2 b o (fun q=>hSf (q▸hb)) e) hL2 (ItemsOf.nil _) fun s' acc c' hm hS' hacc=>?_
    refine ⟨acc,c',rfl,hS',⟨ent,hp,zTo (by simpa using hp.length_eq) hacc⟩,fun b o e=>?_,?_,?_,by rw [← hSe];exact Nat.le_of_lt (Heap.lt_size hS')⟩
    · have hb:b<s.heap.objs.size:=Heap.lt_size e
      rw [← hSe] at hb
      refine hm.heap b o (fun hmem=>?_) (hk2 b o (Nat.ne_of_lt hb) (hk1 _ _ (hk0 _ _ e)))
      rcases List.mem_cons.mp hmem with q | q
      · exact absurd hb (by rw [q];exact Nat.lt_irrefl _)
      · rw [List.mem_singleton.mp q] at hb
        exact Nat.lt_irrefl _ (Nat.lt_trans hb (Nat.lt_of_lt_of_le (Nat.lt_succ_self _) hIs))
    · have:=hm.os
      rw [this]
      show s1.os=s.os
      rw [hs1]
    · have:s'.gens=s1.gens:=hm.gens
      rw [this,hs1]
  have fin:∀ (h2:Heap) (c:Nat),(∀ b o,b≠S→s1.heap.get? b=some o→h2.get? b=some o)→h2.get? S=some { cls := .type "list",data := .seq #[] c } →
      codeAny (model prog w) A (.builtin "list.extend.loop" ⟨[.ref S, .ref I, .ref S],[]⟩) (fun r s'=>match r with
        | .ok (.ret v)=>wpAny (model prog w) A (match v with
          | .ref b=>do
            let o ← load b
            match o.data with
            | .seq xs _=>pure xs.toList
            | _=>unsupported "internal:collect"
          | _=>unsupported "internal:collect") Q E s'
        | _=>False) { s1 with heap:=h2 }:=fun h2 c hk2 hL2=>codeAny_mono (loop h2 c hk2 hL2) fun r s' ⟨acc,c',e,hS',hc⟩=>by
    subst e
    dsimp only
    refine wpAny_bind (wpAny_load hS' ?_)
    exact wpAny_pure (h _ _ hc)
  refine wpAny_ite_split (fun _=>?_) fun _=>?_
  · refine wpAny_bind (wpAny_rule ?_)
    refine wpAny_bind ?_
    show wpAny _ _ (updateSeq S (·.push .none) >>= fun _=>updateSeq S (·.pop)) _ _ _
    refine wpAny_bind (wpAny_updateSeq hL1 rfl ?_)
    have hL2:=Heap.get?_update_self (Obj.mapSeq (·.push Value.none)) hL1 rfl
    refine wpAny_updateSeq (hz:=by seq_fits) hL2 rfl ?_
    have hL3:=Heap.get?_update_self (Obj.mapSeq (·.pop)) hL2 rfl
    refine wpAny_pure ⟨plainId_quiet F.plain_extend_loop _,codeAny_mono (fin _ _ (fun b o hb e=>?_) hL3) fun r s' z=>?_⟩
    · exact (Heap.get?_update_other _ _ (Ne.symm hb)).trans ((Heap.get?_update_other _ _ (Ne.symm hb)).trans e)
    · cases r with
      | error e=>exact z.elim
      | ok f=>cases f <;> exact z
  · refine wpAny_pure ⟨plainId_quiet F.plain_extend_loop _,codeAny_mono (fin _ _ (fun b o hb e=>e) hL1) fun r s' z=>?_⟩
    cases r with
    | error e=>exact z.elim
    | ok f=>cases f <;> exact z
end
end M
set_option Elab.async false
set_option linter.all false
set_option autoImplicit false
set_option maxRecDepth 100000
namespace M
open PySem PyProof.Rows
section
variable {prog:Program} {w:World} {A:Around} {E:Value→Shared→Prop} {s:Shared} {a:Addr}
theorem zvf:∀ (ent:List (Int×Value)),ElemsOf (intKind prog w) ent→IntsAre (ent.map (·.2)) (ent.map zgh)
  | [],_ => .nil
  | e :: ent,h=>by
    obtain ⟨⟨k,hk,_⟩,_⟩:=h e List.mem_cons_self
    obtain ⟨t,ht⟩:=Value.isInt_shape (show Value.isInt k e.2=true from hk)
    have:zgh e=k:=by unfold zgh;rw [ht]
    rw [List.map_cons,List.map_cons,ht,this]
    exact .cons k t (zvf ent fun x hx=>h x (List.mem_cons_of_mem _ hx))
noncomputable def zhs (s:Shared) (ks:List Int) (p:Addr) (s':Shared):Prop :=
  ∃ (out:Array Value) (ns:List Int) (e:Nat),s'.heap.get? p=some { cls := .type "list",data := .seq out e }∧IntsAre out.toList ns∧ns.Perm ks∧ns.Pairwise (·≤·)∧s.heap.objs.size≤p∧(∀ b o,s.heap.get? b=some o→s'.heap.get? b=some o)∧s'.os=s.os∧s'.gens=s.gens
theorem zKm {ks:List Int} {Q:Value→Shared→Prop} (hh:A.handled=none) (hS:SetAt prog w s.heap a ks) (h64:ks.length<64) (h:∀ p s',zhs s ks p s'→Q (.ref p) s') :
    wpAny (model prog w) A (call (.builtin "sorted") [.ref a]) Q E s:=by
  obtain ⟨o,es,ep,t,ho,hex,hd,hf,hT,hel,hpk⟩:=hS
  have hlen:es.size=ks.length:=by
    have:=hpk.length_eq
    simpa using this
  have hO:SOb s.heap a es ep t:=⟨o,ho,hex.1,hd,hf⟩
  refine Calls.call_function_entry kind_sorted plain_sorted entry_sorted (args_sorted1 _) ?_
  unfold Builtin.«sorted»
  refine wpAny_bind (m:=checkCount "sorted" 1 1 _) (wpAny_pure ?_)
  refine wpAny_bind (z7k (A:=A.in1) hh hT hO (Nat.le_trans (Nat.le_of_lt (by lia:es.size<64)) (by rw [sizeLine_eq];decide)) fun vs s1 hc=>?_)
  obtain ⟨⟨ent,hp,rfl⟩,hk,hos,hgn,hsz⟩:=hc
  have hel2:ElemsOf (intKind prog w) ent:=hel.perm hp
  have hI:=zvf ent hel2
  have hl:ent.length=ks.length:=by
    rw [hp.length_eq]
    simpa using hlen
  refine wpAny_bind (wpAny_newList ?_ (by simp;rw [sizeLine_eq];lia))
  have hnew:(s1.heap.push (seqObj "list" (ent.map (·.2)).toArray 0)).get? s1.heap.objs.size=some (seqObj "list" (ent.map (·.2)).toArray 0):=Heap.get?_push_size _ rfl
  refine wpAny_bind (wpAny_holding (wpAny_call_entry slot_list_sort ⟨_,hnew,rfl⟩ entry_list_sort (list_sort_tree hnew hI (by simp;lia) fun out ns q1 q2 q3=>⟨_,rfl,?_⟩) (args_list_sort _)))
  obtain ⟨e,he⟩:=sortedHeap_at (out:=out) hnew
  refine wpAny_pure ⟨_,rfl,h _ _ ⟨out,ns,e,he,q1,q2.trans ((hp.map zgh).trans hpk),q3,hsz,fun b ob eb=>?_,hos,hgn⟩⟩
  have hb1:=hk _ _ eb
  have hlt1:b<s1.heap.objs.size:=Heap.lt_size hb1
  show (sortedHeap (s1.heap.push (seqObj "list" (ent.map (·.2)).toArray 0)) s1.heap.objs.size (ent.map (·.2)) out).get? b=some ob
  rw [sortedHeap_old (Nat.ne_of_lt hlt1) (by rw [size_push'];exact Nat.lt_succ_of_lt hlt1)]
  exact Heap.get?_push_of_some _ hb1
end
end M
set_option Elab.async false
set_option linter.all false
set_option autoImplicit false
set_option maxRecDepth 100000
namespace M
open PySem PyProof.Rows
noncomputable def zWs (ks:List Int) (k:Int):List Int:=if k∈ks then ks else ks ++ [k]
noncomputable def uqN (val:Nat→Int):Nat→List Int
  | 0=>[]
  | i+1=>zWs (uqN val i) (val i)
theorem zal (val:Nat→Int):∀ i,(uqN val i).length≤i
  | 0=>Nat.le_refl _
  | i+1=>by
    have:=zal val i
    unfold uqN zWs
    split
    · lia
    · simp;lia
theorem zzn (val:Nat→Int) (k:Int):∀ i,k∈uqN val i↔∃ j,j<i∧val j=k
  | 0=>by simp [uqN]
  | i+1=>by
    have ih:=zzn val k i
    unfold uqN zWs
    constructor
    · intro h
      split at h
      · obtain ⟨j,h1,h2⟩:=ih.mp h
        exact ⟨j,by first|decide|lia,h2⟩
      · rcases List.mem_append.mp h with h | h
        · obtain ⟨j,h1,h2⟩:=ih.mp h
          exact ⟨j,by first|decide|lia,h2⟩
        · exact ⟨i,by first|decide|lia,by simpa using (List.mem_singleton.mp h).symm⟩
    · rintro ⟨j,h1,h2⟩
      by_cases e:j=i
      · subst e
        split
        · rename_i hm
          rw [← h2];exact hm
        · simp [h2]
      · have:=ih.mpr ⟨j,by first|decide|lia,h2⟩
        split
        · exact this
        · exact List.mem_append_left _ this
theorem z0j (val:Nat→Int):∀ i,(uqN val i).Nodup
  | 0=>List.nodup_nil
  | i+1=>by
    have ih:=z0j val i
    unfold uqN zWs
    split
    · exact ih
    · rename_i hm
      rw [List.nodup_append]
      exact ⟨ih,by simp,fun a ha b hb e=>by simp at hb;subst hb;exact hm (e▸ha)⟩
section
variable {prog:Program} {w:World} {A:Around} {R:Result→Shared→Prop} {I:Addr} {fp wr:List Addr} {n:Nat} {P:Nat→Value→Prop} {St:Nat→Heap→Prop}
theorem znl (W:Walks prog w A.in1 I fp wr n P St) (S:Addr) (hSf:S∉fp) (val:Nat→Int) (hval:∀ i v,P i v→∃ t,v = .int (val i) t) (hb:n+1<scanBound):∀ (k i:Nat) (s:Shared),n - i=k→i≤n→St i s.heap→SetAt prog w s.heap S (uqN val i) →
    (∀ h' tk,(∀ b o,b∉S :: wr→s.heap.get? b=some o→h'.get? b=some o)→SetAt prog w h' S (uqN val n)→R (.ok (.ret .none)) { s with heap:=h',toks:=tk })→codeAny (model prog w) A (.builtin "set.update.loop" ⟨[.ref S, .ref I],[]⟩) R s:=by
  have hSw:S∉wr:=fun q=>hSf (W.sub _ q)
  intro k
  induction k with
  | zero =>
    intro i s hk hi st hS hR
    have e:i=n:=by lia
    subst e
    refine codeAny_builtin PyProof.Rows.F.entry_set_update_loop ?_
    rw [Around.under_plainId PyProof.Rows.F.plain_set_update_loop _]
    show wpAny _ A.in1 (pyNext (.ref I) >>= _) _ _ s
    refine wpAny_bind (W.done s _ _ st fun h' tk hk'=>?_)
    exact wpAny_pure (hR h' tk (fun b o hb e=>hk' b o (fun q=>hb (List.mem_cons_of_mem _ q)) e) (hS.at' fun o e=>hk' S o hSw e))
  | succ k ih =>
    intro i s hk hi st hS hR
    have hlt:i<n:=by lia
    refine codeAny_builtin PyProof.Rows.F.entry_set_update_loop ?_
    rw [Around.under_plainId PyProof.Rows.F.plain_set_update_loop _]
    show wpAny _ A.in1 (pyNext (.ref I) >>= _) _ _ s
    refine wpAny_bind (W.item i s _ _ hlt st fun v h1 tk hP st1 hk1=>?_)
    obtain ⟨t,rfl⟩:=hval i v hP
    show wpAny _ A.in1 (holding [Value.int (val i) t] (setAdd S (.int (val i) t)) >>= _) _ _ _
    refine wpAny_bind (wpAny_holding ?_)
    unfold setAdd
    refine wpAny_holding ?_
    refine wpAny_bind (wpAny_pyHash_int ?_)
    have hS1:SetAt prog w h1 S (uqN val i):=hS.at' fun o e=>hk1 S o hSw e
    refine zwq (s:={ s with heap:=h1,toks:=tk+1 }) hS1 (by have:=zal val i;lia) fun b h2 sb hS2=>?_
    refine wpAny_pure ⟨plainId_quiet PyProof.Rows.F.plain_set_update_loop _,ih (i+1) _ (by first|decide|lia) hlt (W.frame _ _ _ st1 fun c hc o e=>?_) hS2 fun h3 tk3 hk3 hS3=>?_⟩
    · exact sb.extBut c o (fun q=>hSf (q▸hc)) e
    · exact hR h3 tk3 (fun c o hc e=>hk3 c o hc (sb.extBut c o (fun q=>hc (by rw [q];exact List.mem_cons_self)) (hk1 c o (fun q=>hc (List.mem_cons_of_mem _ q)) e))) hS3
end
section
variable {prog:Program} {w:World} {A:Around} {E:Value→Shared→Prop} {s:Shared}
noncomputable abbrev zkb (w:World):Obj:={ cls := .type "set",dict:=none,data := .set #[] 0 (.fresh 0 0 (!w.params.followText "set-order")) }
theorem zzo (a:Value) {Q:Value→Shared→Prop} (h:Q (.ref s.heap.objs.size) { s with heap:=s.heap.push (zkb w) }) :
    codeAny (model prog w) A (.call (.builtin "set.__new__") ⟨[.type "set",a],[]⟩) (wants Q E) s:=by
  refine codeAny_of_tree ?_
  show wpAny _ A.in1 (do checkBuiltinCall "set.__new__" ⟨[.type "set",a],[]⟩;again (.builtin "set.__new__" ⟨[.type "set",a],[]⟩)) _ _ s
  refine wpAny_bind (wpAny_of_eq (PySem.F.newCall_set_1 a) (wpAny_pure ⟨plainId_quiet PySem.F.plain_set_new _,codeAny_builtin PySem.F.entry_set_new ?_⟩))
  rw [Around.under_plainId PySem.F.plain_set_new _]
  unfold Builtin.«set.__new__» Builtin.Frozenset.newClass
  have hsub:=PySem.sub_set_self
  obtain ⟨hp,g,d,tk,os⟩:=s
  dsimp only
  wp_walk
  refine wpAny_askSetting (wpAny_pure ?_)
  dsimp only
  simp only [newObj]
  refine wpAny_bind (wpAny_alloc (wpAny_pure ?_))
  exact wpAny_pure h
end
end M
set_option Elab.async false
set_option linter.all false
set_option autoImplicit false
set_option maxRecDepth 100000
namespace M
open PySem PyProof.Rows
section
variable {prog:Program} {w:World} {A:Around} {E:Value→Shared→Prop} {s:Shared}
noncomputable def zXi (prog:Program) (w:World) (s:Shared) (ks:List Int) (s':Shared):Prop :=
  SetAt prog w s'.heap s.heap.objs.size ks∧(∀ b o,s.heap.get? b=some o→s'.heap.get? b=some o)∧∃ h' tk,s' = { s with heap:=h',toks:=tk }
set_option maxHeartbeats 3200000 in
theorem ztk {l:Addr} {its:Array Value} {ns:List Int} {Q:Value→Shared→Prop} (hh:A.handled=none) (hl:s.heap.IsList l its) (hi:IntsAre its.toList ns) (hb:its.size+1<scanBound)
    (h:∀ s',zXi prog w s (uqN (fun i=>ns.getD i 0) its.size) s'→Q (.ref s.heap.objs.size) s'):wpAny (model prog w) A (call (.type "set") [.ref l]) Q E s:=by
  obtain ⟨c,tl,hmro⟩:=PySem.F.called_set.mro
  have hmade:=PySem.F.called_set.made
  have hsub:=PySem.F.called_set.sub
  refine wpAny_call (codeAny_of_tree ?_)
  show wpAny _ _ (callAny (.type "set") _) _ _ _
  refine wpAny_pure ⟨Code.quiet_builtin _ (by decide +kernel),codeAny_builtin PySem.F.entry_type_call ?_⟩
  rw [Around.under_plain (weight_type_call_type "set" [.ref l] []) rfl]
  have t1:=PySem.F.called_set.notType
  have t2:=PySem.F.called_set.canCreate
  have t3:=PySem.F.typeCall_set_1 (.ref l)
  repeat (any_goals (first | assumption | wp_step))
  refine codeAny_mono (zzo (w:=w) (.ref l) (E:=E) (Q:=fun ob s1=>ob = .ref s.heap.objs.size∧s1 = { s with heap:=s.heap.push (zkb w) }) ⟨rfl,rfl⟩) fun r s1 hr=>?_
  cases r with
  | error e=>exact hr
  | ok fl =>
    cases fl with
    | ret ob =>
      obtain ⟨rfl,rfl⟩:=hr
      have hS:(s.heap.push (zkb w)).get? s.heap.objs.size=some (zkb w):=Heap.get?_push_size _ rfl
      have hT:Shared.TypeIs { s with heap:=s.heap.push (zkb w) } (.ref s.heap.objs.size) "set":=⟨_,hS,rfl⟩
      have i1:=PySem.F.called_set.init.lookup
      have i2:=PySem.F.called_set.init.bind (.ref s.heap.objs.size)
      repeat (any_goals (first | assumption | wp_step))
      refine codeAny_mono (codeAny_call_builtin (R:=wants (fun r s2=>r = .none∧zXi prog w s (uqN (fun i=>ns.getD i 0) its.size) s2) E) PySem.F.called_set.init.plain PySem.F.entry_set_init (check_set_init_1 hT ?_)) fun r2 s2 hr2=>?_
      · obtain ⟨ol,hol,hcl,nl,hdl⟩:=hl
        obtain ⟨ocls,odict,odata,oslots⟩:=ol
        simp only at hcl hdl
        subst hcl;subst hdl
        have hlS:l<s.heap.objs.size:=Heap.lt_size hol
        have hol1:(s.heap.push (zkb w)).get? l=some { cls := .type "list",dict:=odict,data := .seq its nl,slots:=oslots }:=Heap.get?_push_of_some _ hol
        have n1:=PySem.F.sub_list_set
        have n2:=PySem.F.sub_list_frozenset
        have n3:(Value.type "list" == Value.type "dict")=false:=by decide
        have hl1:(s.heap.push (zkb w)).IsList l its:=⟨_,hol1,rfl,nl,rfl⟩
        unfold Builtin.«set.__init__» noKeywords Builtin.Frozenset.updateFrom
        generalize hPI:pyIter=PI
        wp_walk
        subst hPI
        refine wpAny_pyIter_list hl1 ?_
        refine wpAny_bind (wpAny_runValue ?_)
        have hz:(s.heap.push (zkb w)).objs.size=s.heap.objs.size+1:=by rw [Heap.size_push]
        have hne:l≠(s.heap.push (zkb w)).objs.size:=by rw [hz];exact Nat.ne_of_lt (Nat.lt_succ_of_lt hlS)
        have hSf:s.heap.objs.size∉[(s.heap.push (zkb w)).objs.size,l]:=by
          rw [hz]
          simp only [List.mem_cons,List.not_mem_nil,or_false,not_or]
          exact ⟨Nat.ne_of_lt (Nat.lt_succ_self _),Nat.ne_of_gt hlS⟩
        have hval:∀ (i:Nat) (v:Value),its[i]?=some v→∃ t,v = .int ((fun i=>ns.getD i 0) i) t:=fun i v hv=>IntsAre.int_at hi i v (by rw [Array.getElem?_toList];exact hv)
        refine znl (Walks.list (by simp [hh]) _ l hne its) s.heap.objs.size hSf (fun i=>ns.getD i 0) hval hb (its.size - 0) 0 _ (by first|decide|lia) (Nat.zero_le _) ⟨⟨_,Heap.get?_push_size _ rfl,rfl,rfl⟩,hl1.push _⟩ ?s0 ?r0
        case s0 =>
          exact ⟨zkb w,#[],0,_,Heap.get?_push_of_some _ hS,⟨rfl,rfl,rfl⟩,rfl,rfl, .fresh _,fun e he=>by simp at he,by simp [uqN]⟩
        case r0 =>
          intro h' tk hk hS'
          refine wpAny_pure ?_
          show wpAny _ _ (ret Value.none) _ _ _
          refine wpAny_pure ⟨rfl,hS',fun b o e=>?_,h',tk,rfl⟩
          have hlt:b<s.heap.objs.size:=Heap.lt_size e
          refine hk b o ?_ (Heap.get?_push_of_some _ (Heap.get?_push_of_some _ e))
          rw [hz]
          simp only [List.mem_cons,List.not_mem_nil,or_false,not_or]
          exact ⟨Nat.ne_of_lt hlt,Nat.ne_of_lt (Nat.lt_succ_of_lt hlt)⟩
      · cases r2 with
        | error e=>exact hr2
        | ok fl2 =>
          cases fl2 with
          | ret r =>
            obtain ⟨rfl,hm⟩:=hr2
            repeat (any_goals (first | assumption | wp_step))
            exact h _ hm
          | _=>exact hr2.elim
    | _=>exact hr.elim
end
end M
set_option Elab.async false
set_option linter.all false
set_option maxRecDepth 100000
set_option autoImplicit false
namespace M
open PySem PySem.Spec PyProof.Rows L2
section
variable {X:Cx} {pins:List (Addr×Obj)} {σ:L2.St} {H:Hp} {s s':Shared}
theorem zvp (I:Inv X pins σ H s) (ho:s'.os=s.os) (hg:s'.gens=s.gens) (k:∀ b u,s.heap.get? b=some u→s'.heap.get? b=some u):Inv X pins σ H s' :=
  I.call' (ch:=[]) ho (Un.kept k) (I.hok.kept k) (by rw [hg];exact I.bare) fun b z=>nomatch z
theorem z5o {p:Addr} {o:HO} (I:Inv X pins σ H s) (ho:s'.os=s.os) (hg:s'.gens=s.gens) (k:∀ b u,s.heap.get? b=some u→s'.heap.get? b=some u) (hp:s.heap.objs.size≤p) (new:ObjOk X.prog X.w (upd H p o) s'.heap p o):Inv X pins σ (upd H p o) s' :=
  I.call' (ch:=[]) ho (Un.laid k hp (I.hok.fresh hp)) (I.hok.laid k hp new) (by rw [hg];exact I.bare) fun b z=>nomatch z
theorem z8d:∀ {us:List Value} {ns:List Int},IntsAre us ns→Vals (ns.map V.int) us
  | _,_, .nil => .nil
  | _,_, .cons n t r => .cons ⟨t,rfl⟩ (z8d r)
noncomputable def zRk (X:Cx) (p:Addr) (ks:List Int):HO := .ext fun h=>SetAt X.prog X.w h p ks
theorem zmo (hc:X.calm=true):zch X (.type "set") (fun xs H Q=>∃ (a:Addr) (ns:List Int),xs = [.ref a]∧SqL X.K H a (ns.map V.int)∧ns.length+1<scanBound∧∀ p,H p=none→Q (.ref p) (upd H p (zRk X p (uqN (fun i=>ns.getD i 0) ns.length)))):=by
  intro pins s σ H xs us Q I r ⟨a,ns,e,hq,hb,k⟩
  subst e
  obtain ⟨u,rfl,rx⟩:=vals1 r
  cases rx
  obtain ⟨its,rv,pl,hz⟩:=I.list hq
  have hl:its.length=ns.length:=by rw [← rv.length];simp
  refine ztk (I.ok.hd hc) pl.isList (its:=its.toArray) (ns:=ns) (by simpa using zDe rv) (by simp;lia) fun s' ⟨hS,hk,h',tk,e⟩=>?_
  subst e
  rw [show its.toArray.size=ns.length by simp;exact hl] at hS
  refine ⟨.ref s.heap.objs.size,_,I.laid (t':=tk) hk (Nat.le_refl _) (show ObjOk X.prog X.w _ h' _ (zRk X _ _) from ⟨hS,?_,fun h1 h2 x y=>x.at' y⟩),rfl,k _ I.fresh⟩
  obtain ⟨o,_,_,_,ho,_⟩:=hS
  exact ⟨o,ho⟩
theorem zPh (hc:X.calm=true):zch X (.builtin "sorted") (fun xs H Q=>∃ (a:Addr) (ks:List Int),xs = [.ref a]∧H a=some (zRk X a ks)∧ks.length<64∧∀ (p:Addr) (ns:List Int),H p=none→ns.Perm ks→ns.Pairwise (·≤·)→Q (.ref p) (upd H p (.lst (ns.map V.int)))):=by
  intro pins s σ H xs us Q I r ⟨a,ks,e,hq,h64,k⟩
  subst e
  obtain ⟨u,rfl,rx⟩:=vals1 r
  cases rx
  obtain ⟨hS,_,_⟩:=I.hok a _ hq
  refine zKm (I.ok.hd hc) hS h64 fun p s' ⟨out,ns,e,h1,h2,h3,h4,h5,h6,h7,h8⟩=>?_
  have hl:ns.length=ks.length:=h3.length_eq
  refine ⟨.ref p,_,z5o I h7 h8 h6 h5 (show ObjOk X.prog X.w _ s'.heap _ (.lst (ns.map V.int)) from ⟨by simp;rw [sizeLine_eq];lia,out.toList,e,z8d h2,by simpa using h1⟩),rfl,k p ns (I.hok.fresh h5) h3 h4⟩
end
noncomputable def z3t:D→Option Int
  | .int i=>some i
  | _=>none
noncomputable def zuf (ds:List D):Option (List Int):=ds.mapM z3t
@[simp] theorem zgf:∀ ns:List Int,zuf (ns.map D.int)=some ns
  | []=>rfl
  | i :: ns=>by
    have:=zgf ns
    unfold zuf at this ⊢
    rw [List.map_cons,List.mapM_cons,this]
    rfl
theorem zLc:∀ {ds:List D} {ns:List Int},zuf ds=some ns→ds=ns.map D.int
  | [],ns,h=>by
    unfold zuf at h
    simp at h
    subst h;rfl
  | d :: ds,ns,h=>by
    unfold zuf at h
    rw [List.mapM_cons] at h
    obtain ⟨i,e1,h⟩:=zf h
    obtain ⟨r,e2,h⟩:=zf h
    cases h
    cases d with
    | int j=>cases e1;rw [zLc (show zuf ds=some r from e2)];rfl
    | _=>cases e1
theorem zqe {K:PySem.W.Frag} {ρ:List Addr} {H:Hp}:∀ {ns:List Int} {vs:List V},RepVs K ρ H (ns.map D.int) vs→vs=ns.map V.int
  | [],vs,r=>r.nil_inv
  | i :: ns,vs,r=>by
    obtain ⟨v,q,rfl,h1,h2⟩:=r.cons_inv
    rw [h1.int_inv,zqe h2]
    rfl
theorem zCd {K:PySem.W.Frag} {ρ:List Addr} {H:Hp}:∀ {ns:List Int},RepVs K ρ H (ns.map D.int) (ns.map V.int)
  | [] => .nil
  | i :: ns => .cons .int zCd
noncomputable def uqL (ns:List Int):List Int:=uqN (fun i=>ns.getD i 0) ns.length
noncomputable def zUk (ns:List Int):List Int:=(uqL ns).mergeSort fun a b=>decide (a≤b)
theorem zHc {a b:List Int} (p:a.Perm b) (ha:a.Pairwise (·≤·)) (hb:b.Pairwise (·≤·)):a=b:=p.eq_of_pairwise (fun _ _ _ _ h1 h2=>Int.le_antisymm h1 h2) ha hb
theorem zwh (ns:List Int):(ns.mergeSort fun a b=>decide (a≤b)).Pairwise (·≤·):=by
  have:=List.pairwise_mergeSort (le:=fun a b:Int=>decide (a≤b)) (fun a b c h1 h2=>by simp at h1 h2 ⊢;lia) (fun a b=>by simp;lia) ns
  exact this.imp fun h=>by simpa using h
noncomputable def znm (φ:FE):FE:=fun δ μ=>(φ δ μ).bind fun p=>match p.1 with
  | .loc n=>match p.2[n]? with
    | some (.lst ds)=>(zuf ds).bind fun ns=>bif decide (ns.length≤4000∧(uqL ns).length<64) then some (.loc p.2.length,p.2 ++ [.lst ((zUk ns).map .int)]) else none
    | _=>none
  | _=>none
section
variable {X:Cx} {a b c e:Expr} {es:List Expr} {φ ψ χ:FE} {pos pos2 p1 p2:Pos}
theorem zRn (hm1:X.mg "sorted" = none) (hv1:bootBuiltins "sorted" = some (.builtin "sorted")) (hm2:X.mg "set" = none) (hv2:bootBuiltins "set" = some (.type "set")) (h:ME X e φ) (hc:X.calm=true:=by rfl) (hg1:Gl X "sorted":=by rfl) (hg2:Gl X "set":=by rfl)
    (he:starEach [e] X.env=(false,eval e X.env) :: starEach [] X.env:=by rfl) (he2:starEach [.Call (.Name "set" p2) [e] [] pos2] X.env=(false,eval (.Call (.Name "set" p2) [e] [] pos2) X.env) :: starEach [] X.env:=by rfl) :
    ME X (.Call (.Name "sorted" p1) [.Call (.Name "set" p2) [e] [] pos2] [] pos) (znm φ) :=
  zfd (zPi (zPh hc) hg1 hm1 hv1 (zsc (zwd (zmo hc) hg2 hm2 hv2 (zsc h zee he) (by decide) (by decide) he rfl) zee he2) (by decide) (by decide) he2 rfl) fun ρ δ μ σ H d μ' Q A e k=>by
    obtain ⟨⟨x,μ1⟩,e1,e⟩:=zf e
    refine ⟨ρ,δ,μ,x,μ1,A,e1,fun ρ1 H1 v x1 R1 r1=>?_⟩
    dsimp only at e
    split at e
    · split at e
      · rename_i hm
        obtain ⟨ns,e2,e⟩:=zf e
        obtain ⟨hb,e⟩:=zL e
        have hb:=of_decide_eq_true hb
        cases e
        rw [zLc e2] at hm
        obtain ⟨p,rfl,ep⟩:=r1.loc_inv
        obtain ⟨vs,e3,q⟩:=R1.at_ _ _ _ ep hm
        rw [zqe q] at e3
        refine ⟨p,ns,rfl,SqL.of e3,by unfold scanBound;lia,fun p1 hp1=>?_⟩
        refine ⟨p1,uqL ns,rfl,zo,hb.2,fun p2 ms hp2 hpm hpw=>?_⟩
        have hms:ms=zUk ns:=zHc (hpm.trans (List.mergeSort_perm _ _).symm) hpw (zwh _)
        subst hms
        have R2:=R1.newTup (o:=zRk X p1 (uqL ns)) hp1
        exact k _ _ _ (x1.trans ((Ext.new hp1).trans (Ext.push hp2))) (R2.push hp2 ⟨_,zo,zCd⟩) (.loc (zvb R2))
      · cases e
    · cases e
end
end M
set_option Elab.async false
set_option linter.all false
set_option maxRecDepth 100000
set_option autoImplicit false
namespace M
open PySem PySem.Spec PyProof.Rows L2
section
variable {prog:Program} {w:World} {A:Around} {E:Value→Shared→Prop} {s:Shared}
theorem z6l {l b:Addr} {its its2:List Value} {n:Nat} {Q:Value→Shared→Prop} (hl:s.heap.get? l=some { cls := .type "list",data := .seq its.toArray n }) (hb:IsTup s.heap b its2.toArray) (hz:its.length+its2.length≤sizeLine)
    (h:Q .none { s with heap:=s.heap.update l (Obj.mapSeq (· ++ its2.toArray)) }):wpAny (model prog w) A (call (.builtin "list.extend") [.ref l, .ref b]) Q E s:=by
  obtain ⟨o,ho,hc,m,hd⟩:=hb
  have hlong:¬ (!its.toArray.isEmpty && Builtin.List.listTooLong (its.toArray.size+its2.toArray.size))=true:=by
    rw [notLongL (by rw [List.size_toArray,List.size_toArray];exact hz),Bool.and_false]
    exact Bool.false_ne_true
  refine wpAny_call_entry PySem.F.slot_list_extend ⟨_,hl,rfl⟩ PySem.F.entry_list_extend ?_ (PySem.F.args_list_extend_2 _ _)
  unfold Builtin.«list.extend»
  refine wpAny_bind (m:=selfAndOne "list.extend" ⟨[.ref l, .ref b],[]⟩) (wpAny_pure ?_)
  dsimp only
  unfold Builtin.List.listExtendWith
  refine wpAny_bind (wpAny_typeOf (T:="tuple") ⟨o,ho,hc⟩ ?_)
  have ht:(Value.type "tuple" == Value.type "tuple")=true:=by rfl
  rw [if_pos (by rw [ht];simp)]
  refine wpAny_bind (listItems_at ho hd ?_)
  refine wpAny_bind (listItems_at hl rfl ?_)
  rw [if_neg hlong]
  refine wpAny_bind (listUpdate_at hl rfl ?_ (by rw [List.size_toArray];lia) (by rw [Array.size_append,List.size_toArray,List.size_toArray];lia))
  exact wpAny_pure ⟨_,rfl,h⟩
end
section
variable {X:Cx} {a b c e:Expr} {es:List Expr} {φ ψ χ:FE} {pos:Pos}
@[simp] noncomputable def ziq:GM:=fun x ds μ=>match x,ds with
  | .loc n,[.tup ys]=>match μ[n]? with
    | some (.lst xs)=>bif decide (xs.length+ys.length≤1000000) then some (.non,μ.set n (.lst (xs++ys))) else none
    | _=>none
  | .loc n,[.loc m]=>match μ[n]?,μ[m]? with
    | some (.lst xs),some (.lst ys)=>bif decide (xs.length+ys.length≤1000000) then some (.non,μ.set n (.lst (xs++ys))) else none
    | _,_=>none
  | _,_=>none
theorem zOm:MtG X "list.extend" ziq:=by
  refine MtG.of fun pins s σ H x xs v us Q I rx rs ρ dx ds μ d μ' r1 r2 R e k=>?_
  have hmi:=million
  unfold ziq at e
  split at e
  · split at e
    · rename_i hm
      obtain ⟨h1,e⟩:=zL e
      have h1:=of_decide_eq_true h1
      cases e
      obtain ⟨l,rfl,ea⟩:=r1.loc_inv
      obtain ⟨vs,e3,q3⟩:=R.at_ _ _ _ ea hm
      obtain ⟨w,r,rfl,q1,q2⟩:=r2.cons_inv
      rw [q2.nil_inv] at rs
      obtain ⟨b,ws,rfl,eb,qb⟩:=q1.tup_inv
      obtain ⟨u,rfl,ru⟩:=vals1 rs
      cases ru
      cases rx
      obtain ⟨z,its,n,rv,hl,el⟩:=I.lstM e3
      obtain ⟨its2,rv2,pt,_⟩:=I.tuple (SqT.of (K:=X.K) eb)
      have hl1:=q3.length
      have hl2:=qb.length
      have hl3:=rv2.length
      have hmu:Mut (H l):=by rw [e3];trivial
      refine z6l el pt (by first|decide|lia) ?_
      refine ⟨.non,_,I.lset (t':=s.toks) (ys:=vs++ws) (its':=its++its2) e3 el (by simp) (rv.append rv2) (by rw [List.length_append];lia),rfl,?_⟩
      exact k ρ _ _ (Ext.wr hmu) (R.wr hmu ea ⟨_,zo,RepVs.ext (Ext.wr hmu) (q3.append qb)⟩) .non
    · cases e
  · split at e
    · rename_i hm1 hm2
      obtain ⟨h1,e⟩:=zL e
      have h1:=of_decide_eq_true h1
      cases e
      obtain ⟨l,rfl,ea⟩:=r1.loc_inv
      obtain ⟨vs,e3,q3⟩:=R.at_ _ _ _ ea hm1
      obtain ⟨w,r,rfl,q1,q2⟩:=r2.cons_inv
      rw [q2.nil_inv] at rs
      obtain ⟨b,rfl,eb⟩:=q1.loc_inv
      obtain ⟨ws,e4,q4⟩:=R.at_ _ _ _ eb hm2
      have hl1:=q3.length
      have hl2:=q4.length
      have hmu:Mut (H l):=by rw [e3];trivial
      refine zon pins s σ H _ _ v us Q I rx rs ⟨l,b,vs,ws,rfl,rfl,e3,e4,by first|decide|lia,?_⟩
      exact k ρ _ _ (Ext.wr hmu) (R.wr hmu ea ⟨_,zo,RepVs.ext (Ext.wr hmu) (q3.append q4)⟩) .non
    · cases e
  · cases e
theorem zwj {o:Expr} {ψ:FA} {apos:Pos} (ho:ME X o φ) (ha:MAn X (e :: es) ψ)
    (hbase:attributeBase o "extend" X.env (eval o X.env)=eval o X.env:=by rfl)
    (hfew:((backTo pos (starEach (e :: es) X.env)).all (fun x=>!x.1) && (backToKw pos (keywordEach [] X.env)).all (fun x=>x.1.isSome)
      && decide ((e :: es).length+([]:List Keyword).length+(if ([]:List Keyword).isEmpty then 0 else 1)<30))=true:=by rfl)
    (hline:(apos.endLine == pos.line)=true:=by rfl) (hs:starEach (e :: es) X.env=(false,eval e X.env) :: starEach es X.env:=by rfl) (hplain:(backTo pos (starEach es X.env)).any (·.1)=false:=by rfl) :
    ME X (.Call (.Attribute o "extend" apos) (e :: es) [] pos) (zYd ziq φ ψ):=zPf PySem.F.slot_list_extend PySem.F.type_list_extend zOm ho ha hbase hfew hline hs hplain
@[simp] noncomputable def zJs:GL:=fun ds μ=>match ds with
  | [.loc n]=>match μ[n]? with
    | some (.lst xs)=>(zuf xs).bind fun ns=>some (.int ns.sum,μ)
    | _=>none
  | _=>none
theorem zxj (ns:List Int):∀ i,i≤ns.length→preSum (fun j=>ns.getD j 0) i=(ns.take i).sum
  | 0,_=>by simp [preSum]
  | i+1,h=>by
    have ih:=zxj ns i (by first|decide|lia)
    unfold preSum
    have hi:i<ns.length:=by lia
    have e:ns.take (i+1)=ns.take i ++ [ns[i]]:=by simp
    rw [ih,e,List.sum_append]
    simp [hi]
theorem zGn (hc:X.calm=true):CallM X (.builtin "sum") zJs:=by
  refine CallM.of fun pins s σ H xs us Q I r ρ ds μ d μ' r1 R e k=>?_
  unfold zJs at e
  split at e
  · split at e
    · rename_i hm
      obtain ⟨ns,e2,e⟩:=zf e
      cases e
      rw [zLc e2] at hm
      obtain ⟨v,rr,rfl,q1,q2⟩:=r1.cons_inv
      obtain ⟨a,rfl,ea⟩:=q1.loc_inv
      obtain ⟨vs,e3,q3⟩:=R.at_ _ _ _ ea hm
      rw [zqe q3] at e3
      rw [q2.nil_inv] at r
      obtain ⟨u,rfl,ru⟩:=vals1 r
      cases ru
      obtain ⟨its,rv,pl,hz⟩:=I.list (SqL.of (K:=X.K) e3)
      have hlt:a<s.heap.objs.size:=by obtain ⟨_,_,e,_⟩:=pl;exact Heap.lt_size e
      have hI:=zDe rv
      have hl:its.length=ns.length:=by rw [← rv.length];simp
      refine call_sum_walkAnyS (wpAny_pyIter_list pl.isList ?_)
      refine ⟨_,_,_,_,_,_,_,fun j=>ns.getD j 0,rfl,(Walks.list (A:=X.A.in1) (I.ok.hd hc) s.heap.objs.size a (Nat.ne_of_lt hlt) its.toArray).toS,⟨⟨_,Heap.get?_push_size _ rfl,rfl,rfl⟩,pl.isList.push _⟩,fun b hb=>?_,fun i v hv=>IntsAre.int_at hI i v (by simpa using hv),fun s' t' hmv=>?_⟩
      · show b<(s.heap.push _).objs.size
        rw [Heap.size_push]
        simp at hb
        rcases hb with rfl | rfl
        · exact Nat.lt_succ_self _
        · exact Nat.lt_succ_of_lt hlt
      · refine ⟨.int _,H,zvp I hmv.os hmv.gens fun b o e=>hmv.heap b o (by simpa using Nat.ne_of_lt (Heap.lt_size e)) (Heap.get?_push_of_some _ e),⟨t',rfl⟩,?_⟩
        rw [List.size_toArray,hl,zxj ns _ (Nat.le_refl _),List.take_length]
        exact k ρ H _ Ext.refl R .int
    · cases e
  · cases e
@[simp] noncomputable def zLg (φ:FE):FI:=fun δ μ=>(φ δ μ).bind fun p=>match p.1 with
  | .tup ds=>some (ds,yes,p.2)
  | .fz ds=>some (ds,yes,p.2)
  | .loc n=>match p.2[n]? with
    | some (.lst ds)=>some (ds,zHh n ds,p.2)
    | _=>none
  | _=>none
theorem zVc {tg:Expr} (h:ME X a φ):MI X tg a (zLg φ):=by
  intro pins s σ H R I hh
  obtain ⟨ρ,δ,μ,ds,ok,μ',A,e,k⟩:=hh
  cases e1:φ δ μ with
  | none=>unfold zLg at e;rw [e1] at e;cases e
  | some p =>
    obtain ⟨x,μ1⟩:=p
    cases x with
    | tup zs=>exact zCr h pins s σ H R I ⟨ρ,δ,μ,ds,ok,μ',A,by unfold zLg at e;unfold zJp;rw [e1] at e ⊢;exact e,k⟩
    | fz zs=>exact zko h pins s σ H R I ⟨ρ,δ,μ,ds,ok,μ',A,by unfold zLg at e;unfold z0m;rw [e1] at e ⊢;exact e,k⟩
    | loc n=>exact zko h pins s σ H R I ⟨ρ,δ,μ,ds,ok,μ',A,by unfold zLg at e;unfold z0m;rw [e1] at e ⊢;exact e,k⟩
    | _=>unfold zLg at e;rw [e1] at e;cases e
end
end M
set_option Elab.async false
set_option linter.all false
set_option maxRecDepth 100000
set_option autoImplicit false
namespace M
open PySem PySem.Spec PyProof.Rows L2
theorem zOn {K:PySem.W.Frag} {h:Heap} {C:Addr} {bmB:List Value} {newId:String} (X:K.In h) (q:PySem.W.excIn K C bmB newId=true) :
    ∃ bm N nm qn bs hdct sn sub ab col dd k0 k1 k2 k3 k5 mN,h.get? C=some (excClassObj nm qn C N bs bm hdct sn sub ab col dd k0 k1 k2 k3 k5 newId)∧h.Ns N mN∧mN "__init__" = none∧OwnTail h bmB bm:=by
  unfold PySem.W.excIn at q
  split at q
  · rename_i dd cd sl ho
    split at q
    · rename_i C' bm k0 k1 k2 k3 n k5 hm hs
      simp only [Bool.and_eq_true,beq_iff_eq,Bool.not_eq_true'] at q
      obtain ⟨⟨⟨⟨⟨rfl,rfl⟩,hdel⟩,ht⟩,hok⟩,hni⟩:=q
      obtain ⟨nm,bs,mro,ns,qn,hd,sn,sub,ab,col,del⟩:=cd
      dsimp only at hm hdel hok hni
      subst hm hdel
      have hsl:sl = #[k0,k1,k2,k3,some (.builtin n),k5]:=by
        obtain ⟨l⟩:=sl
        simp only at hs
        rw [hs]
      subst hsl
      exact ⟨bm,ns,nm,qn,bs,hd,sn,sub,ab,col,dd,k0,k1,k2,k3,k5,_,X _ _ ho, .of_isNs (PySem.W.isNs_of_in X hok),PySem.W.nsMap_none_of_in X hok hni,PySem.W.tail_of_in X ht⟩
    · cases q
  · cases q
section
variable {X:Cx} {e:Expr} {es:List Expr} {pos np cpos:Pos} {x:Str} {C:Addr} {B newId initId:String} {bmB:List Value}
end
inductive RO where
  | ok (d:D) (μ:Mem)
  | exc (c:Str) (fs:List (Str×D)) (μ:Mem)
noncomputable abbrev FX:=List D→Mem→Option RO
noncomputable def ROk (K:PySem.W.Frag) (ρ:List Addr) (H:Hp) (Q:VK) (E:XK):RO→Prop
  | .ok d μ'=>∀ ρ' H' v,Ext ρ H ρ' H'→RepH K ρ' H' μ'→RepV K ρ' H' d v→Q v H'
  | .exc c fs μ'=>∀ ρ' H' C dx,PySem.W.nsIn K mainGlobals c=some (some (.ref C))→Ext ρ H ρ' H'→RepH K ρ' H' μ'→RepX K ρ' H' fs dx→E (.ref C) dx H'
theorem ROk.ext {K:PySem.W.Frag} {ρ ρ1:List Addr} {H H1:Hp} {Q:VK} {E:XK} {r:RO} (h:ROk K ρ H Q E r) (x:Ext ρ H ρ1 H1):ROk K ρ1 H1 Q E r:=by
  cases r with
  | ok d μ=>exact fun ρ' H' v x' R r=>h ρ' H' v (x.trans x') R r
  | exc c fs μ=>exact fun ρ' H' C dx hc x' R r=>h ρ' H' C dx hc (x.trans x') R r
noncomputable def spX (K:PySem.W.Frag) (n:Nat) (F:FX):Sp:=fun vs H Q E=>vs.length=n∧∃ ρ ds μ r,RepVs K ρ H ds vs∧RepH K ρ H μ∧F ds μ = some r∧ROk K ρ H Q E r
@[simp] noncomputable def zft:Option Out→Option RO
  | some (.ret d μ)=>some (.ok d μ)
  | some (.next _ μ)=>some (.ok .non μ)
  | some (.exc c fs μ)=>some (.exc c fs μ)
  | _=>none
theorem fnX {P:Program} {w:World} {K:PySem.W.Frag} {mg:Str→Option Value} {base:Heap} {x qual:Str} {st:Stmt} {f:Addr} {fd:FuncData} {N ps:List Str} {k n:Nat} {F:FX} (G:Fun K x qual st f fd) (S:FnScope N ps (zi st)) (hn:ps.length=n)
    (hbody:∀ (cdv:Value) (A:Around) (outer:List Env) (s:Shared) (H:Hp) (E:XK),Room k (A.deeper (envOfC qual (zi st) s.heap.objs.size f cdv)) →
      ∃ p,MSs (zen (CXq P w) P w K mg base N qual (zi st) f cdv A outer s H E) (zD st) p∧∀ ds μ r,ds.length=n→F ds μ = some r→zft (p (zP N ds) μ)=some r) :
    FnOk P w K mg base (CXq P w) (k+1) f fd ps (spX K n F):=by
  obtain ⟨oc,od,kV,doc,pm,an,cdv,ct,osl,rfl,lk,hcd⟩:=G.ex
  refine zKs lk hcd S (fun vs H Q E h=>by rw [hn];exact h.1) fun A outer s H vs Q E hr h=>?_
  obtain ⟨p,hp,hF⟩:=hbody cdv A outer s H E hr
  refine ⟨_,hp,?_⟩
  obtain ⟨hl,ρ,ds,μ,r,rv,R,e,hk⟩:=h
  have e':=hF ds μ r (by rw [rv.length];exact hl) e
  cases eo:p (zP N ds) μ with
  | none=>rw [eo] at e';cases e'
  | some o =>
    rw [eo] at e'
    refine ⟨ρ,zP N ds,μ,o,zsl rv R,eo,?_⟩
    cases o with
    | ret d2 μ2=>cases e';exact fun ρ' v H' x' R' r'=>hk ρ' H' v x' R' r'
    | next δ2 μ2=>cases e';exact fun ρ' σ' H' x' A'=>hk ρ' H' .non x' A'.hp .non
    | exc c fs μ2=>cases e';exact fun ρ' H' C dx hc x' R' r'=>zJm (hk ρ' H' C dx hc x' R' r')
    | brk _ _=>cases e'
    | cont _ _=>cases e'
section
variable {X:Cx} {e:Expr} {es:List Expr} {pos p spos:Pos} {x:Str} {k j n:Nat} {st:Stmt} {f:Addr} {fd:FuncData} {ps:List Str} {F:FX} {φ:FA}
noncomputable def tCX (K:PySem.W.Frag) (W:XK) (n:Nat) (F:FX) (φ:FA):TE:=zps (spX K n F) [] W (tMA K φ)
theorem zvr {K:PySem.W.Frag} {W:XK} {ρ:List Addr} {δ:Loc} {μ:Mem} {σ:L2.St} {H:Hp} {Q:VK} {ds:List D} {μ1:Mem} {r:RO} (A:At K ρ H σ δ μ) (e1:φ δ μ = some (ds,μ1)) (hl:ds.length=n) (e2:F ds μ1=some r) (h:ROk K ρ H Q W r):tCX K W n F φ σ H Q :=
  ⟨ρ,δ,μ,ds,μ1,A,e1,fun ρ1 H1 vs x1 R1 r1=>by
    show spX K n F (vs ++ []) H1 Q W
    rw [List.append_nil]
    exact ⟨by rw [← r1.length];exact hl,ρ1,ds,μ1,r,r1,R1,e2,h.ext x1⟩⟩
@[simp] noncomputable def znr (F:FX) (φ:FA) (g:D→Loc→Mem→Out):FS:=fun δ μ=>(φ δ μ).bind fun p=>match F p.1 p.2 with
  | some (.ok d μ')=>some (g d δ μ')
  | some (.exc c fs μ')=>some (.exc c fs μ')
  | none=>none
theorem zMo {g:D→Loc→Mem→Out} {δ:Loc} {μ:Mem} {o:Out} (h:znr F φ g δ μ = some o):∃ ds μ1 r,φ δ μ = some (ds,μ1)∧F ds μ1=some r∧o=match r with
    | .ok d μ'=>g d δ μ'
    | .exc c fs μ' => .exc c fs μ':=by
  obtain ⟨⟨ds,μ1⟩,e1,h⟩:=zf h
  refine ⟨ds,μ1,?_⟩
  cases e2:F ds μ1 with
  | none=>rw [e2] at h;cases h
  | some r =>
    rw [e2] at h
    cases r with
    | ok d μ'=>cases h;exact ⟨_,e1,rfl,rfl⟩
    | exc c fs μ'=>cases h;exact ⟨_,e1,rfl,rfl⟩
@[simp] noncomputable def z5k (i:Nat) (F:FX) (φ:FA):FS:=znr F φ fun d δ μ => .next (δ.set i (some d)) μ
end
end M
set_option Elab.async false
set_option linter.all false
set_option maxRecDepth 100000
set_option autoImplicit false
namespace L2
open PySem PySem.Spec PyProof.Rows
section
variable {X:Cx} {pins:List (Addr×Obj)} {σ:St} {H:Hp} {s:Shared}
noncomputable abbrev Cx.suite (X:Cx) (v:Value):Cx:={ X with A:=X.A.mark (some v),calm:=false,xe:=fun _ _=>False }
theorem Inv.suite (I:Inv X pins σ H s) (v:Value):Inv (X.suite v) pins σ H s :=
  ⟨⟨I.ok.mod,I.ok.kind,I.ok.glob,I.ok.blt,I.ok.above,I.ok.inj,I.ok.has,I.ok.cab,fun z=>absurd z (by simp),I.ok.frames,I.ok.stk,I.ok.exf,I.ok.bs,I.ok.bsz,I.ok.noex,I.ok.exfs,I.ok.funs,I.ok.frf⟩,
    I.os,I.bare,I.base,I.loc,I.cell,I.free,I.freeC,I.pin,I.hok,I.len⟩
theorem Inv.unsuite {v:Value} (ok:X.Ok) (I:Inv (X.suite v) pins σ H s):Inv X pins σ H s :=
  ⟨ok,I.os,I.bare,I.base,I.loc,I.cell,I.free,I.freeC,I.pin,I.hok,I.len⟩
end
end L2
set_option Elab.async false
set_option linter.all false
set_option maxRecDepth 100000
set_option autoImplicit false
namespace L2
open PySem PySem.Spec PyProof.Rows
section
variable {M:Model} {A:Around} {E:Value→Shared→Prop} {h:Heap} {g:Array GenState} {d:Drawn} {t:Nat} {os:OsState}
theorem zGh {nm q:Str} {C N:Addr} {bs bm:List Value} {hdct:Bool} {sn:List Str} {sub:List Value} {ab:Bool} {col:Option Bool} {dd:Option Addr} {k0 k1 k2 k3 k5:Option Value} {newId:String}
    {nm' q':Str} {C' N':Addr} {bs' bm':List Value} {hdct':Bool} {sn':List Str} {sub':List Value} {ab':Bool} {col':Option Bool} {dd':Option Addr} {k0' k1' k2' k3' k5':Option Value} {newId':String} {e:Addr} {oe:Obj} {b:Bool} {Q:Bool→Shared→Prop}
    (hC:h.get? C=some (excClassObj nm q C N bs bm hdct sn sub ab col dd k0 k1 k2 k3 k5 newId)) (hC':h.get? C'=some (excClassObj nm' q' C' N' bs' bm' hdct' sn' sub' ab' col' dd' k0' k1' k2' k3' k5' newId'))
    (he:h.get? e=some oe) (hcls:oe.cls = .ref C) (hbase:bm'.contains (.type "BaseException")=true) (hb:(Value.ref C :: bm).contains (.ref C')=b) (hq:Q b ⟨h,g,d,t,os⟩):wpAny M A (excMatches (.ref e) (.ref C')) Q E ⟨h,g,d,t,os⟩:=by
  have hcB:(Value.ref C' :: bm').contains (.type "BaseException")=true:=by rw [List.contains_cons,hbase,Bool.or_true]
  have f:=tc_notTuple
  unfold excMatches
  cases b with
  | true =>
    repeat (first | (with_reducible refine wpAny_loadPart_at he ?_;rw [hcls]) | with_reducible refine wpAny_loadPart_at hC' ?_ | (with_reducible refine wpAny_isSubtype_exc hC' ?_;rw [hcB]) | (with_reducible refine wpAny_isSubtype_exc hC ?_;rw [hb]) | wp_step)
    exact hq
  | false =>
    repeat (first | (with_reducible refine wpAny_loadPart_at he ?_;rw [hcls]) | with_reducible refine wpAny_loadPart_at hC' ?_ | (with_reducible refine wpAny_isSubtype_exc hC' ?_;rw [hcB]) | (with_reducible refine wpAny_isSubtype_exc hC ?_;rw [hb]) | wp_step)
    exact hq
end
theorem zHq {K:PySem.W.Frag} {h:Heap} {C:Addr} {v:Value} {b:Bool} {nm q:Str} {N:Addr} {bs bm:List Value} {hdct:Bool} {sn:List Str} {sub:List Value} {ab:Bool} {col:Option Bool} {dd:Option Addr} {k0 k1 k2 k3 k5:Option Value} {newId:String} (X:K.In h) (e:PySem.W.mroIn K C v=some b)
    (hC:h.get? C=some (excClassObj nm q C N bs bm hdct sn sub ab col dd k0 k1 k2 k3 k5 newId)):(Value.ref C :: bm).contains v=b:=by
  obtain ⟨cd,a,z⟩:=Option.bind_eq_some_iff.mp e
  unfold PySem.W.clsIn at a
  split at a
  · rename_i ho
    cases a
    have:=X _ _ ho
    rw [hC] at this
    cases this
    split at z
    · cases z
    · cases z;rfl
  · cases a
end L2
set_option Elab.async false
set_option linter.all false
set_option maxRecDepth 100000
set_option autoImplicit false
namespace M
open PySem PySem.Spec PyProof.Rows L2
noncomputable def XP (X:Cx) (pins:List (Addr×Obj)) (σ:L2.St) (W:XK) (e:Value) (s':Shared):Prop:=∃ H1 s1 C dx H',Inv X pins σ H1 s1∧FlyX X.prog X.w X.stack H1 s1 C dx H' e s'∧W C dx H'
noncomputable def PX1 (X:Cx) (st:Stmt) (ψ:FS):Prop:=∀ (pins:List (Addr×Obj)) (s:Shared) (σ:L2.St) (H:Hp) (D:Ends) (W:XK),Inv X pins σ H s→tMS X.K W ψ D σ H→wpAny (model X.prog X.w) X.A (exec st X.env) (SP X pins D) (XP X pins σ W) s
noncomputable def PX (X:Cx) (sts:List Stmt) (ψ:FS):Prop:=∀ (pins:List (Addr×Obj)) (s:Shared) (σ:L2.St) (H:Hp) (D:Ends) (W:XK),Inv X pins σ H s→tMS X.K W ψ D σ H→wpAny (model X.prog X.w) X.A (execs sts X.env) (SP X pins D) (XP X pins σ W) s
section
variable {X:Cx} {c e:Expr} {es:List Expr} {pos p spos:Pos} {x:Str} {k j n:Nat} {st:Stmt} {f:Addr} {fd:FuncData} {ps:List Str} {F:FX} {φ:FA}
theorem zbs {ψ:FS} (h:PX1 X st ψ):PX X [st] ψ:=by
  intro pins s σ H D W I q
  refine wpAny_execs_cons (thn (h pins s σ H D W I q) fun f s1 q=>?_)
  cases f with
  | next=>exact wpAny_execs_nil q
  | ret v=>exact q
  | brk=>exact q
  | cont=>exact q
theorem z4t (B:FnAt X.K X.mg x st ps f fd) (G:FnOk X.prog X.w X.K X.mg X.base (CXq X.prog X.w) j f fd ps (spX X.K n F)) (hr:Room k X.A)
    (ha:MAn X.nox (e :: es) φ) (hj:j≤k) (hg:Gl X x) (hdb:(x == ("__debug__":Str))=false) (he:starEach (e :: es) X.env=(false,eval e X.env) :: starEach es X.env) (hpl:(backTo pos (starEach es X.env)).any (·.1)=false)
    {pins:List (Addr×Obj)} {s:Shared} {σ:L2.St} {H:Hp} {Q:VK} {W:XK} (I:Inv X pins σ H s) (h:tCX X.K W n F φ σ H Q):wpAny (model X.prog X.w) X.A (eval (.Call (.Name x p) (e :: es) [] pos) X.env) (EP X pins σ Q) (XP X pins σ W) s:=by
  refine wpAny_Call_Name_kw (zvh I hg B.at_ ?_ hdb)
  refine PySem.W.callWith_K (h₀:=X.base) I.ok.mod.kin B.fn.kp (wpAny_mono (ha.ma pos pins s σ H _ (I.wish _) h) (fun us s1 h1=>?_) fun _ _ z=>z.elim) he hpl
  obtain ⟨vs,H1,I1,r,q⟩:=h1
  have I1:=I1.unwish
  refine ⟨I1.kIn,?_⟩
  have r2:Vals (vs ++ []) (us ++ []):=r.append .nil
  have hl:(us ++ []).length=ps.length:=by rw [← r2.length];exact G.len _ _ _ _ q
  refine wpAny_call (codeAny_mono (G.run X.A X.stack s1 H1 ⟨us,[]⟩ (us ++ []) (vs ++ []) Q W (hr.mono hj) I1.env0 (B.bd s1 us I1.kIn hl) r2 q) fun rr s' hq=>?_)
  cases rr with
  | error ex =>
    obtain ⟨C,dx,H',Fl,hw⟩:=hq
    exact ⟨H1,s1,C,dx,H',I1,Fl,hw⟩
  | ok fl =>
    cases fl with
    | ret u=>exact I1.after hq
    | next=>exact False.elim hq
    | brk=>exact False.elim hq
    | cont=>exact False.elim hq
theorem zwr {y:Str} {py:Pos} (i:Nat) (B:FnAt X.K X.mg x st ps f fd) (G:FnOk X.prog X.w X.K X.mg X.base (CXq X.prog X.w) j f fd ps (spX X.K n F)) (hr:Room k X.A)
    (ha:MAn X.nox (e :: es) φ) (hj:j≤k:=by decide) (hn:(e :: es).length=n:=by rfl) (hN:X.N.Nodup:=by first | assumption | decide) (hi:X.N[i]?=some y:=by rfl) (hy:L2.Loc X.env.scope y:=by first | exact Or.inl rfl | exact Or.inr rfl) (hg:Gl X x:=by rfl) (hdb:(x == ("__debug__":Str))=false:=by decide)
    (he:starEach (e :: es) X.env=(false,eval e X.env) :: starEach es X.env:=by exact zYe rfl) (hpl:(backTo pos (starEach es X.env)).any (·.1)=false:=by rfl)
    (hs:swapsWith (.Call (.Name x p) (e :: es) [] pos) (some (.Name y py)) spos.line X.env=pure false:=by rfl) (hf:X.fn y=true∨X.env.scope.names.lookup y=some .local:=by first | exact .inl rfl | exact .inr rfl | assumption) :
    PX1 X (.Assign [.Name y py] (.Call (.Name x p) (e :: es) [] pos) spos) (z5k i F φ):=by
  intro pins s σ H D W I ⟨ρ,δ,μ,o,A,eo,kk⟩
  obtain ⟨ds,μ1,r,e1,e2,rfl⟩:=zMo eo
  refine wpAny_Assign_Name (thn (z4t B G hr ha hj hg hdb he hpl I (Q:=fun v H'=>D.nx (σ.set i (some v)) H') (zvr A e1 ((ha.len _ _ _ _ e1).trans hn) e2 ?_)) fun v s1 ⟨y,H1,I1,r1,q1⟩=>?_) hs
  · cases r with
    | ok d μ'=>exact fun ρ' H' v x' R r=>kk ρ' _ H' x' ((A.ext x' R).set r i)
    | exc c fs μ'=>exact kk
  · exact zEg I1 hN hi hy r1 (fun s2 I2=>⟨_,H1,I2,q1⟩) hf
end
noncomputable abbrev FH:=Str→List (Str×D)→FS
noncomputable def Cau (X:Cx) (pins:List (Addr×Obj)) (σ:L2.St) (C:Value) (dx:Option Addr) (H':Hp) (a:Addr) (s':Shared):Prop:=∃ H1 s1,Inv X pins σ H1 s1∧FlyX X.prog X.w X.stack H1 s1 C dx H' (.ref a) s'
theorem zbn {P:Program} {w:World} {outer:List Env} {H H':Hp} {s s':Shared} {C:Value} {dx:Option Addr} {a:Addr} {B base h2:Heap} (F:FlyX P w outer H s C dx H' (.ref a) s') (c:Cov outer H' s.heap B) (st:B.StaysIn s'.heap) (fl:Fly B outer a C dx h2) (sm:s'.heap.UpToSlots h2)
    (ff:s.heap.FunFrames base outer) (frf:∀ b∈frs outer,H b=none):FlyX P w outer H s C dx H' (.ref a) { s' with heap:=h2 } :=
  ⟨F.os,F.bare,zan F.un c st fl.st sm ff frf,zPl F.hok c st fl.st,a,B,rfl,fl,c⟩
noncomputable def MH (X:Cx) (hs:List ExceptHandler) (η:FH):Prop :=
  ∀ pins σ C c fs dx H' a s' ρ δ μ o D,Cau X pins σ (.ref C) dx H' a s'→PySem.W.nsIn X.K mainGlobals c=some (some (.ref C))→RepX X.K ρ H' fs dx→At X.K ρ H' σ δ μ→η c fs δ μ = some o→OutOk X.K (zYj X) ρ H' D o →
    wpAny (model X.prog X.w) X.A (handleBy (.ref a) X.env hs) (SP X pins D) X.xe s'
@[simp] noncomputable def zLr:FH:=fun _ _ _ _=>none
theorem zCq {X:Cx} {hs:List ExceptHandler}:MH X hs zLr:=fun _ _ _ _ _ _ _ _ _ _ _ _ _ _ _ _ _ _ e _=>by cases e
@[simp] noncomputable def zCo (p:FS) (η:FH):FS:=fun δ μ=>match p δ μ with
  | some (.exc c fs μ')=>η c fs δ μ'
  | o=>o
theorem zRr {X:Cx} {body:List Stmt} {h0:ExceptHandler} {hs:List ExceptHandler} {pos:Pos} {p:FS} {η:FH} (hb:PX X body p) (hh:MH X (h0 :: hs) η) (hst:X.stack=X.env :: X.outer:=by rfl) (hfm:X.env.frame=some X.env.locals:=by rfl):MS X (.Try body (h0 :: hs) [] [] pos) (zCo p η):=by
  intro pins s σ H D I ⟨ρ,δ,μ,o,A,eo,kk⟩
  have calm:∀ o',p δ μ = some o'→(∀ c fs μ',o'≠.exc c fs μ')→wpAny (model X.prog X.w) X.A (exec (.Try body (h0 :: hs) [] [] pos) X.env) (SP X pins D) X.xe s:=fun o' ep hne=>by
    have eo':o'=o:=by
      unfold zCo at eo
      rw [ep] at eo
      cases o' with
      | exc c fs μ'=>exact absurd rfl (hne c fs μ')
      | next _ _=>cases eo;rfl
      | ret _ _=>cases eo;rfl
      | brk _ _=>cases eo;rfl
      | cont _ _=>cases eo;rfl
    subst eo'
    refine wpAny_Try_except (wpAny_mono (hb pins s σ H D E0 I ⟨ρ,δ,μ,o',A,ep,?_⟩) (fun fl s1 q=>?_) fun e s1 ⟨_,_,_,_,_,_,_,z⟩=>z.elim)
    · cases o' with
      | exc c fs μ'=>exact absurd rfl (hne c fs μ')
      | next _ _=>exact kk
      | ret _ _=>exact kk
      | brk _ _=>exact kk
      | cont _ _=>exact kk
    · cases fl with
      | next=>exact wpAny_execs_nil q
      | ret v=>exact q
      | brk=>exact q
      | cont=>exact q
  cases ep:p δ μ with
  | none=>unfold zCo at eo;rw [ep] at eo;cases eo
  | some o' =>
    cases o' with
    | next _ _=>exact calm _ ep (by intros;simp)
    | ret _ _=>exact calm _ ep (by intros;simp)
    | brk _ _=>exact calm _ ep (by intros;simp)
    | cont _ _=>exact calm _ ep (by intros;simp)
    | exc c fs μ' =>
      have eo:η c fs δ μ'=some o:=by unfold zCo at eo;rw [ep] at eo;exact eo
      refine wpAny_Try_except (wpAny_mono (hb pins s σ H { nx:=fun _ _=>False,rt:=fun _ _=>False } (fun Cv dx H'=>∃ C ρ',Cv = .ref C∧PySem.W.nsIn X.K mainGlobals c=some (some (.ref C))∧Ext ρ H ρ' H'∧RepH X.K ρ' H' μ'∧RepX X.K ρ' H' fs dx) I
        ⟨ρ,δ,μ,_,A,ep,fun ρ' H' C dx hc x' R r=>⟨C,ρ',rfl,hc,x',R,r⟩⟩) (fun fl s1 q=>?_) fun e s1 q=>?_)
      · cases fl with
        | next=>obtain ⟨_,_,_,z⟩:=q;exact z.elim
        | ret v=>obtain ⟨_,_,_,_,_,z⟩:=q;exact z.elim
        | brk=>obtain ⟨_,_,_,z⟩:=q;exact z.elim
        | cont=>obtain ⟨_,_,_,z⟩:=q;exact z.elim
      · obtain ⟨H1,s2,Cv,dx,H',I1,F,C,ρ',rfl,hc,x',R,rX⟩:=q
        obtain ⟨a,B,rfl,fl,cov⟩:=F.fly
        have fl':Fly B (X.env :: X.outer) a (.ref C) dx s1.heap:=by rw [← hst];exact fl
        have hfr:X.A.frames=some (X.env :: X.outer):=by rw [← hst];exact I.ok.frames
        refine zTg hfr hfm fl' fun h2 fl2 sm2=>zSe (s:={ s1 with heap:=h2 }) fl2 fun h3 fl3 sm3=>?_
        rw [← hst] at fl3
        exact hh pins σ C c fs dx H' a { s1 with heap:=h3 } ρ' δ μ' o D ⟨H1,s2,I1,zbn (h2:=h3) F cov fl.st fl3 (sm2.trans sm3) I1.stack I1.stkFree⟩ hc rX (A.ext x' R) eo (kk.ext x')
@[simp] noncomputable def behind (i:Nat):Option Out→Option Out
  | some (.next δ μ)=>some (.next (δ.set i none) μ)
  | some (.ret d μ)=>some (.ret d μ)
  | some (.brk δ μ)=>some (.brk (δ.set i none) μ)
  | some (.cont δ μ)=>some (.cont (δ.set i none) μ)
  | _=>none
noncomputable def Subs (K:PySem.W.Frag) (D0:Addr) (tb:List (Str×Bool)):Prop:=∀ c b,tb.lookup c=some b→∀ C,PySem.W.nsIn K mainGlobals c=some (some (.ref C))→PySem.W.ktsIn K C "BaseException" = true∧PySem.W.mroIn K C (.ref D0)=some b
@[simp] noncomputable def zFh (tb:List (Str×Bool)) (q:FS) (η:FH):FH:=fun c fs δ μ=>match tb.lookup c with
  | some true=>(match q δ μ with
    | some (.exc _ _ _)=>none
    | o=>o)
  | some false=>η c fs δ μ
  | none=>none
theorem zoq {X:Cx} {d:Str} {D0:Addr} {b0:Stmt} {suite:List Stmt} {pos np:Pos} {rest:List ExceptHandler} {q:FS} {η:FH} (tb:List (Str×Bool)) (hd:PySem.W.nsIn X.K mainGlobals d=some (some (.ref D0))) (hk:PySem.W.ktsIn X.K D0 "BaseException" = true) (ht:Subs X.K D0 tb)
    (hq:∀ v,MSs (X.suite v) (b0 :: suite) q) (hr:MH X rest η) (hg:Gl X d:=by rfl) (hdb:(d == ("__debug__":Str))=false:=by decide) :
    MH X (.ExceptHandler (some (.Name d np)) none (b0 :: suite) pos :: rest) (zFh tb q η):=by
  intro pins σ C c fs dx H' a s' ρ δ μ o D hcau hc hX A eo kk
  obtain ⟨H1,s1,I1,F⟩:=hcau
  obtain ⟨a',B,ea,fl,cov⟩:=F.fly
  cases ea
  have J:Inv X pins σ H' s':=I1.fly F cov fl.st fl.st (.refl _)
  obtain ⟨oe,vs,y,he,hcl,hdx,hfd,h1,tr⟩:=fl.ob
  cases hb:tb.lookup c with
  | none=>unfold zFh at eo;rw [hb] at eo;cases eo
  | some b =>
    obtain ⟨kC,mC⟩:=ht c b hb C hc
    obtain ⟨nm,qn,N,bs,bm,hdct,sn,sub,ab,col,dd,k0,k1,k2,k3,k5,newId,hC,_,_⟩:=PySem.W.kts_cls J.kIn kC
    obtain ⟨nm',qn',N',bs',bm',hdct',sn',sub',ab',col',dd',k0',k1',k2',k3',k5',newId',hC',hbase',_⟩:=PySem.W.kts_cls J.kIn hk
    refine wpAny_handleBy_cons (codeAny_handlers_test (zvh (X:=X.suite (.ref a)) (J.suite (.ref a)) hg (PySem.W.mg_of J.mod.kin J.mod.glob hd) ?_ hdb)) (by intro z;cases z)
    obtain ⟨hh,g,dr,tk,os⟩:=s'
    refine zGh hC hC' he hcl hbase' (zHq J.kIn mC hC) ?_
    cases b with
    | false =>
      unfold zFh at eo
      rw [hb] at eo
      exact hr pins σ C c fs dx H' a _ ρ δ μ o D ⟨H1,s1,I1,F⟩ hc hX A eo kk
    | true =>
      unfold zFh at eo
      rw [hb] at eo
      refine codeAny_handlers_suite (zSe (s:=⟨hh,g,dr,tk,os⟩) fl fun h2 fl2 sm2=>?_)
      have J2:Inv X pins σ H' ⟨h2,g,dr,tk,os⟩:=I1.fly F cov fl.st fl2.st sm2
      cases eq:q δ μ with
      | none=>rw [eq] at eo;cases eo
      | some o' =>
        rw [eq] at eo
        refine wpAny_mono (hq (.ref a) pins _ σ H' D (J2.suite _) ⟨ρ,δ,μ,o',A,eq,?_⟩) (fun f4 s4 hs4=>?_) fun _ _ z=>z.elim
        · cases o' with
          | next δ' μ'=>cases eo;exact kk
          | brk δ' μ'=>cases eo;exact kk
          | cont δ' μ'=>cases eo;exact kk
          | ret d' μ'=>cases eo;exact kk
          | exc _ _ _=>cases eo
        · cases f4 with
          | next=>obtain ⟨σ4,H4,I4,z⟩:=hs4;exact ⟨σ4,H4,I4.unsuite J.ok,z⟩
          | brk=>obtain ⟨σ4,H4,I4,z⟩:=hs4;exact ⟨σ4,H4,I4.unsuite J.ok,z⟩
          | cont=>obtain ⟨σ4,H4,I4,z⟩:=hs4;exact ⟨σ4,H4,I4.unsuite J.ok,z⟩
          | ret u=>obtain ⟨v4,σ4,H4,I4,r4,z⟩:=hs4;exact ⟨v4,σ4,H4,I4.unsuite J.ok,r4,z⟩
end M
set_option Elab.async false
set_option linter.all false
set_option maxRecDepth 100000
set_option autoImplicit false
namespace PySem.W
open PySem PySem.Spec PySem.Calls PyProof.Rows
structure AskC (K:Frag) (C:Addr):Prop where
  cl:(clsIn K C).isSome=true
  ga:findIn K (.ref C) "__getattribute__" = some (some (.builtin "BaseException.__getattribute__"))
  gk:findIn K (.ref C) "__getattr__" = some none
  be:mroIn K C (.type "BaseException")=some true
  ha:findIn K (.ref C) "__class__" = some (some (.builtin "object.__class__"))
  hn:specialIn K (.builtin "object.__class__") "__get__" = some (some (.builtin "getset_descriptor.__get__"))
  tk:takesIn K (.builtin "object.__class__")=some true
  hm:mroIn K C (.type "object")=some true
section
variable {prog:Program} {w:World} {A:Around} {E:Value→Shared→Prop} {s:Shared} {K:Frag} {x D:Addr} {ox:Obj} {odo:Option Obj}
end
end PySem.W
namespace M
open PySem PySem.Spec PyProof.Rows L2
section
variable {X:Cx}
inductive CN where
  | own (c:Str)
  | ty (n:String)
  deriving DecidableEq
noncomputable abbrev Kit:=List ((Option Str×CN)×Bool)
noncomputable def zNt (K:PySem.W.Frag):CN→Value→Prop
  | .own d,v=>∃ a,PySem.W.nsIn K mainGlobals d=some (some (.ref a))∧v = .ref a
  | .ty n,v=>v = .type n
structure KitOk (K:PySem.W.Frag) (tb:Kit):Prop where
  non:∀ d b v,tb.lookup (none,d)=some b→zNt K d v→PySem.W.kitOne K (.type "NoneType") v=some b
  ask:∀ c d b,tb.lookup (some c,d)=some b→∀ C,PySem.W.nsIn K mainGlobals c=some (some (.ref C))→PySem.W.AskC K C
  exc:∀ c d b v,tb.lookup (some c,d)=some b→zNt K d v→∀ C,PySem.W.nsIn K mainGlobals c=some (some (.ref C))→PySem.W.kitOne K (.ref C) v=some b
end
section
variable {K:PySem.W.Frag} {D0:Addr} {tb:List (Str×Bool)} {kt:Kit}
theorem Subs.nil:Subs K D0 []:=fun c b h=>by cases h
theorem Subs.cons {c:Str} {C:Addr} {b:Bool} (hc:PySem.W.nsIn K mainGlobals c=some (some (.ref C))) (k:PySem.W.ktsIn K C "BaseException" = true) (m:PySem.W.mroIn K C (.ref D0)=some b) (r:Subs K D0 tb):Subs K D0 ((c,b) :: tb):=fun c' b' h C' hC'=>by
  unfold List.lookup at h
  split at h
  · rename_i e
    cases h
    rw [beq_iff_eq.mp e,hc] at hC'
    cases hC'
    exact ⟨k,m⟩
  · exact r c' b' h C' hC'
end
end M
set_option Elab.async false
set_option linter.all false
set_option maxRecDepth 100000
set_option autoImplicit false
namespace M
open PySem PySem.Spec PyProof.Rows L2
structure MSsl (X:Cx) (sts:List Stmt) (ψ:FS):Prop where
  h:MSs X sts ψ
end M
set_option Elab.async false
set_option linter.all false
set_option maxRecDepth 100000
set_option autoImplicit false
namespace PySem
open Sem (wp)
section
variable {prog:Program} {w:World} {A:Around} {E:Value→Shared→Prop} {h:Heap} {g:Array GenState} {d:Drawn} {t:Nat} {os:OsState}
variable {nm q:Str} {C N fI:Addr} {bs bm bmB:List Value} {hdct:Bool} {sn:List Str} {sub:List Value} {ab:Bool} {col:Option Bool} {dd:Option Addr} {k0 k1 k2 k3 k5:Option Value} {B newId initId:String}
noncomputable abbrev zHe (h:Heap) (C:Addr) (rest:List Value):Heap:=(h.push { cls := .type "tuple",data := .seq rest.toArray }).push { cls := .ref C,data := .fields #[.ref h.objs.size, .none, .none, .none, .bool false, .none] }
theorem z1e (F:ExcBaseFacts B newId initId bmB) (T:OwnTail h bmB bm) {rest:List Value} {Q:Fin→Shared→Prop}
    (hC:h.get? C=some (excClassObj nm q C N bs bm hdct sn sub ab col dd k0 k1 k2 k3 k5 newId)) (L:W.Looks (model prog w) h (typeLookup (.ref C) "__init__") (some (.ref fI))) (LB:∀ self,W.Looks (model prog w) h (bindSpecial (.ref fI) self) (.ref fI,[self]))
    (hq:wpAny (model prog w) A (call (.ref fI) (.ref (h.objs.size+1) :: rest)) (fun v s'=>v = .none∧Q (.done (.ret (.ref (h.objs.size+1)))) s') E ⟨zHe h C rest,g,d,t,os⟩) (hrest:rest.length≤sizeLine:=by size_fits) :
    wpAny (model prog w) A (Builtin.«type.__call__» ⟨.ref C :: rest,[]⟩) Q E ⟨h,g,d,t,os⟩:=by
  repeat (first | with_reducible refine wpAny_loadPart_at hC ?_ | with_reducible refine wpAny_madeBy_exc hC ?_ | wp_step)
  refine codeAny_call_builtin_code (Code.quiet_builtin _ F.quiet) (wpAny_check_new_subT F T hC ?_)
  refine codeAny_exc_new_subT F T hC ?_ hrest
  show wpAny _ _ _ _ _ _
  have k:∀ b o,h.get? b=some o→(zHe h C rest).get? b=some o:=fun b o e=>Heap.get?_push_of_some _ (Heap.get?_push_of_some _ e)
  have hC₁:=k _ _ hC
  have hget:(zHe h C rest).get? (h.objs.size+1)=some { cls := .ref C,data := .fields #[.ref h.objs.size, .none, .none, .none, .bool false, .none] }:=by heap_get
  have hcC:(Value.ref C :: bm).contains (.ref C)=true:=by simp
  have T₁:=T.keeps k
  unfold isInstance
  repeat (first | with_reducible refine wpAny_loadPart_at hget ?_ | (with_reducible refine wpAny_isSubtype_exc hC₁ ?_;rw [hcC]) | wp_step)
  show wpAny _ _ (typeLookup (.ref C) _) _ _ _
  refine L _ _ _ _ k ?_
  refine wpAny_holding (wpAny_bind (LB _ _ _ _ _ k ?_))
  refine wpAny_bind (wpAny_mono hq (fun v s' hv=>?_) fun _ _ x=>x)
  obtain ⟨rfl,hv⟩:=hv
  repeat wp_step
  exact hv
theorem zOi (F:ExcBaseFacts B newId initId bmB) (T:OwnTail h bmB bm) {rest:List Value} {Q:Value→Shared→Prop}
    (hC:h.get? C=some (excClassObj nm q C N bs bm hdct sn sub ab col dd k0 k1 k2 k3 k5 newId)) (L:W.Looks (model prog w) h (typeLookup (.ref C) "__init__") (some (.ref fI))) (LB:∀ self,W.Looks (model prog w) h (bindSpecial (.ref fI) self) (.ref fI,[self]))
    (hq:wpAny (model prog w) (A.under (.builtin "type.__call__" ⟨.ref C :: rest,[]⟩)) (call (.ref fI) (.ref (h.objs.size+1) :: rest)) (fun v s'=>v = .none∧Q (.ref (h.objs.size+1)) s') E ⟨zHe h C rest,g,d,t,os⟩) (hrest:rest.length≤sizeLine:=by size_fits) :
    wpAny (model prog w) A (call (.ref C) rest) Q E ⟨h,g,d,t,os⟩:=by
  have f1:=tc_lookup
  have f2:=tc_bind (.ref C)
  have hT:(⟨h,g,d,t,os⟩:Shared).TypeIs (.ref C) "type":=⟨_,hC,rfl⟩
  refine wpAny_call (codeAny_of_tree ?_)
  show wpAny _ _ (callAny (.ref C) _) _ _ _
  repeat (any_goals (first | assumption | with_reducible refine wpAny_loadPart_at hC ?_ | wp_step))
  refine ⟨rfl,?_⟩
  refine codeAny_call_builtin_at (Code.quiet_builtin _ (by decide +kernel)) entry_typeCall (wpAny_check_type_call_sub hC (z1e (hrest:=hrest) F T hC L LB ?_))
  exact hq
theorem zBd {M:Model} {s:Shared} {env:Env} {x:Sem Value} {Q:Flow→Shared→Prop} (hbase:bm.contains (.type "BaseException")=true) (hh:A.handled=none)
    (h:wpAny M A x (fun v s₁=>∃ e de te,v = .ref e∧s₁.heap.get? C=some (excClassObj nm q C N bs bm hdct sn sub ab col dd k0 k1 k2 k3 k5 newId)∧s₁.heap.get? e=some { cls := .ref C,dict:=de,data := .fields #[.ref te, .none, .none, .none, .bool false, .none] }∧E (.ref e) s₁) E s) :
    wpAny M A (raiseStmt env (some x) none) Q E s:=by
  have hcB:(Value.ref C :: bm).contains (.type "BaseException")=true:=by rw [List.contains_cons,hbase,Bool.or_true]
  unfold raiseStmt
  refine wpAny_bind (wpAny_mono h (fun v s₁ h₁=>?_) fun _ _ x=>x)
  obtain ⟨e,de,te,rfl,hC,he,hE⟩:=h₁
  obtain ⟨hp,g,d,tk,os⟩:=s₁
  repeat (first | with_reducible refine wpAny_loadPart_at he ?_ | with_reducible refine wpAny_loadPart_at hC ?_ | (with_reducible refine wpAny_isSubtype_exc hC ?_;rw [hcB]) | wp_step)
  exact wpAny_raiseNew_none hh hE
end
section
variable {prog:Program} {w:World} {A:Around} {E:Value→Shared→Prop} {s:Shared} {env:Env}
variable {nm q:Str} {C N fI:Addr} {bs bm bmB:List Value} {hdct:Bool} {sn:List Str} {sub:List Value} {ab:Bool} {col:Option Bool} {dd:Option Addr} {k0 k1 k2 k3 k5:Option Value} {B newId initId:String}
theorem z0g (F:ExcBaseFacts B newId initId bmB) {x:Str} {np cpos pos:Pos} {args:List Expr} {Q:Flow→Shared→Prop}
    (hbase:bm.contains (.type "BaseException")=true) (hh:A.handled=none) (hplain:(backTo cpos (starEach args env)).any (·.1)=false)
    (h:wpAny (model prog w) A (eval (.Name x np) env) (fun f s₁=>f = .ref C∧wpAny (model prog w) A (evalArgs (.ref C) true (backTo cpos (starEach args env)) [])
      (fun a s₂=>a.kw = []∧a.pos.length≤sizeLine∧s₂.heap.get? C=some (excClassObj nm q C N bs bm hdct sn sub ab col dd k0 k1 k2 k3 k5 newId)∧W.Looks (model prog w) s₂.heap (typeLookup (.ref C) "__init__") (some (.ref fI))∧OwnTail s₂.heap bmB bm∧(∀ self,W.Looks (model prog w) s₂.heap (bindSpecial (.ref fI) self) (.ref fI,[self])) ∧
        wpAny (model prog w) (A.under (.builtin "type.__call__" ⟨.ref C :: a.pos,[]⟩)) (call (.ref fI) (.ref (s₂.heap.objs.size+1) :: a.pos)) (fun v s₃=>v = .none∧s₃.heap.get? C=some (excClassObj nm q C N bs bm hdct sn sub ab col dd k0 k1 k2 k3 k5 newId) ∧
          (∃ de te,s₃.heap.get? (s₂.heap.objs.size+1)=some { cls := .ref C,dict:=de,data := .fields #[.ref te, .none, .none, .none, .bool false, .none] })∧E (.ref (s₂.heap.objs.size+1)) s₃) E { s₂ with heap:=zHe s₂.heap C a.pos }) E s₁) E s) :
    wpAny (model prog w) A (exec (.Raise (some (.Call (.Name x np) args [] cpos)) none pos) env) Q E s:=by
  rw [arm_exec_Raise]
  first
    | refine wpAny_bind (wpAny_standAt (zBd (C:=C) (nm:=nm) (q:=q) (N:=N) (bs:=bs) (bm:=bm) (hdct:=hdct) (sn:=sn) (sub:=sub) (ab:=ab) (col:=col) (dd:=dd) (k0:=k0) (k1:=k1) (k2:=k2) (k3:=k3) (k5:=k5) (newId:=newId) hbase hh (wpAny_bind (wpAny_mono (wpAny_Call_ofName (wpAny_mono h (fun f s₁ h₁=>?_) fun _ _ x=>x)) (fun v s₃ h₃=>wpAny_bind (wpAny_standAt (wpAny_pure h₃))) fun _ _ x=>x))))
    | (simp only [evalOpt,Option.map];refine wpAny_bind (wpAny_standAt (zBd (C:=C) (nm:=nm) (q:=q) (N:=N) (bs:=bs) (bm:=bm) (hdct:=hdct) (sn:=sn) (sub:=sub) (ab:=ab) (col:=col) (dd:=dd) (k0:=k0) (k1:=k1) (k2:=k2) (k3:=k3) (k5:=k5) (newId:=newId) hbase hh (wpAny_bind (wpAny_mono (wpAny_Call_ofName (wpAny_mono h (fun f s₁ h₁=>?_) fun _ _ x=>x)) (fun v s₃ h₃=>wpAny_bind (wpAny_standAt (wpAny_pure h₃))) fun _ _ x=>x)))))
    | (refine wpAny_bind (wpAny_standAt (zBd (C:=C) (nm:=nm) (q:=q) (N:=N) (bs:=bs) (bm:=bm) (hdct:=hdct) (sn:=sn) (sub:=sub) (ab:=ab) (col:=col) (dd:=dd) (k0:=k0) (k1:=k1) (k2:=k2) (k3:=k3) (k5:=k5) (newId:=newId) hbase hh ?_));refine wpAny_bind (wpAny_mono (wpAny_Call_ofName (wpAny_mono h (fun f s₁ h₁=>?_) fun _ _ x=>x)) (fun v s₃ h₃=>wpAny_bind (wpAny_standAt (wpAny_pure h₃))) fun _ _ x=>x))
  obtain ⟨rfl,h₁⟩:=h₁
  unfold callWith
  refine wpAny_bind (wpAny_holding (wpAny_mono h₁ (fun a s₂ h₂=>wpAny_bind (wpAny_standAt ?_)) fun _ _ x=>x))
  obtain ⟨apos,akw⟩:=a
  obtain ⟨hkw,hlen,hC,L,T,LB,h₂⟩:=h₂
  obtain rfl:akw = []:=hkw
  obtain ⟨hp,g,d,tk,os⟩:=s₂
  simp only [hplain]
  refine wpAny_bind (wpAny_keeperOf_exc hC ?_)
  refine wpAny_bind (zOi (hrest:=hlen) F T hC L LB ?_)
  refine wpAny_mono h₂ (fun v s₃ h₃=>?_) fun _ _ x=>x
  obtain ⟨rfl,hC3,⟨de,te,he⟩,hE⟩:=h₃
  exact ⟨rfl,wpAny_bind (wpAny_holding (wpAny_point (wpAny_pure ⟨_,de,te,rfl,hC3,he,hE⟩)))⟩
end
end PySem
set_option Elab.async false
set_option linter.all false
set_option maxRecDepth 100000
set_option autoImplicit false
namespace PySem
open Sem (wp)
section
variable {prog:Program} {w:World} {A:Around} {E:Value→Shared→Prop} {h:Heap} {g:Array GenState} {d:Drawn} {t:Nat} {os:OsState}
variable {nm q:Str} {C N:Addr} {bs bm bmB:List Value} {hdct:Bool} {sn:List Str} {sub:List Value} {ab:Bool} {col:Option Bool} {dd:Option Addr} {k0 k1 k2 k3 k5:Option Value} {B newId initId:String}
theorem zEn (F:ExcBaseFacts B newId initId bmB) (T:OwnTail h bmB bm) {e te:Addr} {de:Option Addr} {rest:List Value} {Q:Value→Shared→Prop}
    (hC:h.get? C=some (excClassObj nm q C N bs bm hdct sn sub ab col dd k0 k1 k2 k3 k5 newId)) (he:h.get? e=some { cls := .ref C,dict:=de,data := .fields #[.ref te, .none, .none, .none, .bool false, .none] })
    (hq:∀ h',(∀ b o,b≠e→h.get? b=some o→h'.get? b=some o)→h'.get? e=some { cls := .ref C,dict:=de,data := .fields #[.ref h.objs.size, .none, .none, .none, .bool false, .none] }→h.objs.size≤h'.objs.size→Q .none ⟨h',g,d,t,os⟩) (hrest:rest.length≤sizeLine:=by size_fits) :
    wpAny (model prog w) A (call (.builtin initId) (.ref e :: rest)) Q E ⟨h,g,d,t,os⟩:=by
  refine wpAny_call (codeAny_call_builtin F.init.plain F.initEntry (wpAny_check_init_subT F T hC he rfl ?_))
  wp_walk
  refine hq _ (fun b o hb eb=>?_) ?_ ?_
  · rw [Heap.get?_update_other _ _ (Ne.symm hb)]
    exact Heap.get?_push_of_some _ eb
  · rw [Heap.get?_update_self _ (Heap.get?_push_of_some _ he) rfl]
    rfl
  · simp
end
end PySem
set_option Elab.async false
set_option linter.all false
set_option maxRecDepth 100000
set_option autoImplicit false
namespace PySem.W
open PySem PySem.Spec PySem.Calls PyProof.Rows
open Builtin Builtin.ObjectAttr
noncomputable abbrev bmV:List Value:=[.type "ValueError", .type "Exception", .type "BaseException", .type "object"]
noncomputable def dropRefs:List Value→List Value
  | .ref _ :: r=>dropRefs r
  | l=>l
theorem zTm {v:Value} {r:List Value} (q:¬ ∃ c,v = .ref c):dropRefs (v :: r)=v :: r:=by
  unfold dropRefs
  split
  · rename_i z;cases z;exact absurd ⟨_,rfl⟩ q
  · rfl
theorem zpi (self:Value):∀ {l:List Value},dropRefs l=bmV→refuseLoop self "__setattr__" l=pure ()
  | [],h=>by cases h
  | v :: r,h=>by
    by_cases q:∃ c,v = .ref c
    · obtain ⟨c,rfl⟩:=q
      rw [refuseLoop_ref]
      exact zpi self (l:=r) h
    · rw [zTm q] at h
      rw [h]
      exact PySem.F.store_ValueError.passes self
theorem zBl:∀ {l:List Value},dropRefs l=bmV→l.contains (.type "object")=true∧l.isEmpty=false
  | [],h=>by cases h
  | v :: r,h=>by
    refine ⟨?_,rfl⟩
    by_cases q:∃ c,v = .ref c
    · obtain ⟨c,rfl⟩:=q
      rw [List.contains_cons,(zBl (l:=r) h).1,Bool.or_true]
    · rw [zTm q] at h
      rw [h]
      decide
section
variable {prog:Program} {w:World} {A:Around} {E:Value→Shared→Prop} {s:Shared} {K:Frag} {x C:Addr} {ox:Obj} {name:Str} {v:Value} {cd:ClassData}
theorem zbr {R:Result→Shared→Prop} {od:Option Obj} {tk:Tok} (X:K.In s.heap) (I:InstAt s.heap x ox C od) (hc:clsIn K C=some cd) (ho:dropRefs cd.mro=bmV) (ha:findIn K (.ref C) name=some none)
    (h:wpAny (model prog w) A.in1 (storeInOwnDict (.ref x) (.ref C) (.str name tk) name v false)
      (fun fin s'=>match fin with | .done f=>R (.ok f) s' | .again c'=>c'.quiet=true∧codeAny (model prog w) A c' R s') (fun e s'=>R (.error e) s') s) :
    codeAny (model prog w) A (.call (.builtin "object.__setattr__") ⟨[.ref x, .str name tk,v],[]⟩) R s:=by
  have SF:=PySem.F.store_object
  obtain ⟨h1,h2⟩:=zBl ho
  have sub:Looks (model prog w) s.heap (isInstance (.ref x) (.type "object")) true:=I.type.andThen (looks_mroIn X (by unfold mroIn;rw [hc,Option.bind_some,if_neg (by rw [h2];decide),h1]))
  refine codeAny_call_builtin SF.slot.plain SF.entry (@check_slot (model prog w) _ _ s "object.__setattr__" "object" "__setattr__" (.ref x) [.str name tk,v] [] _ SF.kind SF.split sub (SF.args (.ref x) (.str name tk) v) ?_)
  have hm:Looks (model prog w) s.heap (mroOf (.ref C)) cd.mro:=(looks_clsIn X hc).andThen .now
  rw [osa_eq,refuse_eq]
  refine wpAny_bind (wpAny_bind (I.type.here (wpAny_bind (hm.here ?_))))
  rw [zpi _ ho]
  refine wpAny_pure (wpAny_bind (I.type.here (wpAny_bind ((looks_findIn X ha).here (wpAny_bind (wpAny_pure (a:=none) ?_))))))
  exact h
theorem set_exc {Q:Unit→Shared→Prop} {vs:Array Value} (X:K.In s.heap) (I:InstAt s.heap x ox C none) (hdt:ox.data = .fields vs)
    (hs:findIn K (.ref C) "__setattr__" = some (some (.builtin "object.__setattr__"))) (hc:clsIn K C=some cd) (ho:dropRefs cd.mro=bmV) (hd:cd.hasDict=true) (ha:findIn K (.ref C) name=some none)
    (h:∀ (h':Heap) (p:Addr) (tk:Nat),h'.get? x=some { ox with dict:=some p }→h'.Ns1 p (fun y=>if y=name then some v else none)→s.heap.objs.size≤p→(∀ b o,b≠x→s.heap.get? b=some o→h'.get? b=some o)→Q () { s with heap:=h',toks:=tk }) :
    wpAny (model prog w) A (setAttr (.ref x) name v) Q E s:=by
  obtain ⟨hx,hcl,hno,hdd⟩:=id I
  obtain ⟨oc,odi,oda,osl⟩:=ox
  dsimp only at hcl hdt
  subst hcl hdt
  cases odi with
  | some dx=>exact hdd.elim
  | none =>
    refine set_plain X I hs (zbr (s:={ s with toks:=s.toks+1 }) X I hc ho ha ?_)
    refine wpAny_bind (wpAny_pure (wpAny_bind (wpAny_bind (wpAny_loadPart hx (wpAny_bind (Looks.here (s:={ s with toks:=s.toks+1 }) (looks_clsIn X hc) ?_))))))
    rw [hd]
    have hx₁:(s.heap.push { cls := .type "dict",data := .dict #[] }).get? x=some ⟨.ref C,none, .fields vs,osl⟩:=Heap.get?_push_of_some _ hx
    have hxs:x≠s.heap.objs.size:=Nat.ne_of_lt (Heap.lt_size hx)
    refine wpAny_bind (wpAny_alloc' ?_)
    refine wpAny_bind (wpAny_update' hx₁ ?_)
    refine wpAny_pure (a:=some s.heap.objs.size) ?_
    have hgd:((s.heap.push { cls := .type "dict",data := .dict #[] }).update x fun o=>{ cls:=o.cls,dict:=some s.heap.objs.size,data:=o.data,slots:=o.slots }).get? s.heap.objs.size
        = some { cls := .type "dict",data := .dict #[] } :=
      (Heap.get?_update_ne _ _ _ _ hxs.symm).trans (Heap.get?_push_at rfl rfl)
    have hnd:((s.heap.push { cls := .type "dict",data := .dict #[] }).update x fun o=>{ cls:=o.cls,dict:=some s.heap.objs.size,data:=o.data,slots:=o.slots }).Ns s.heap.objs.size (fun _=>none) :=
      ⟨_,#[],_,hgd,rfl,fun e he=>absurd he (by simp),fun _=>rfl⟩
    show wpAny _ _ (storeInDict s.heap.objs.size (.str name _) name v) _ _ _
    unfold storeInDict newKeyGuard
    refine wpAny_bind (wpAny_pure (wpAny_bind (wpAny_nsSet1 (Heap.Ns1.of_empty hnd) fun h' hn' hs'=>?_)))
    obtain ⟨oD,esD,epD,hoD,hdD,hcD⟩:=hn'.count (Within.cons name v Within.nil)
    refine wpAny_bind (wpAny_lookBehind hoD (by rw [hdD];exact pastItsLine_dict (Nat.le_trans hcD (by rw [List.length_cons,List.length_nil,sizeLine_eq];lia))) ?_)
    refine wpAny_pure ?_
    refine h h' s.heap.objs.size _ ?_ hn' (Nat.le_refl _) (fun b o hb q=>?_)
    · exact (hs'.2 x hxs).trans (Heap.get?_update_self _ hx₁ rfl)
    · exact (hs'.2 b (Nat.ne_of_lt (Heap.lt_size q))).trans ((Heap.get?_update_ne _ _ _ _ hb).trans (Heap.get?_push_of_some _ q))
variable {D:Addr} {odo:Option Obj}
end
end PySem.W
set_option Elab.async false
set_option linter.all false
set_option maxRecDepth 100000
set_option autoImplicit false
namespace L2
open PySem PySem.Spec PyProof.Rows
theorem z7r {H:Hp} {a:Addr} {o:HO} (h:H a=some o):upd H a o=H:=by
  funext b
  unfold upd
  split
  · rename_i e
    rw [e,h]
  · rfl
noncomputable def era (H:Hp) (e:Addr):Hp:=fun b=>if b=e then none else H b
theorem zsf {H:Hp} {e b:Addr} (h:b≠e):era H e b=H b:=by unfold era;rw [if_neg h]
theorem zug {H:Hp} {e:Addr}:era H e e=none:=by unfold era;rw [if_pos rfl]
section
variable {P:Program} {w:World} {fs ex:List Addr} {H H':Hp} {h h':Heap} {e:Addr} {φ:Heap→Prop}
theorem Un.era (u:Un fs ex H H' h h') (he:H e=none):Un fs ex H (era H' e) h h' where
  keep:=u.keep
  slot:=u.slot
  free:=fun b o q n hx=>by
    by_cases z:b=e
    · rw [z];exact zug
    · rw [zsf z];exact u.free b o q n hx
  there:=u.there
  tups:=fun b xs q=>by rw [zsf (zu q he)];exact u.tups b xs q
  frzs:=fun b o v q=>by rw [zsf (zu q he)];exact u.frzs b o v q
  tbls:=fun b ps q=>by rw [zsf (zu q he)];exact u.tbls b ps q
theorem HOk.era (k:HOk P w H h) (he:H e=some (.ext φ)):HOk P w (era H e) h:=fun b o q=>by
  by_cases z:b=e
  · rw [z,zug] at q;cases q
  · rw [zsf z] at q
    refine (k b o q).stay (fun _ _ _ r=>r) (fun c r=>?_) fun c xs r=>?_
    · rw [zsf fun y=>by rw [y,he] at r;cases r];exact r
    · rw [zsf fun y=>by rw [y,he] at r;cases r];exact r
end
end L2
namespace M
open PySem PySem.Spec PyProof.Rows L2
noncomputable def zlk (a C:Addr) (dx:Option Addr):Heap→Prop:=fun h=>∃ te,h.get? a=some { cls := .ref C,dict:=dx,data := .fields #[.ref te, .none, .none, .none, .bool false, .none] }
theorem zYk {P:Program} {w:World} {H:Hp} {h:Heap} {a C:Addr} {dx:Option Addr} (x:zlk a C dx h):ObjOk P w H h a (.ext (zlk a C dx)):=by
  obtain ⟨te,e⟩:=x
  exact ⟨⟨te,e⟩,⟨_,e⟩,fun h1 h2 ⟨t,q⟩ k=>⟨t,k _ q⟩⟩
structure ExcI (K:PySem.W.Frag) (C NE fI:Addr) (f:Str):Prop where
  ob:∃ nm q N bs sn sub ab col dd k0 k1 k2 k3 k5,K.lookup C=some (excClassObj nm q C N bs (.ref NE :: PySem.W.bmV) true sn sub ab col dd k0 k1 k2 k3 k5 "ValueError.__new__")
  ini:PySem.W.findIn K (.ref C) "__init__" = some (some (.ref fI))
  fn:PySem.W.typeIn K (.ref fI)=some (.type "function")
  ne:PySem.W.excIn K NE PySem.W.bmV "ValueError.__new__" = true
  sa:PySem.W.findIn K (.ref C) "__setattr__" = some (some (.builtin "object.__setattr__"))
  at_:PySem.W.findIn K (.ref C) f=some none
  gt:PySem.W.specialIn K (.ref NE) "__getattribute__" = some (some (.builtin "type.__getattribute__"))
  rd:PySem.W.readsIn K NE (.type "type")=true
  fc:PySem.W.findCls K (.ref NE) (.type "type") "__init__" = some (.val (.builtin "ValueError.__init__"))
theorem ExcI.tail {K:PySem.W.Frag} {C NE fI:Addr} {f:Str} (Z:ExcI K C NE fI f) {h:Heap} (X:K.In h):OwnTail h PySem.W.bmV (.ref NE :: PySem.W.bmV):=by
  obtain ⟨bm,N,nm,qn,bs,hdct,sn,sub,ab,col,dd,k0,k1,k2,k3,k5,mN,hC,hN,hni,T⟩:=zOn X Z.ne
  exact .own hC hN hni .base
section
variable {X:Cx} {v o value:Expr} {e:Expr} {es:List Expr} {tv ta:TE} {t:TA} {C NE fI:Addr} {f:Str} {np apos pos pos' p1 p2 p3 p4:Pos} {x1 x2:Str} {j1 j2:Nat}
theorem zDq (Z:ExcI X.K C NE fI f) (hm:X.mg "NestError" = some (.ref NE)) (ha:PA X (e :: es) t) {pl:Sem Bool} (hg:Gl X "NestError":=by rfl)
    (hst:starEach (e :: es) X.env=(false,eval e X.env) :: starEach es X.env:=by rfl) (hpl:(backTo pos (starEach es X.env)).any (·.1)=false:=by rfl)
    (ht:eval (.Call (.Attribute (.Name "NestError" np) "__init__" apos) (e :: es) [] pos) X.env=(do
      let ov ← eval (.Name "NestError" np) X.env
      standAt apos.atName
      let (f,first) ← holding [ov] (getMethod ov "__init__" pl)
      callWith pos f first (backTo pos (starEach (e :: es) X.env)) (backToKw pos (keywordEach [] X.env))):=by rfl) :
    PE X (.Call (.Attribute (.Name "NestError" np) "__init__" apos) (e :: es) [] pos) (fun σ H Q=>t σ H fun vs H1=>∃ a x,vs = [.ref a,x]∧H1 a=some (.ext (zlk a C none))∧Q .non H1):=by
  intro pins s σ H Q I h
  refine PySem.W.methodCall_KW (pl:=pl) (zvh I hg hm ?_ (by decide)) ht
  refine PySem.W.method_cls I.kIn Z.gt (PySem.W.cls_value I.kIn Z.rd Z.fc (by decide +kernel) ?_)
  refine PyProof.Rows.callWith_builtin1 (thn (ha pos pins _ σ H _ (I.tok _) h) fun us s1 ⟨vs,H1,I1,r1,a,x,ev,ea,q⟩=>?_) hst hpl
  subst ev
  obtain ⟨u1,u2,rfl,ra,rx⟩:=vals2 r1
  obtain rfl:u1=Value.ref a:=ra
  obtain ⟨⟨te,ho⟩,_,_⟩:=(show ObjOk X.prog X.w H1 s1.heap a (.ext (zlk a C none)) from I1.hok a _ ea)
  obtain ⟨nm,qn,N,bs,sn,sub,ab,col,dd,k0,k1,k2,k3,k5,lk⟩:=Z.ob
  have T:=Z.tail I1.kIn
  have hC:=I1.kIn _ _ lk
  obtain ⟨hp,g,d,tk,os⟩:=s1
  refine zEn PySem.F.excBase_ValueError T hC ho (fun h' keep he hsz=>?_) (show 1≤sizeLine by rw [sizeLine_eq];decide)
  refine ⟨.non,H1,?_,rfl,q⟩
  have J:=I1.write (x:=a) (e:=a) (o := .ext (zlk a C none)) (h':=h') (t':=tk) (by rw [ea];trivial) (.inl rfl) keep ⟨_,he⟩ (zYk ⟨_,he⟩)
  rwa [z7r ea] at J
theorem z2n (Z:ExcI X.K C NE fI f) (ho:PE X o ta) (hv:PE X value tv) (hs:swapsWith value (some (.Attribute o f pos')) pos.line X.env=pure false:=by rfl) :
    PS X (.Assign [.Attribute o f pos'] value pos) (fun D σ H=>tv σ H fun y H1=>ta σ H1 fun x H2=>∃ a,x = .ref a∧H2 a=some (.ext (zlk a C none))∧∀ p,H2 p=none→p≠a→D.nx σ (upd (upd H2 p (.xd [(f,y)])) a (.ext (zlk a C (some p))))):=by
  intro pins s σ H D I h
  refine plainObj_wpAny_Assign_Attribute (thn (hv pins s σ H _ I h) fun u s1 ⟨y,H1,I1,ry,q⟩=>thn (ho pins s1 σ H1 _ I1 q) fun ov s2 ⟨x,H2,I2,rx,a,ex,ea,q2⟩=>?_) hs
  subst ex
  obtain rfl:ov=Value.ref a:=rx
  obtain ⟨⟨te,hob⟩,_,_⟩:=(show ObjOk X.prog X.w H2 s2.heap a (.ext (zlk a C none)) from I2.hok a _ ea)
  obtain ⟨nm,qn,N,bs,sn,sub,ab,col,dd,k0,k1,k2,k3,k5,lk⟩:=Z.ob
  obtain ⟨cd,hc,hmro,hhd⟩:∃ cd,PySem.W.clsIn X.K C=some cd∧PySem.W.dropRefs cd.mro=PySem.W.bmV∧cd.hasDict=true:=by
    unfold PySem.W.clsIn
    rw [lk]
    exact ⟨_,rfl,rfl,rfl⟩
  refine PySem.W.set_exc I2.kIn ⟨hob,rfl,rfl,trivial⟩ rfl Z.sa hc hmro hhd Z.at_ fun h' p tk he hn hp keep=>⟨σ,_,?_,q2 p (I2.hok.fresh hp) ?_⟩
  · have hpn:H2 p=none:=I2.hok.fresh hp
    have hpa:p≠a:=fun z=>absurd (Nat.lt_of_lt_of_le (Heap.lt_size hob) (z▸hp)) (Nat.lt_irrefl _)
    have hpg:∀ b ob,s2.heap.get? b=some ob→b≠p:=fun b ob r z=>absurd (Nat.lt_of_lt_of_le (Heap.lt_size r) (z▸hp)) (Nat.lt_irrefl _)
    have hup:∀ b,b≠a→b≠p→upd (upd H2 p (.xd [(f,y)])) a (.ext (zlk a C (some p))) b=H2 b:=fun b n1 n2=>by rw [zA n1,zA n2]
    have ne_a:∀ b ob,H2 b=some ob→(∀ φ,ob≠.ext φ)→b≠a:=fun b ob r n z=>by rw [z,ea] at r;cases r;exact n _ rfl
    have ne_p:∀ b ob,H2 b=some ob→b≠p:=fun b ob r=>zu r hpn
    refine I2.un (t':=tk) ⟨?_,?_,?_,?_,?_,?_,?_⟩ ?_
    · exact fun b ob r n _ _=>keep b ob (fun z=>by rw [z,ea] at n;cases n) r
    · exact fun b ob r n _ _=>⟨ob.slots,keep b ob (fun z=>by rw [z,ea] at n;cases n) r⟩
    · exact fun b ob r n _=>by rw [hup b (fun z=>by rw [z,ea] at n;cases n) (hpg b ob r)];exact n
    · exact fun b ob r _=>by
        by_cases z:b=a
        · exact ⟨_,by rw [z];exact he⟩
        · exact ⟨_,keep b ob z r⟩
    · exact fun b xs r=>by rw [hup b (ne_a b _ r fun _ z=>by cases z) (ne_p b _ r)];exact r
    · exact fun b ob w r=>by rw [hup b (ne_a b _ r fun _ z=>by cases z) (ne_p b _ r)];exact r
    · exact fun b ps r=>⟨#[],by rw [hup b (ne_a b _ r fun _ z=>by cases z) (ne_p b _ r),Array.append_empty];exact r⟩
    · intro b ob r
      by_cases z:b=a
      · subst z
        rw [zo] at r
        cases r
        exact zYk ⟨te,he⟩
      · by_cases z2:b=p
        · subst z2
          rw [zA z,zo] at r
          cases r
          refine ⟨_,hn,fun g=>?_⟩
          by_cases zg:g=f
          · have hb:(g == f)=true:=beq_iff_eq.mpr zg
            simp only [List.lookup,hb,if_pos zg]
            exact ry
          · have hb:(g == f)=false:=beq_eq_false_iff_ne.mpr zg
            simp only [List.lookup,hb,if_neg zg]
            trivial
        · rw [hup b z z2] at r
          refine (I2.hok b ob r).stay (fun c w hc r'=>keep c w (fun z3=>?_) r') (fun c r'=>?_) fun c xs r'=>?_
          · subst z3
            rcases hc with hc | hc
            · exact z hc.symm
            · rw [ea] at hc;cases hc
          · rw [hup c (ne_a c _ r' fun _ z=>by cases z) (ne_p c _ r')];exact r'
          · rw [hup c (ne_a c _ r' fun _ z=>by cases z) (ne_p c _ r')];exact r'
  · exact fun z=>absurd (Nat.lt_of_lt_of_le (Heap.lt_size hob) (z▸hp)) (Nat.lt_irrefl _)
end
end M
set_option Elab.async false
set_option linter.all false
set_option maxRecDepth 100000
set_option autoImplicit false
namespace M
open PySem PySem.Spec PyProof.Rows L2
theorem zQn {n:Int} (h:n.natAbs<1000000):n.natAbs.log2<1920:=by
  by_cases z:n.natAbs=0
  · rw [z];decide
  · exact (Nat.log2_lt z).mpr (Nat.lt_of_lt_of_le h (Nat.le_trans (by decide:1000000≤2 ^ 20) (Nat.pow_le_pow_right (by decide) (by decide))))
section
variable {X:Cx} {x:Str} {e:Expr} {np cpos pos:Pos} {C NE fI:Addr} {f:Str} {k:Nat} {fd:FuncData} {ps:List Str} {φ:FA}
theorem flyI {pins:List (Addr×Obj)} {σ:L2.St} {H H2:Hp} {s s':Shared} {a p te:Addr} (I:Inv X pins σ H s) (I3:Inv X pins σ H2 s') (hos:s'.os=s.os) (un:Un (frs X.stack) [] H H2 s.heap s'.heap) (ha:s.heap.objs.size≤a) (h2:∃ φ,H2 a=some (.ext φ))
    (he:s'.heap.get? a=some { cls := .ref C,dict:=some p,data := .fields #[.ref te, .none, .none, .none, .bool false, .none] }):FlyX X.prog X.w X.stack H s (.ref C) (some p) (era H2 a) (.ref a) s':=by
  have hn:H a=none:=I.hok.fresh ha
  obtain ⟨φ,h2⟩:=h2
  have hin:∀ env∈X.stack,∀ b,env.frame=some b→b∈a :: frs X.stack:=fun env he b hb=>List.mem_cons_of_mem _ (List.mem_filterMap.mpr ⟨env,he,hb⟩)
  refine ⟨hos,I3.bare,un.era hn,I3.hok.era h2,a,PySem.W.hideAll s'.heap (a :: frs X.stack),rfl,⟨fun b o q=>PySem.W.of_hideAll _ q,PySem.W.hideAll_none _ List.mem_cons_self,PySem.W.funFrames_hide I3.stack hin,⟨_,_,_,he,rfl,rfl,rfl,rfl, .inl rfl⟩⟩,?_⟩
  refine ⟨fun b o q=>?_,fun b o q hb=>?_⟩
  · by_cases z:b=a
    · rw [z,zug] at q;cases q
    · rw [zsf z] at q
      obtain ⟨u,hu⟩:=(I3.hok b o q).there
      refine ⟨u,PySem.W.hideAll_get _ hu fun hm=>?_⟩
      rcases List.mem_cons.mp hm with hm | hm
      · exact z hm
      · rw [I3.stkFree b hm] at q;cases q
  · obtain ⟨u,hu⟩:=un.there b o q (by simp)
    refine ⟨u,PySem.W.hideAll_get _ hu fun hm=>?_⟩
    rcases List.mem_cons.mp hm with hm | hm
    · exact absurd (Nat.lt_of_lt_of_le (Heap.lt_size q) (hm▸ha)) (Nat.lt_irrefl _)
    · exact hb hm
end
structure AtC (K:PySem.W.Frag) (c f:Str):Prop where
  ok:∀ C,PySem.W.nsIn K mainGlobals c=some (some (.ref C))→PySem.W.AskC K C∧PySem.W.findIn K (.ref C) f=some none∧PySem.W.hasDictIn K C=true
end M
namespace M
open PySem PySem.Spec PyProof.Rows L2
noncomputable def zwt (s:Stmt):Stmt:=match s with
  | .ClassDef _ _ _ b _ _ _ _ _ _ _=>b.getD 0 (.Pass ⟨0,0,0,0⟩)
  | _ => .Pass ⟨0,0,0,0⟩
structure IniAt (K:PySem.W.Frag) (mg:Str→Option Value) (c f qual:Str) (st:Stmt) (ps:List Str) (C NE fI:Addr) (fd:FuncData):Prop where
  nm:PySem.W.nsIn K mainGlobals c=some (some (.ref C))
  ne:mg "NestError" = some (.ref NE)
  ex:ExcI K C NE fI f
  fn:Fun K "__init__" qual st fI fd
  bd:Binds K fd ps []
end M
set_option Elab.async false
set_option linter.all false
set_option maxRecDepth 100000
set_option autoImplicit false
namespace M
open PySem PySem.Spec PyProof.Rows L2
noncomputable def zKe (ns:List Int):Prop:=ns.length≤1000∧∀ n∈ns,n.natAbs<1000000
theorem zWh:∀ ns:List Int,(∀ n∈ns,n.natAbs<1000000)→PyData.showableAll (ns.map PyData.int)=true∧PyData.hasDictAll (ns.map PyData.int)=false∧PyData.depthAll (ns.map PyData.int)=0∧PyData.leavesShortAll 30 (ns.map PyData.int)=true∧PyData.bulkAll (ns.map PyData.int)=ns.length
  | [],_=>⟨rfl,rfl,rfl,rfl,rfl⟩
  | n :: ns,h=>by
    obtain ⟨h1,h2,h3,h4,h5⟩:=zWh ns fun m hm=>h m (List.mem_cons_of_mem _ hm)
    have hl:=zQn (h n List.mem_cons_self)
    have hl2:n.natAbs.log2<20:=by
      by_cases z:n.natAbs=0
      · rw [z];decide
      · exact (Nat.log2_lt z).mpr (Nat.lt_of_lt_of_le (h n List.mem_cons_self) (by decide))
    have ht:=int_text_length_le (k:=20) (by decide) hl2
    have hs:(PyData.shown (.int n)).length≤30:=by
      simp only [PyData.shown]
      rw [PySem.ofString_length]
      lia
    refine ⟨?_,?_,?_,?_,?_⟩
    · simp only [List.map_cons,PyData.showableAll,PyData.showable,decide_eq_true hl,h1,Bool.and_self]
    · simp only [List.map_cons,PyData.hasDictAll,PyData.hasDict,h2,Bool.or_self]
    · simp only [List.map_cons,PyData.depthAll,PyData.depth,h3,Nat.max_self]
    · simp only [List.map_cons,PyData.leavesShortAll,PyData.leavesShort,decide_eq_true hs,h4,Bool.and_self]
    · simp only [List.map_cons,PyData.bulkAll,PyData.bulk,h5,List.length_cons]
      lia
theorem z0h {h:Heap}:∀ {ns:List Int} {its:List Value},Vals (ns.map V.int) its→ReadsAll h its (ns.map PyData.int) []
  | [],_,r=>by cases r;exact .nil
  | n :: ns,_,r=>by
    cases r with
    | cons r1 r2 =>
      obtain ⟨t,rfl⟩:=(show ∃ t,_=Value.int n t from r1)
      exact .cons (as:=[]) (bs:=[]) (.int n t) (z0h r2)
section
variable {X:Cx} {v:Expr} {tv:TE} {p1 p2 p4:Pos} {x1:Str} {j1:Nat}
theorem zIo (hv:PE X v tv) (hg:X.A.guards=some []) (hu:X.A.units+64<cLine) (h1:x1.length≤1000:=by decide) :
    PE X (.JoinedStr [.Constant (.str x1) j1 p1, .FormattedValue v 114 none p2] p4) (fun σ H Q=>tv σ H fun x H1=>∃ a ns,x = .ref a∧H1 a=some (.lst (ns.map V.int))∧zKe ns∧∀ y,Q (.str y) H1):=by
  intro pins s σ H Q I h
  have z0:(Str.empty:Str).length=0:=rfl
  refine wpAny_JoinedStr ?_
  show Joins _ _ _ [eval (.Constant (.str x1) j1 p1) X.env,eval (.FormattedValue v 114 none p2) X.env] _ _ _
  refine Calls.Constant_str ⟨x1,_,rfl,by rw [strLen_append,z0,sizeLine_eq];lia,?_⟩
  refine wpAny_FormattedValue_repr (thn (hv pins _ σ H _ (I.tok _) h) fun u s1 ⟨x,H1,I1,r1,a,ns,ex,ea,hs,q⟩=>?_)
  subst ex
  obtain rfl:u=Value.ref a:=r1
  obtain ⟨_,its,n,rv,ho⟩:=(show ObjOk X.prog X.w H1 s1.heap a (.lst (ns.map V.int)) from I1.hok a _ ea)
  obtain ⟨s1',s2',s3',s4',s5'⟩:=zWh ns hs.2
  have rd:Reads s1.heap (.ref a) (.list (ns.map PyData.int)) [a] := .list (as:=[]) ho rfl rfl (by rw [List.toList_toArray];exact z0h rv)
  have hz:(PyData.shown (.list (ns.map PyData.int))).length≤33000:=by
    have:=PyData.shown_le_bulk 30 (by decide) (.list (ns.map PyData.int)) (by simp only [PyData.leavesShort];exact s4')
    simp only [PyData.bulk,s5'] at this
    have:=hs.1
    lia
  refine pyReprObj_of_reads rd (by simp only [PyData.showable];exact s1') (PyData.noDict_hsm (by simp only [PyData.hasDict];exact s2')) hg (by simp only [PyData.depth,s3'];lia) (fun _ _ e=>e) (fun h' u tk keep=>?_) (by rw [sizeLine_eq];lia)
  have I2:Inv X pins σ H1 { s1 with heap:=h',toks:=tk }:=I1.kept keep
  have last:∀ t s2,Inv X pins σ H1 s2→∃ y t',Value.str (PyData.shown (.list (ns.map PyData.int))) t = .str y t'∧((Str.empty++x1)++y).length≤sizeLine ∧
      Joins (model X.prog X.w) X.A X.xe [] ((Str.empty++x1)++y) (fun out s₁=>out.length≤sizeLine∧EP X pins σ Q (.str out s₁.toks) { s₁ with toks:=s₁.toks+1 }) s2:=fun t s2 J=>by
    have hl:((Str.empty++x1)++PyData.shown (.list (ns.map PyData.int))).length≤sizeLine:=by rw [strLen_append,strLen_append,z0,sizeLine_eq];lia
    exact ⟨_,t,rfl,hl,hl,⟨.str _,H1,J.tok _,⟨_,rfl⟩,q _⟩⟩
  exact wpAny_formatField_str (last _ _ I2) (last _ _ (I2.tok _)) (by rw [sizeLine_eq];lia)
end
noncomputable def spL (C:Addr) (f:Str):Sp:=fun vs H Q _=>∃ e a ns,vs = [.ref e, .ref a]∧zKe ns∧H a=some (.lst (ns.map V.int))∧H e=some (.ext (zlk e C none)) ∧
  ∀ l p,H l=none→l≠e→H p=none→p≠e→p≠l→Q .non (upd (upd (upd H l (.lst (ns.map V.int))) p (.xd [(f, .ref l)])) e (.ext (zlk e C (some p))))
noncomputable instance smallDec (ns:List Int):Decidable (zKe ns):=by unfold zKe;exact inferInstance
@[simp] noncomputable def zXg (c f:Str) (φ:FA):FS:=fun δ μ=>(φ δ μ).bind fun p=>match p.1 with
  | [.loc n]=>match p.2[n]? with
    | some (.lst ds)=>(zuf ds).bind fun ns=>bif decide (zKe ns) then some (.exc c [(f, .loc p.2.length)] (p.2 ++ [.lst ds])) else none
    | _=>none
  | _=>none
theorem zJk {c f:Str} {φ:FA} {δ:Loc} {μ:Mem} {o:Out} (h:zXg c f φ δ μ = some o):∃ n ns μ1,φ δ μ = some ([.loc n],μ1)∧μ1[n]?=some (.lst (ns.map D.int))∧zKe ns∧o = .exc c [(f, .loc μ1.length)] (μ1 ++ [.lst (ns.map D.int)]):=by
  obtain ⟨⟨ds,μ1⟩,e1,h2⟩:=zf h
  clear h
  rcases ds with _ | ⟨d,ds⟩
  · cases h2
  · rcases ds with _ | ⟨d2,ds⟩
    · cases d with
      | loc n =>
        replace h2:(match μ1[n]? with
          | some (.lst ds)=>(zuf ds).bind fun ns=>bif decide (zKe ns) then some (.exc c [(f, .loc μ1.length)] (μ1 ++ [.lst ds])) else none
          | _=>none)=some o:=h2
        cases hm:μ1[n]? with
        | none=>rw [hm] at h2;cases h2
        | some ob =>
          rw [hm] at h2
          cases ob with
          | lst ds =>
            replace h2:((zuf ds).bind fun ns=>bif decide (zKe ns) then some (.exc c [(f, .loc μ1.length)] (μ1 ++ [.lst ds])) else none)=some o:=h2
            obtain ⟨ns,e2,h3⟩:=zf h2
            have e3:=zLc e2
            subst e3
            by_cases hs:zKe ns
            · rw [decide_eq_true hs] at h3
              cases h3
              exact ⟨n,ns,μ1,e1,hm,hs,rfl⟩
            · rw [decide_eq_false hs] at h3
              cases h3
          | dct _=>cases h2
          | dcf _=>cases h2
          | exc _ _=>cases h2
      | _=>cases h2
    · cases d <;> cases h2
theorem zfk {K:PySem.W.Frag} {ρ:List Addr} {H:Hp}:∀ {ns:List Int} {vs:List V},RepVs K ρ H (ns.map D.int) vs→vs=ns.map V.int
  | [],_,r=>r.nil_inv
  | n :: ns,_,r=>by
    obtain ⟨v,rr,rfl,q1,q2⟩:=r.cons_inv
    rw [q1.int_inv,zfk q2]
    rfl
theorem zYm {H:Hp} {a l p:Addr} {o o' u1 u2:HO} (ha:H a=none) (hl:l≠a) (hp:p≠a):era (upd (upd (upd (upd H a o) l u1) p u2) a o') a=upd (upd H l u1) p u2:=by
  funext b
  by_cases z:b=a
  · rw [z,zug,zA (Ne.symm hp),zA (Ne.symm hl),ha]
  · rw [zsf z,zA z]
    by_cases z2:b=p
    · rw [z2,zo,zo]
    · rw [zA z2,zA z2]
      by_cases z3:b=l
      · rw [z3,zo,zo]
      · rw [zA z3,zA z,zA z3]
section
variable {X:Cx} {x:Str} {e:Expr} {np cpos pos:Pos} {C NE fI:Addr} {f:Str} {k:Nat} {fd:FuncData} {ps:List Str} {φ:FA}
set_option maxHeartbeats 800000 in
theorem zVn (hn:PySem.W.nsIn X.K mainGlobals x=some (some (.ref C))) (Z:ExcI X.K C NE fI f) (G:FnOk X.prog X.w X.K X.mg X.base CX0 1 fI fd ps (spL C f)) (hb:Binds X.K fd ps []) (hr:Room k X.A) (ha:MAn X [e] φ) (hk:2≤k:=by decide) (hh:X.calm=true:=by rfl) (hg:Gl X x:=by rfl)
    (he:starEach [e] X.env=(false,eval e X.env) :: starEach [] X.env:=by exact zYe rfl) (hdb:(x == ("__debug__":Str))=false:=by decide) :
    MS X (.Raise (some (.Call (.Name x np) [e] [] cpos)) none pos) (zXg x f φ):=by
  intro pins s σ H Dn I ⟨ρ,δ,μ,o,A,eo,kk⟩
  obtain ⟨n,ns,μ1,e1,hm,hsm,rfl⟩:=zJk eo
  clear eo
  obtain ⟨nm,qn,N,bs,sn,sub,ab,col,dd,k0,k1,k2,k3,k5,lk⟩:=Z.ob
  have hpl':(backTo cpos (starEach [e] X.env)).any (·.1)=false:=by
    rw [he]
    rfl
  refine z0g (C:=C) (fI:=fI) (nm:=nm) (q:=qn) (N:=N) (bs:=bs) (bm := .ref NE :: PySem.W.bmV) (hdct:=true) (sn:=sn) (sub:=sub) (ab:=ab) (col:=col) (dd:=dd) (k0:=k0) (k1:=k1) (k2:=k2) (k3:=k3) (k5:=k5) (newId:="ValueError.__new__")
    PySem.F.excBase_ValueError ((Z.tail I.kIn).hasType PySem.F.excBase_ValueError.hasBase) (I.ok.hd hh) hpl' (zvh I hg (PySem.W.mg_of I.mod.kin I.mod.glob hn) ⟨rfl,?_⟩ hdb)
  have h:=ha.ma cpos pins s σ H (fun vs H'=>∃ a ρ',vs = [.ref a]∧ρ'[n]?=some a∧Ext ρ H ρ' H'∧RepH X.K ρ' H' μ1) I ⟨ρ,δ,μ,[.loc n],μ1,A,e1,fun ρ' H' vs x' R r=>by
    obtain ⟨v,rr,rfl,q1,q2⟩:=r.cons_inv
    obtain ⟨a,rfl,e3⟩:=q1.loc_inv
    exact ⟨a,ρ',by rw [q2.nil_inv],e3,x',R⟩⟩
  rw [he] at h ⊢
  refine Calls.evalArgs_plain (wpAny_mono h (fun us s2 h2=>?_) fun _ _ y=>y)
  obtain ⟨vs,H',I',r,a,ρ',rfl,e3,x',R⟩:=h2
  obtain ⟨u,rfl,ru⟩:=vals1 r
  obtain rfl:u=Value.ref a:=ru
  obtain ⟨ws,hHa,rws⟩:=R.at_ _ _ _ e3 hm
  obtain rfl:=zfk rws
  have hz:(zHe s2.heap C [.ref a]).get? (s2.heap.objs.size+1)=some { cls := .ref C,dict:=none,data := .fields #[.ref s2.heap.objs.size, .none, .none, .none, .bool false, .none] }:=by heap_get
  have kp:∀ b o,s2.heap.get? b=some o→(zHe s2.heap C [.ref a]).get? b=some o:=fun b o q=>Heap.get?_push_of_some _ (Heap.get?_push_of_some _ q)
  have hsz:s2.heap.objs.size≤s2.heap.objs.size+1:=Nat.le_succ _
  have hfr:H' (s2.heap.objs.size+1)=none:=I'.hok.fresh hsz
  have I2:Inv X pins σ (upd H' (s2.heap.objs.size+1) (.ext (zlk (s2.heap.objs.size+1) C none))) { s2 with heap:=zHe s2.heap C [.ref a] } :=
    I'.laid (a:=s2.heap.objs.size+1) (t':=s2.toks) kp hsz (zYk ⟨_,hz⟩)
  have sp:spL C f [.ref (s2.heap.objs.size+1), .ref a] (upd H' (s2.heap.objs.size+1) (.ext (zlk (s2.heap.objs.size+1) C none))) (fun v H2=>v = .non∧∃ l p,H' l=none∧l≠s2.heap.objs.size+1∧H' p=none∧p≠s2.heap.objs.size+1∧p≠l ∧
      H2=upd (upd (upd (upd H' (s2.heap.objs.size+1) (.ext (zlk (s2.heap.objs.size+1) C none))) l (.lst (ns.map V.int))) p (.xd [(f, .ref l)])) (s2.heap.objs.size+1) (.ext (zlk (s2.heap.objs.size+1) C (some p)))) E0 :=
    ⟨_,a,ns,rfl,hsm,by rw [zA (zu hHa hfr)];exact hHa,zo,fun l p hl hle hp hpe hpl=>⟨rfl,l,p,by rwa [zA hle] at hl,hle,by rwa [zA hpe] at hp,hpe,hpl,rfl⟩⟩
  have hl:([Value.ref (s2.heap.objs.size+1), .ref a] ++ []).length=ps.length:=G.len _ _ _ _ sp
  refine ⟨rfl,(show 1≤sizeLine by rw [sizeLine_eq];decide),I'.kIn _ _ lk,PySem.W.looks_findIn I'.kIn Z.ini,Z.tail I'.kIn,fun self=>PySem.W.bind_fn I'.kIn self Z.fn,?_⟩
  have hroom:Room 1 (X.A.under (.builtin "type.__call__" ⟨.ref C :: [.ref a],[]⟩)):=Room.make (k:=1) (hr.mono hk) C [.ref a] []
  have henv:=I2.env0.make C [.ref a] []
  have hbind:=hb { s2 with heap:=zHe s2.heap C [.ref a] } [.ref (s2.heap.objs.size+1), .ref a] I2.kIn hl
  have hvals:Vals [V.ref (s2.heap.objs.size+1), .ref a] ([Value.ref (s2.heap.objs.size+1), .ref a] ++ []) := .cons rfl (.cons rfl .nil)
  have run:=G.run _ X.stack _ _ _ _ _ _ E0 hroom henv hbind hvals sp
  show wpAny (model X.prog X.w) (X.A.under (.builtin "type.__call__" ⟨.ref C :: [.ref a],[]⟩)) (call (.ref fI) [.ref (s2.heap.objs.size+1), .ref a]) _ _ { s2 with heap:=zHe s2.heap C [.ref a] }
  refine wpAny_call (codeAny_mono run fun rr s' hq=>?_)
  cases rr with
  | error ex=>exact False.elim hq
  | ok fl =>
    cases fl with
    | next=>exact False.elim hq
    | brk=>exact False.elim hq
    | cont=>exact False.elim hq
    | ret uu =>
      obtain ⟨v,H2,hos,hbare,un,hok,rv,ev,l,p,hl0,hle,hp0,hpe,hpl,e2⟩:=hq
      subst ev
      obtain rfl:uu=Value.none:=rv
      obtain ⟨_,H3,I3,_,_,e4⟩:=I2.after (Q:=fun v' H''=>v'=V.non∧H''=H2) ⟨V.non,H2,hos,hbare,un,hok,rfl,rfl,rfl⟩
      rw [e4] at I3
      have h3:H2 (s2.heap.objs.size+1)=some (.ext (zlk (s2.heap.objs.size+1) C (some p))):=by rw [e2];exact zo
      obtain ⟨⟨te,he3⟩,_,_⟩:=(show ObjOk X.prog X.w H2 s'.heap (s2.heap.objs.size+1) (.ext (zlk (s2.heap.objs.size+1) C (some p))) from I3.hok _ _ h3)
      refine ⟨rfl,I3.kIn _ _ lk,⟨_,te,he3⟩,?_⟩
      have F:=flyI (C:=C) (te:=te) I' I3 hos ((Un.laid kp hsz hfr).trans un) hsz ⟨_,h3⟩ he3
      rw [e2,zYm hfr hle hpe] at F
      have R1:RepH X.K (ρ' ++ [l]) (upd H' l (.lst (ns.map V.int))) (μ1 ++ [.lst (ns.map D.int)]):=R.push hl0 ⟨_,zo,rws.ext (Ext.push hl0)⟩
      have hp1:upd H' l (.lst (ns.map V.int)) p=none:=by rw [zA hpl];exact hp0
      refine kk (ρ' ++ [l]) (upd (upd H' l (.lst (ns.map V.int))) p (.xd [(f, .ref l)])) C (some p) hn ((x'.trans (Ext.push hl0)).trans (Ext.new hp1)) (R1.newTup hp1) (.inr ⟨p,[(f, .ref l)],rfl,zo,rfl,?_⟩) pins σ H' s2 (.ref (s2.heap.objs.size+1)) s' I' F
      have hpg:=zvb (p:=l) R
      simp [RepVs,RepV,hpg]
end
end M
set_option Elab.async false
set_option linter.all false
set_option maxRecDepth 100000
set_option autoImplicit false
namespace M
open PySem PySem.Spec PyProof.Rows L2
section
variable {X:Cx} {a b c e:Expr} {es:List Expr} {φ ψ χ:FE} {pos pos2 p1 p2:Pos}
noncomputable def zgp (p:Addr) (j:Int):HO := .ext fun h=>∃ t u v,IsRange h p 0 j 1 t u v
theorem zXk:zch X (.type "range") (fun xs H Q=>∃ j:Int,xs = [.int j]∧∀ p,H p=none→Q (.ref p) (upd H p (zgp p j))):=by
  intro pins s σ H xs us Q I r ⟨j,e,k⟩
  subst e
  obtain ⟨u,rfl,ru⟩:=vals1 r
  obtain ⟨t,rfl⟩:=ru
  refine call_range_1 ?_
  refine ⟨.ref s.heap.objs.size,_,I.laid (t':=s.toks+1+1) (fun b o e=>Heap.get?_push_of_some _ e) (Nat.le_refl _) (show ObjOk X.prog X.w _ _ _ (zgp _ j) from ⟨⟨_,_,_,IsRange.new _ _ _ _ _ _ _⟩,⟨_,Heap.get?_push_size _ rfl⟩,fun h1 h2 ⟨t,u,v,x⟩ y=>⟨t,u,v,y _ x⟩⟩),rfl,k _ I.fresh⟩
theorem zwm {its:Array Value} {n:Nat} (h:ItemsOf (fun i v=>∃ t,v = .int (0+i * 1) t) its n):Vals ((List.range n).map fun (k:Nat)=>V.int k) its.toList:=by
  obtain ⟨h1,h2⟩:=h
  have key:∀ (l:List Value) (m:Nat),(∀ i (hi:i<l.length),∃ t,l[i] = .int ((m+i:Nat):Int) t)→Vals ((List.range' m l.length).map fun (k:Nat)=>V.int k) l:=by
    intro l
    induction l with
    | nil=>intro m _;exact .nil
    | cons x xs ih =>
      intro m h
      obtain ⟨t,e⟩:=h 0 (by simp)
      refine .cons ⟨t,by simpa using e⟩ (ih (m+1) fun i hi=>?_)
      obtain ⟨t,e⟩:=h (i+1) (by simpa using hi)
      exact ⟨t,by rw [show m+1+i=m+(i+1) by lia];simpa using e⟩
  have:=key its.toList 0 fun i hi=>?_
  · rw [List.range_eq_range',← h1]
    simpa using this
  · have hi':i<its.size:=by simpa using hi
    obtain ⟨t,e⟩:=h2 i its[i] (by simp [hi'])
    exact ⟨t,by simpa using e⟩
noncomputable def zWi (φ:FE):FE:=fun δ μ=>(φ δ μ).bind fun p=>match p.1 with
  | .int j=>bif decide (-(2 ^ 62)≤j∧j≤1000000) then some (.loc p.2.length,p.2 ++ [.lst ((List.range j.toNat).map fun (k:Nat) => .int k)]) else none
  | _=>none
theorem zam (hc:X.calm=true):zch X (.type "list") (fun xs H Q=>∃ p j,xs = [.ref p]∧H p=some (zgp p j)∧-(2 ^ 62)≤j∧j≤1000000∧∀ l,H l=none→Q (.ref l) (upd H l (.lst ((List.range j.toNat).map fun (k:Nat)=>V.int k)))):=by
  intro pins s σ H xs us Q I r ⟨p,j,e,hq,h1,h2,k⟩
  subst e
  obtain ⟨u,rfl,ru⟩:=vals1 r
  cases ru
  obtain ⟨⟨t,u,v,hr⟩,_,_⟩:=I.hok p _ hq
  have hn:Builtin.Range.rangeSize 0 j 1=(j.toNat:Nat):=by rw [rangeSize_one];split <;> lia
  refine call_list_range (n:=j.toNat) (I.ok.hd hc) hr (small_one (by decide) (by decide) h1 (by first|decide|lia)) hn (by first|decide|lia) fun h' tk acc' c' kp e hi=>?_
  have hm:=million
  have hv:=zwm hi
  refine ⟨.ref s.heap.objs.size,_,I.laid (t':=tk) kp (Nat.le_refl _) (show ObjOk X.prog X.w _ h' _ (.lst _) from ⟨by simp;lia,acc'.toList,c',hv,by simpa using e⟩),rfl,k _ I.fresh⟩
theorem zbo (hm1:X.mg "list" = none) (hv1:bootBuiltins "list" = some (.type "list")) (hm2:X.mg "range" = none) (h:ME X e φ) (hc:X.calm=true:=by rfl) (hg1:Gl X "list":=by rfl) (hg2:Gl X "range":=by rfl)
    (he:starEach [e] X.env=(false,eval e X.env) :: starEach [] X.env:=by rfl) (he2:starEach [.Call (.Name "range" p2) [e] [] pos2] X.env=(false,eval (.Call (.Name "range" p2) [e] [] pos2) X.env) :: starEach [] X.env:=by rfl) :
    ME X (.Call (.Name "list" p1) [.Call (.Name "range" p2) [e] [] pos2] [] pos) (zWi φ) :=
  zfd (zwd (zam hc) hg1 hm1 hv1 (zsc (zwd zXk hg2 hm2 boot_range (zsc h zee he) (by decide) (by decide) he rfl) zee he2) (by decide) (by decide) he2 rfl) fun ρ δ μ σ H d μ' Q A e k=>by
    obtain ⟨⟨x,μ1⟩,e1,e⟩:=zf e
    refine ⟨ρ,δ,μ,x,μ1,A,e1,fun ρ1 H1 v x1 R1 r1=>?_⟩
    dsimp only at e
    split at e
    · rename_i j
      obtain ⟨hb,e⟩:=zL e
      have hb:=of_decide_eq_true hb
      cases e
      refine ⟨j,by rw [r1.int_inv],fun p1 hp1=>⟨p1,j,rfl,zo,hb.1,hb.2,fun l hl=>?_⟩⟩
      have R2:=R1.newTup (o:=zgp p1 j) hp1
      refine k _ _ _ (x1.trans ((Ext.new hp1).trans (Ext.push hl))) (R2.push hl ⟨_,zo,?_⟩) (.loc (zvb R2))
      have hr:=fun ρ H=>@zCd X.K ρ H ((List.range j.toNat).map fun (k:Nat)=>(k:Int))
      simp only [List.map_map] at hr
      exact hr _ _
    · cases e
end
end M
set_option Elab.async false
set_option linter.all false
set_option maxRecDepth 100000
set_option autoImplicit false
namespace M
open PySem PySem.Spec PyProof.Rows L2
section
variable {prog:Program} {w:World} {A:Around} {E:Value→Shared→Prop} {s:Shared}
theorem nextT {it t:Addr} {i:Nat} {items:Array Value} {x:Value} {Q:Value→Shared→Prop} (hit:s.heap.IsTupleIter it t i) (ht:s.heap.IsTuple t items) (hx:items[i]?=some x)
    (hQ:∀ h',h'.IsTupleIter it t (i+1)→Heap.SameBut it s.heap h'→Q x { s with heap:=h' }):wpAny (model prog w) A (Builtin.SmallTypes.nextOf (.ref it)) Q E s:=by
  obtain ⟨ob,hob,hcl,hfs⟩:=id hit
  obtain ⟨ot,hot,_,m,hits⟩:=ht
  unfold Builtin.SmallTypes.nextOf
  refine wpAny_bind (wpAny_callSpecial?_slot (name:=Str.ofString "__next__") hit.typeIs F.slot_tuple_iterator_next (wpAny_call_entry F.slot_tuple_iterator_next hit.typeIs F.entry_tuple_iterator_next ?_ (F.args_tuple_iterator_next_1 _)))
  show wpAny _ _ (field (.ref it) 0 >>= _) _ _ s
  refine wpAny_bind (wpAny_field hob hfs (x := .ref t) rfl ?_)
  show wpAny _ _ (if (Value.ref t == Value.none)=true then _ else field (.ref it) 1 >>= _) _ _ s
  rw [if_neg (show ¬ (Value.ref t == Value.none)=true from Bool.false_ne_true)]
  refine wpAny_bind (wpAny_field hob hfs (x := .int i 0) rfl ?_)
  show wpAny _ _ (seqItems? (.ref t) >>= _) _ _ s
  refine wpAny_bind (wpAny_seqItems hot hits ?_)
  simp only [Int.toNat_natCast,hx]
  refine wpAny_bind (wpAny_setField hob hfs (by simp) (wpAny_pure ⟨x,rfl,wpAny_pure (hQ _ ?_ (Heap.SameBut.update ..))⟩))
  refine ⟨_,Heap.get?_update_self _ hob (Obj.isFreed_of_fields (Obj.data_mapFields hfs _)),(Obj.cls_mapFields ..).trans hcl,?_⟩
  rw [Obj.data_mapFields hfs]
  simp [rawInt]
theorem zin {it t:Addr} {i:Nat} {items:Array Value} {Q:Value→Shared→Prop} (hh:A.handled=none) (hit:s.heap.IsTupleIter it t i) (ht:s.heap.IsTuple t items) (hx:items[i]?=none)
    (hE:∀ h' e,Heap.ExtBut it s.heap h'→(∃ o,h'.get? e=some o∧o.cls = .type "StopIteration")→E (.ref e) { s with heap:=h' }):wpAny (model prog w) A (Builtin.SmallTypes.nextOf (.ref it)) Q E s:=by
  obtain ⟨ob,hob,hcl,hfs⟩:=id hit
  obtain ⟨ot,hot,_,m,hits⟩:=ht
  unfold Builtin.SmallTypes.nextOf
  refine wpAny_bind (wpAny_callSpecial?_slot (name:=Str.ofString "__next__") hit.typeIs F.slot_tuple_iterator_next (wpAny_call_entry F.slot_tuple_iterator_next hit.typeIs F.entry_tuple_iterator_next ?_ (F.args_tuple_iterator_next_1 _)))
  show wpAny _ _ (field (.ref it) 0 >>= _) _ _ s
  refine wpAny_bind (wpAny_field hob hfs (x := .ref t) rfl ?_)
  show wpAny _ _ (if (Value.ref t == Value.none)=true then _ else field (.ref it) 1 >>= _) _ _ s
  rw [if_neg (show ¬ (Value.ref t == Value.none)=true from Bool.false_ne_true)]
  refine wpAny_bind (wpAny_field hob hfs (x := .int i 0) rfl ?_)
  show wpAny _ _ (seqItems? (.ref t) >>= _) _ _ s
  refine wpAny_bind (wpAny_seqItems hot hits ?_)
  simp only [Int.toNat_natCast,hx]
  refine wpAny_bind (wpAny_rule (wpAny_bind (wpAny_setField hob hfs (by simp) ?_)))
  show wpAny _ _ (newExc (.type "StopIteration") [] >>= _) _ _ _
  refine wpAny_bind ?_
  simp only [newExc,newTuple]
  refine wpAny_bind (wpAny_newObj_type ?_ (by size_fits))
  refine wpAny_bind (m:=firstArgMember _ _) (wpAny_of_eq (a:=Value.none) (by first | rfl | (simp only [firstArgMember];rfl)) ?_)
  refine wpAny_newObj_type ?_ (by size_fits)
  simp only [raiseNew]
  refine wpAny_bind (wpAny_handled ?_)
  first | rw [show A.in1.handled=none from hh] | rw [hh]
  exact wpAny_bind (wpAny_pure (wpAny_throw (hE _ _ (((Heap.SameBut.update ..).extBut.push _).push _) ⟨_,Heap.get?_push_size _ rfl,rfl⟩)))
theorem zHj {e it:Addr} {i:Int} {x old:Value} {N:Heap→Prop} {Q:Option Value→Shared→Prop} (he:IsEnum s.heap e it i old) (hne:e≠it)
    (nx:∀ (A':Around) (Q':Value→Shared→Prop) (E':Value→Shared→Prop),(∀ h1,N h1→Heap.SameBut it s.heap h1→Q' x { s with heap:=h1 })→wpAny (model prog w) A' (Builtin.SmallTypes.nextOf (.ref it)) Q' E' s)
    (hN:∀ h h',N h→(∀ o,h.get? it=some o→h'.get? it=some o)→N h')
    (hQ:∀ h',IsEnumOut h' e it (i+1) x s.heap.objs.size→N h'→h'.get? s.heap.objs.size=some { cls := .type "tuple",data := .seq #[.int i s.toks,x] }→h'.objs.size=s.heap.objs.size+1 →
      (∀ b o,b≠e→b≠it→s.heap.get? b=some o→h'.get? b=some o)→Q (some (.ref s.heap.objs.size)) { s with heap:=h',toks:=s.toks+1 }):wpAny (model prog w) A (pyNext (.ref e)) Q E s:=by
  obtain ⟨hp,g,d,tk,os⟩:=s
  have hT:Shared.TypeIs ⟨hp,g,d,tk,os⟩ (.ref e) "enumerate":=⟨_,he,rfl⟩
  unfold pyNext
  refine wpAny_bind (wpAny_attempt (wpAny_callSpecial?_slot (name:=Str.ofString "__next__") hT F.slot_enumerate_next (wpAny_call_entry F.slot_enumerate_next hT F.entry_enumerate_next ?_ (F.args_enumerate_next_1 _))))
  show wpAny _ _ (field (.ref e) 2 >>= _) _ _ _
  refine wpAny_bind (wpAny_field he rfl (x := .ref it) rfl (wpAny_bind (nx _ _ _ fun h1 n1 sb1=>?_)))
  replace sb1:Heap.SameBut it hp h1:=sb1
  have e1:IsEnum h1 e it i old:=(sb1.2 e hne).trans he
  show wpAny _ _ (field (.ref e) 3 >>= _) _ _ ⟨h1,g,d,tk,os⟩
  refine wpAny_bind (wpAny_field e1 rfl (x:=rawInt i) rfl ?_)
  show wpAny _ _ (field (.ref e) 4 >>= _) _ _ ⟨h1,g,d,tk,os⟩
  refine wpAny_bind (wpAny_field e1 rfl (x := .none) rfl ?_)
  show wpAny _ _ (mkInt i >>= _) _ _ ⟨h1,g,d,tk,os⟩
  refine wpAny_bind (wpAny_mkInt ?_)
  show wpAny _ _ (setField (.ref e) 3 (rawInt (i+1)) >>= _) _ _ ⟨h1,g,d,tk+1,os⟩
  refine wpAny_bind (wpAny_setField_rec e1 (by simp) fun h2 e2 sb2=>?_)
  replace sb2:Heap.SameBut e h1 h2:=sb2
  replace e2:IsEnum h2 e it (i+1) old:=e2
  show wpAny _ _ (setField (.ref e) 4 .none >>= _) _ _ ⟨h2,g,d,tk+1,os⟩
  refine wpAny_bind (wpAny_setField_rec e2 (by simp) fun h3 e3 sb3=>?_)
  replace sb3:Heap.SameBut e h2 h3:=sb3
  replace e3:IsEnum h3 e it (i+1) old:=e3
  show wpAny _ _ (newTuple [.int i tk,x] >>= _) _ _ ⟨h3,g,d,tk+1,os⟩
  refine wpAny_bind (wpAny_newTuple ?_)
  have z3:h3.objs.size=hp.objs.size:=by rw [sb3.1,sb2.1,sb1.1]
  have el:e<hp.objs.size:=Heap.lt_size he
  have ne4:hp.objs.size≠e:=Nat.ne_of_gt el
  obtain ⟨h4,hh4⟩:∃ h4,h4=h3.push { cls := .type "tuple",data := .seq #[.int i tk,x] }:=⟨_,rfl⟩
  have e4:IsEnum h4 e it (i+1) old:=by rw [hh4];exact Heap.get?_push_of_some _ e3
  have t4:h4.get? hp.objs.size=some { cls := .type "tuple",data := .seq #[.int i tk,x] }:=by rw [hh4,← z3];exact Heap.get?_push_size _ rfl
  have z4:h4.objs.size=hp.objs.size+1:=by rw [hh4,Heap.size_push,z3]
  have up:∀ b o,b≠e→h1.get? b=some o→h4.get? b=some o:=fun b o hb q=>by
    rw [hh4]
    exact Heap.get?_push_of_some _ ((sb3.2 b hb).trans ((sb2.2 b hb).trans q))
  show wpAny _ _ (Builtin.SmallTypes.ownedTupleIsFree (.ref e) >>= _) _ _ ⟨h3.push { cls := .type "tuple",data := .seq #[.int i tk,x] },g,d,tk+1,os⟩
  rw [← hh4,z3]
  refine wpAny_bind ?_
  unfold Builtin.SmallTypes.ownedTupleIsFree
  refine wpAny_bind (wpAny_field e4 rfl (x := .none) rfl (wpAny_pure ?_))
  simp only [if_true]
  refine wpAny_bind (wpAny_rule (wpAny_bind (wpAny_field e4 rfl (x:=old) rfl (wpAny_bind (wpAny_setField_rec e4 (by simp) fun h5 e5 sb5=>?_)))))
  replace sb5:Heap.SameBut e h4 h5:=sb5
  replace e5:IsEnum h5 e it (i+1) x:=e5
  show wpAny _ _ (Builtin.SmallTypes.ownedTupleHandOut (.ref e) (.ref hp.objs.size) >>= _) _ _ ⟨h5,g,d,tk+1,os⟩
  refine wpAny_bind ?_
  unfold Builtin.SmallTypes.ownedTupleHandOut
  refine wpAny_bind (wpAny_setField_rec e5 (by simp) fun h6 e6 sb6=>?_)
  replace sb6:Heap.SameBut e h5 h6:=sb6
  replace e6:IsEnumOut h6 e it (i+1) x hp.objs.size:=e6
  refine wpAny_setField_rec e6 (by simp) fun h7 e7 sb7=>?_
  replace sb7:Heap.SameBut e h6 h7:=sb7
  replace e7:IsEnumOut h7 e it (i+1) x hp.objs.size:=e7
  have up7:∀ b o,b≠e→h4.get? b=some o→h7.get? b=some o:=fun b o hb q=>(sb7.2 b hb).trans ((sb6.2 b hb).trans ((sb5.2 b hb).trans q))
  refine wpAny_bind (wpAny_letGo (wpAny_pure ⟨_,rfl,wpAny_pure (hQ h7 e7 (hN _ _ n1 fun o q=>up7 _ _ (Ne.symm hne) (up _ _ (Ne.symm hne) q)) (up7 _ _ ne4 t4) ?_ fun b o h1 h2 q=>up7 _ _ h1 (up _ _ h1 ((sb1.2 b h2).trans q)))⟩))
  show h7.objs.size=hp.objs.size+1
  rw [sb7.1,sb6.1,sb5.1,z4]
theorem zZl {e it:Addr} {i:Int} {old:Value} {Q:Option Value→Shared→Prop} (he:IsEnum s.heap e it i old)
    (nx:∀ (A':Around) (Q':Value→Shared→Prop) (E':Value→Shared→Prop),A'.handled=A.handled→(∀ h' x,Heap.ExtBut it s.heap h'→(∃ o,h'.get? x=some o∧o.cls = .type "StopIteration")→E' (.ref x) { s with heap:=h' })→wpAny (model prog w) A' (Builtin.SmallTypes.nextOf (.ref it)) Q' E' s)
    (hQ:∀ h',Heap.ExtBut it s.heap h'→Q none { s with heap:=h' }):wpAny (model prog w) A (pyNext (.ref e)) Q E s:=by
  have hT:s.TypeIs (.ref e) "enumerate":=⟨_,he,rfl⟩
  unfold pyNext
  refine wpAny_bind (wpAny_attempt (wpAny_callSpecial?_slot (name:=Str.ofString "__next__") hT F.slot_enumerate_next (wpAny_call_entry F.slot_enumerate_next hT F.entry_enumerate_next ?_ (F.args_enumerate_next_1 _))))
  show wpAny _ _ (field (.ref e) 2 >>= _) _ _ _
  refine wpAny_bind (wpAny_field he rfl (x := .ref it) rfl (wpAny_bind (nx _ _ _ rfl fun h' x eb ⟨o,ho,hc⟩=>?_)))
  exact wpAny_bind (wpAny_isInstance (T:="StopIteration") (b:=true) ⟨o,ho,hc⟩ isSubtype_stop (wpAny_pure (hQ _ eb)))
end
end M
set_option Elab.async false
set_option linter.all false
set_option maxRecDepth 100000
set_option autoImplicit false
namespace M
open PySem PySem.Spec PyProof.Rows L2
section
variable {X:Cx} {pins:List (Addr×Obj)} {σ:L2.St} {H:Hp} {s:Shared}
theorem zJi {fp:List Addr} (hf:∀ b∈fp,zXl X pins H b) {b:Addr} {u:HO} (e:H b=some u):b∉fp:=fun z=>by rw [(hf b z).1] at e;cases e
theorem zyr {fp:List Addr} (hf:∀ b∈fp,zXl X pins H b):∀ b∈fp,(b∈X.ex∨X.s₀.heap.objs.size≤b)∧b≠X.env.locals∧(∀ x c,X.env.cells.lookup x=some c→c≠b)∧∀ p∈X.pn++pins,p.1≠b:=fun b hb=>by
  obtain ⟨_,f1,_,f3,f4,f5⟩:=hf b hb
  exact ⟨f3,f1,f4,f5⟩
theorem z1h {fp:List Addr} {h':Heap} {t':Nat} (I:Inv X pins σ H s) (hf:∀ b∈fp,zXl X pins H b) (k:∀ b o,b∉fp→s.heap.get? b=some o→h'.get? b=some o):Inv X pins σ H { s with heap:=h',toks:=t' }:=by
  refine I.call (g':=s.gens) (t':=t') (d':=s.drawn) (ch:=fp) ⟨fun b o e _ _ hx=>k b o hx e,fun b o e _ _ hx=>⟨o.slots,k b o hx e⟩,fun _ _ _ n _=>n,fun b o e hx=>⟨o,k b o hx e⟩,fun _ _ e=>e,fun _ _ _ e=>e,fun _ ps e=>⟨#[],by rw [e];simp⟩⟩ (fun a o e=>?_) I.bare (zyr hf)
  refine (I.hok a o e).stay (fun b u hb q=>k b u ?_ q) (fun _ q=>q) fun _ _ q=>q
  rcases hb with rfl | hb
  · exact zJi hf e
  · exact zJi hf hb
theorem zgd {fp:List Addr} {h':Heap} {t':Nat} {p:Addr} {o:HO} (I:Inv X pins σ H s) (hf:∀ b∈fp,zXl X pins H b) (k:∀ b o,b∉fp→s.heap.get? b=some o→h'.get? b=some o) (hp:s.heap.objs.size≤p)
    (new:ObjOk X.prog X.w (upd H p o) h' p o):Inv X pins σ (upd H p o) { s with heap:=h',toks:=t' }:=by
  have hn:=I.hok.fresh hp
  have hlt:∀ b ob,s.heap.get? b=some ob→b≠p:=fun b ob e=>Nat.ne_of_lt (Nat.lt_of_lt_of_le (Heap.lt_size e) hp)
  refine I.call (g':=s.gens) (t':=t') (d':=s.drawn) (ch:=fp) ⟨fun b o e _ _ hx=>k b o hx e,fun b o e _ _ hx=>⟨o.slots,k b o hx e⟩,fun b ob e n _=>by rw [zA (hlt b ob e)];exact n,fun b o e hx=>⟨o,k b o hx e⟩,
    fun _ _ e=>by rw [zA (zu e hn)];exact e,fun _ _ _ e=>by rw [zA (zu e hn)];exact e,fun _ ps e=>⟨#[],by rw [zA (zu e hn),e];simp⟩⟩ (fun a u e=>?_) I.bare (zyr hf)
  by_cases ha:a=p
  · subst ha;rw [zo] at e;cases e;exact new
  · rw [zA ha] at e
    refine (I.hok a u e).stay (fun b u hb q=>k b u ?_ q) (fun b q=>by rw [zA (zu q hn)];exact q) fun b xs q=>by rw [zA (zu q hn)];exact q
    rcases hb with rfl | hb
    · exact zJi hf e
    · exact zJi hf hb
noncomputable def Ien (J:It):It:=⟨J.go,fun i H x H'=>∃ p y,x = .ref p∧H p=none∧H'=upd H p (.tup [.int i,y])∧J.yld i H y H,J.stop⟩
theorem zlo {P:Program} {w:World} {H:Hp} {h:Heap} {p:Addr} {x y:V} {u v:Value} (e:h.get? p=some { cls := .type "tuple",data := .seq #[u,v] }) (rx:RelV x u) (ry:RelV y v):ObjOk P w H h p (.tup [x,y]) :=
  ⟨by rw [sizeLine_eq];simp,[u,v], .cons rx (.cons ry .nil),⟨_,e,rfl,_,rfl⟩⟩
theorem ztm {P:Program} {w:World} {K:PySem.W.Frag} {elts:List Expr} {x1} {pos:Pos} (a e it:Addr) (hne:e≠it):Turn P w K (.Tuple elts x1 pos) (Ien (Itl K a)) [e,it] e (fun i h=>(∃ old,IsEnum h e it i old)∧h.IsListIter it a i) where
  mem:=by simp
  obj:=fun i h ⟨⟨old,he⟩,st⟩ b hb=>by
    have hb:b=e∨b=it:=by simpa using hb
    rcases hb with rfl | rfl
    · exact ⟨_,he,fun v z=>by have z':Data.fields _=Data.cell v:=z;cases z'⟩
    · obtain ⟨o,q,c,d⟩:=st
      exact ⟨o,q,fun v z=>by rw [d] at z;cases z⟩
  keep:=fun i h h' ⟨⟨old,he⟩,st⟩ k=>⟨⟨old,k e (by simp) _ he⟩,st.at fun o q=>k it (by simp) o q⟩
  item:=by
    intro X hP hw hK hc i pins s σ H E I hf ⟨⟨old,he⟩,st⟩ hg
    subst hP hw hK
    obtain ⟨xs,x,hq,hx⟩:=hg
    obtain ⟨its,rv,p,hz⟩:=I.list hq
    obtain ⟨u,hu,ru⟩:=rv.get hx
    refine zHj (N:=fun h=>h.IsListIter it a (i+1)) he hne (fun A' Q' E' hQ=>wpAny_nextOf_list_item st p.isList (x:=u) (by simpa using hu) fun h' st' sb=>hQ h' st' sb) (fun h h' n k=>n.at fun o q=>k o q) fun h' eo n' t' z' kk=>?_
    refine ⟨_,rfl,wpAny_letOwnedTupleGo_enum eo fun h2 e2 sb2=>?_⟩
    replace sb2:Heap.SameBut e h' h2:=sb2
    have hlt:e<s.heap.objs.size:=Heap.lt_size he
    have t2:=(sb2.2 s.heap.objs.size (Nat.ne_of_gt hlt)).trans t'
    have hfr:=I.hok.fresh (Nat.le_refl s.heap.objs.size)
    have I2:Inv X pins σ (upd H s.heap.objs.size (.tup [.int i,x])) { s with heap:=h2,toks:=s.toks+1 }:=by
      refine zgd I hf (fun b o hb q=>?_) (Nat.le_refl _) (zlo t2 ⟨_,rfl⟩ ru)
      simp only [List.mem_cons,List.not_mem_nil,or_false,not_or] at hb
      exact (sb2.2 b hb.1).trans (kk b o hb.1 hb.2 q)
    refine ⟨.ref s.heap.objs.size,_,I2,rfl,⟨_,x,rfl,hfr,rfl,rfl,fun ys hy=>by rw [I.list_inj hy hq];exact hx⟩,⟨⟨u,by simpa using e2⟩,n'.at fun o q=>(sb2.2 it (Ne.symm hne)).trans q⟩,fun b hb=>?_⟩
    · rw [zA]
      · exact (hf b hb).1
      · rintro rfl
        have hb:s.heap.objs.size=e∨s.heap.objs.size=it:=by simpa using hb
        rcases hb with q | q
        · exact absurd hlt (by rw [q];exact Nat.lt_irrefl _)
        · obtain ⟨o,qo,_⟩:=st;exact absurd (Heap.lt_size qo) (by rw [q];exact Nat.lt_irrefl _)
  done:=by
    intro X hP hw hK hc i pins s σ H E I hf ⟨⟨old,he⟩,st⟩ hg
    subst hP hw hK
    obtain ⟨xs,hq,hx⟩:=hg
    obtain ⟨its,rv,p,hz⟩:=I.list hq
    have hl:=rv.length
    refine zZl he (fun A' Q' E' hA hE=>wpAny_nextOf_list_end (hA.trans (I.ok.hd hc)) st p.isList (by simp;lia) hE) fun h' eb=>⟨rfl,z1h (t':=s.toks) I hf fun b o hb q=>eb b o (fun z=>hb (by simp [z])) q⟩
  self:=fun _ _ _ _ _ ⟨⟨old,he⟩,_⟩ h=>wpAny_pyIter_enum he h
theorem zGm {P:Program} {w:World} {K:PySem.W.Frag} {elts:List Expr} {x1} {pos:Pos} (a e it:Addr) (hne:e≠it):Turn P w K (.Tuple elts x1 pos) (Ien (Itt K a)) [e,it] e (fun i h=>(∃ old,IsEnum h e it i old)∧h.IsTupleIter it a i) where
  mem:=by simp
  obj:=fun i h ⟨⟨old,he⟩,st⟩ b hb=>by
    have hb:b=e∨b=it:=by simpa using hb
    rcases hb with rfl | rfl
    · exact ⟨_,he,fun v z=>by have z':Data.fields _=Data.cell v:=z;cases z'⟩
    · obtain ⟨o,q,c,d⟩:=st
      exact ⟨o,q,fun v z=>by rw [d] at z;cases z⟩
  keep:=fun i h h' ⟨⟨old,he⟩,st⟩ k=>⟨⟨old,k e (by simp) _ he⟩,st.at fun o q=>k it (by simp) o q⟩
  item:=by
    intro X hP hw hK hc i pins s σ H E I hf ⟨⟨old,he⟩,st⟩ hg
    subst hP hw hK
    obtain ⟨xs,x,hq,hx⟩:=hg
    obtain ⟨its,rv,p,hz⟩:=I.tuple hq
    obtain ⟨u,hu,ru⟩:=rv.get hx
    refine zHj (N:=fun h=>h.IsTupleIter it a (i+1)) he hne (fun A' Q' E' hQ=>nextT st (show s.heap.IsTuple a its.toArray from p) (x:=u) (by simpa using hu) fun h' st' sb=>hQ h' st' sb) (fun h h' n k=>n.at fun o q=>k o q) fun h' eo n' t' z' kk=>?_
    refine ⟨_,rfl,wpAny_letOwnedTupleGo_enum eo fun h2 e2 sb2=>?_⟩
    replace sb2:Heap.SameBut e h' h2:=sb2
    have hlt:e<s.heap.objs.size:=Heap.lt_size he
    have t2:=(sb2.2 s.heap.objs.size (Nat.ne_of_gt hlt)).trans t'
    have hfr:=I.hok.fresh (Nat.le_refl s.heap.objs.size)
    have I2:Inv X pins σ (upd H s.heap.objs.size (.tup [.int i,x])) { s with heap:=h2,toks:=s.toks+1 }:=by
      refine zgd I hf (fun b o hb q=>?_) (Nat.le_refl _) (zlo t2 ⟨_,rfl⟩ ru)
      simp only [List.mem_cons,List.not_mem_nil,or_false,not_or] at hb
      exact (sb2.2 b hb.1).trans (kk b o hb.1 hb.2 q)
    refine ⟨.ref s.heap.objs.size,_,I2,rfl,⟨_,x,rfl,hfr,rfl,rfl,fun ys hy=>by rw [I.tuple_inj hy hq];exact hx⟩,⟨⟨u,by simpa using e2⟩,n'.at fun o q=>(sb2.2 it (Ne.symm hne)).trans q⟩,fun b hb=>?_⟩
    · rw [zA]
      · exact (hf b hb).1
      · rintro rfl
        have hb:s.heap.objs.size=e∨s.heap.objs.size=it:=by simpa using hb
        rcases hb with q | q
        · exact absurd hlt (by rw [q];exact Nat.lt_irrefl _)
        · obtain ⟨o,qo,_⟩:=st;exact absurd (Heap.lt_size qo) (by rw [q];exact Nat.lt_irrefl _)
  done:=by
    intro X hP hw hK hc i pins s σ H E I hf ⟨⟨old,he⟩,st⟩ hg
    subst hP hw hK
    obtain ⟨xs,hq,hx⟩:=hg
    obtain ⟨its,rv,p,hz⟩:=I.tuple hq
    have hl:=rv.length
    refine zZl he (fun A' Q' E' hA hE=>zin (hA.trans (I.ok.hd hc)) st (show s.heap.IsTuple a its.toArray from p) (by simp;lia) hE) fun h' eb=>⟨rfl,z1h (t':=s.toks) I hf fun b o hb q=>eb b o (fun z=>hb (by simp [z])) q⟩
  self:=fun _ _ _ _ _ ⟨⟨old,he⟩,_⟩ h=>wpAny_pyIter_enum he h
theorem zro (l:Addr) (items:Array Value) (n:Nat) (dct:Option Addr) (sl:Array (Option Value)) :
    Meets (Builtin.«enumerate.__new__» ⟨[.type "enumerate", .ref l],[]⟩) (fun _ R s=>s.heap.get? l=some { cls := .type "tuple",dict:=dct,data := .seq items n,slots:=sl } ∧
      R (.ok (.ret (.ref (s.heap.push { cls := .type "tuple_iterator",data := .fields #[.ref l, .int 0 0] }).objs.size)))
        { s with heap:=(s.heap.push { cls := .type "tuple_iterator",data := .fields #[.ref l, .int 0 0] }).push { cls := .type "enumerate",data := .fields #[.none, .bool false, .ref s.heap.objs.size,rawInt 0, .none, .none] } }) :=
  .of_wp fun prog w A R s h=>by
    obtain ⟨hp,g,d,tk,os⟩:=s
    obtain ⟨hl,h⟩:=h
    have hsub:=sub_enumerate
    have hL:Heap.IsTuple (Shared.heap ⟨hp,g,d,tk,os⟩) l items:=⟨_,hl,rfl,n,rfl⟩
    wp_walk using AutoSeq1.wpAny_loadPart' hl
    refine wpAny_stack_any fun st=>wpAny_pure ?_
    split
    · rename_i c _ _ _ _ _
      cases (c == Value.type "enumerate")
      · wp_walk using AutoSeq1.wpAny_loadPart' hl,wpAny_pyIter_tuple hL
        exact ⟨_,rfl,h⟩
      · wp_walk using AutoSeq1.wpAny_loadPart' hl,wpAny_pyIter_tuple hL
        exact ⟨_,rfl,h⟩
    · wp_walk using AutoSeq1.wpAny_loadPart' hl,wpAny_pyIter_tuple hL
      exact ⟨_,rfl,h⟩
theorem zdm {prog:Program} {w:World} {A:Around} {E:Value→Shared→Prop} {l:Addr} {items:Array Value} {Q:Value→Shared→Prop} (hL:s.heap.IsTuple l items)
    (h:∀ h',IsEnum h' (s.heap.objs.size+1) s.heap.objs.size 0 .none→h'.IsTupleIter s.heap.objs.size l 0→h'.objs.size=s.heap.objs.size+2 →
      (∀ b o,s.heap.get? b=some o→h'.get? b=some o)→Q (.ref (s.heap.objs.size+1)) { s with heap:=h' }):wpAny (model prog w) A (call (.type "enumerate") [.ref l]) Q E s:=by
  obtain ⟨⟨c,dct,dt,sl⟩,hl,hc,n,hd⟩:=hL
  replace hc:c = .type "tuple":=hc
  replace hd:dt = .seq items n:=hd
  subst hc hd
  refine callType_new F.called_enumerate (by decide) (F.typeCall_enumerate_1 _) (F.newCall_enumerate_1 _) (fun obj=>F.args_object_init_2 obj _) F.entry_enumerate_new (zro l items n dct sl) ⟨hl,?_⟩
  have hz:(s.heap.push { cls := .type "tuple_iterator",data := .fields #[.ref l, .int 0 0] }).objs.size=s.heap.objs.size+1:=Heap.size_push ..
  have he:IsEnum ((s.heap.push { cls := .type "tuple_iterator",data := .fields #[.ref l, .int 0 0] }).push { cls := .type "enumerate",data := .fields #[.none, .bool false, .ref s.heap.objs.size,rawInt 0, .none, .none] }) (s.heap.objs.size+1) s.heap.objs.size 0 .none:=by
    have:=Heap.get?_push_size (s.heap.push { cls := .type "tuple_iterator",data := .fields #[.ref l, .int 0 0] }) (o:={ cls := .type "enumerate",data := .fields #[.none, .bool false, .ref s.heap.objs.size,rawInt 0, .none, .none] }) rfl
    rw [hz] at this;exact this
  show _∧_
  rw [hz]
  exact ⟨⟨_,he,rfl⟩,h _ he ⟨_,Heap.get?_push_of_some _ (Heap.get?_push_size _ rfl),rfl,rfl⟩ (by rw [Heap.size_push,hz]) fun b o x=>Heap.get?_push_of_some _ (Heap.get?_push_of_some _ x)⟩
noncomputable def zXt (K:PySem.W.Frag) (tl:TE):TI:=fun σ H R=>tl σ H fun x H1=>∃ a,x = .ref a∧((∃ xs,SqL K H1 a xs)∧R (Ien (Itl K a)) H1∨(∃ xs,SqT K H1 a xs)∧R (Ien (Itt K a)) H1)
theorem zYq {l:Expr} {tl:TE} {elts:List Expr} {x1} {tp p pos:Pos} (hg:Gl X "enumerate") (hm:X.mg "enumerate" = none) (hv:bootBuiltins "enumerate" = some (.type "enumerate")) (hl:PE X l tl) (hs:starEach [l] X.env = [(false,eval l X.env)]:=by rfl) :
    PI X (.Tuple elts x1 tp) (.Call (.Name "enumerate" p) [l] [] pos) (zXt X.K tl):=by
  intro pins s σ H R I h
  refine Call_ (zwi I hg hm hv (PyProof.Rows.callWith_type1 (thn (zsc hl zee hs pos pins s σ H (fun vs H1=>match vs with
    | [x]=>∃ a,x = .ref a∧((∃ xs,SqL X.K H1 a xs)∧R (Ien (Itl X.K a)) H1∨(∃ xs,SqT X.K H1 a xs)∧R (Ien (Itt X.K a)) H1)
    | _=>False) I h) fun us s1 ⟨vs,H1,I1,r1,q1⟩=>?_) hs rfl))
  dsimp only at q1
  split at q1
  case h_2=>exact q1.elim
  obtain ⟨a,e,q⟩:=q1
  subst e
  cases r1 with
  | cons r rr =>
    cases rr
    cases r
    have fin:∀ h':Heap,(∀ b o,s1.heap.get? b=some o→h'.get? b=some o)→∀ b∈[s1.heap.objs.size+1,s1.heap.objs.size],zXl X pins H1 b:=fun h' kp b hb=>by
      have hb:b=s1.heap.objs.size+1∨b=s1.heap.objs.size:=by simpa using hb
      rcases hb with rfl | rfl
      · exact I1.fpOk (Nat.le_succ _) (I1.hok.fresh (Nat.le_succ _))
      · exact I1.fpOk (Nat.le_refl _) (I1.hok.fresh (Nat.le_refl _))
    have hne:s1.heap.objs.size+1≠s1.heap.objs.size:=Nat.succ_ne_self _
    rcases q with ⟨⟨xs,hq⟩,q⟩ | ⟨⟨xs,hq⟩,q⟩
    · obtain ⟨its,rv,pl,hz⟩:=I1.list hq
      refine call_enumerate_list pl.isList fun h' e1 i1 z1 kp=>?_
      refine wpAny_pyIter_enum (s:={ s1 with heap:=h' }) e1 ?_
      exact ⟨_,[s1.heap.objs.size+1,s1.heap.objs.size],_,_,H1,rfl,I1.kept (t':=s1.toks) kp,ztm a _ _ hne,⟨⟨_,e1⟩,i1⟩,fin h' kp,q⟩
    · obtain ⟨its,rv,pl,hz⟩:=I1.tuple hq
      refine zdm (show s1.heap.IsTuple a its.toArray from pl) fun h' e1 i1 z1 kp=>?_
      refine wpAny_pyIter_enum (s:={ s1 with heap:=h' }) e1 ?_
      exact ⟨_,[s1.heap.objs.size+1,s1.heap.objs.size],_,_,H1,rfl,I1.kept (t':=s1.toks) kp,zGm a _ _ hne,⟨⟨_,e1⟩,i1⟩,fin h' kp,q⟩
noncomputable def zQe (ds:List D):List D:=ds.zipIdx.map fun p => .tup [.int (p.2:Nat),p.1]
theorem zZb (ds:List D):(zQe ds).length=ds.length:=by simp [zQe]
theorem zFi {ds:List D} {i:Nat} {d:D} (h:(zQe ds)[i]?=some d):∃ y,ds[i]?=some y∧d = .tup [.int i,y]:=by
  unfold zQe at h
  rw [List.getElem?_map,List.getElem?_zipIdx] at h
  cases e:ds[i]? with
  | none=>rw [e] at h;cases h
  | some y =>
    rw [e] at h
    refine ⟨y,rfl,?_⟩
    have:=Option.some.inj h
    rw [← this]
    simp
@[simp] noncomputable def zYi (φ:FE):FI:=fun δ μ=>(φ δ μ).bind fun p=>match p.1 with
  | .tup ds=>some (zQe ds,yes,p.2)
  | .fz ds=>some (zQe ds,yes,p.2)
  | .loc n=>match p.2[n]? with
    | some (.lst ds)=>some (zQe ds,zHh n ds,p.2)
    | _=>none
  | _=>none
theorem z8k {K:PySem.W.Frag} {J:It} {ρ:List Addr} {H:Hp} {ds:List D} {ok:Mem→Bool} (h:ItIs K J ρ H ds ok):ItIs K (Ien J) ρ H (zQe ds) ok:=by
  refine ⟨fun ρ' H' μ' i x R o hi=>h.go ρ' H' μ' i x R o (by rw [zZb] at hi;exact hi),fun ρ' H' μ' i x H'' d x' R o e ⟨p,y,e1,hp,e2,yl⟩=>?_,fun ρ' H' μ' x R o=>by rw [zZb];exact h.stop ρ' H' μ' x R o⟩
  obtain ⟨z,ez,rfl⟩:=zFi e
  obtain ⟨_,_,rz⟩:=h.yld ρ' H' μ' i y H' z x' R o ez yl
  subst e1 e2
  exact ⟨Ext.new hp,R.newTup hp, .tup zo (.cons .int (.cons (rz.ext (Ext.new hp)) .nil))⟩
theorem zWe {a:Expr} {φ:FE} {elts:List Expr} {x1} {tp p pos:Pos} (hm:X.mg "enumerate" = none) (hv:bootBuiltins "enumerate" = some (.type "enumerate")) (h:ME X a φ) (hg:Gl X "enumerate":=by rfl) (hs:starEach [a] X.env = [(false,eval a X.env)]:=by rfl) :
    MI X (.Tuple elts x1 tp) (.Call (.Name "enumerate" p) [a] [] pos) (zYi φ) :=
  zdn (zYq hg hm hv h hs) fun ρ δ μ σ H ds ok μ' R A e k=>by
    obtain ⟨⟨x,μ1⟩,e1,e⟩:=zf e
    refine ⟨ρ,δ,μ,x,μ1,A,e1,fun ρ1 H1 v1 x1 R1 r1=>?_⟩
    dsimp only at e
    split at e
    · cases e
      obtain ⟨a,vs,rfl,e2,q2⟩:=r1.tup_inv
      exact ⟨a,rfl, .inr ⟨⟨vs,SqT.of e2⟩,k ρ1 H1 _ x1 R1 (z8k (zIp e2 q2))⟩⟩
    · cases e
      obtain ⟨a,vs,rfl,e2,q2⟩:=r1.fz_inv
      exact ⟨a,rfl, .inl ⟨⟨vs,e2.sq⟩,k ρ1 H1 _ x1 R1 (z8k (zUl fun ρ' H' μ' x _ _=>⟨vs,(x.fz e2).sq,q2.ext x⟩))⟩⟩
    · split at e
      · rename_i hm
        cases e
        obtain ⟨a,rfl,e2⟩:=r1.loc_inv
        obtain ⟨vs,e3,q3⟩:=R1.at_ _ _ _ e2 hm
        refine ⟨a,rfl, .inl ⟨⟨vs,SqL.of e3⟩,k ρ1 H1 _ x1 R1 (z8k (zUl fun ρ' H' μ'' x R' o=>?_))⟩⟩
        obtain ⟨vs',e4,q4⟩:=R'.at_ _ _ _ (x.get e2) (stays_iff.mp o)
        exact ⟨vs',SqL.of e4,q4⟩
      · cases e
    · cases e
end
end M
set_option Elab.async false
set_option linter.all false
set_option maxRecDepth 100000
set_option autoImplicit false
namespace M
open PySem PySem.Spec PyProof.Rows L2
section
variable {X:Cx} {a b c e:Expr} {es:List Expr} {φ ψ χ:FE} {pos:Pos}
@[simp] noncomputable def zeh:GM:=fun x ds μ=>match x,ds with
  | .loc n,[d]=>match μ[n]? with
    | some (.lst xs)=>bif ztc d && xs.all ztc then some (.int (xs.countP fun y=>eqF y d:Nat),μ) else none
    | _=>none
  | _,_=>none
theorem zqj {x:V}:∀ {xs:List V} {us:List Value},Vals xs us→xs.all zmg=true→us.countP (eqU x)=xs.countP fun y=>eqV y x
  | _,_, .nil,_=>rfl
  | y :: xs,u :: us, .cons r t,f=>by
    rw [List.all_cons,Bool.and_eq_true] at f
    rw [List.countP_cons,List.countP_cons,zNl r f.1,zqj t f.2]
theorem zMj {K:PySem.W.Frag} {ρ:List Addr} {H:Hp} {x:D} {v:V} (rx:RepV K ρ H x v) (fx:ztc x=true):∀ {ds:List D} {vs:List V},RepVs K ρ H ds vs→ds.all ztc=true→(vs.countP fun y=>eqV y v)=ds.countP fun d=>eqF d x
  | [],_,r,_=>by rw [r.nil_inv];rfl
  | d :: ds,_,r,f=>by
    obtain ⟨w,ws,rfl,r1,r2⟩:=r.cons_inv
    rw [List.all_cons,Bool.and_eq_true] at f
    rw [List.countP_cons,List.countP_cons,zMj rx fx r2 f.2,zLk r1 rx f.1 fx]
theorem zWn:MtG X "list.count" zeh:=by
  refine MtG.of fun pins s σ H x xs v us Q I rx rs ρ dx ds μ d μ' r1 r2 R e k=>?_
  unfold zeh at e
  split at e
  · split at e
    · rename_i hm
      obtain ⟨h1,e⟩:=zL e
      rw [Bool.and_eq_true] at h1
      cases e
      obtain ⟨a,rfl,ea⟩:=r1.loc_inv
      obtain ⟨vs,e3,q3⟩:=R.at_ _ _ _ ea hm
      obtain ⟨w,r,rfl,q1,q2⟩:=r2.cons_inv
      rw [q2.nil_inv] at rs
      obtain ⟨u,rfl,ru⟩:=vals1 rs
      cases rx
      obtain ⟨z,its,n,rv,hl,el⟩:=I.lstM e3
      obtain ⟨fv,_⟩:=zWl q1 h1.1 q3 h1.2
      refine call_meets PySem.F.slot_list_count ⟨_,el,rfl⟩ PySem.F.entry_list_count (PySem.F.args_list_count_2 _ _) (SeqAt.list_countAt a its.toArray n _ _ u (eqU w)) ⟨el,fun y hy=>zpf ru (z3e q1 h1.1) rv fv y (by simpa using hy),?_⟩
      refine ⟨.int _,H,I.tok _,⟨_,rfl⟩,?_⟩
      rw [show its.toArray.toList=its by simp,zqj rv fv,zMj q1 h1.1 q3 h1.2]
      exact k ρ H _ Ext.refl R .int
    · cases e
  · cases e
theorem zXo {o:Expr} {ψ:FA} {apos:Pos} (ho:ME X o φ) (ha:MAn X (e :: es) ψ)
    (hbase:attributeBase o "count" X.env (eval o X.env)=eval o X.env:=by rfl)
    (hfew:((backTo pos (starEach (e :: es) X.env)).all (fun x=>!x.1) && (backToKw pos (keywordEach [] X.env)).all (fun x=>x.1.isSome)
      && decide ((e :: es).length+([]:List Keyword).length+(if ([]:List Keyword).isEmpty then 0 else 1)<30))=true:=by rfl)
    (hline:(apos.endLine == pos.line)=true:=by rfl) (hs:starEach (e :: es) X.env=(false,eval e X.env) :: starEach es X.env:=by rfl) (hplain:(backTo pos (starEach es X.env)).any (·.1)=false:=by rfl) :
    ME X (.Call (.Attribute o "count" apos) (e :: es) [] pos) (zYd zeh φ ψ):=zPf PySem.F.slot_list_count PySem.F.type_list_count zWn ho ha hbase hfew hline hs hplain
@[simp] noncomputable def z5f:GM:=fun x ds μ=>match x,ds with
  | .loc n,[.int i]=>match μ[n]? with
    | some (.lst xs)=>(zuf xs).bind fun ns=>bif ns.contains i then some (.non,μ.set n (.lst ((ns.erase i).map .int))) else none
    | _=>none
  | _,_=>none
theorem zDl {i:Int}:∀ {ns:List Int},i∈ns→∃ j,∃ hj:j<ns.length,ns[j]=i∧(∀ m (hm:m<ns.length),m<j→ns[m]≠i)∧ns.erase i=ns.eraseIdx j
  | [],h=>by cases h
  | n :: ns,h=>by
    by_cases hn:n=i
    · exact ⟨0,by simp,hn,fun m _ hm=>absurd hm (Nat.not_lt_zero _),by simp [hn]⟩
    · have h':i∈ns:=by
        rcases List.mem_cons.mp h with h | h
        · exact absurd h.symm hn
        · exact h
      obtain ⟨j,hj,e1,e2,e3⟩:=zDl h'
      refine ⟨j+1,by simpa using hj,by simpa using e1,fun m hm hmj=>?_,?_⟩
      · cases m with
        | zero=>simpa using hn
        | succ m=>simpa using e2 m (by simpa using hm) (by first|decide|lia)
      · rw [List.erase_cons_tail (by simpa using hn),e3,List.eraseIdx_cons_succ]
theorem zak {α β:Type} (f:α→β):∀ (l:List α) (j:Nat),(l.eraseIdx j).map f=(l.map f).eraseIdx j
  | [],j=>by simp
  | x :: l,0=>by simp
  | x :: l,j+1=>by simp [zak f l j]
theorem zii:∀ {vs:List V} {us:List Value} (j:Nat),Vals vs us→Vals (vs.eraseIdx j) (us.eraseIdx j)
  | _,_,_, .nil=>by simp;exact .nil
  | _,_,0, .cons r t=>by simpa using t
  | _,_,j+1, .cons r t=>by rw [List.eraseIdx_cons_succ,List.eraseIdx_cons_succ];exact .cons r (zii j t)
theorem zvm:MtG X "list.remove" z5f:=by
  refine MtG.of fun pins s σ H x xs v us Q I rx rs ρ dx ds μ d μ' r1 r2 R e k=>?_
  unfold z5f at e
  split at e
  · rename_i l i
    split at e
    · rename_i hm
      obtain ⟨ns,e2,e⟩:=zf e
      obtain ⟨h1,e⟩:=zL e
      cases e
      rw [zLc e2] at hm
      obtain ⟨a,rfl,ea⟩:=r1.loc_inv
      obtain ⟨vs,e3,q3⟩:=R.at_ _ _ _ ea hm
      rw [zqe q3] at e3
      obtain ⟨w,r,rfl,q1,q2⟩:=r2.cons_inv
      rw [q2.nil_inv,q1.int_inv] at rs
      obtain ⟨u,rfl,ru⟩:=vals1 rs
      obtain ⟨t,rfl⟩:=ru
      cases rx
      obtain ⟨z,its,n,rv,hl,el⟩:=I.lstM e3
      obtain ⟨j,hj,hit,hno,her⟩:=zDl (show i∈ns by simpa using h1)
      have hlen:its.length=ns.length:=by rw [← rv.length];simp
      have at_:∀ m (hm:m<its.length),∃ t,its[m] = .int (ns[m]'(by first|decide|lia)) t:=fun m hm=>by
        have hg:(ns.map V.int)[m]?=some (.int (ns[m]'(by first|decide|lia))):=by simp [show m<ns.length by lia]
        obtain ⟨u,hu,t,ru⟩:=rv.get hg
        exact ⟨t,by rw [← ru];exact (List.getElem?_eq_some_iff.mp hu).2⟩
      let f:Value→Bool:=fun y=>match y with | .int z _=>z == i | _=>false
      have hz':its.length≤sizeLine:=by rw [← rv.length];exact z
      refine call_meets PySem.F.slot_list_remove ⟨_,el,rfl⟩ PySem.F.entry_list_remove (PySem.F.args_list_remove_2 _ _)
        (MeetsSeq.list_remove a its.toArray n (.int i t) f (fun y hy=>?_) j (by simp;lia) ?_ (fun m hm hmj=>?_) (by simpa using hz')) ⟨el,?_⟩
      · obtain ⟨m,hm,rfl⟩:=List.mem_iff_getElem.mp (show y∈its by simpa using hy)
        obtain ⟨t',e'⟩:=at_ m hm
        rw [e']
        exact MeetsSeq.EqGives.int _ _ _ _
      · obtain ⟨t',e'⟩:=at_ j (by first|decide|lia)
        show f its[j]=true
        rw [e']
        simp [f,hit]
      · have hm':m<its.length:=by simpa using hm
        obtain ⟨t',e'⟩:=at_ m hm'
        show f its[m]=false
        rw [e']
        simpa [f] using hno m (by first|decide|lia) hmj
      · have hmu:Mut (H a):=by rw [e3];trivial
        refine ⟨.non,_,I.lset (t':=s.toks) (ys:=(ns.erase i).map V.int) (its':=its.eraseIdx j) e3 el ?_ ?_ ?_,rfl,k ρ _ _ (Ext.wr hmu) (R.wr hmu ea ⟨_,zo,zCd⟩) .non⟩
        · simp [Array.eraseIdxIfInBounds,show j<its.length by lia]
        · rw [her,zak]
          exact zii j rv
        · have:(ns.erase i).length≤ns.length:=by rw [her];exact List.length_eraseIdx_le _ _
          rw [List.length_map] at z ⊢
          lia
    · cases e
  · cases e
theorem zJn {o:Expr} {ψ:FA} {apos:Pos} (ho:ME X o φ) (ha:MAn X (e :: es) ψ)
    (hbase:attributeBase o "remove" X.env (eval o X.env)=eval o X.env:=by rfl)
    (hfew:((backTo pos (starEach (e :: es) X.env)).all (fun x=>!x.1) && (backToKw pos (keywordEach [] X.env)).all (fun x=>x.1.isSome)
      && decide ((e :: es).length+([]:List Keyword).length+(if ([]:List Keyword).isEmpty then 0 else 1)<30))=true:=by rfl)
    (hline:(apos.endLine == pos.line)=true:=by rfl) (hs:starEach (e :: es) X.env=(false,eval e X.env) :: starEach es X.env:=by rfl) (hplain:(backTo pos (starEach es X.env)).any (·.1)=false:=by rfl) :
    ME X (.Call (.Attribute o "remove" apos) (e :: es) [] pos) (zYd z5f φ ψ):=zPf PySem.F.slot_list_remove PySem.F.type_list_remove zvm ho ha hbase hfew hline hs hplain
@[simp] noncomputable def zrr (i:Nat) (g:G2) (φ:FE):FS:=fun δ μ=>match δ[i]? with
  | some (some x)=>(φ δ μ).bind fun p=>(g x p.1 p.2).bind fun q=>some (.next (δ.set i (some q.1)) q.2)
  | _=>none
noncomputable def z9o:G2:=fun x y μ=>match x,y with
  | .int i, .int j=>some (.int (i+j),μ)
  | _,_=>none
theorem zRq:OpM X (inplaceOp .Add) z9o:=by
  refine OpM.of fun pins s σ H x y v u Q I rx ry ρ dx dy μ d μ' r1 r2 R e k=>?_
  unfold z9o at e
  split at e
  · cases e
    exact zjq pins s σ H x y v u Q I rx ry ⟨_,_,r1.int_inv,r2.int_inv,k ρ H _ Ext.refl R .int⟩
  · cases e
theorem zZr {x:Str} {op:Operator} {g:G2} {pos':Pos} (i:Nat) (ho:OpM X (inplaceOp op) g) (he:ME X e φ) (hN:X.N.Nodup:=by assumption) (hi:X.N[i]?=some x:=by rfl) (hx:L2.Loc X.env.scope x:=by first | exact Or.inl rfl | exact Or.inr rfl)
    (hf:X.fn x=true∨X.env.scope.names.lookup x=some .local:=by first | exact .inl rfl | exact .inr rfl | assumption):MS X (.AugAssign (.Name x pos') op e pos) (zrr i g φ) :=
  zBh (zSs (ti:=rM X.K g) hN hi hx he (fun pins s σ H x y v u Q I rx ry q=>ho pins s σ H x y v u Q I rx ry q) hf) fun ρ δ μ σ H o E A e k=>by
    unfold zrr at e
    split at e
    · rename_i d hd
      obtain ⟨v,hv,rv⟩:=A.st i _ hd
      obtain ⟨⟨y,μ1⟩,e1,e⟩:=zf e
      obtain ⟨⟨z,μ2⟩,e2,e⟩:=zf e
      cases e
      refine ⟨v,hv,ρ,δ,μ,y,μ1,A,e1,fun ρ1 H1 w x1 R1 r1=>?_⟩
      refine ⟨ρ1,d,y,μ1,z,μ2,rv.ext x1,r1,R1,e2,fun ρ2 H2 w2 x2 R2 r2=>?_⟩
      exact k ρ2 _ H2 (x1.trans x2) ((A.ext (x1.trans x2) R2).set r2 i)
    · cases e
noncomputable def zzb (c:FT) (body:FS):Nat→FS
  | 0,_,_=>none
  | n+1,δ,μ=>(c δ μ).bind fun p=>bif p.1 then (match body δ p.2 with
    | some (.next δ' μ')=>zzb c body n δ' μ'
    | some (.cont δ' μ')=>zzb c body n δ' μ'
    | some (.brk δ' μ')=>some (.next δ' μ')
    | some (.ret d μ')=>some (.ret d μ')
    | some (.exc C fs μ')=>some (.exc C fs μ')
    | none=>none) else some (.next δ p.2)
noncomputable def z5j (n:Nat) (c:FT) (body:FS):FS:=zzb c body n
theorem zdj {body:List Stmt} {t:FT} {p:FS} (n:Nat) (hc:MT X c t) (hb:MSs X body p) (hx:PassesOwn (model X.prog X.w) X.A X.env X.xe:=by first | exact PassesOwn.never | exact PassesOwn.leaving):MS X (.While c body [] pos) (z5j n t p) :=
  zBh (zhp hx hc hb) fun ρ δ μ σ H o E A e k=>by
    refine ⟨fun m σ' H'=>∃ ρ' δ' μ',Ext ρ H ρ' H'∧At X.K ρ' H' σ' δ' μ'∧zzb t p m δ' μ'=some o,⟨n,ρ,δ,μ,Ext.refl,A,e⟩,?_⟩
    rintro m σ' H' ⟨ρ',δ',μ',x',A',ew⟩
    cases m with
    | zero=>cases ew
    | succ m =>
      unfold zzb at ew
      obtain ⟨⟨b,μ1⟩,e1,ew⟩:=zf ew
      refine ⟨ρ',δ',μ',b,μ1,A',e1,fun ρ1 H1 x1 R1=>?_⟩
      have xx:=x'.trans x1
      cases b with
      | false =>
        cases ew
        exact iteF (k ρ1 σ' H1 xx (A'.ext x1 R1))
      | true =>
        refine iteT ⟨fun σ3 H3=>∃ ρ3 δ3 μ3,Ext ρ H ρ3 H3∧At X.K ρ3 H3 σ3 δ3 μ3∧zzb t p m δ3 μ3=some o,fun σ3 H3 q=>⟨m,Nat.lt_succ_self _,q⟩,?_⟩
        dsimp only [cond_true] at ew
        cases eb:p δ' μ1 with
        | none=>rw [eb] at ew;cases ew
        | some ob =>
          rw [eb] at ew
          refine ⟨ρ1,δ',μ1,ob,A'.ext x1 R1,eb,?_⟩
          cases ob with
          | next δ6 μ6=>exact fun ρ6 σ6 H6 x6 A6=>⟨ρ6,δ6,μ6,xx.trans x6,A6,ew⟩
          | cont δ6 μ6=>exact fun ρ6 σ6 H6 x6 A6=>⟨ρ6,δ6,μ6,xx.trans x6,A6,ew⟩
          | brk δ6 μ6=>cases ew;exact k.ext xx
          | ret d μ6=>cases ew;exact k.ext xx
          | exc C fs μ6=>cases ew;exact k.ext xx
end
end M
set_option Elab.async false
set_option linter.all false
set_option maxRecDepth 100000
set_option autoImplicit false
namespace M
open PySem PySem.Spec PyProof.Rows L2
section
variable {X:Cx} {a b c e:Expr} {es:List Expr} {φ ψ χ:FE} {pos:Pos}
end
end M
set_option Elab.async false
set_option linter.all false
set_option maxRecDepth 100000
namespace L2
open PySem PySem.Spec PyProof.Rows
section
variable {κ:Type} [DecidableEq κ]
noncomputable def zFl (kvs:List (κ × V)) (k:κ):Option V:=(kvs.find? fun kv=>decide (kv.1=k)).map (·.2)
noncomputable def zRm (kvs:List (κ × V)) (k:κ) (v:V):List (κ × V) :=
  if (kvs.any fun kv=>decide (kv.1=k))=true then kvs.map (fun kv=>if kv.1=k then (kv.1,v) else kv) else kvs ++ [(k,v)]
theorem zLl {p:κ × V} {r:List (κ × V)} {k:κ} (e:p.1=k):zFl (p :: r) k=some p.2:=by simp [zFl,List.find?_cons,e]
theorem zul {p:κ × V} {r:List (κ × V)} {k:κ} (e:¬ p.1=k):zFl (p :: r) k=zFl r k:=by simp [zFl,List.find?_cons,e]
theorem z9k (kvs:List (κ × V)) (k:κ) (v:V):(zRm kvs k v).length≤kvs.length+1:=by
  unfold zRm
  split
  · rw [List.length_map];lia
  · rw [List.length_append,List.length_cons,List.length_nil];lia
theorem RelO.isSome_eq {o:Option V} {u:Option Value} (r:RelO o u):o.isSome=u.isSome:=by
  cases o with
  | none=>cases u with
    | none=>rfl
    | some _=>exact (show False from r).elim
  | some _=>cases u with
    | none=>exact (show False from r).elim
    | some _=>rfl
theorem KV.val {kvs:List (κ × V)} {vs:List (κ × Value)} (r:KV kvs vs) (k:κ):RelO (zFl kvs k) (valueAt vs k):=by
  unfold KV at r
  induction r with
  | nil=>exact True.intro
  | @cons p q ps qs h t ih =>
    obtain ⟨h1,h2⟩:=h
    by_cases e:p.1=k
    · have e':q.1=k:=h1.symm.trans e
      have b:valueAt (q :: qs) k=some q.2:=by simp [valueAt,List.find?_cons,e']
      rw [zLl e,b];exact h2
    · have e':¬ q.1=k:=fun z=>e (h1.trans z)
      have b:valueAt (q :: qs) k=valueAt qs k:=by simp [valueAt,List.find?_cons,e']
      rw [zul e,b];exact ih
theorem KV.any {kvs:List (κ × V)} {vs:List (κ × Value)} (r:KV kvs vs) (k:κ):(kvs.any fun kv=>decide (kv.1=k))=vs.any fun kv=>decide (kv.1=k):=by
  unfold KV at r
  induction r with
  | nil=>rfl
  | cons h t ih=>rw [List.any_cons,List.any_cons,ih,h.1]
theorem KV.repl {kvs:List (κ × V)} {vs:List (κ × Value)} (r:KV kvs vs) (k:κ) {y:V} {u:Value} (ry:RelV y u) :
    KV (kvs.map fun kv=>if kv.1=k then (kv.1,y) else kv) (vs.map fun kv=>if kv.1=k then (kv.1,u) else kv):=by
  unfold KV at r ⊢
  induction r with
  | nil=>exact .nil
  | @cons p q ps qs h t ih =>
    rw [List.map_cons,List.map_cons]
    refine .cons ?_ ih
    obtain ⟨h1,h2⟩:=h
    by_cases e:p.1=k
    · rw [if_pos e,if_pos (h1.symm.trans e)];exact ⟨h1,ry⟩
    · rw [if_neg e,if_neg (fun z=>e (h1.trans z))];exact ⟨h1,h2⟩
theorem KV.put {kvs:List (κ × V)} {vs:List (κ × Value)} (r:KV kvs vs) (k:κ) {y:V} {u:Value} (ry:RelV y u):KV (zRm kvs k y) (stored vs k u):=by
  unfold zRm stored
  rw [r.any k]
  by_cases e:(vs.any fun kv=>decide (kv.1=k))=true
  · rw [if_pos e,if_pos e];exact r.repl k ry
  · rw [if_neg e,if_neg e];exact Paired.snoc r ⟨rfl,ry⟩
theorem KV.keys {kvs:List (κ × V)} {vs:List (κ × Value)} (r:KV kvs vs):kvs.map (·.1)=vs.map (·.1):=by
  unfold KV at r
  induction r with
  | nil=>rfl
  | cons h t ih=>rw [List.map_cons,List.map_cons,ih,h.1]
theorem KV.length {kvs:List (κ × V)} {vs:List (κ × Value)} (r:KV kvs vs):kvs.length=vs.length:=Paired.length r
end
theorem zcp {P:Program} {w:World} {k:Key} {u:Value} (r:RelV (kV k) u):(zwb P w).is k u=true:=by
  cases k with
  | inl i=>obtain ⟨t,e⟩:=(show ∃ t,u=Value.int i t from r);subst e;exact zQk P w i t
  | inr x=>obtain ⟨t,e⟩:=(show ∃ t,u=Value.str x t from r);subst e;exact zdl P w x t
theorem zMs {P:Program} {w:World} {H:Hp} {h:Heap} {a:Addr} {kvs:List (Key×V)} (ok:HOk P w H h) (e:H a=some (.dK kvs)):kvs.length≤sizeLine∧(a == sysModules)=false∧∃ vs,KV kvs vs∧h.DictOf (zwb P w) a vs :=
  show ObjOk P w H h a (.dK kvs) from ok a _ e
end L2
set_option Elab.async false
set_option linter.all false
set_option maxRecDepth 100000
set_option autoImplicit false
namespace M
open PySem PySem.Spec PyProof.Rows L2
noncomputable def zWc (kvs:List (Int×D)) (i:Int):Option D:=(kvs.find? fun p=>decide (p.1=i)).map (·.2)
noncomputable def zyo (kvs:List (Int×D)) (i:Int) (d:D):List (Int×D):=if (kvs.any fun p=>decide (p.1=i))=true then kvs.map (fun p=>if p.1=i then (p.1,d) else p) else kvs ++ [(i,d)]
@[simp] noncomputable def z4b (μ:Mem):D→Option (List (Int×D))
  | .loc n=>match μ[n]? with
    | some (.dct kvs)=>some kvs
    | some (.dcf kvs)=>some kvs
    | _=>none
  | _=>none
noncomputable def RdK (H:Hp) (a:Addr) (vs:List (Key×V)):Prop:=H a=some (.dK vs)∨∃ o,H a=some (.frz o (.dK vs))
theorem zsh {P:Program} {w:World} {H:Hp} {h:Heap} {a:Addr} {kvs:List (Key×V)} (ok:HOk P w H h) (e:RdK H a kvs):kvs.length≤sizeLine∧(a == sysModules)=false∧∃ vs,KV kvs vs∧h.DictOf (zwb P w) a vs:=by
  rcases e with e | ⟨o,e⟩
  · exact zMs ok e
  · exact (show ObjOk P w H h a (.frz o (.dK kvs)) from ok a _ e).2
section
variable {K:PySem.W.Frag} {ρ:List Addr} {H:Hp} {μ:Mem}
theorem zcf {d:D} {v:V} {kvs:List (Int×D)} (R:RepH K ρ H μ) (r:RepV K ρ H d v) (e:z4b μ d=some kvs):∃ p vs,v = .ref p∧RdK H p vs∧vs.map (·.1)=kvs.map (fun p=>Sum.inl p.1)∧RepVs K ρ H (kvs.map (·.2)) (vs.map (·.2)):=by
  unfold z4b at e
  split at e
  · split at e
    · rename_i hm
      cases e
      obtain ⟨a,e1,e2⟩:=r.loc_inv
      obtain ⟨vs,e3,q1,q2⟩:=R.at_ _ _ _ e2 hm
      exact ⟨a,vs,e1, .inl e3,q1,q2⟩
    · rename_i hm
      cases e
      obtain ⟨a,e1,e2⟩:=r.loc_inv
      obtain ⟨o,vs,e3,q1,q2⟩:=R.at_ _ _ _ e2 hm
      exact ⟨a,vs,e1, .inr ⟨o,e3⟩,q1,q2⟩
    · cases e
  · cases e
theorem zej:∀ {kvs:List (Int×D)} {vs:List (Key×V)} (i:Int),vs.map (·.1)=kvs.map (fun p=>Sum.inl p.1)→RepVs K ρ H (kvs.map (·.2)) (vs.map (·.2)) →
    (∀ d,zWc kvs i=some d→∃ v,zFl vs (Sum.inl i)=some v∧RepV K ρ H d v)∧(zWc kvs i=none→zFl vs (Sum.inl i)=none)
  | [],vs,i,h1,h2=>by
    have:vs = []:=by simpa using h1
    subst this
    exact ⟨fun d h=>(by cases h),fun _=>rfl⟩
  | (j,d) :: kvs,vs,i,h1,h2=>by
    cases vs with
    | nil=>simp at h1
    | cons q vs =>
      obtain ⟨k,v⟩:=q
      rw [List.map_cons,List.map_cons,List.cons.injEq] at h1
      obtain ⟨hk,h1⟩:=h1
      have hk:k=Sum.inl j:=hk
      subst hk
      obtain ⟨v',r,e,q1,q2⟩:=h2.cons_inv
      rw [List.map_cons,List.cons.injEq] at e
      obtain ⟨e1,e2⟩:=e
      subst e2
      have e1:v=v':=e1
      subst e1
      obtain ⟨ih1,ih2⟩:=zej i h1 q2
      by_cases hj:j=i
      · subst hj
        have a1:zWc ((j,d) :: kvs) j=some d:=by simp [zWc]
        have a2:zFl ((Sum.inl j,v) :: vs) (Sum.inl j)=some v:=zLl rfl
        rw [a1,a2]
        exact ⟨fun d' h=>(by cases h;exact ⟨v,rfl,q1⟩),fun h=>(by cases h)⟩
      · have a1:zWc ((j,d) :: kvs) i=zWc kvs i:=by simp [zWc,hj]
        have a2:zFl ((Sum.inl j,v) :: vs) (Sum.inl i)=zFl vs (Sum.inl i):=zul (fun z=>hj (by simpa using z))
        rw [a1,a2]
        exact ⟨ih1,ih2⟩
theorem zjp (kvs:List (Int×D)) (vs:List (Key×V)) (i:Int) (d:D) (v:V) (h:vs.map (·.1)=kvs.map (fun p=>Sum.inl p.1)):(zRm vs (Sum.inl i) v).map (·.1)=(zyo kvs i d).map (fun p=>Sum.inl p.1):=by
  have hany:(vs.any fun kv=>decide (kv.1=Sum.inl i))=kvs.any fun p=>decide (p.1=i):=by
    have e1:(vs.any fun kv=>decide (kv.1=Sum.inl i))=(vs.map (·.1)).any fun k=>decide (k=Sum.inl i):=by rw [List.any_map];rfl
    rw [e1,h,List.any_map]
    congr 1
    funext p
    simp
  unfold zRm zyo
  rw [hany]
  split
  · rw [List.map_map,List.map_map]
    have e1:(fun x:Key×V=>x.1) ∘ (fun kv=>if kv.1=Sum.inl i then (kv.1,v) else kv)=fun x=>x.1:=by
      funext x;simp only [Function.comp];split <;> rfl
    have e2:(fun p:Int×D=>(Sum.inl p.1:Key)) ∘ (fun p=>if p.1=i then (p.1,d) else p)=fun p=>Sum.inl p.1:=by
      funext x;simp only [Function.comp];split <;> rfl
    rw [e1,e2];exact h
  · simp [h]
theorem zRl:∀ (kvs:List (Int×D)) (vs:List (Key×V)) (i:Int) {d:D} {v:V},RepV K ρ H d v→vs.map (·.1)=kvs.map (fun p=>Sum.inl p.1)→RepVs K ρ H (kvs.map (·.2)) (vs.map (·.2)) →
    RepVs K ρ H ((kvs.map fun p=>if p.1=i then (p.1,d) else p).map (·.2)) ((vs.map fun kv=>if kv.1=Sum.inl i then (kv.1,v) else kv).map (·.2))
  | [],vs,i,d,v,r,h1,h2=>by
    have:vs = []:=by simpa using h1
    subst this
    exact .nil
  | (j,e) :: kvs,vs,i,d,v,r,h1,h2=>by
    cases vs with
    | nil=>simp at h1
    | cons q vs =>
      obtain ⟨k,u⟩:=q
      rw [List.map_cons,List.map_cons,List.cons.injEq] at h1
      obtain ⟨hk,h1⟩:=h1
      have hk:k=Sum.inl j:=hk
      subst hk
      obtain ⟨v',r',e',q1,q2⟩:=h2.cons_inv
      rw [List.map_cons,List.cons.injEq] at e'
      obtain ⟨e1,e2⟩:=e'
      subst e2
      have e1:u=v':=e1
      subst e1
      have ih:=zRl kvs vs i r h1 q2
      simp only [List.map_cons]
      by_cases hj:j=i
      · subst hj
        rw [if_pos rfl,if_pos rfl]
        exact .cons r ih
      · rw [if_neg hj,if_neg (fun z=>hj (by simpa using z))]
        exact .cons q1 ih
theorem zAq {kvs:List (Int×D)} {vs:List (Key×V)} {i:Int} {d:D} {v:V} (r:RepV K ρ H d v) (h1:vs.map (·.1)=kvs.map (fun p=>Sum.inl p.1)) (h2:RepVs K ρ H (kvs.map (·.2)) (vs.map (·.2))) :
    RepVs K ρ H ((zyo kvs i d).map (·.2)) ((zRm vs (Sum.inl i) v).map (·.2)):=by
  have hany:(vs.any fun kv=>decide (kv.1=Sum.inl i))=kvs.any fun p=>decide (p.1=i):=by
    have e1:(vs.any fun kv=>decide (kv.1=Sum.inl i))=(vs.map (·.1)).any fun k=>decide (k=Sum.inl i):=by rw [List.any_map];rfl
    rw [e1,h1,List.any_map]
    congr 1
    funext p
    simp
  unfold zRm zyo
  rw [hany]
  split
  · exact zRl kvs vs i r h1 h2
  · simp only [List.map_append,List.map_cons,List.map_nil]
    exact h2.append (.cons r .nil)
end
section
variable {X:Cx} {a b c e:Expr} {es:List Expr} {φ ψ χ:FE} {pos:Pos}
@[simp] noncomputable def zSq:G2:=fun x y μ=>match y with
  | .int i=>(z4b μ x).bind fun kvs=>(zWc kvs i).bind fun d=>some (d,μ)
  | _=>none
theorem z7q {pins:List (Addr×Obj)} {s:Shared} {σ:L2.St} {H:Hp} {p:Addr} {vs:List (Key×V)} {k:Key} {v:V} {u:Value} {A:Around} {E:Value→Shared→Prop} {Q:Value→Shared→Prop} (I:Inv X pins σ H s) (e:RdK H p vs) (l:zFl vs k=some v) (ry:RelV (kV k) u)
    (h:∀ w' s',Inv X pins σ H s'→RelV v w'→Q w' s'):wpAny (model X.prog X.w) A (getItem (.ref p) u) Q E s:=by
  obtain ⟨z,hd,us,rel,dd⟩:=zsh I.hok e
  obtain ⟨w',hw,rw'⟩:=RelO.some_of (v:=v) (o:=valueAt us k) (by rw [← l];exact rel.val k)
  exact wpAny_getItem_of (zcp ry) dd.mapOf hw (h w' _ (I.tok _) rw')
theorem ixD:IxR X (rM X.K zSq):=by
  intro value slice pins s σ H x y v u Q I rx ry ⟨ρ,dx,dy,μ,d,μ',r1,r2,R,e,k⟩ hs
  unfold zSq at e
  split at e
  · rename_i i
    obtain ⟨kvs,e1,e⟩:=zf e
    obtain ⟨d',e2,e⟩:=zf e
    cases e
    obtain ⟨p,vs,rfl,hq,q1,q2⟩:=zcf R r1 e1
    obtain ⟨w',e3,rw'⟩:=(zej i q1 q2).1 _ e2
    cases rx
    rw [r2.int_inv] at ry
    have hT:s.TypeIs (.ref p) "dict":=by
      obtain ⟨_,_,us,_,dd⟩:=zsh I.hok hq
      exact dd.typeIs
    unfold subscriptTail
    refine wpAny_bind ?_
    rw [getitemInPython_of_ne hT.not_modules]
    refine wpAny_bind (wpAny_specialOf hT PySem.F.slot_dict_getitem.lookup ?_)
    have fin:wpAny (model X.prog X.w) X.A (subscripted slice false (.ref p) u) (fun r s₃=>wpAny (model X.prog X.w) X.A (letTemporaryGo value (.ref p) r >>= fun _=>pure r) (EP X pins σ Q) X.xe s₃) X.xe s:=by
      rw [hs]
      exact wpAny_operating (z7q I hq e3 ry fun w2 s2 I2 r2=>wpAny_bind (wpAny_letTemporaryGo (wpAny_pure ⟨_,H,I2,r2,k ρ H _ Ext.refl R rw'⟩)))
    first
      | exact wpAny_pure (wpAny_bind fin)
      | exact wpAny_bind (wpAny_pure (wpAny_bind fin))
      | exact wpAny_bind fin
  · cases e
theorem zFp (ha:ME X a φ) (hb:ME X b ψ) (hs:zfl b:=by intro _ _;rfl):ME X (.Subscript a b pos) (zt zSq φ ψ) :=
  zfd (zOs ixD ha hb hs) fun _ _ _ _ _ _ _ _ A e k=>zjn A e k
@[simp] noncomputable def zTt:G2:=fun x y μ=>match x with
  | .int i=>(z4b μ y).bind fun kvs=>some (.bl (zWc kvs i).isSome,μ)
  | _=>none
@[simp] noncomputable def zxh:G2:=fun x y μ=>match x with
  | .int i=>(z4b μ y).bind fun kvs=>some (.bl (!(zWc kvs i).isSome),μ)
  | _=>none
theorem zks {pins:List (Addr×Obj)} {s:Shared} {σ:L2.St} {H:Hp} {p:Addr} {vs:List (Key×V)} {k:Key} {u:Value} {A:Around} {E:Value→Shared→Prop} {Q:Value→Shared→Prop} (I:Inv X pins σ H s) (e:RdK H p vs) (ry:RelV (kV k) u)
    (h:∀ s',Inv X pins σ H s'→Q (.bool (zFl vs k).isSome) s'):wpAny (model X.prog X.w) A (compareOp .In u (.ref p)) Q E s:=by
  obtain ⟨z,hd,us,rel,dd⟩:=zsh I.hok e
  refine wpAny_in_of (zcp ry) hd dd.mapOf ?_
  rw [← (rel.val k).isSome_eq]
  exact h _ (I.tok _)
theorem zTl {K:PySem.W.Frag} {ρ:List Addr} {H:Hp} {kvs:List (Int×D)} {vs:List (Key×V)} (i:Int) (q1:vs.map (·.1)=kvs.map (fun p=>Sum.inl p.1)) (q2:RepVs K ρ H (kvs.map (·.2)) (vs.map (·.2))):(zFl vs (Sum.inl i)).isSome=(zWc kvs i).isSome:=by
  obtain ⟨h1,h2⟩:=zej i q1 q2
  cases e:zWc kvs i with
  | none=>rw [h2 e];rfl
  | some d =>
    obtain ⟨v,ev,_⟩:=h1 d e
    rw [ev];rfl
theorem zgq:OpM X (compareOp .In) zTt:=by
  refine OpM.of fun pins s σ H x y v u Q I rx ry ρ dx dy μ d μ' r1 r2 R e k=>?_
  unfold zTt at e
  split at e
  · rename_i i
    obtain ⟨kvs,e1,e⟩:=zf e
    cases e
    obtain ⟨p,vs,rfl,hq,q1,q2⟩:=zcf R r2 e1
    cases ry
    rw [r1.int_inv] at rx
    refine zks (k:=Sum.inl i) I hq rx fun s' I'=>⟨.bl _,H,I',rfl,?_⟩
    rw [zTl i q1 q2]
    exact k ρ H _ Ext.refl R .bl
  · cases e
theorem zFm:OpM X (compareOp .NotIn) zxh:=by
  refine OpM.of fun pins s σ H x y v u Q I rx ry ρ dx dy μ d μ' r1 r2 R e k=>?_
  unfold zxh at e
  split at e
  · rename_i i
    obtain ⟨kvs,e1,e⟩:=zf e
    cases e
    obtain ⟨p,vs,rfl,hq,q1,q2⟩:=zcf R r2 e1
    cases ry
    rw [r1.int_inv] at rx
    obtain ⟨z,hd,us,rel,dd⟩:=zsh I.hok hq
    refine wpAny_notIn_of (zcp (k:=Sum.inl i) rx) hd dd.mapOf ⟨.bl _,H,I.tok _,rfl,?_⟩
    rw [← (rel.val (Sum.inl i)).isSome_eq,zTl i q1 q2]
    exact k ρ H _ Ext.refl R .bl
  · cases e
end
end M
set_option Elab.async false
set_option linter.all false
set_option maxRecDepth 100000
set_option autoImplicit false
namespace M
open PySem PySem.Spec PyProof.Rows L2
section
variable {X:Cx} {a b c e:Expr} {es:List Expr} {φ ψ χ:FE} {pos:Pos}
@[simp] noncomputable def zXs (φ ψ:FE):FG:=fun d δ μ=>(φ δ μ).bind fun p=>(ψ δ p.2).bind fun q=>match p.1,q.1 with
  | .loc n, .int i=>match q.2[n]? with
    | some (.dct kvs)=>bif decide (kvs.length≤1000000) then some (δ,q.2.set n (.dct (zyo kvs i d))) else none
    | _=>none
  | _,_=>none
theorem z3o:zgt X (fun o i v H Q=>∃ p vs k,o = .ref p∧i=kV k∧H p=some (.dK vs)∧vs.length<sizeLine∧Q (upd H p (.dK (zRm vs k v)))):=by
  intro pins s σ H o i v ov iv u Q I ro ri rv ⟨p,vs,k,e1,e2,e3,hl,q⟩
  subst e1 e2
  cases ro
  obtain ⟨z,hd,us,rel,dd⟩:=zMs I.hok e3
  have hz:us.length≤sizeLine:=by rw [← rel.length];exact z
  have hl':(zRm vs k v).length≤sizeLine:=by have:=z9k vs k v;lia
  refine wpAny_setItem_pairs (hsz:=hz) (zcp ri) dd fun h' dd' hs=>⟨_,I.write (x:=p) (e:=p) (by rw [e3];exact True.intro) (.inl rfl) (fun b q hb z=>(hs.2 b hb).trans z) ?_ (show ObjOk X.prog X.w _ h' p (.dK (zRm vs k v)) from ⟨hl',hd,_,rel.put k rv,dd'⟩),q⟩
  obtain ⟨q,_,_,hq,_⟩:=dd'
  exact ⟨q,hq⟩
theorem zSp {o i:Expr} (ho:ME X o φ) (hi:ME X i ψ) (ha:∀ v,assign (.Subscript o i pos) X.env v=(do
      let ov ← holding [v] (eval o X.env)
      let iv ← holding [v,ov] (eval i X.env)
      standAt pos
      holding [v,ov,iv] (setItem ov iv v)
      release [v,ov,iv] []):=by intro _;rfl):MG X (.Subscript o i pos) (zXs φ ψ) :=
  mg_of (zHp ho hi z3o ha) fun ρ δ μ d δ' μ' v σ H Q A q e k=>by
    obtain ⟨⟨x,μ1⟩,e1,e⟩:=zf e
    obtain ⟨⟨y,μ2⟩,e2,e⟩:=zf e
    refine ⟨ρ,δ,μ,x,μ1,A,e1,fun ρ1 H1 v1 x1 R1 r1=>?_⟩
    refine ⟨ρ1,δ,μ1,y,μ2,A.ext x1 R1,e2,fun ρ2 H2 v2 x2 R2 r2=>?_⟩
    dsimp only at e
    split at e
    · rename_i n j _
      split at e
      · rename_i kvs hm
        obtain ⟨h1,e⟩:=zL e
        have h1:=of_decide_eq_true h1
        cases e
        obtain ⟨ad,rfl,hr⟩:=(r1.ext x2).loc_inv
        obtain ⟨vs,hv,q1,q2⟩:=R2.at_ _ _ _ hr hm
        have hmu:Mut (H2 ad):=by rw [hv];trivial
        have hlen:vs.length=kvs.length:=by
          have:=congrArg List.length q1
          simpa using this
        have hmi:=million
        refine ⟨ad,vs,Sum.inl j,rfl,r2.int_inv,hv,by first|decide|lia,?_⟩
        have xx:=x1.trans x2
        have R3:=R2.wr (o := .dK (zRm vs (Sum.inl j) v)) (lo := .dct (zyo kvs j d)) hmu hr ⟨_,zo,zjp kvs vs j d v q1,RepVs.ext (Ext.wr hmu) (zAq (q.ext xx) q1 q2)⟩
        exact k ρ2 σ _ (xx.trans (Ext.wr hmu)) (A.ext (xx.trans (Ext.wr hmu)) R3)
      · cases e
    · cases e
noncomputable def z8g (kvs:List (Int×D)):List D:=kvs.map fun p => .int p.1
@[simp] noncomputable def z2j:GL:=fun ds μ=>match ds with
  | [x]=>(z4b μ x).bind fun kvs=>some (.loc μ.length,μ ++ [.lst (z8g kvs)])
  | _=>none
theorem zhq {P:Program} {w:World} {H:Hp} {h:Heap} {p:Addr} {vs:List (Key×V)} (ok:HOk P w H h) (e:RdK H p vs):∃ us ep,KV vs us∧h.DictAt (zwb P w) p us ep:=by
  obtain ⟨_,_,us,rel,o,es,ep,h1,h2,h3,h4⟩:=zsh ok e
  exact ⟨us,ep,rel,o,es,h1,h2,h3,h4⟩
theorem zdk {P:Program} {w:World}:∀ {vs:List (Key×V)} {us:List (Key×Value)} {its:List Value},KV vs us→its.length=us.length→(∀ (j:Nat) (v:Value),its[j]?=some v→∃ (k:Key) (x:Value),us[j]?=some (k,x)∧(zwb P w).is k v=true)→Vals (vs.map fun p=>kV p.1) its
  | [],us,its,r,hl,h=>by
    cases r
    have:its = []:=List.length_eq_zero_iff.mp (by simpa using hl)
    subst this
    exact .nil
  | p :: vs,us,its,r,hl,h=>by
    cases r with
    | @cons _ q _ qs hq t =>
      cases its with
      | nil=>simp at hl
      | cons i its =>
        refine .cons ?_ (zdk t (by simpa using hl) fun j v e=>by
          obtain ⟨k,x,h1,h2⟩:=h (j+1) v (by simpa using e)
          exact ⟨k,x,by simpa using h1,h2⟩)
        obtain ⟨k,x,h1,h2⟩:=h 0 i rfl
        have e:q=(k,x):=by simpa using h1
        have ek:p.1=k:=by rw [hq.1,e]
        show RelV (kV p.1) i
        rw [ek]
        cases k with
        | inl n =>
          rcases zT ((zZf P w _ _).symm.trans h2) with ⟨j,t,e1,e2⟩ | ⟨j,t,e1,e2⟩
          · cases e1;exact ⟨t,e2⟩
          · cases e1
        | inr n =>
          rcases zT ((zZf P w _ _).symm.trans h2) with ⟨j,t,e1,e2⟩ | ⟨j,t,e1,e2⟩
          · cases e1
          · cases e1;exact ⟨t,e2⟩
theorem z4k (hc:X.calm=true):CallM X (.type "list") z2j:=by
  refine CallM.of fun pins s σ H xs us Q I r ρ ds μ d μ' r1 R e k=>?_
  unfold z2j at e
  split at e
  · obtain ⟨kvs,e1,e⟩:=zf e
    cases e
    obtain ⟨v,rr,rfl,q1,q2⟩:=r1.cons_inv
    rw [q2.nil_inv] at r
    obtain ⟨p,vs,rfl,hq,w1,w2⟩:=zcf R q1 e1
    obtain ⟨u,rfl,ru⟩:=vals1 r
    cases ru
    obtain ⟨hz,hd,_⟩:=zsh I.hok hq
    obtain ⟨us',ep,rel,da⟩:=zhq I.hok hq
    have hl:=rel.length
    refine PySem.W.kdl_call (PySem.W.kdl_dict hd) (I.ok.hd hc) da (by first|decide|lia) fun h' tk acc' c' kp e2 hi=>?_
    obtain ⟨hi1,hi2⟩:=hi
    have hv:=zdk (P:=X.prog) (w:=X.w) (its:=acc'.toList) rel (by simpa using hi1) fun j v e=>hi2 j v (by simpa using e)
    have hkv:(vs.map fun p=>kV p.1)=(kvs.map fun p=>V.int p.1):=by
      have:(vs.map (·.1)).map kV=(kvs.map fun p=>(Sum.inl p.1:Key)).map kV:=by rw [w1]
      rw [List.map_map,List.map_map] at this
      exact this
    rw [hkv] at hv
    have hlk:kvs.length=vs.length:=by
      have:=congrArg List.length w1
      simpa using this.symm
    have hf:=I.fresh
    refine ⟨.ref s.heap.objs.size,_,I.laid (t':=tk) kp (Nat.le_refl _) (show ObjOk X.prog X.w _ h' _ (.lst _) from ⟨by simp;lia,acc'.toList,c',hv,by simpa using e2⟩),rfl,k _ _ _ (Ext.push hf) (R.push hf ⟨_,zo,?_⟩) (.loc (zvb R))⟩
    have hr:=fun ρ H=>@zCd X.K ρ H (kvs.map (·.1))
    simp only [List.map_map] at hr
    exact hr _ _
  · cases e
end
end M
set_option Elab.async false
set_option linter.all false
set_option maxRecDepth 100000
set_option autoImplicit false
namespace M
open PySem PySem.Spec PyProof.Rows L2
noncomputable def Itd (a:Addr) (o:Obj) (vs:List (Key×V)):It:=⟨fun i H=>H a=some (.frz o (.dK vs))∧i<vs.length,fun i H x H'=>H'=H∧∃ p,vs[i]?=some p∧x=kV p.1,fun i H=>H a=some (.frz o (.dK vs))∧vs.length≤i⟩
theorem zOl {P:Program} {w:World} {H:Hp} {h:Heap} {a:Addr} {o:Obj} {vs:List (Key×V)} {es:Array DictEntry} {ep:Nat} (ok:HOk P w H h) (e:H a=some (.frz o (.dK vs))) (hd:o.data = .dict es ep):∃ us,KV vs us∧h.DictAt (zwb P w) a us ep:=by
  obtain ⟨h0,_,_,us,rel,o',es',ep',h1,h2,h3,h4⟩:=(show ObjOk P w H h a (.frz o (.dK vs)) from ok a _ e)
  rw [h0] at h1
  cases h1
  rw [hd] at h3
  cases h3
  exact ⟨us,rel,o,es,h0,h2,hd,h4⟩
theorem zgo {P:Program} {w:World} {K:PySem.W.Frag} {tg:Expr} (a it:Addr) (o:Obj) (vs:List (Key×V)) (es:Array DictEntry) (ep:Nat) (hd:o.data = .dict es ep):Turn P w K tg (Itd a o vs) [it] it (fun i h=>h.IsKeyIter it a i vs.length ep) where
  mem:=by simp
  obj:=fun i h st b hb=>by
    have e:b=it:=by simpa using hb
    subst e
    obtain ⟨o,e,c,d⟩:=st
    exact ⟨o,e,fun v z=>by rw [d] at z;cases z⟩
  keep:=fun i h h' st k=>st.at fun o e=>k it (by simp) o e
  item:=by
    intro X hP hw hK hc i pins s σ H E I hf st hg
    subst hP hw hK
    obtain ⟨hq,hi⟩:=hg
    obtain ⟨us,rel,da⟩:=zOl I.hok hq hd
    have hl:=rel.length
    obtain ⟨f0,f1,f2,f3,f4,f5⟩:=hf it (by simp)
    have hx:us[i]?=some ((us[i]'(by first|decide|lia)).1,(us[i]'(by first|decide|lia)).2):=by simp [show i<us.length by lia]
    rw [hl] at st ⊢
    refine wpAny_pyNext_dict_item st da hx fun key h' hkey st' sb=>?_
    have I1:Inv X pins σ H { s with heap:=h' }:=I.turned (t':=s.toks) (fun b o hb e=>(sb.2 b hb).trans e) f0 f1 f3 f4 f5
    obtain ⟨o',e',c',d'⟩:=id st'
    have hk:vs[i]?=some vs[i]:=by simp [hi]
    have hkk:(vs[i]).1=(us[i]'(by first|decide|lia)).1:=by
      have h1:(vs.map (·.1))[i]?=(us.map (·.1))[i]?:=by rw [rel.keys]
      simp only [List.getElem?_map,hk,List.getElem?_eq_getElem (show i<us.length by first|decide|lia),Option.map_some,Option.some.injEq] at h1
      exact h1
    have rk:RelV (kV (vs[i]).1) key:=by
      rw [hkk]
      rcases zT ((zZf X.prog X.w _ _).symm.trans hkey) with ⟨j,t,e1,e2⟩ | ⟨j,t,e1,e2⟩
      · rw [e1];exact ⟨t,e2⟩
      · rw [e1];exact ⟨t,e2⟩
    exact ⟨key,rfl,zqp (s:={ s with heap:=h' }) e' c' d' (by decide) ⟨kV (vs[i]).1,H,I1,rk,⟨rfl,_,hk,rfl⟩,st',fun b hb=>(hf b hb).1⟩⟩
  done:=by
    intro X hP hw hK hc i pins s σ H E I hf st hg
    subst hP hw hK
    obtain ⟨hq,hi⟩:=hg
    obtain ⟨us,rel,da⟩:=zOl I.hok hq hd
    have hl:=rel.length
    obtain ⟨f0,f1,f2,f3,f4,f5⟩:=hf it (by simp)
    rw [hl] at st
    exact wpAny_pyNext_dict_end (I.ok.hd hc) st da (by simp;lia) fun h' eb=>⟨rfl,I.turned (t':=s.toks) (fun b o hb e=>eb b o hb e) f0 f1 f3 f4 f5⟩
  self:=fun _ _ _ _ _ st h=>wpAny_pyIter_keyiter st h
section
variable {X:Cx} {a b c e:Expr} {es:List Expr} {φ ψ χ:FE} {pos:Pos} {tg:Expr}
noncomputable def z8t (tl:TE):TI:=fun σ H R=>tl σ H fun x H1=>∃ p vs,x = .ref p∧((H1 p=some (.dK vs)∧∀ o,R (Itd p o vs) (upd H1 p (.frz o (.dK vs))))∨∃ o,H1 p=some (.frz o (.dK vs))∧R (Itd p o vs) H1)
theorem z2q {l:Expr} {tl:TE} (hl:PE X l tl):PI X tg l (z8t tl):=by
  intro pins s σ H R I h
  refine thn (hl pins s σ H _ I h) fun v s1 ⟨x,H1,I1,r1,q1⟩=>?_
  obtain ⟨p,vs,e,q⟩:=q1
  subst e
  cases r1
  have fin:∀ (H2:Hp) (o:Obj),Inv X pins σ H2 s1→H2 p=some (.frz o (.dK vs))→R (Itd p o vs) H2→wpAny (model X.prog X.w) X.A (pyIter (.ref p)) (PIE X pins σ tg R) X.xe s1:=fun H2 o I2 e2 q2=>by
    obtain ⟨h0,hz,hd,us,rel,o',es,ep,h1,h2,h3,h4⟩:=(show ObjOk X.prog X.w H2 s1.heap p (.frz o (.dK vs)) from I2.hok p _ e2)
    rw [h0] at h1
    cases h1
    have da:s1.heap.DictAt (zwb X.prog X.w) p us ep:=⟨o,es,h0,h2,h3,h4⟩
    refine wpAny_pyIter_dict hd da ?_
    refine ⟨s1.heap.objs.size,[s1.heap.objs.size],_,_,H2,rfl,I2.kept (t':=s1.toks) fun b o e=>Heap.get?_push_of_some _ e,zgo p _ o vs es ep h3,⟨_,Heap.get?_push_size _ rfl,rfl,by rw [rel.length];rfl⟩,fun b hb=>?_,q2⟩
    have e:b=s1.heap.objs.size:=by simpa using hb
    subst e
    exact I2.fpOk (Nat.le_refl _) (I2.hok.fresh (Nat.le_refl _))
  rcases q with ⟨e1,q⟩ | ⟨o,e1,q⟩
  · have hok:=I1.hok p _ e1
    obtain ⟨hz,hd,us,rel,o,es,ep,h1,h2⟩:=(show ObjOk X.prog X.w H1 s1.heap p (.dK vs) from hok)
    have I2:Inv X pins σ (upd H1 p (.frz o (.dK vs))) { s1 with heap:=s1.heap,toks:=s1.toks }:=by
      refine I1.write (x:=p) (e:=p) (by rw [e1];exact True.intro) (.inl rfl) (fun b u _ e=>e) ⟨o,h1⟩ ?_
      exact ⟨h1,hz,hd,us,rel,o,es,ep,h1,h2⟩
    exact fin _ o I2 zo (q o)
  · exact fin H1 o I1 e1 q
@[simp] noncomputable def zkq (φ:FE):FI:=fun δ μ=>(φ δ μ).bind fun p=>match p.1 with
  | .loc n=>match p.2[n]? with
    | some (.dct kvs)=>some (z8g kvs,yes,p.2.set n (.dcf kvs))
    | some (.dcf kvs)=>some (z8g kvs,yes,p.2)
    | _=>none
  | _=>none
theorem zUp {K:PySem.W.Frag} {ρ:List Addr} {H:Hp} {p:Addr} {o:Obj} {vs:List (Key×V)} {kvs:List (Int×D)} (h:H p=some (.frz o (.dK vs))) (q1:vs.map (·.1)=kvs.map (fun p=>Sum.inl p.1)):ItIs K (Itd p o vs) ρ H (z8g kvs) yes:=by
  have hlen:vs.length=kvs.length:=by
    have:=congrArg List.length q1
    simpa using this
  have hkl:(z8g kvs).length=kvs.length:=by simp [z8g]
  refine ⟨fun ρ' H' μ' i x R _ hi=>⟨x.frz _ _ _ h,by rw [hkl] at hi;lia⟩,fun ρ' H' μ' i x H'' d x' R _ e ⟨y1,q,y2,y3⟩=>⟨y1▸Ext.refl,y1▸R,y1▸?_⟩,fun ρ' H' μ' x R _=>⟨x.frz _ _ _ h,by rw [hkl];lia⟩⟩
  have h1:(vs.map (·.1))[i]?=(kvs.map (fun p=>(Sum.inl p.1:Key)))[i]?:=by rw [q1]
  rw [List.getElem?_map,List.getElem?_map,y2] at h1
  unfold z8g at e
  rw [List.getElem?_map] at e
  cases hk:kvs[i]? with
  | none=>rw [hk] at e;cases e
  | some z =>
    rw [hk] at e h1
    cases e
    have h1:q.1=Sum.inl z.1:=by simpa using h1
    rw [y3,h1]
    exact .int
theorem zaq (h:ME X a φ):MI X tg a (zkq φ) :=
  zdn (z2q h) fun ρ δ μ σ H ds ok μ' R A e k=>by
    obtain ⟨⟨x,μ1⟩,e1,e⟩:=zf e
    refine ⟨ρ,δ,μ,x,μ1,A,e1,fun ρ1 H1 v1 x1 R1 r1=>?_⟩
    dsimp only at e
    split at e
    · split at e
      · rename_i hm
        cases e
        obtain ⟨p,rfl,ep⟩:=r1.loc_inv
        obtain ⟨vs,e3,q1,q2⟩:=R1.at_ _ _ _ ep hm
        have hmu:Mut (H1 p):=by rw [e3];trivial
        refine ⟨p,vs,rfl, .inl ⟨e3,fun o=>?_⟩⟩
        exact k ρ1 _ _ (x1.trans (Ext.wr hmu)) (R1.wr hmu ep ⟨o,vs,zo,q1,RepVs.ext (Ext.wr hmu) q2⟩) (zUp zo q1)
      · rename_i hm
        cases e
        obtain ⟨p,rfl,ep⟩:=r1.loc_inv
        obtain ⟨o,vs,e3,q1,q2⟩:=R1.at_ _ _ _ ep hm
        exact ⟨p,vs,rfl, .inr ⟨o,e3,k ρ1 _ _ x1 R1 (zUp e3 q1)⟩⟩
      · cases e
    · cases e
theorem zgn {prog:Program} {w:World} {A:Around} {E:Value→Shared→Prop} {s:Shared} {Q:Int→Shared→Prop} (h:Q 0xFCA86420 { s with toks:=s.toks+1 }):wpAny (model prog w) A (pyHash .none) Q E s:=by
  unfold pyHash
  have hv:[Value.none].any Value.onHeap=false:=rfl
  refine wpAny_bind ?_
  rw [cRoomFor,if_neg (by rw [hv];exact Bool.false_ne_true)]
  refine wpAny_pure ?_
  refine wpAny_bind (wpAny_specialOf (typeIs_none s) PySem.F.slot_NoneType_hash.lookup ?_)
  show wpAny _ _ (if (some (Value.builtin "NoneType.__hash__") == some Value.none)=true then _ else _) Q E s
  rw [if_neg (by rw [beq_builtin_none];exact Bool.false_ne_true)]
  refine wpAny_bind (wpAny_specialOf (typeIs_none s) PySem.F.slot_NoneType_hash.lookup ?_)
  show wpAny _ _ (callSpecialIfBoundUnlessNone? .none "__hash__" _ >>= _) Q E s
  refine wpAny_bind (wpAny_callSpecialIfBoundUnlessNone?_slot (typeIs_none s) PySem.F.slot_NoneType_hash (wpAny_call_entry PySem.F.slot_NoneType_hash (typeIs_none s) PySem.F.entry_NoneType_hash ?_ (PySem.F.args_NoneType_hash_1 _)))
  show wpAny _ _ (do ret (← mkInt 0xFCA86420)) _ _ s
  refine wpAny_ret_mkInt ?_
  show wpAny _ _ (if (decide (-(2:Int) ^ 63≤0xFCA86420) && decide ((0xFCA86420:Int)<2 ^ 63))=true then _ else _) Q E _
  rw [if_pos (by decide)]
  exact wpAny_pure h
theorem zHm {i:Int} (h0:0≤i) (h1:i<1000):hashInt i=i:=by
  have e:(i.natAbs % (2 ^ 61 - 1):Nat)=i.natAbs:=Nat.mod_eq_of_lt (by first|decide|lia)
  have hr:rawHash i=i:=by
    unfold rawHash
    dsimp only
    rw [if_neg (by lia:¬ i<0)]
    have:((i.natAbs % (2 ^ 61 - 1:Nat):Nat):Int)=i:=by rw [e];lia
    rw [show ((i.natAbs:Int) % ((2 ^ 61 - 1:Nat):Int))=i by rw [← Int.natCast_emod];exact this]
    rw [if_neg (by simp;lia)]
  unfold hashInt
  rw [hr,if_neg (by simp;lia)]
noncomputable def z7j:Key→Bool
  | .inl i=>decide (0≤i∧i<1000)
  | .inr _=>false
theorem zoh {P:Program} {w:World}:∀ {es:List DictEntry} {us:List (Key×Value)},Pairs (zwb P w) es us→(∀ e∈es,∃ k,(zwb P w).is k e.key=true∧e.hash=(zwb P w).hash k)→(us.all fun q=>z7j q.1)=true→∀ e∈es,(e.hash == 0xFCA86420)=false
  | _,_, .nil,_,_=>fun e he=>by cases he
  | _,_, .cons (kv:=kv) hk hv t,hh,hs=>fun e he=>by
    rw [List.all_cons,Bool.and_eq_true] at hs
    rcases List.mem_cons.mp he with rfl | he
    · obtain ⟨k',h1,h2⟩:=hh e List.mem_cons_self
      have ek:=(zwb P w).inj _ _ _ hk h1
      rw [h2,← ek]
      have hsm:z7j kv.1=true:=hs.1
      cases hkv:kv.1 with
      | inl i =>
        rw [hkv] at hsm
        have hi:=of_decide_eq_true (show decide (0≤i∧i<1000)=true from hsm)
        show (hashInt i == 0xFCA86420)=false
        rw [zHm hi.1 hi.2]
        simp;lia
      | inr x=>rw [hkv] at hsm;cases hsm
    · exact zoh t (fun e he=>hh e (List.mem_cons_of_mem _ he)) hs.2 e he
theorem zzq {prog:Program} {w:World} {A:Around} {E:Value→Shared→Prop} {s:Shared} {p:Addr} {us:List (Key×Value)} {Q:Value→Shared→Prop} (hd:(p == sysModules)=false) (dd:s.heap.DictOf (zwb prog w) p us) (hs:(us.all fun q=>z7j q.1)=true)
    (h:Q (.bool false) { s with toks:=s.toks+1 }):wpAny (model prog w) A (compareOp .In .none (.ref p)) Q E s:=by
  obtain ⟨o,es,ep,ho,hx,hdat,hk,hp,hn⟩:=id dd
  have hno:=zoh hp (fun e he=>hk e (by simpa using he)) hs
  have hpl:placesWithHash es.size (fun i=>es[i]?.map (·.hash)) 0xFCA86420 = []:=by
    unfold placesWithHash
    rw [List.filter_eq_nil_iff]
    intro i hi
    have hi:i<es.size:=by simpa using hi
    dsimp only
    rw [Array.getElem?_eq_getElem hi]
    have:=hno es[i] (by simp)
    simpa using this
  show wpAny _ _ (do return .bool (← contains (.ref p) .none)) Q E s
  refine wpAny_bind ?_
  unfold contains
  try with_reducible refine wpAny_holding ?_
  refine wpAny_bind (wpAny_specialOf dd.typeIs slot_dict_contains.lookup ?_)
  show wpAny _ _ (if (some (Value.builtin "dict.__contains__") == some Value.none)=true then _ else _) _ E s
  rw [if_neg (by rw [beq_builtin_none];exact Bool.false_ne_true)]
  refine wpAny_bind (wpAny_callSpecialUnlessNone?_slot (name:=Str.ofString "__contains__") dd.typeIs slot_dict_contains (wpAny_call_entry slot_dict_contains dd.typeIs entry_dict_contains ?_ (args_dict_contains _ _)))
  show wpAny _ _ (dictGet p .none >>= _) _ _ s
  refine wpAny_bind ?_
  unfold dictGet
  try with_reducible refine wpAny_holding ?_
  refine wpAny_bind (zgn (wpAny_bind ?_))
  unfold dictFind
  try with_reducible refine wpAny_holding ?_
  refine wpAny_bind (wpAny_dictEntries (s:={ s with toks:=s.toks+1 }) ho hdat ?_)
  dsimp only
  rw [hpl]
  rw [if_pos (by rfl)]
  unfold dictWalkPlain
  refine wpAny_bind ?_
  rw [List.forIn_nil]
  refine wpAny_pure ?_
  refine wpAny_pure (wpAny_pure ?_)
  show wpAny _ _ (Builtin.Dict.pendingKey? p .none >>= _) _ _ _
  exact wpAny_bind (wpAny_pendingKey_other hd (wpAny_pure ⟨_,rfl,wpAny_truthy_bool (wpAny_pure h)⟩))
@[simp] noncomputable def zhl:G2:=fun x y μ=>match x with
  | .int i=>(z4b μ y).bind fun kvs=>some (.bl (zWc kvs i).isSome,μ)
  | .non=>(z4b μ y).bind fun kvs=>bif kvs.all (fun p=>decide (0≤p.1∧p.1<1000)) then some (.bl false,μ) else none
  | _=>none
theorem zkp:OpM X (compareOp .In) zhl:=by
  refine OpM.of fun pins s σ H x y v u Q I rx ry ρ dx dy μ d μ' r1 r2 R e k=>?_
  unfold zhl at e
  split at e
  · rename_i i
    exact zgq pins s σ H x y v u Q I rx ry ⟨ρ, .int i,dy,μ,d,μ',r1,r2,R,e,k⟩
  · obtain ⟨kvs,e1,e⟩:=zf e
    obtain ⟨hsm,e⟩:=zL e
    cases e
    obtain ⟨p,vs,rfl,hq,q1,q2⟩:=zcf R r2 e1
    cases ry
    rw [r1.non_inv] at rx
    cases rx
    obtain ⟨z,hd,us,rel,dd⟩:=zsh I.hok hq
    refine zzq hd dd ?_ ⟨.bl false,H,I.tok _,rfl,k ρ H _ Ext.refl R .bl⟩
    have e1:(us.all fun q=>z7j q.1)=(us.map (·.1)).all z7j:=by rw [List.all_map];rfl
    rw [e1,← rel.keys,q1,List.all_map]
    exact hsm
  · cases e
end
end M
set_option Elab.async false
set_option linter.all false
set_option maxRecDepth 100000
set_option autoImplicit false
namespace M
open PySem PySem.Spec PyProof.Rows L2
section
variable {prog:Program} {w:World} {A:Around} {E:Value→Shared→Prop} {s:Shared}
theorem zim:typeLookup (.type "list_reverseiterator") "__len__" = pure none:=by rw [typeLookup_type,builtinLookup_eq_fast];kernel_rfl
theorem zsp:typeLookup (.type "list_reverseiterator") "__length_hint__" = pure (some (.builtin "list_reverseiterator.__length_hint__")):=by rw [typeLookup_type,builtinLookup_eq_fast];kernel_rfl
theorem z1o {r:Addr} {Q:Bool→Shared→Prop} (hT:s.TypeIs (.ref r) "list_reverseiterator") (h:Q false s):wpAny (model prog w) A (Builtin.List.listLengthHint (.ref r)) Q E s:=by
  unfold Builtin.List.listLengthHint
  refine wpAny_bind (wpAny_specialOf hT zim ?_)
  show wpAny _ _ (specialOf (Value.ref r) (Str.ofString "__length_hint__") >>= _) _ _ _
  refine wpAny_bind (wpAny_specialOf hT zsp ?_)
  generalize hid:("list_reverseiterator.__length_hint__":String)=id0
  wp_delta
  rw [show splitId id0=some ("list_reverseiterator","__length_hint__") from by subst hid;decide +kernel]
  subst hid
  refine wpAny_bind (wpAny_isInstance (T:="list_reverseiterator") (b:=true) hT (by rw [isSubtype_type];kernel_rfl) ?_)
  refine wpAny_ite_split (fun hab=>absurd hab (by decide)) (fun _=>?_)
  refine wpAny_ite_split (fun _=>?_) (fun hab=>absurd (by decide +kernel) hab)
  refine wpAny_ite_split (fun hab=>absurd hab (by decide +kernel)) (fun _=>?_)
  exact wpAny_pure h
theorem zEo {I l:Addr} {items:Array Value} {Q:Value→Shared→Prop} (hh:A.handled=none) (hne:l≠I) (hI:s.heap.IsRevIter I l ((items.size:Int) - 1)) (hl:s.heap.IsList l items) (hn:items.size≤sizeLine)
    (hQ:∀ h' tk acc' c',(∀ b o,b≠I→s.heap.get? b=some o→h'.get? b=some o)→h'.get? s.heap.objs.size=some { cls := .type "list",dict:=none,data := .seq acc' c',slots:=#[] }→ItemsOf (fun i v=>items[items.size - 1 - i]?=some v) acc' items.size→Q (.ref s.heap.objs.size) { s with heap:=h',toks:=tk }) :
    wpAny (model prog w) A (call (.type "list") [.ref I]) Q E s:=by
  have hIlt:I<s.heap.objs.size:=by obtain ⟨o,ho,_⟩:=hI;exact Heap.lt_size ho
  have hllt:l<s.heap.objs.size:=by obtain ⟨o,ho,_⟩:=hl;exact Heap.lt_size ho
  refine callType_codes (Q₁:=fun obj s₁=>obj = .ref s.heap.objs.size∧s₁ = { s with heap:=s.heap.push { cls := .type "list",data := .seq #[] } }) PySem.F.called_list (PySem.F.typeCall_list_1 _) PySem.F.entry_list_init (code_list_new _ ⟨rfl,rfl⟩) fun obj s₁ h₁=>?_
  obtain ⟨rfl,rfl⟩:=h₁
  generalize hS0:s.heap.objs.size=S
  have hSI:S≠I:=by rw [← hS0];exact Nat.ne_of_gt hIlt
  have hSl:S≠l:=by rw [← hS0];exact Nat.ne_of_gt hllt
  have hS:(s.heap.push { cls := .type "list",data := .seq #[] }).get? S=some { cls := .type "list",data := .seq #[] }:=by rw [← hS0];exact Heap.get?_push_size _ rfl
  refine ⟨⟨_,hS,rfl⟩,PySem.F.args_list_init_2 _ _,?_⟩
  have oldS:∀ b o,s.heap.get? b=some o→b≠S:=fun b o e=>by rw [← hS0];exact Nat.ne_of_lt (Heap.lt_size e)
  have W:=(Walks.listRev (prog:=prog) (w:=w) (A:=A.in1.in1) hh I l hne items).toS
  show wpAny _ _ (do let old ← Builtin.List.listItems (.ref S);Builtin.List.listUpdate (.ref S) (fun _=>#[]);letGo old.toList.reverse;Builtin.List.listExtendWith (.ref S) (.ref I) .none) _ _ _
  refine wpAny_bind ?_
  unfold Builtin.List.listItems
  refine wpAny_bind (wpAny_seqItems hS rfl (wpAny_pure ?_))
  show wpAny _ _ (updateSeq S (fun _=>#[]) >>= fun _=>letGo (#[]:Array Value).toList.reverse >>= fun _=>Builtin.List.listExtendWith (.ref S) (.ref I) .none) _ _ _
  refine wpAny_bind (wpAny_updateSeq hS rfl ?_)
  have hS2:=Heap.get?_update_self (Obj.mapSeq (fun _=>(#[]:Array Value))) hS rfl
  generalize hh2:(s.heap.push { cls := .type "list",data := .seq #[] }).update S (Obj.mapSeq (fun _=>(#[]:Array Value)))=h2 at hS2 ⊢
  have k2:∀ b o,s.heap.get? b=some o→h2.get? b=some o:=fun b o e=>by
    rw [← hh2]
    exact (Heap.get?_update_other _ _ (Ne.symm (oldS b o e))).trans (Heap.get?_push_of_some _ e)
  refine wpAny_bind (wpAny_letGo ?_)
  have hI2:h2.IsRevIter I l ((items.size:Int) - 1):=hI.at fun o e=>k2 _ _ e
  have hl2:h2.IsList l items:=hl.at fun o e=>k2 _ _ e
  unfold Builtin.List.listExtendWith
  refine wpAny_bind (wpAny_typeOf (T:="list_reverseiterator") (Heap.IsRevIter.typeIs (s:={ s with heap:=h2 }) hI2) ?_)
  have h1:Builtin.List.listSameRef (.ref S) (.ref I)=false:=by simp [Builtin.List.listSameRef,hSI]
  have h2':(Value.type "list_reverseiterator" == Value.type "list")=false:=by decide
  have h3':(Value.type "list_reverseiterator" == Value.type "tuple")=false:=by decide
  simp only [h1,h2',h3',Bool.or_false,Bool.false_eq_true,if_false]
  refine wpAny_bind (wpAny_pyIter_revIter (s:={ s with heap:=h2 }) hI2 ?_)
  refine wpAny_bind (wpAny_holding (z1o (Heap.IsRevIter.typeIs (s:={ s with heap:=h2 }) hI2) ?_))
  refine wpAny_ite_split (fun hab=>absurd hab (by decide)) (fun _=>?_)
  have hSf:S∉[I,l]:=by
    simp only [List.mem_cons,List.not_mem_nil,or_false,not_or]
    exact ⟨hSI,hSl⟩
  refine wpAny_pure ⟨plainId_quiet PySem.F.plain_extend_loop _,codeAny_extend_loopS W hn S hSf _ items.size 0 _ #[] _ rfl (Nat.zero_le _) ⟨Nat.zero_le _,by simpa using hI2,hl2⟩ hS2 (ItemsOf.nil _) fun s' acc' c' hm hS' hacc=>?_⟩
  rw [Moved.eq_with hm]
  refine ⟨rfl,?_⟩
  rw [← hS0] at hS' ⊢
  refine hQ s'.heap s'.toks acc' c' (fun b o hb e=>hm.heap b o (fun hmem=>?_) (k2 b o e)) hS' hacc
  rcases List.mem_cons.mp hmem with e' | hmem
  · exact oldS b o e e'
  · exact hb (List.mem_singleton.mp hmem)
end
section
variable {X:Cx} {a b c e:Expr} {es:List Expr} {φ ψ χ:FE} {pos pos2 p1 p2:Pos}
noncomputable def zpp (φ:FE):FE:=fun δ μ=>(φ δ μ).bind fun p=>match p.1 with
  | .loc n=>match p.2[n]? with
    | some (.lst ds)=>some (.loc p.2.length,p.2 ++ [.lst ds.reverse])
    | _=>none
  | _=>none
theorem zyp {items:List Value} {vs:List V} {its:List Value} (rv:Vals vs items) (hl:its.length=items.length) (h:∀ (j:Nat) (v:Value),its[j]?=some v→items[items.length - 1 - j]?=some v):Vals vs.reverse its:=by
  have e:its=items.reverse:=by
    refine List.ext_getElem? fun j=>?_
    by_cases hj:j<its.length
    · have h1:its[j]?=some its[j]:=by simp [hj]
      rw [List.getElem?_reverse (by first|decide|lia),h j _ h1,h1]
    · rw [List.getElem?_eq_none (by first|decide|lia),List.getElem?_eq_none (by simp;lia)]
  rw [e]
  exact rv.reverse
theorem zzk {K:PySem.W.Frag} {ρ:List Addr} {H:Hp}:∀ {ds:List D} {vs:List V},RepVs K ρ H ds vs→RepVs K ρ H ds.reverse vs.reverse
  | [],vs,r=>by rw [r.nil_inv];exact .nil
  | d :: ds,vs,r=>by
    obtain ⟨v,q,rfl,h1,h2⟩:=r.cons_inv
    rw [List.reverse_cons,List.reverse_cons]
    exact (zzk h2).append (.cons h1 .nil)
noncomputable def z6s (X:Cx) (tl:TE):TE:=fun σ H Q=>tl σ H fun x H1=>∃ a ys,x = .ref a∧SqL X.K H1 a ys∧∀ q,H1 q=none→Q (.ref q) (upd H1 q (.lst ys.reverse))
theorem zpq {l:Expr} {tl:TE} (hm1:X.mg "list" = none) (hv1:bootBuiltins "list" = some (.type "list")) (hm2:X.mg "reversed" = none) (hv2:bootBuiltins "reversed" = some (.type "reversed")) (hl:PE X l tl) (hc:X.calm=true) (hg1:Gl X "list") (hg2:Gl X "reversed")
    (he:starEach [l] X.env=(false,eval l X.env) :: starEach [] X.env) (he2:starEach [.Call (.Name "reversed" p2) [l] [] pos2] X.env=(false,eval (.Call (.Name "reversed" p2) [l] [] pos2) X.env) :: starEach [] X.env) :
    PE X (.Call (.Name "list" p1) [.Call (.Name "reversed" p2) [l] [] pos2] [] pos) (z6s X tl):=by
  intro pins s σ H Q I h
  refine wpAny_Call_Name_kw (zwi I hg1 hm1 hv1 ?_ (by decide) (by decide))
  refine PyProof.Rows.callWith_type1 ?_ he2 rfl
  rw [he2]
  show wpAny _ _ (spliced ((false,eval (.Call (.Name "reversed" p2) [l] [] pos2) X.env) :: backTo pos (starEach [] X.env))) _ _ s
  refine Calls.spliced_cons ?_
  refine wpAny_Call_Name_kw (zwi I hg2 hm2 hv2 ?_ (by decide) (by decide))
  refine PyProof.Rows.callWith_type1 (thn (zsc hl zee he pos2 pins s σ H (fun vs H1=>match vs with
    | [x]=>∃ a ys,x = .ref a∧SqL X.K H1 a ys∧∀ q,H1 q=none→Q (.ref q) (upd H1 q (.lst ys.reverse))
    | _=>False) I h) fun us s1 ⟨vs,H1,I1,r1,q1⟩=>?_) he rfl
  dsimp only at q1
  split at q1
  case h_2=>exact q1.elim
  obtain ⟨a,ys,e,hq,q⟩:=q1
  subst e
  cases r1 with
  | cons r rr =>
    cases rr
    cases r
    obtain ⟨its,rv,pl,hz⟩:=I1.list hq
    have hlen:=rv.length
    refine call_reversed_list pl.isList ?_
    refine Calls.spliced_nil ?_
    have I2:Inv X pins σ H1 { s1 with heap:=s1.heap.push (revObj a ((its.toArray.size:Int) - 1)) }:=I1.kept (t':=s1.toks) fun b o e=>Heap.get?_push_of_some _ e
    have halt:a<s1.heap.objs.size:=by obtain ⟨_,_,e,_⟩:=pl;exact Heap.lt_size e
    have hf:∀ b∈[s1.heap.objs.size],zXl X pins H1 b:=fun b hb=>by
      have e:b=s1.heap.objs.size:=by simpa using hb
      subst e
      exact I1.fpOk (Nat.le_refl _) (I1.hok.fresh (Nat.le_refl _))
    refine zEo (s:={ s1 with heap:=s1.heap.push (revObj a ((its.toArray.size:Int) - 1)) }) (I.ok.hd hc) (Nat.ne_of_lt halt) ⟨_,Heap.get?_push_size _ rfl,rfl,rfl⟩ (pl.isList.push _) (by simp;lia) fun h' tk acc' c' kp e hi=>?_
    obtain ⟨hi1,hi2⟩:=hi
    have hv:=zyp (its:=acc'.toList) rv (by simpa using hi1) fun j v e=>by simpa using hi2 j v (by simpa using e)
    refine ⟨.ref _,_,zgd (t':=tk) I2 hf (fun b o hb e=>kp b o (by simpa using hb) e) (Nat.le_refl _) (show ObjOk X.prog X.w _ h' _ (.lst ys.reverse) from ⟨by simp;lia,acc'.toList,c',hv,by simpa using e⟩),rfl,q _ (I2.hok.fresh (Nat.le_refl _))⟩
theorem zuq (hm1:X.mg "list" = none) (hv1:bootBuiltins "list" = some (.type "list")) (hm2:X.mg "reversed" = none) (hv2:bootBuiltins "reversed" = some (.type "reversed")) (h:ME X e φ) (hc:X.calm=true:=by rfl) (hg1:Gl X "list":=by rfl) (hg2:Gl X "reversed":=by rfl)
    (he:starEach [e] X.env=(false,eval e X.env) :: starEach [] X.env:=by rfl) (he2:starEach [.Call (.Name "reversed" p2) [e] [] pos2] X.env=(false,eval (.Call (.Name "reversed" p2) [e] [] pos2) X.env) :: starEach [] X.env:=by rfl) :
    ME X (.Call (.Name "list" p1) [.Call (.Name "reversed" p2) [e] [] pos2] [] pos) (zpp φ) :=
  zfd (zpq hm1 hv1 hm2 hv2 h hc hg1 hg2 he he2) fun ρ δ μ σ H d μ' Q A e k=>by
    obtain ⟨⟨x,μ1⟩,e1,e⟩:=zf e
    refine ⟨ρ,δ,μ,x,μ1,A,e1,fun ρ1 H1 v x1 R1 r1=>?_⟩
    dsimp only at e
    split at e
    · split at e
      · rename_i hm
        cases e
        obtain ⟨p,rfl,ep⟩:=r1.loc_inv
        obtain ⟨vs,e3,q⟩:=R1.at_ _ _ _ ep hm
        exact ⟨p,vs,rfl,SqL.of e3,fun q' hq'=>k _ _ _ (x1.trans (Ext.push hq')) (R1.push hq' ⟨_,zo,(zzk q).ext (Ext.push hq')⟩) (.loc (zvb R1))⟩
      · cases e
    · cases e
end
end M
set_option Elab.async false
set_option linter.all false
set_option maxRecDepth 100000
set_option autoImplicit false
namespace M
open PySem PySem.Spec PyProof.Rows L2
section
variable {X:Cx}
end
end M
set_option Elab.async false
set_option linter.all false
set_option maxRecDepth 100000
set_option autoImplicit false
namespace M
open PySem PySem.Spec PyProof.Rows L2
section
variable {prog:Program} {w:World} {A:Around} {E:Value→Shared→Prop} {s:Shared}
theorem zng {sl:Addr} {t:Tok} {n:Nat} {Q:Int×Int×Nat→Shared→Prop} (hs:s.heap.IsSliceOf sl .none .none (.int (-1) t)) (h:Q ((n:Int) - 1, -1,n) s):wpAny (model prog w) A (Builtin.Slice.sliceApplied (.ref sl) (pure (n:Int))) Q E s:=by
  obtain ⟨os,hos,hcs,hds⟩:=id hs
  unfold Builtin.Slice.sliceApplied Builtin.Slice.sliceFields
  refine wpAny_bind (wpAny_bind (wpAny_field hos hds (x := .none) rfl (wpAny_bind (wpAny_field hos hds (x := .none) rfl (wpAny_bind (wpAny_field hos hds (x := .int (-1) t) rfl (wpAny_pure ?_)))))))
  refine wpAny_bind (HT.slicePart_ (.int (-1) t) ?_)
  show wpAny _ _ (if ((-1:Int) == 0)=true then _ else _) _ _ s
  rw [if_neg (by decide)]
  refine wpAny_bind (HT.slicePart_ .none (wpAny_bind (HT.slicePart_ .none (wpAny_bind (wpAny_pure ?_)))))
  show wpAny _ _ (pure ((n:Int) - 1,(-1:Int),Builtin.Slice.slicePlaces ((n:Int) - 1) (-1) (-1))) _ _ s
  have e:Builtin.Slice.slicePlaces ((n:Int) - 1) (-1) (-1)=n:=by
    unfold Builtin.Slice.slicePlaces
    rw [if_neg (by decide),show (-(-1):Int)=1 by decide,Int.ediv_one]
    split <;> lia
  rw [e]
  exact wpAny_pure h
theorem zcg {α β:Type} {f g:α→Option β}:∀ {l:List α},(∀ x∈l,f x=g x)→l.filterMap f=l.filterMap g
  | [],_=>rfl
  | x :: l,h=>by
    rw [List.filterMap_cons,List.filterMap_cons,h x List.mem_cons_self,zcg fun y hy=>h y (List.mem_cons_of_mem _ hy)]
theorem zyl:∀ {xs:List V} {us:List Value},Vals xs us→Vals xs.reverse us.reverse
  | [],_,r=>by cases r;exact .nil
  | x :: xs,_,r=>by
    cases r with
    | cons h1 h2 =>
      rw [List.reverse_cons,List.reverse_cons]
      exact (zyl h2).append (.cons h1 .nil)
theorem z7o (xs:Array Value):((List.range xs.size).filterMap fun (m:Nat)=>xs[(((xs.size:Nat):Int) - 1+(m:Int) * (-1)).toNat]?).toArray=xs.toList.reverse.toArray:=by
  have h:=HT.pick_gen xs.toList.reverse.toArray 0 xs.size
  rw [List.drop_zero,List.take_of_length_le (by simp)] at h
  rw [← h]
  congr 1
  refine zcg fun m hm=>?_
  have hm:m<xs.size:=by simpa using hm
  rw [show (((xs.size:Nat):Int) - 1+(m:Int) * (-1)).toNat=xs.size - 1 - m by first|decide|lia,show (((0:Nat):Int)+(m:Int) * 1).toNat=m by lia]
  have e2:xs.toList.reverse.toArray[m]?=xs.toList.reverse[m]?:=by simp
  rw [e2,List.getElem?_reverse (by simpa using hm)]
  simp
theorem zTf {t sl:Addr} {tk:Tok} {items:Array Value} {Q:Value→Shared→Prop} (ht:IsTup s.heap t items) (hs:s.heap.IsSliceOf sl .none .none (.int (-1) tk))
    (h:Q (.ref s.heap.objs.size) { s with heap:=s.heap.push { cls := .type "tuple",data := .seq items.toList.reverse.toArray } })
    (hsz:items.size≤sizeLine):wpAny (model prog w) A (getItem (.ref t) (.ref sl)) Q E s:=by
  have htake:sizeOk (.seq items.toList.reverse.toArray):=by
    show items.toList.reverse.toArray.size≤sizeLine
    rw [List.size_toArray,List.length_reverse,Array.length_toList]
    exact hsz
  obtain ⟨os,hos,hcs,hds⟩:=id hs
  have hTs:s.TypeIs (.ref sl) "slice":=⟨os,hos,hcs⟩
  unfold getItem
  try with_reducible refine wpAny_holding ?_
  first | refine wpAny_bind (wpAny_pure ?_) | skip
  refine wpAny_bind (wpAny_sequenceKey ht.typeIs (by decide) ?_)
  refine wpAny_bind (wpAny_callSpecial?_slot (name:=Str.ofString "__getitem__") ht.typeIs PyProof.Rows.slot_tuple_getitem
    (wpAny_call_entry PyProof.Rows.slot_tuple_getitem ht.typeIs entry_tuple_getitem ?_ (args_tuple_getitem _ _)))
  show wpAny _ _ (Builtin.Tuple.tupleItemsOf (.ref t) >>= _) _ _ s
  refine wpAny_bind (tupleItemsOf_ ht ?_)
  refine wpAny_bind (wpAny_typeOf hTs ?_)
  rw [if_pos (by decide)]
  refine wpAny_bind (zng hs ?_)
  have hno:¬ (((((items.size:Nat):Int) - 1) == 0 && (-1:Int) == 1 && items.size == items.size)=true):=by
    intro q
    rw [Bool.and_eq_true,Bool.and_eq_true] at q
    exact absurd q.1.2 (by decide)
  show wpAny _ _ (if ((((items.size:Nat):Int) - 1) == 0 && (-1:Int) == 1 && items.size == items.size)=true then _ else _) _ _ s
  rw [if_neg hno,z7o]
  first
    | exact wpAny_bind (m:=Builtin.Tuple.tupleExact _) (wpAny_newObj_type (wpAny_pure ⟨_,rfl,wpAny_pure h⟩) htake)
    | exact wpAny_bind (m:=Builtin.Tuple.tupleExact _) (wpAny_newObj_type (wpAny_bind (wpAny_pure (wpAny_pure ⟨_,rfl,wpAny_pure h⟩))) htake)
    | exact wpAny_bind (wpAny_bind (m:=Builtin.Tuple.tupleExact _) (wpAny_newObj_type (wpAny_pure (wpAny_pure ⟨_,rfl,wpAny_pure h⟩)) htake))
    | exact wpAny_bind (wpAny_bind (m:=Builtin.Tuple.tupleExact _) (wpAny_newObj_type (wpAny_pure ⟨_,rfl,wpAny_pure h⟩) htake))
end
section
variable {X:Cx} {e:Expr} {te:TE} {φ:FE} {stp:Expr} {ts:TO} {pos p2:Pos}
noncomputable def z1s (te:TE) (ts:TO):TE:=fun σ H Q=>te σ H fun x H1=>ts σ H1 fun o H2=>o=some (-1)∧∃ a vs,x = .ref a∧H2 a=some (.tup vs)∧∀ p,H2 p=none→Q (.ref p) (upd H2 p (.tup vs.reverse))
theorem z9p (he:PE X e te) (hs:PO X (some stp) ts):PE X (.Subscript e (.Slice none none (some stp) p2) pos) (z1s te ts):=by
  intro pins s σ H Q I h
  refine Subscript_ (thn (he pins s σ H _ I h) fun v s1 ⟨x,H1,I1,r1,q1⟩=>?_)
  refine wpAny_Slice ?_
  rw [evalPart_none]
  refine wpAny_pure ?_
  refine wpAny_pure ?_
  refine thn (hs pins s1 σ H1 _ I1 q1) fun vs3 s3 ⟨o,H3,I3,po,q3⟩=>?_
  obtain ⟨rfl,a,vs,rfl,hx,q⟩:=q3
  cases po with
  | int i tk =>
  have I4:Inv X pins σ H3 { s3 with heap:=s3.heap.push { cls := .type "slice",data := .fields #[.none, .none, .int (-1) tk] } }:=I3.kept (t':=s3.toks) fun b ob q=>Heap.get?_push_of_some _ q
  cases r1
  obtain ⟨its,r,ht,hz⟩:=I4.tuple (SqT.of (K:=X.K) hx)
  show wpAny (model X.prog X.w) X.A (subscriptTail e (.Slice none none (some stp) p2) (.ref a) (.ref s3.heap.objs.size)) (EP X pins σ Q) X.xe { s3 with heap:=s3.heap.push { cls := .type "slice",data := .fields #[.none, .none, .int (-1) tk] } }
  refine tail_any (ops:=[.ref a, .ref s3.heap.objs.size]) ht.typeIs PyProof.Rows.slot_tuple_getitem.lookup ?_ (by with_unfolding_all rfl)
  have hlen:its.toArray.size=vs.length:=by rw [List.size_toArray];exact r.length.symm
  refine zTf ht (Heap.IsSliceOf.new ..) ?_ (by rw [hlen];exact hz)
  refine ⟨.ref _,_,I4.laid (t':=s3.toks) (o := .tup vs.reverse) (fun b ob q=>Heap.get?_push_of_some _ q) (Nat.le_refl _) ?_,rfl,q _ (I4.hok.fresh (Nat.le_refl _))⟩
  exact ⟨by rw [List.length_reverse];exact hz,_,zyl r,IsTup.new _ _⟩
@[simp] noncomputable def zrp (φ:FE) (st:FO):FE:=fun δ μ=>(φ δ μ).bind fun p=>(st δ p.2).bind fun o=>match p.1,o.1 with
  | .tup ds,some (-1)=>some (.tup ds.reverse,o.2)
  | _,_=>none
theorem zmq {st:FO} (he:ME X e φ) (hs:MO X (some stp) st):ME X (.Subscript e (.Slice none none (some stp) p2) pos) (zrp φ st) :=
  zfd (z9p he hs) fun ρ δ μ σ H d μ' Q A e k=>by
    obtain ⟨⟨x,μ1⟩,e1,e⟩:=zf e
    obtain ⟨⟨o1,μ2⟩,e2,e⟩:=zf e
    refine ⟨ρ,δ,μ,x,μ1,A,e1,fun ρ1 H1 v x1 R1 r1=>?_⟩
    refine ⟨ρ1,δ,μ1,o1,μ2,A.ext x1 R1,e2,fun ρ2 H2 x2 R2=>?_⟩
    dsimp only at e
    split at e
    · cases e
      obtain ⟨a,vs,rfl,ea,q⟩:=(r1.ext x2).tup_inv
      exact ⟨rfl,a,vs,rfl,ea,fun p hp=>k ρ2 _ _ ((x1.trans x2).trans (Ext.new hp)) (R2.newTup hp) (.tup zo ((zzk q).ext (Ext.new hp)))⟩
    · cases e
end
end M
set_option Elab.async false
set_option linter.all false
set_option maxRecDepth 100000
set_option autoImplicit false
namespace M
open PySem PySem.Spec PyProof.Rows L2
section
variable {prog:Program} {w:World} {A:Around} {E:Value→Shared→Prop} {s:Shared}
end
section
variable {X:Cx}
end
end M
set_option Elab.async false
set_option linter.all false
set_option maxRecDepth 100000
set_option autoImplicit false
namespace M
open PySem PySem.Spec PyProof.Rows L2
section
variable {X:Cx}
noncomputable def zpo (ns:List Int):List Int:=ns.mergeSort fun a b=>decide (a≤b)
noncomputable def zCj:GL:=fun ds μ=>match ds with
  | [.loc n]=>match μ[n]? with
    | some (.lst xs)=>(zuf xs).bind fun ns=>bif decide (ns.length<64) then some (.loc μ.length,μ ++ [.lst ((zpo ns).map .int)]) else none
    | _=>none
  | _=>none
theorem zuk (hc:X.calm=true):CallM X (.builtin "sorted") zCj:=by
  refine CallM.of fun pins s σ H xs us Q I r ρ ds μ d μ' r1 R e k=>?_
  unfold zCj at e
  split at e
  · split at e
    · rename_i hm
      obtain ⟨ns,e2,e⟩:=zf e
      obtain ⟨hp,e⟩:=zL e
      have hp:=of_decide_eq_true hp
      cases e
      rw [zLc e2] at hm
      obtain ⟨v,rr,rfl,q1,q2⟩:=r1.cons_inv
      obtain ⟨a,rfl,ea⟩:=q1.loc_inv
      obtain ⟨vs,e3,q3⟩:=R.at_ _ _ _ ea hm
      rw [zqe q3] at e3
      rw [q2.nil_inv] at r
      obtain ⟨u,rfl,ru⟩:=vals1 r
      cases ru
      obtain ⟨its,rv,pl,hz⟩:=I.list (SqL.of (K:=X.K) e3)
      have hl:its.length=ns.length:=by rw [← rv.length];simp
      refine sorted_ints pl.isList (zDe rv) (by first|decide|lia) fun out ns' a1 a2 a3=>?_
      have hms:ns'=zpo ns:=zHc (a2.trans (List.mergeSort_perm _ _).symm) a3 (zwh _)
      subst hms
      obtain ⟨e0,he⟩:=sortedAll_at s.heap its out
      have hf:=I.hok.fresh (Nat.le_succ s.heap.objs.size)
      have hlen:(zpo ns).length=ns.length:=a2.length_eq
      refine ⟨.ref (s.heap.objs.size+1),_,I.laid (t':=s.toks) (o := .lst ((zpo ns).map V.int)) (fun _ _=>sortedAll_old) (Nat.le_succ _) ?_,rfl,k _ _ _ (Ext.push hf) (R.push hf ⟨_,zo,zCd⟩) (.loc (zvb R))⟩
      exact ⟨by simp;rw [sizeLine_eq];lia,out.toList,e0,z8d a1,by simpa using he⟩
    · cases e
  · cases e
end
end M
set_option Elab.async false
set_option linter.all false
set_option maxRecDepth 100000
set_option autoImplicit false
namespace M
open PySem PySem.Spec PyProof.Rows L2
section
variable {X:Cx} {a b c e:Expr} {es:List Expr} {φ ψ χ:FE} {pos p2:Pos}
noncomputable def zpl {α:Type} (xs:List α) (k:Nat) (x:α):List α:=xs.take k++x :: xs.drop k
theorem zvl {α:Type} (xs:List α) (k:Nat) (x:α):(zpl xs k x).length=xs.length+1:=by
  unfold zpl
  rw [List.length_append,List.length_cons,List.length_take,List.length_drop]
  lia
noncomputable def z6q:V→List V→Hp→VK→Prop:=fun x vs H Q=>∃ l xs i y,x = .ref l∧vs = [.int i,y]∧H l=some (.lst xs)∧0≤i∧i≤xs.length∧xs.length+1≤sizeLine∧Q .non (upd H l (.lst (zpl xs i.toNat y)))
theorem zPn:MtM X "list.insert" z6q:=by
  intro pins s σ H x vs v us Q I rx rv h
  obtain ⟨l,xs,i,y,rfl,rfl,hH,h0,h1,hz,q⟩:=h
  cases rx
  cases rv with
  | cons ri rv =>
  obtain ⟨t,rfl⟩:=ri
  obtain ⟨u,rfl,ru⟩:=Vals.one rv
  obtain ⟨z,its,n,r,hl,e⟩:=I.lstM hH
  have hm:(2:Int) ^ 63=9223372036854775808:=by decide
  have hfit:¬ (!Builtin.List.listFitsIndex i)=true:=by
    unfold Builtin.List.listFitsIndex
    rw [sizeLine_eq] at hz
    have h2:-(2 ^ 63:Int)≤i:=by lia
    have h3:i<2 ^ 63:=by lia
    rw [decide_eq_true h2,decide_eq_true h3]
    decide
  refine call_meets F.slot_list_insert ⟨_,e,rfl⟩ F.entry_list_insert (F.args_list_insert_3 _ _ _) (AutoSeq1.list_insert_list_int_val_1 l its.toArray n i t u hfit (by rw [List.size_toArray];lia)) ⟨e,?_⟩
  refine ⟨.non,_,I.lset (its':=zpl its i.toNat u) hH e ?_ ?_ (by rw [zvl];lia),rfl,q⟩
  · show (its.toArray.extract 0 (if i<0 then (i+(its.toArray.size:Int)).toNat else min i.toNat its.toArray.size)).push u++its.toArray.extract (if i<0 then (i+(its.toArray.size:Int)).toNat else min i.toNat its.toArray.size)=_
    rw [if_neg (by first|decide|lia),List.size_toArray,Nat.min_eq_left (by first|decide|lia)]
    apply Array.toList_inj.mp
    unfold zpl
    simp
    exact List.take_of_length_le (by simp)
  · exact (r.take _).append (.cons ru (r.drop _))
noncomputable def z6g:GM:=fun x ds μ=>match x,ds with
  | .loc n,[.int i,d]=>match μ[n]? with
    | some (.lst xs)=>bif decide (0≤i∧i≤xs.length∧xs.length≤1000000) then some (.non,μ.set n (.lst (zpl xs i.toNat d))) else none
    | _=>none
  | _,_=>none
theorem zum:MtG X "list.insert" z6g:=by
  refine MtG.of fun pins s σ H x xs v us Q I rx rs ρ dx ds μ d μ' r1 r2 R e k=>?_
  unfold z6g at e
  split at e
  · split at e
    · rename_i hm
      obtain ⟨h1,e⟩:=zL e
      have h1:=of_decide_eq_true h1
      cases e
      obtain ⟨a,rfl,ea⟩:=r1.loc_inv
      obtain ⟨vs,e3,q3⟩:=R.at_ _ _ _ ea hm
      obtain ⟨wi,r,rfl,q0,q2⟩:=r2.cons_inv
      obtain ⟨w,r',rfl,q1,q2⟩:=q2.cons_inv
      have ei:=q0.int_inv
      subst ei
      rw [q2.nil_inv] at rs
      have hl:=q3.length
      have hmi:=million
      have hmu:Mut (H a):=by rw [e3];trivial
      refine zPn pins s σ H _ _ v us Q I rx rs ⟨a,vs,_,w,rfl,rfl,e3,h1.1,by first|decide|lia,by first|decide|lia,?_⟩
      exact k ρ _ _ (Ext.wr hmu) (R.wr hmu ea ⟨_,zo,RepVs.ext (Ext.wr hmu) ((q3.take _).append (.cons q1 (q3.drop _)))⟩) .non
    · cases e
  · cases e
theorem zxo {o:Expr} {ψ:FA} {apos:Pos} (ho:ME X o φ) (ha:MAn X (e :: es) ψ)
    (hbase:attributeBase o "insert" X.env (eval o X.env)=eval o X.env:=by rfl)
    (hfew:((backTo pos (starEach (e :: es) X.env)).all (fun x=>!x.1) && (backToKw pos (keywordEach [] X.env)).all (fun x=>x.1.isSome)
      && decide ((e :: es).length+([]:List Keyword).length+(if ([]:List Keyword).isEmpty then 0 else 1)<30))=true:=by rfl)
    (hline:(apos.endLine == pos.line)=true:=by rfl) (hs:starEach (e :: es) X.env=(false,eval e X.env) :: starEach es X.env:=by rfl) (hplain:(backTo pos (starEach es X.env)).any (·.1)=false:=by rfl) :
    ME X (.Call (.Attribute o "insert" apos) (e :: es) [] pos) (zYd z6g φ ψ):=zPf PySem.F.slot_list_insert PySem.F.type_list_insert zum ho ha hbase hfew hline hs hplain
end
end M
set_option Elab.async false
set_option linter.all false
set_option maxRecDepth 100000
set_option autoImplicit false
namespace M
open PySem PySem.Spec PyProof.Rows L2
section
variable {prog:Program} {w:World} {A:Around} {E:Value→Shared→Prop} {s:Shared}
theorem zoi {it t:Addr} {items:Array Value} (hne:t≠it):∀ (n i:Nat) (s:Shared) (Q:List Value→Shared→Prop),s.heap.IsListIter it t i→s.heap.IsList t items→i+n≤items.size →
    (∀ h',h'.IsListIter it t (i+n)→Heap.SameBut it s.heap h'→Q ((items.toList.drop i).take n) { s with heap:=h' })→wpAny (model prog w) A (draw (.ref it) n) Q E s
  | 0,i,s,Q,hit,_,_,hQ=>by
    show wpAny _ _ (pure []) Q E s
    exact wpAny_pure (by simpa using hQ s.heap hit (Heap.SameBut.refl ..))
  | n+1,i,s,Q,hit,ht,hle,hQ=>by
    have hlt:i<items.size:=by lia
    show wpAny _ _ (pyNext (.ref it) >>= _) Q E s
    refine wpAny_bind (wpAny_pyNext_list_item hit ht (x:=items[i]) (by simp [hlt]) fun h₁ hit₁ hs₁=>?_)
    refine wpAny_bind (wpAny_holding (zoi hne n (i+1) _ _ hit₁ (ht.extBut hs₁.extBut hne) (by first|decide|lia) fun h₂ hit₂ hs₂=>wpAny_pure ?_))
    have hd:items.toList.drop i=items[i] :: items.toList.drop (i+1):=by simp [List.drop_eq_getElem_cons,hlt]
    have:=hQ h₂ (by rw [show i+(n+1)=i+1+n by lia];exact hit₂) (hs₁.trans hs₂)
    rw [hd,List.take_succ_cons] at this
    exact this
theorem zSf {t:Addr} {items:Array Value} {Q:List Value→Shared→Prop} (hh:A.handled=none) (ht:s.heap.IsList t items)
    (hQ:∀ h',Heap.ExtBut s.heap.objs.size s.heap h'→Q items.toList { s with heap:=h' }):wpAny (model prog w) A (unpackItems (.ref t) items.size none) Q E s:=by
  have hlt:t≠s.heap.objs.size:=by obtain ⟨o,ho,_⟩:=ht;exact Nat.ne_of_lt (Heap.lt_size ho)
  unfold unpackItems
  refine wpAny_bind ?_
  · unfold notIterableAtAll
    refine wpAny_bind (wpAny_specialOf ht.typeIs PySem.slot_list_iter.lookup ?_)
    refine wpAny_pure ?_
    simp only [Bool.false_eq_true,if_false]
    refine wpAny_bind (wpAny_holding (wpAny_pyIter_list ht ?_))
    refine wpAny_bind (wpAny_holding (zoi hlt items.size 0 _ _ ⟨_,Heap.get?_push_size _ rfl,rfl,rfl⟩ (ht.push _) (by first|decide|lia) fun h₁ hit₁ hs₁=>?_))
    have hall:List.take items.size (List.drop 0 items.toList)=items.toList:=by
      rw [List.drop_zero];exact List.take_of_length_le (by simp)
    rw [hall]
    rw [if_neg (by simp)]
    have ht₁:h₁.IsList t items:=(ht.push _).extBut hs₁.extBut hlt
    refine wpAny_bind (wpAny_holding (wpAny_pyNext_list_end hh hit₁ ht₁ (by simp) fun h₂ he₂=>?_))
    simp only [Option.isSome_none,Bool.false_eq_true,if_false]
    refine wpAny_pure (hQ h₂ fun b o hb e=>he₂ b o hb (hs₁.extBut b o hb (Heap.get?_push_of_some _ e)))
theorem zXf {env:Env} {elts:List Expr} {x1} {pos:Pos} {t:Addr} {items:Array Value} {Q:Unit→Shared→Prop} (hh:A.handled=none) (ht:s.heap.IsList t items)
    (hn:(assignEach elts env).length=items.size) (hstar:(assignEach elts env).findIdx? (·.1)=none)
    (h:∀ h',Heap.ExtBut s.heap.objs.size s.heap h'→wpAny (model prog w) A (assignInOrder ((assignEach elts env).map (·.2)) items.toList) Q E { s with heap:=h' }) :
    wpAny (model prog w) A (assign (.Tuple elts x1 pos) env (.ref t)) Q E s:=by
  rw [assign_Tuple]
  refine wpAny_bind (wpAny_standAt ?_)
  unfold unpack
  rw [hn,hstar]
  exact wpAny_bind (wpAny_holding (zSf hh ht h))
end
section
variable {X:Cx} {pos:Pos}
noncomputable def zkt (K:PySem.W.Frag) (n:Nat) (t:TGs):TG:=fun v σ H Q=>∃ a xs,v = .ref a∧SqL K H a xs∧xs.length=n∧t xs σ H Q
theorem zMq {es:List Expr} {k:Nat} {t:TGs} {n:Nat} (hc:X.calm=true) (h:PGs X es t)
    (hn:(assignEach es X.env).length=n:=by rfl) (hst:(assignEach es X.env).findIdx? (·.1)=none:=by rfl):PG X (.Tuple es k pos) (zkt X.K n t):=by
  intro pins s σ H v u Q I r hw
  obtain ⟨a,xs,e1,hq,hl,hw⟩:=hw
  subst e1
  cases r
  obtain ⟨its,rv,pl,hz⟩:=I.list hq
  refine zXf (I.ok.hd hc) pl.isList (by simp [hn,← hl,rv.length]) hst fun h' hx=>?_
  have I1:Inv X pins σ H { s with heap:=h' }:=I.kept (t':=s.toks) fun b o e=>hx b o (Nat.ne_of_lt (Heap.lt_size e)) e
  exact h pins _ σ H xs _ Q I1 (by simpa using rv) hw
noncomputable def gTL (n:Nat) (gs:FGs):FG:=fun d δ μ=>match d with
  | .loc l=>match μ[l]? with
    | some (.lst ds)=>bif ds.length == n then gs ds δ μ else none
    | _=>none
  | _=>none
theorem z8q {es:List Expr} {k n:Nat} {gs:FGs} (h:MGs X es gs) (hc:X.calm=true:=by rfl) (hn:(assignEach es X.env).length=n:=by rfl) (hst:(assignEach es X.env).findIdx? (·.1)=none:=by rfl):MG X (.Tuple es k pos) (gTL n gs) :=
  mg_of (zMq hc h hn hst) fun ρ δ μ d δ' μ' v σ H Q A q e k=>by
    unfold gTL at e
    split at e
    · split at e
      · rename_i hm
        obtain ⟨h1,e⟩:=zL e
        obtain ⟨a,rfl,ea⟩:=q.loc_inv
        obtain ⟨vs,e3,q2⟩:=A.hp.at_ _ _ _ ea hm
        exact ⟨a,vs,rfl,SqL.of e3,by rw [← q2.length];exact beq_iff_eq.mp h1,ρ,δ,μ,_,δ',μ',A,q2,e,k⟩
      · cases e
    · cases e
end
end M
set_option Elab.async false
set_option linter.all false
set_option maxRecDepth 100000
set_option autoImplicit false
namespace M
open PySem PySem.Spec PyProof.Rows L2
section
variable {X:Cx} {a b c e:Expr} {es:List Expr} {φ ψ χ:FE} {pos:Pos}
noncomputable def zVg:GM:=fun x ds μ=>match x,ds with
  | .loc n,[d]=>match μ[n]? with
    | some (.lst xs)=>bif ztc d && xs.all ztc then (xs.findIdx? fun y=>eqF y d).bind fun j=>some (.int (j:Nat),μ) else none
    | _=>none
  | _,_=>none
theorem zCn:MtG X "list.index" zVg:=by
  refine MtG.of fun pins s σ H x xs v us Q I rx rs ρ dx ds μ d μ' r1 r2 R e k=>?_
  unfold zVg at e
  split at e
  · split at e
    · rename_i d0 _ ys hm
      obtain ⟨h1,e⟩:=zL e
      rw [Bool.and_eq_true] at h1
      obtain ⟨j,e2,e⟩:=zf e
      cases e
      obtain ⟨a,rfl,ea⟩:=r1.loc_inv
      obtain ⟨vs,e3,q3⟩:=R.at_ _ _ _ ea hm
      obtain ⟨w,r,rfl,q1,q2⟩:=r2.cons_inv
      rw [q2.nil_inv] at rs
      obtain ⟨u,rfl,ru⟩:=vals1 rs
      cases rx
      obtain ⟨z,its,n,rv,hl,el⟩:=I.lstM e3
      obtain ⟨fv,_⟩:=zWl q1 h1.1 q3 h1.2
      obtain ⟨hj,hyes,hno⟩:=List.findIdx?_eq_some_iff_getElem.mp e2
      have l1:=q3.length
      have l2:=rv.length
      have hju:j<its.length:=by lia
      have same:∀ (m:Nat) (h1:m<its.length) (h2:m<ys.length),eqU w its[m]=eqF ys[m] d0:=fun m h1' h2'=>by
        obtain ⟨vm,em,rm⟩:=q3.get (show ys[m]?=some ys[m] from List.getElem?_eq_getElem h2')
        obtain ⟨um,em2,rm2⟩:=rv.get em
        have e6:its[m]=um:=by rw [List.getElem?_eq_getElem h1'] at em2;exact Option.some.inj em2
        have hfv:zmg vm=true:=z3e rm (List.all_eq_true.mp h1.2 _ (List.getElem_mem h2'))
        rw [e6,zNl rm2 hfv,zLk rm q1 (List.all_eq_true.mp h1.2 _ (List.getElem_mem h2')) h1.1]
      have hz:=sizeLine_eq
      refine call_meets PySem.F.slot_list_index ⟨_,el,rfl⟩ PySem.F.entry_list_index (PySem.F.args_list_index_2 _ _) (SeqAt.list_indexAt a its.toArray n _ _ u (eqU w) j (by simpa using hju) (by first|decide|lia) (by simpa [same j hju hj] using hyes) (fun m hm' hmj=>?_)) ⟨el,fun y hy=>zpf ru (z3e q1 h1.1) rv fv y (by simpa using hy),?_⟩
      · have hm2:m<its.length:=by simpa using hm'
        have:=hno m hmj
        have e7:=same m hm2 (by first|decide|lia)
        simp only [Bool.not_eq_true] at this
        simpa [e7] using this
      · exact ⟨.int _,H,I.tok _,⟨_,rfl⟩,k ρ H _ Ext.refl R .int⟩
    · cases e
  · cases e
theorem zrl {o:Expr} {ψ:FA} {apos:Pos} (ho:ME X o φ) (ha:MAn X (e :: es) ψ)
    (hbase:attributeBase o "index" X.env (eval o X.env)=eval o X.env:=by rfl)
    (hfew:((backTo pos (starEach (e :: es) X.env)).all (fun x=>!x.1) && (backToKw pos (keywordEach [] X.env)).all (fun x=>x.1.isSome)
      && decide ((e :: es).length+([]:List Keyword).length+(if ([]:List Keyword).isEmpty then 0 else 1)<30))=true:=by rfl)
    (hline:(apos.endLine == pos.line)=true:=by rfl) (hs:starEach (e :: es) X.env=(false,eval e X.env) :: starEach es X.env:=by rfl) (hplain:(backTo pos (starEach es X.env)).any (·.1)=false:=by rfl) :
    ME X (.Call (.Attribute o "index" apos) (e :: es) [] pos) (zYd zVg φ ψ):=zPf PySem.F.slot_list_index PySem.F.type_list_index zCn ho ha hbase hfew hline hs hplain
end
end M
set_option Elab.async false
set_option linter.all false
set_option autoImplicit false
set_option maxRecDepth 100000
namespace M
open PySem PyProof.Rows
section
variable {prog:Program} {w:World} {A:Around} {E:Value→Shared→Prop} {s:Shared}
set_option maxHeartbeats 3200000 in
theorem z9j {l:Addr} {its:Array Value} {ns:List Int} {Q:Value→Shared→Prop} (hh:A.handled=none) (hl:s.heap.IsTuple l its) (hi:IntsAre its.toList ns) (hb:its.size+1<scanBound)
    (h:∀ s',zXi prog w s (uqN (fun i=>ns.getD i 0) its.size) s'→Q (.ref s.heap.objs.size) s'):wpAny (model prog w) A (call (.type "set") [.ref l]) Q E s:=by
  obtain ⟨c,tl,hmro⟩:=PySem.F.called_set.mro
  have hmade:=PySem.F.called_set.made
  have hsub:=PySem.F.called_set.sub
  refine wpAny_call (codeAny_of_tree ?_)
  show wpAny _ _ (callAny (.type "set") _) _ _ _
  refine wpAny_pure ⟨Code.quiet_builtin _ (by decide +kernel),codeAny_builtin PySem.F.entry_type_call ?_⟩
  rw [Around.under_plain (weight_type_call_type "set" [.ref l] []) rfl]
  have t1:=PySem.F.called_set.notType
  have t2:=PySem.F.called_set.canCreate
  have t3:=PySem.F.typeCall_set_1 (.ref l)
  repeat (any_goals (first | assumption | wp_step))
  refine codeAny_mono (zzo (w:=w) (.ref l) (E:=E) (Q:=fun ob s1=>ob = .ref s.heap.objs.size∧s1 = { s with heap:=s.heap.push (zkb w) }) ⟨rfl,rfl⟩) fun r s1 hr=>?_
  cases r with
  | error e=>exact hr
  | ok fl =>
    cases fl with
    | ret ob =>
      obtain ⟨rfl,rfl⟩:=hr
      have hS:(s.heap.push (zkb w)).get? s.heap.objs.size=some (zkb w):=Heap.get?_push_size _ rfl
      have hT:Shared.TypeIs { s with heap:=s.heap.push (zkb w) } (.ref s.heap.objs.size) "set":=⟨_,hS,rfl⟩
      have i1:=PySem.F.called_set.init.lookup
      have i2:=PySem.F.called_set.init.bind (.ref s.heap.objs.size)
      repeat (any_goals (first | assumption | wp_step))
      refine codeAny_mono (codeAny_call_builtin (R:=wants (fun r s2=>r = .none∧zXi prog w s (uqN (fun i=>ns.getD i 0) its.size) s2) E) PySem.F.called_set.init.plain PySem.F.entry_set_init (check_set_init_1 hT ?_)) fun r2 s2 hr2=>?_
      · obtain ⟨ol,hol,hcl,nl,hdl⟩:=hl
        obtain ⟨ocls,odict,odata,oslots⟩:=ol
        simp only at hcl hdl
        subst hcl;subst hdl
        have hlS:l<s.heap.objs.size:=Heap.lt_size hol
        have hol1:(s.heap.push (zkb w)).get? l=some { cls := .type "tuple",dict:=odict,data := .seq its nl,slots:=oslots }:=Heap.get?_push_of_some _ hol
        have n1:=PySem.F.sub_tuple_set
        have n2:=PySem.F.sub_tuple_frozenset
        have n3:(Value.type "tuple" == Value.type "dict")=false:=by decide
        have hl1:(s.heap.push (zkb w)).IsTuple l its:=⟨_,hol1,rfl,nl,rfl⟩
        unfold Builtin.«set.__init__» noKeywords Builtin.Frozenset.updateFrom
        generalize hPI:pyIter=PI
        wp_walk
        subst hPI
        refine wpAny_pyIter_tuple hl1 ?_
        refine wpAny_bind (wpAny_runValue ?_)
        have hz:(s.heap.push (zkb w)).objs.size=s.heap.objs.size+1:=by rw [Heap.size_push]
        have hne:l≠(s.heap.push (zkb w)).objs.size:=by rw [hz];exact Nat.ne_of_lt (Nat.lt_succ_of_lt hlS)
        have hSf:s.heap.objs.size∉[(s.heap.push (zkb w)).objs.size,l]:=by
          rw [hz]
          simp only [List.mem_cons,List.not_mem_nil,or_false,not_or]
          exact ⟨Nat.ne_of_lt (Nat.lt_succ_self _),Nat.ne_of_gt hlS⟩
        have hval:∀ (i:Nat) (v:Value),its[i]?=some v→∃ t,v = .int ((fun i=>ns.getD i 0) i) t:=fun i v hv=>IntsAre.int_at hi i v (by rw [Array.getElem?_toList];exact hv)
        refine znl (Walks.tuple (by simp [hh]) _ l hne its) s.heap.objs.size hSf (fun i=>ns.getD i 0) hval hb (its.size - 0) 0 _ (by first|decide|lia) (Nat.zero_le _) ⟨⟨_,Heap.get?_push_size _ rfl,rfl,rfl⟩,hl1.push _⟩ ?s0 ?r0
        case s0 =>
          exact ⟨zkb w,#[],0,_,Heap.get?_push_of_some _ hS,⟨rfl,rfl,rfl⟩,rfl,rfl, .fresh _,fun e he=>by simp at he,by simp [uqN]⟩
        case r0 =>
          intro h' tk hk hS'
          refine wpAny_pure ?_
          show wpAny _ _ (ret Value.none) _ _ _
          refine wpAny_pure ⟨rfl,hS',fun b o e=>?_,h',tk,rfl⟩
          have hlt:b<s.heap.objs.size:=Heap.lt_size e
          refine hk b o ?_ (Heap.get?_push_of_some _ (Heap.get?_push_of_some _ e))
          rw [hz]
          simp only [List.mem_cons,List.not_mem_nil,or_false,not_or]
          exact ⟨Nat.ne_of_lt hlt,Nat.ne_of_lt (Nat.lt_succ_of_lt hlt)⟩
      · cases r2 with
        | error e=>exact hr2
        | ok fl2 =>
          cases fl2 with
          | ret r =>
            obtain ⟨rfl,hm⟩:=hr2
            repeat (any_goals (first | assumption | wp_step))
            exact h _ hm
          | _=>exact hr2.elim
    | _=>exact hr.elim
end
end M
namespace M
open PySem PySem.Spec PyProof.Rows L2
section
variable {X:Cx} {pins:List (Addr×Obj)} {σ:L2.St} {H:Hp} {s s':Shared}
theorem zpn (hc:X.calm=true):zch X (.type "set") (fun xs H Q=>∃ (a:Addr) (ns:List Int),xs = [.ref a]∧SqT X.K H a (ns.map V.int)∧ns.length+1<scanBound∧∀ p,H p=none→Q (.ref p) (upd H p (zRk X p (uqN (fun i=>ns.getD i 0) ns.length)))):=by
  intro pins s σ H xs us Q I r ⟨a,ns,e,hq,hb,k⟩
  subst e
  obtain ⟨u,rfl,rx⟩:=vals1 r
  cases rx
  obtain ⟨its,rv,pl,hz⟩:=I.tuple hq
  have hl:its.length=ns.length:=by rw [← rv.length];simp
  refine z9j (I.ok.hd hc) pl (its:=its.toArray) (ns:=ns) (by simpa using zDe rv) (by simp;lia) fun s' ⟨hS,hk,h',tk,e⟩=>?_
  subst e
  rw [show its.toArray.size=ns.length by simp;exact hl] at hS
  refine ⟨.ref s.heap.objs.size,_,I.laid (t':=tk) hk (Nat.le_refl _) (show ObjOk X.prog X.w _ h' _ (zRk X _ _) from ⟨hS,?_,fun h1 h2 x y=>x.at' y⟩),rfl,k _ I.fresh⟩
  obtain ⟨o,_,_,_,ho,_⟩:=hS
  exact ⟨o,ho⟩
end
noncomputable def zmk (φ:FE):FE:=fun δ μ=>(φ δ μ).bind fun p=>match p.1 with
  | .tup ds=>(zuf ds).bind fun ns=>bif decide (ns.length≤4000∧(uqL ns).length<64) then some (.loc p.2.length,p.2 ++ [.lst ((zUk ns).map .int)]) else none
  | _=>none
section
variable {X:Cx} {a b c e:Expr} {es:List Expr} {φ ψ χ:FE} {pos pos2 p1 p2:Pos}
theorem zOo (hm1:X.mg "sorted" = none) (hv1:bootBuiltins "sorted" = some (.builtin "sorted")) (hm2:X.mg "set" = none) (hv2:bootBuiltins "set" = some (.type "set")) (h:ME X e φ) (hc:X.calm=true:=by rfl) (hg1:Gl X "sorted":=by rfl) (hg2:Gl X "set":=by rfl)
    (he:starEach [e] X.env=(false,eval e X.env) :: starEach [] X.env:=by rfl) (he2:starEach [.Call (.Name "set" p2) [e] [] pos2] X.env=(false,eval (.Call (.Name "set" p2) [e] [] pos2) X.env) :: starEach [] X.env:=by rfl) :
    ME X (.Call (.Name "sorted" p1) [.Call (.Name "set" p2) [e] [] pos2] [] pos) (zmk φ) :=
  zfd (zPi (zPh hc) hg1 hm1 hv1 (zsc (zwd (zpn hc) hg2 hm2 hv2 (zsc h zee he) (by decide) (by decide) he rfl) zee he2) (by decide) (by decide) he2 rfl) fun ρ δ μ σ H d μ' Q A e k=>by
    obtain ⟨⟨x,μ1⟩,e1,e⟩:=zf e
    refine ⟨ρ,δ,μ,x,μ1,A,e1,fun ρ1 H1 v x1 R1 r1=>?_⟩
    dsimp only at e
    split at e
    · obtain ⟨ns,e2,e⟩:=zf e
      obtain ⟨hb,e⟩:=zL e
      have hb:=of_decide_eq_true hb
      cases e
      have hm:=zLc e2
      subst hm
      obtain ⟨p,vs,rfl,ep,q⟩:=r1.tup_inv
      rw [zqe q] at ep
      refine ⟨p,ns,rfl,SqT.of ep,by unfold scanBound;lia,fun p1 hp1=>?_⟩
      refine ⟨p1,uqL ns,rfl,zo,hb.2,fun p2 ms hp2 hpm hpw=>?_⟩
      have hms:ms=zUk ns:=zHc (hpm.trans (List.mergeSort_perm _ _).symm) hpw (zwh _)
      subst hms
      have R2:=R1.newTup (o:=zRk X p1 (uqL ns)) hp1
      exact k _ _ _ (x1.trans ((Ext.new hp1).trans (Ext.push hp2))) (R2.push hp2 ⟨_,zo,zCd⟩) (.loc (zvb R2))
    · cases e
end
end M
set_option Elab.async false
set_option linter.all false
set_option maxRecDepth 100000
set_option autoImplicit false
namespace M
open PySem PySem.Spec PyProof.Rows L2
theorem zdr {μ g:Mem} {n:Nat} (h:n < μ.length):(μ ++ g)[n]? = μ[n]?:=List.getElem?_append_left h
theorem zG {μ g:Mem} {n:Nat} {o:LObj} (h:μ[n]?=some o):(μ ++ g)[n]?=some o:=by
  rw [zdr (List.getElem?_eq_some_iff.mp h).1];exact h
theorem zGr {K:PySem.W.Frag} {F:FF} {H:Hp} {a:Addr} {ns:List Int} (hF:∃ μ',F [.fz (ns.map D.int)] []=some (.bl true,μ')) (hO:zVs H) (hS:SqL K H a (ns.map V.int)):spM K 1 F [.ref a] H (fun v _=>v = .bl true) fun _ _ _=>False:=by
  obtain ⟨μ',e⟩:=hF
  have fz:FzL K H a (ns.map V.int):=by
    rcases hS with (h | ⟨o,h⟩) | h
    · rcases hO a with z | ⟨o,xs,z⟩
      · rw [h] at z;cases z
      · rw [h] at z;cases z
    · exact .inl ⟨o,h⟩
    · exact .inr h
  have hints:∀ ns:List Int,RepVs K [] H (ns.map D.int) (ns.map V.int):=fun ns=>by
    induction ns with
    | nil=>exact .nil
    | cons i r ih=>exact .cons .int ih
  exact ⟨rfl,[],[.fz (ns.map D.int)],[], .bl true,μ', .cons (.fz fz (hints ns)) .nil,⟨List.nodup_nil,rfl,fun n a o h1 _=>by simp at h1⟩,e,fun ρ' H' v _ _ r=>r.bl_inv⟩
end M
namespace M
open PySem PySem.Spec PyProof.Rows L2
end M
set_option Elab.async false
set_option linter.all false
set_option maxRecDepth 100000
set_option autoImplicit false
namespace M
open PySem PySem.Spec PyProof.Rows L2
structure WE (φ:FE) (δ:Loc) (μ:Mem) (Q:D→Mem→Prop):Prop where
  ex:∃ d μ',φ δ μ = some (d,μ')∧Q d μ'
structure WT (φ:FT) (δ:Loc) (μ:Mem) (Q:Bool→Mem→Prop):Prop where
  ex:∃ d μ',φ δ μ = some (d,μ')∧Q d μ'
structure WA (φ:FA) (δ:Loc) (μ:Mem) (Q:List D→Mem→Prop):Prop where
  ex:∃ d μ',φ δ μ = some (d,μ')∧Q d μ'
structure WO (φ:FO) (δ:Loc) (μ:Mem) (Q:Option Int→Mem→Prop):Prop where
  ex:∃ d μ',φ δ μ = some (d,μ')∧Q d μ'
structure W2 (g:G2) (x y:D) (μ:Mem) (Q:D→Mem→Prop):Prop where
  ex:∃ d μ',g x y μ = some (d,μ')∧Q d μ'
structure WF (F:FF) (ds:List D) (μ:Mem) (Q:D→Mem→Prop):Prop where
  ex:∃ d μ',F ds μ = some (d,μ')∧Q d μ'
structure WM (g:GM) (x:D) (ds:List D) (μ:Mem) (Q:D→Mem→Prop):Prop where
  ex:∃ d μ',g x ds μ = some (d,μ')∧Q d μ'
structure WI (i:FI) (δ:Loc) (μ:Mem) (Q:List D→(Mem→Bool)→Mem→Prop):Prop where
  ex:∃ ds ok μ',i δ μ = some (ds,ok,μ')∧Q ds ok μ'
structure WG (g:FG) (d:D) (δ:Loc) (μ:Mem) (Q:Loc→Mem→Prop):Prop where
  ex:∃ δ' μ',g d δ μ = some (δ',μ')∧Q δ' μ'
structure WGs (g:FGs) (ds:List D) (δ:Loc) (μ:Mem) (Q:Loc→Mem→Prop):Prop where
  ex:∃ δ' μ',g ds δ μ = some (δ',μ')∧Q δ' μ'
structure WL (g:FG) (c:FT) (φ:FE) (ok:Mem→Bool) (δ:Loc) (xs ys:List D) (μ:Mem) (Q:D→Mem→Prop):Prop where
  ex:∃ d μ',zBo g c φ ok δ xs ys μ = some (d,μ')∧Q d μ'
noncomputable def Ek (nx:Loc→Mem→Prop) (rt:D→Mem→Prop) (bk ct:Loc→Mem→Prop):Out→Prop
  | .next δ μ=>nx δ μ
  | .ret d μ=>rt d μ
  | .brk δ μ=>bk δ μ
  | .cont δ μ=>ct δ μ
  | .exc _ _ _=>False
structure WS (ψ:FS) (δ:Loc) (μ:Mem) (nx:Loc→Mem→Prop) (rt:D→Mem→Prop) (bk ct:Loc→Mem→Prop):Prop where
  ex:∃ o,ψ δ μ = some o∧Ek nx rt bk ct o
structure WFor (g:FG) (body:FS) (ok:Mem→Bool) (xs:List D) (δ:Loc) (μ:Mem) (nx:Loc→Mem→Prop) (rt:D→Mem→Prop):Prop where
  ex:∃ o,zQf g body ok xs δ μ = some o∧Ek nx rt (fun _ _=>False) (fun _ _=>False) o
noncomputable def Keep (μ μ':Mem):Prop:=∀ (n:Nat) (o:LObj),μ[n]?=some o→μ'[n]?=some o
theorem Keep.refl {μ:Mem}:Keep μ μ:=fun _ _ h=>h
theorem Keep.trans {μ μ1 μ2:Mem} (a:Keep μ μ1) (b:Keep μ1 μ2):Keep μ μ2:=fun n o h=>b n o (a n o h)
theorem Keep.app {μ g:Mem}:Keep μ (μ ++ g):=fun _ _ h=>zG h
theorem Keep.to {μ μ1 g:Mem} (a:Keep μ μ1):Keep μ (μ1++g):=a.trans .app
theorem Keep.len {μ μ':Mem} (a:Keep μ μ'):μ.length≤μ'.length:=by
  rcases Nat.lt_or_ge μ'.length μ.length with h | h
  · have:=a μ'.length μ[μ'.length] (by simp [h])
    simp at this
  · exact h
theorem zw {μ:Mem} {o:LObj}:(μ ++ [o])[μ.length]?=some o:=by simp
theorem zC {μ:Mem} {n:Nat} {o:LObj} (h:μ[n]?=some o):n < μ.length:=(List.getElem?_eq_some_iff.mp h).1
theorem zM {μ:Mem} {n m:Nat} {o o':LObj} (h:μ[n]?=some o) (hne:m≠n):(μ.set m o')[n]?=some o:=by
  rw [List.getElem?_set_ne hne];exact h
theorem zQ {μ:Mem} {n:Nat} {o o':LObj} (h:μ[n]?=some o):(μ.set n o')[n]?=some o':=by
  rw [List.getElem?_set_self (zC h)]
theorem zr {μ:Mem} {n:Nat} {ds:List D} (h:μ[n]?=some (.lst ds)):items μ (.loc n)=some ds:=by simp [h]
section
variable {φ ψ χ:FE} {g g2:G2} {δ:Loc} {μ:Mem} {Q:D→Mem→Prop} {i j:Int} {d x y:D} {ds xs:List D}
theorem WE.mono {Q':D→Mem→Prop} (h:WE φ δ μ Q) (k:∀ d μ',Q d μ'→Q' d μ'):WE φ δ μ Q':=let ⟨d,μ',e,q⟩:=h;⟨d,μ',e,k d μ' q⟩
theorem zb {n:Nat} (h:δ[n]?=some (some d)) (q:Q d μ):WE (zk n) δ μ Q:=⟨d,μ,by simp [h],q⟩
theorem w_c (q:Q d μ):WE (fC d) δ μ Q:=⟨d,μ,rfl,q⟩
theorem zj (h:WE φ δ μ fun x μ1=>WE ψ δ μ1 fun y μ2=>W2 g x y μ2 Q):WE (zt g φ ψ) δ μ Q:=by
  obtain ⟨x,μ1,e1,y,μ2,e2,d,μ3,e3,q⟩:=h
  exact ⟨d,μ3,by simp [e1,e2,e3],q⟩
theorem zZt (h:WE φ δ μ fun x μ1=>∃ b,x = .bl b∧(b=false→WE ψ δ μ1 Q)∧(b=true→Q (.bl true) μ1)):WE (fOr φ ψ) δ μ Q:=by
  obtain ⟨x,μ1,e1,b,rfl,h1,h2⟩:=h
  cases b with
  | false=>obtain ⟨d,μ2,e2,q⟩:=h1 rfl;exact ⟨d,μ2,by simp [e1,e2],q⟩
  | true=>exact ⟨_,μ1,by simp [e1],h2 rfl⟩
theorem zLt (h:WE φ δ μ fun x μ1=>∃ i,x = .int i∧Q (.int (-i)) μ1):WE (zet φ) δ μ Q:=by
  obtain ⟨x,μ1,e1,b,rfl,q⟩:=h
  exact ⟨_,μ1,by simp [e1],q⟩
theorem zDd {α:FA} (h:WA α δ μ fun ds μ1=>Q (.tup ds) μ1):WE (zBg α) δ μ Q:=by
  obtain ⟨x,μ1,e1,q⟩:=h
  exact ⟨_,μ1,by simp [e1],q⟩
theorem zYf {α:FA} (h:WA α δ μ fun ds μ1=>Q (.loc μ1.length) (μ1 ++ [.lst ds])):WE (zQi α) δ μ Q:=by
  obtain ⟨x,μ1,e1,q⟩:=h
  exact ⟨_,_,by simp [e1] <;> rfl,q⟩
theorem zAt (h:Q (.loc μ.length) (μ ++ [.dct []])):WE zDt δ μ Q:=⟨_,_,rfl,h⟩
theorem zYs {lo hi:FO} (h:WE φ δ μ fun x μ1=>WO lo δ μ1 fun l μ2=>WO hi δ μ2 fun u μ3=>∃ ds,x = .tup ds∧Q (.tup (cutD ds l u)) μ3):WE (fSl φ lo hi) δ μ Q:=by
  obtain ⟨x,μ1,e1,l,μ2,e2,u,μ3,e3,ds,rfl,q⟩:=h
  exact ⟨_,_,by simp [e1,e2,e3] <;> rfl,q⟩
theorem zvk {R:Option Int→Mem→Prop} (q:R none μ):WO pNo δ μ R:=⟨_,_,rfl,q⟩
theorem zlg {R:Option Int→Mem→Prop} (h:WE φ δ μ fun x μ1=>∃ i,x = .int i∧R (some i) μ1):WO (zSm φ) δ μ R:=by
  obtain ⟨x,μ1,e1,i,rfl,q⟩:=h
  exact ⟨_,_,by simp [e1] <;> rfl,q⟩
theorem zq {F:FF} {α:FA} (h:WA α δ μ fun ds μ1=>WF F ds μ1 Q):WE (zz F α) δ μ Q:=by
  obtain ⟨ds,μ1,e1,d,μ2,e2,q⟩:=h
  exact ⟨d,μ2,by simp [e1,e2],q⟩
theorem zZd {m:GM} {α:FA} (h:WE φ δ μ fun x μ1=>∃ n xs,x = .loc n∧μ1[n]?=some (.lst xs)∧WA α δ μ1 fun ds μ2=>WM m (.loc n) ds μ2 Q):WE (zYd m φ α) δ μ Q:=by
  obtain ⟨x,μ1,e1,n,xs,rfl,e2,ds,μ2,e3,d,μ3,e4,q⟩:=h
  exact ⟨d,μ3,by simp [e1,e2,e3,e4],q⟩
theorem zok {n:Nat} {fr:List Nat} {it:FI} {tg:FG} {c:FT} (h:WI it δ μ fun ds ok μ1=>few ds=true∧WL tg c φ ok (δC n fr δ) ds [] μ1 Q):WE (fLC n fr it tg c φ) δ μ Q:=by
  obtain ⟨ds,ok,μ1,e1,hf,d,μ2,e2,q⟩:=h
  exact ⟨d,μ2,by unfold fLC;simp only [e1,Option.bind_some,hf,cond_true];exact e2,q⟩
theorem zZp (h:WE φ δ μ fun x μ1=>∃ n ns,x = .loc n∧μ1[n]?=some (.lst (ns.map .int))∧ns.length≤4000∧(uqL ns).length<64∧Q (.loc μ1.length) (μ1 ++ [.lst ((zUk ns).map .int)])):WE (znm φ) δ μ Q:=by
  obtain ⟨x,μ1,e1,n,ns,rfl,e2,h1,h2,q⟩:=h
  exact ⟨_,_,by simp [znm,e1,e2,h1,h2] <;> rfl,q⟩
theorem zK {R:Bool→Mem→Prop} (h:WE φ δ μ fun x μ1=>∃ b,x = .bl b∧R b μ1):WT (z9 φ) δ μ R:=by
  obtain ⟨x,μ1,e1,b,rfl,q⟩:=h
  exact ⟨_,_,by simp [e1] <;> rfl,q⟩
theorem zTp {c e:FT} {R:Bool→Mem→Prop} (h:WT c δ μ fun b μ1=>(b=true→WT e δ μ1 R)∧(b=false→R false μ1)):WT (zUo c e) δ μ R:=by
  obtain ⟨b,μ1,e1,h1,h2⟩:=h
  cases b with
  | true=>obtain ⟨d,μ2,e2,q⟩:=h1 rfl;exact ⟨d,μ2,by simp [e1,e2],q⟩
  | false=>exact ⟨_,μ1,by simp [e1],h2 rfl⟩
theorem zYo {c e:FT} {R:Bool→Mem→Prop} (h:WT c δ μ fun b μ1=>(b=false→WT e δ μ1 R)∧(b=true→R true μ1)):WT (zqr c e) δ μ R:=by
  obtain ⟨b,μ1,e1,h1,h2⟩:=h
  cases b with
  | false=>obtain ⟨d,μ2,e2,q⟩:=h1 rfl;exact ⟨d,μ2,by simp [e1,e2],q⟩
  | true=>exact ⟨_,μ1,by simp [e1],h2 rfl⟩
theorem zws {c:FT} {R:Bool→Mem→Prop} (h:WT c δ μ fun b μ1=>R (!b) μ1):WT (z0q c) δ μ R:=by
  obtain ⟨b,μ1,e1,q⟩:=h
  exact ⟨_,_,by simp [e1] <;> rfl,q⟩
theorem zzt {R:Bool→Mem→Prop} (q:R true μ):WT zSk δ μ R:=⟨_,_,rfl,q⟩
theorem zn {R:List D→Mem→Prop} (q:R [] μ):WA zF δ μ R:=⟨_,_,rfl,q⟩
theorem zc {α:FA} {R:List D→Mem→Prop} (h:WE φ δ μ fun x μ1=>WA α δ μ1 fun xs μ2=>R (x :: xs) μ2):WA (ze φ α) δ μ R:=by
  obtain ⟨x,μ1,e1,xs,μ2,e2,q⟩:=h
  exact ⟨_,_,by simp [e1,e2] <;> rfl,q⟩
theorem z2d (q:Q (.int (i+j)) μ):W2 zxd (.int i) (.int j) μ Q:=⟨_,_,rfl,q⟩
theorem zMl {as bs:List D} (h:as.length+bs.length≤1000000) (q:Q (.tup (as++bs)) μ):W2 zxd (.tup as) (.tup bs) μ Q:=⟨_,_,by simp [h] <;> rfl,q⟩
theorem zYp {l m:Nat} {as bs:List D} (h1:μ[l]?=some (.lst as)) (h2:μ[m]?=some (.lst bs)) (h:as.length+bs.length≤1000000) (q:Q (.loc μ.length) (μ ++ [.lst (as++bs)])):W2 zxd (.loc l) (.loc m) μ Q:=⟨_,_,by simp [h1,h2,h] <;> rfl,q⟩
theorem zar (q:Q (.int (i - j)) μ):W2 zqq (.int i) (.int j) μ Q:=⟨_,_,rfl,q⟩
theorem z1j (h:zzh i j=true) (q:Q (.int (i * j)) μ):W2 zYg (.int i) (.int j) μ Q:=⟨_,_,by simp [zYg,h] <;> rfl,q⟩
theorem zkk (h:0<j) (q:Q (.int (i % j)) μ):W2 zgl (.int i) (.int j) μ Q:=⟨_,_,by simp [h] <;> rfl,q⟩
theorem z5q (h:0<j) (h':j<1606938044258990275541962092341162602522202993782792835301376) (q:Q (.int (i / j)) μ):W2 z8p (.int i) (.int j) μ Q:=⟨_,_,by simp [h,h'] <;> rfl,q⟩
theorem zKt (h:0≤j) (h1:j≤100000) (h2:i.natAbs<1606938044258990275541962092341162602522202993782792835301376) (q:Q (.int (i ^ j.toNat)) μ):W2 zpr (.int i) (.int j) μ Q:=⟨_,_,by simp only [zpr];rw [decide_eq_true ⟨h,h1,h2⟩];rfl,q⟩
theorem zrj {r:Int→Int→Bool} (q:Q (.bl (r i j)) μ):W2 (zSl r) (.int i) (.int j) μ Q:=⟨_,_,rfl,q⟩
theorem zXb (h:items μ x=some xs) (h2:atI xs i=some d) (q:Q d μ):W2 gIx x (.int i) μ Q:=⟨_,_,by show ((items μ x).bind fun ds=>(atI ds i).bind fun d=>some (d,μ))=_;rw [h,Option.bind_some,h2,Option.bind_some],q⟩
theorem zOh (q:Q (.bl (i == j)) μ):W2 gEq (.int i) (.int j) μ Q:=⟨_,_,by simp [gEq,toP,PyData.eqv] <;> rfl,q⟩
theorem zst (q:Q (.bl (!(i == j))) μ):W2 gNe (.int i) (.int j) μ Q:=⟨_,_,by simp [gNe,toP,PyData.eqv] <;> rfl,q⟩
theorem z5s {p p':PyData} (h1:toP μ 8 x=some p) (h2:toP μ 8 y=some p') (q:Q (.bl (PyData.eqv p p')) μ):W2 gEq x y μ Q:=⟨_,_,by simp [gEq,h1,h2] <;> rfl,q⟩
theorem z8s {p p':PyData} (h1:toP μ 8 x=some p) (h2:toP μ 8 y=some p') (q:Q (.bl (!PyData.eqv p p')) μ):W2 gNe x y μ Q:=⟨_,_,by simp [gNe,h1,h2] <;> rfl,q⟩
theorem zXm (h:items μ y=some xs) (h1:ztc x=true) (h2:xs.all ztc=true) (q:Q (.bl (!xs.any fun d=>eqF d x)) μ):W2 zdh x y μ Q:=⟨_,_,by simp only [zdh,h,Option.bind_some,h1,h2,Bool.and_self,cond_true],q⟩
theorem zTe (h:items μ x=some xs) (q:Q (.int xs.length) μ):WF zzi [x] μ Q:=⟨_,_,by show ((items μ x).bind fun xs=>some (D.int xs.length,μ))=_;rw [h,Option.bind_some],q⟩
theorem zGp (h:items μ x=some xs) (q:Q (.loc μ.length) (μ ++ [.lst xs])):WF z8n [x] μ Q:=⟨_,_,by show ((items μ x).bind fun xs=>some (D.loc μ.length,μ ++ [LObj.lst xs]))=_;rw [h,Option.bind_some],q⟩
theorem zIf (h:items μ x=some xs) (q:Q (.tup xs) μ):WF zid [x] μ Q:=by
  refine ⟨_,_,?_,q⟩
  cases x <;> first | (cases h;rfl) | (simp only [zid,h];rfl)
theorem zvt {n:Nat} {ns:List Int} (h:μ[n]?=some (.lst (ns.map .int))) (q:Q (.int ns.sum) μ):WF zJs [.loc n] μ Q:=⟨_,_,by simp [h] <;> rfl,q⟩
theorem zGg {n:Nat} (h:μ[n]?=some (.lst xs)) (hl:xs.length≤1000000) (q:Q .non (μ.set n (.lst (xs ++ [d])))):WM z4d (.loc n) [d] μ Q:=⟨_,_,by simp [h,hl] <;> rfl,q⟩
theorem zHs {n:Nat} (h:μ[n]?=some (.lst xs)) (hl:xs.length+ds.length≤1000000) (q:Q .non (μ.set n (.lst (xs++ds)))):WM ziq (.loc n) [.tup ds] μ Q:=⟨_,_,by simp [h,hl] <;> rfl,q⟩
theorem zYb {F:FF} {N:List Str} {p:FS} (hF:F=fun ds μ=>zWb (p (zP N ds) μ)) (h:WS p (zP N ds) μ (fun _ μ'=>Q .non μ') Q (fun _ _=>False) fun _ _=>False):WF F ds μ Q:=by
  subst hF
  obtain ⟨o,e,k⟩:=h
  cases o with
  | next δ' μ'=>exact ⟨_,_,by rw [e];rfl,k⟩
  | ret d μ'=>exact ⟨_,_,by rw [e];rfl,k⟩
  | brk _ _=>exact k.elim
  | cont _ _=>exact k.elim
  | exc _ _ _=>exact k.elim
theorem zMe {α:FA} {R:List D→(Mem→Bool)→Mem→Prop} (h:WA α δ μ fun ds μ1=>∃ j:Int,ds = [.int j]∧-(2 ^ 62)≤j∧j<2 ^ 62∧R ((List.range j.toNat).map fun (k:Nat) => .int k) yes μ1):WI (z2c α) δ μ R:=by
  obtain ⟨ds,μ1,e1,j,rfl,h1,h2,q⟩:=h
  refine ⟨_,_,_,?_,q⟩
  unfold z2c
  simp only [e1,Option.bind_some]
  rw [decide_eq_true ⟨h1,h2⟩]
  rfl
theorem zXe {R:List D→(Mem→Bool)→Mem→Prop} (h:WE φ δ μ fun x μ1=>(∃ ds,x = .tup ds∧R ds yes μ1)∨(∃ ds,x = .fz ds∧R ds yes μ1)∨∃ n ds,x = .loc n∧μ1[n]?=some (.lst ds)∧R ds (zHh n ds) μ1):WI (zLg φ) δ μ R:=by
  obtain ⟨x,μ1,e1,⟨ds,rfl,q⟩ | ⟨ds,rfl,q⟩ | ⟨n,ds,rfl,e2,q⟩⟩:=h
  · exact ⟨_,_,_,by simp [e1] <;> rfl,q⟩
  · exact ⟨_,_,_,by simp [e1] <;> rfl,q⟩
  · exact ⟨_,_,_,by simp [e1,e2] <;> rfl,q⟩
theorem zhd {n:Nat} {R:Loc→Mem→Prop} (q:R (δ.set n (some d)) μ):WG (gN n) d δ μ R:=⟨_,_,rfl,q⟩
theorem zmu {n:Nat} {gs:FGs} {R:Loc→Mem→Prop} (hl:ds.length=n) (h:WGs gs ds δ μ R):WG (gT n gs) (.tup ds) δ μ R:=by
  obtain ⟨δ',μ',e,q⟩:=h
  exact ⟨δ',μ',by simp [hl,e],q⟩
theorem zDj {gs:FGs} {R:Loc→Mem→Prop} {a b:D} (h:WGs gs [a,b] δ μ R):WG (gT 2 gs) (.tup [a,b]) δ μ R:=zmu rfl h
theorem zGi {R:Loc→Mem→Prop} (q:R δ μ):WGs zLf [] δ μ R:=⟨_,_,rfl,q⟩
theorem zvd {t:FG} {gs:FGs} {R:Loc→Mem→Prop} (h:WG t d δ μ fun δ1 μ1=>WGs gs ds δ1 μ1 R):WGs (zxb t gs) (d :: ds) δ μ R:=by
  obtain ⟨δ1,μ1,e1,δ2,μ2,e2,q⟩:=h
  exact ⟨δ2,μ2,by simp [e1,e2],q⟩
end
section
variable {φ ψ:FE} {δ:Loc} {μ:Mem} {nx:Loc→Mem→Prop} {rt:D→Mem→Prop} {bk ct:Loc→Mem→Prop} {p q:FS}
theorem zmb (h:nx δ μ):WS zbc δ μ nx rt bk ct:=⟨.next δ μ,rfl,h⟩
theorem zp (h:WS p δ μ (fun δ' μ'=>WS q δ' μ' nx rt bk ct) rt bk ct):WS (zV p q) δ μ nx rt bk ct:=by
  obtain ⟨o,e,k⟩:=h
  cases o with
  | next δ' μ'=>obtain ⟨o2,e2,k2⟩:=k;exact ⟨o2,by simp [e,e2],k2⟩
  | ret d μ'=>exact ⟨.ret d μ',by simp only [zV,e],k⟩
  | brk d μ'=>exact ⟨.brk d μ',by simp only [zV,e],k⟩
  | cont d μ'=>exact ⟨.cont d μ',by simp only [zV,e],k⟩
  | exc _ _ _=>exact k.elim
theorem zU {n:Nat} (h:WE φ δ μ fun d μ'=>nx (δ.set n (some d)) μ'):WS (zVb n φ) δ μ nx rt bk ct:=by
  obtain ⟨d,μ',e,k⟩:=h
  exact ⟨.next _ _,by simp only [zVb,e,Option.bind_some],k⟩
theorem zhm {g:FG} (h:WE φ δ μ fun d μ1=>WG g d δ μ1 nx):WS (zAo φ g) δ μ nx rt bk ct:=by
  obtain ⟨d,μ1,e,δ',μ2,e2,k⟩:=h
  exact ⟨.next _ _,by simp only [zAo,e,Option.bind_some,e2],k⟩
theorem zfg (h:WE φ δ μ fun _ μ'=>nx δ μ'):WS (zph φ) δ μ nx rt bk ct:=by
  obtain ⟨d,μ',e,k⟩:=h
  exact ⟨.next _ _,by simp only [zph,e,Option.bind_some],k⟩
theorem znb (h:WE φ δ μ rt):WS (zqc φ) δ μ nx rt bk ct:=by
  obtain ⟨d,μ',e,k⟩:=h
  exact ⟨.ret _ _,by simp only [zqc,e,Option.bind_some],k⟩
theorem zHf {c:FT} (h:WT c δ μ fun b μ1=>(b=true→WS p δ μ1 nx rt bk ct)∧(b=false→WS q δ μ1 nx rt bk ct)):WS (sIf c p q) δ μ nx rt bk ct:=by
  obtain ⟨b,μ1,e,h1,h2⟩:=h
  cases b with
  | true=>obtain ⟨o,e2,k⟩:=h1 rfl;exact ⟨o,by simp [e,e2],k⟩
  | false=>obtain ⟨o,e2,k⟩:=h2 rfl;exact ⟨o,by simp [e,e2],k⟩
theorem zVe {it:FI} {g:FG} {body:FS} (h:WI it δ μ fun ds ok μ1=>WFor g body ok ds δ μ1 nx rt):WS (zAh it g body) δ μ nx rt bk ct:=by
  obtain ⟨ds,ok,μ1,e,o,e2,k⟩:=h
  refine ⟨o,by simp only [zAh,e,Option.bind_some];exact e2,?_⟩
  cases o with
  | next _ _=>exact k
  | ret _ _=>exact k
  | brk _ _=>exact k.elim
  | cont _ _=>exact k.elim
  | exc _ _ _=>exact k.elim
theorem zqo {g:FG} {body:FS} {ok:Mem→Bool} {nx:Loc→Mem→Prop} {rt:D→Mem→Prop} (I:Nat→Loc→Mem→Prop):∀ {xs:List D} {n:Nat} {δ:Loc} {μ:Mem},I n δ μ→(∀ m δ μ,I m δ μ→ok μ = true) →
    (∀ (m:Nat) (x:D) (δ:Loc) (μ:Mem),xs[m]?=some x→I (n+m) δ μ→WG g x δ μ fun δ1 μ1=>WS body δ1 μ1 (I (n+m+1)) rt nx (I (n+m+1)))→(∀ δ μ,I (n+xs.length) δ μ→nx δ μ)→WFor g body ok xs δ μ nx rt
  | [],n,δ,μ,h0,hok,_,hend=>⟨.next δ μ,by simp only [zQf,hok _ _ _ h0,cond_true],hend δ μ h0⟩
  | x :: xs,n,δ,μ,h0,hok,hs,hend=>by
    obtain ⟨δ1,μ1,e1,o,e2,k⟩:=hs 0 x δ μ rfl h0
    cases o with
    | next δ2 μ2 =>
      obtain ⟨o3,e3,k3⟩:=zqo I (xs:=xs) (n:=n+1) (δ:=δ2) (μ:=μ2) k hok (fun m y δ μ hy hI=>by
        have:=hs (m+1) y δ μ (by simpa using hy) (by rw [show n+(m+1)=n+1+m by lia];exact hI)
        rw [show n+(m+1)=n+1+m by lia] at this
        exact this) (fun δ μ hI=>hend δ μ (by rw [List.length_cons,show n+(xs.length+1)=n+1+xs.length by lia];exact hI))
      exact ⟨o3,by simp only [zQf,hok _ _ _ h0,cond_true,e1,Option.bind_some,e2];exact e3,k3⟩
    | cont δ2 μ2 =>
      obtain ⟨o3,e3,k3⟩:=zqo I (xs:=xs) (n:=n+1) (δ:=δ2) (μ:=μ2) k hok (fun m y δ μ hy hI=>by
        have:=hs (m+1) y δ μ (by simpa using hy) (by rw [show n+(m+1)=n+1+m by lia];exact hI)
        rw [show n+(m+1)=n+1+m by lia] at this
        exact this) (fun δ μ hI=>hend δ μ (by rw [List.length_cons,show n+(xs.length+1)=n+1+xs.length by lia];exact hI))
      exact ⟨o3,by simp only [zQf,hok _ _ _ h0,cond_true,e1,Option.bind_some,e2];exact e3,k3⟩
    | brk δ2 μ2=>exact ⟨.next δ2 μ2,by simp only [zQf,hok _ _ _ h0,cond_true,e1,Option.bind_some,e2],k⟩
    | ret d μ2=>exact ⟨.ret d μ2,by simp only [zQf,hok _ _ _ h0,cond_true,e1,Option.bind_some,e2],k⟩
    | exc _ _ _=>exact k.elim
end
theorem zVp {g:FG} {c:FT} {φ:FE} {ok:Mem→Bool} {δ:Loc} {Q:D→Mem→Prop} (I:Nat→List D→Mem→Prop):∀ {xs ys:List D} {n:Nat} {μ:Mem},I n ys μ→(∀ m ys μ,I m ys μ→ok μ = true) →
    (∀ (m:Nat) (x:D) (ys:List D) (μ:Mem),xs[m]?=some x→I (n+m) ys μ→WG g x δ μ fun δ1 μ1=>WT c δ1 μ1 fun b μ2=>(b=true→WE φ δ1 μ2 fun d μ3=>I (n+m+1) (ys ++ [d]) μ3)∧(b=false→I (n+m+1) ys μ2)) →
    (∀ ys μ,I (n+xs.length) ys μ→Q (.loc μ.length) (μ ++ [.lst ys]))→WL g c φ ok δ xs ys μ Q
  | [],ys,n,μ,h0,hok,_,hend=>⟨_,_,by simp only [zBo,hok _ _ _ h0,cond_true],hend ys μ h0⟩
  | x :: xs,ys,n,μ,h0,hok,hs,hend=>by
    obtain ⟨δ1,μ1,e1,b,μ2,e2,ht,hf⟩:=hs 0 x ys μ rfl h0
    have step:∀ ys2 μ3,I (n+1) ys2 μ3→WL g c φ ok δ xs ys2 μ3 Q:=fun ys2 μ3 h=>zVp I (n:=n+1) h hok (fun m y ys μ hy hI=>by
        have:=hs (m+1) y ys μ (by simpa using hy) (by rw [show n+(m+1)=n+1+m by lia];exact hI)
        rw [show n+(m+1)=n+1+m by lia] at this
        exact this) (fun ys μ hI=>hend ys μ (by rw [List.length_cons,show n+(xs.length+1)=n+1+xs.length by lia];exact hI))
    cases b with
    | true =>
      obtain ⟨d,μ3,e3,h3⟩:=ht rfl
      obtain ⟨d',μ4,e4,q⟩:=step _ _ h3
      exact ⟨d',μ4,by simp only [zBo,hok _ _ _ h0,cond_true,e1,Option.bind_some,e2,e3];exact e4,q⟩
    | false =>
      obtain ⟨d',μ4,e4,q⟩:=step _ _ (hf rfl)
      exact ⟨d',μ4,by simp only [zBo,hok _ _ _ h0,cond_true,e1,Option.bind_some,e2,cond_false];exact e4,q⟩
theorem zSb {g:FG} {body:FS} {ok:Mem→Bool} {nx:Loc→Mem→Prop} {rt:D→Mem→Prop} {xs:List D} {δ:Loc} {μ:Mem} (I:Nat→Loc→Mem→Prop) (h0:I 0 δ μ) (hok:∀ m δ μ,I m δ μ→ok μ = true)
    (hs:∀ (m:Nat) (x:D) (δ:Loc) (μ:Mem),xs[m]?=some x→I m δ μ→WG g x δ μ fun δ1 μ1=>WS body δ1 μ1 (I (m+1)) rt nx (I (m+1))) (hend:∀ δ μ,I xs.length δ μ→nx δ μ):WFor g body ok xs δ μ nx rt :=
  zqo I (n:=0) h0 hok (fun m x δ μ hx h=>by
    rw [Nat.zero_add] at h ⊢
    exact hs m x δ μ hx h) (fun δ μ h=>hend δ μ (by rw [Nat.zero_add] at h;exact h))
theorem zqn {g:FG} {c:FT} {φ:FE} {ok:Mem→Bool} {δ:Loc} {Q:D→Mem→Prop} {xs:List D} {μ:Mem} (I:Nat→List D→Mem→Prop) (h0:I 0 [] μ) (hok:∀ m ys μ,I m ys μ→ok μ = true)
    (hs:∀ (m:Nat) (x:D) (ys:List D) (μ:Mem),xs[m]?=some x→I m ys μ→WG g x δ μ fun δ1 μ1=>WT c δ1 μ1 fun b μ2=>(b=true→WE φ δ1 μ2 fun d μ3=>I (m+1) (ys ++ [d]) μ3)∧(b=false→I (m+1) ys μ2))
    (hend:∀ ys μ,I xs.length ys μ→Q (.loc μ.length) (μ ++ [.lst ys])):WL g c φ ok δ xs [] μ Q :=
  zVp I (n:=0) h0 hok (fun m x ys μ hx h=>by
    rw [Nat.zero_add] at h ⊢
    exact hs m x ys μ hx h) (fun ys μ h=>hend ys μ (by rw [Nat.zero_add] at h;exact h))
theorem zvg {j m:Nat} {x:D} (h:((List.range j).map fun (k:Nat)=>D.int k)[m]?=some x):m<j∧x = .int m:=by
  have h1:=(List.getElem?_eq_some_iff.mp h).1
  simp at h1
  refine ⟨h1,?_⟩
  simp [h1] at h
  exact h.symm
theorem zWf {α:Type} {g:FG} {c:FT} {φ:FE} {ok:Mem→Bool} {δ:Loc} {Q:D→Mem→Prop} {μ:Mem} (e:α→D) (l:List α) (f:α→D) (p:α→Bool) (hok:∀ μ',Keep μ μ'→ok μ'=true)
    (hs:∀ x∈l,∀ μ',Keep μ μ'→WG g (e x) δ μ' fun δ1 μ1=>WT c δ1 μ1 fun b μ2=>b=p x∧Keep μ μ2∧(b=true→WE φ δ1 μ2 fun d μ3=>d=f x∧Keep μ μ3))
    (hq:∀ μ',Keep μ μ'→Q (.loc μ'.length) (μ' ++ [.lst ((l.filter p).map f)])):WL g c φ ok δ (l.map e) [] μ Q:=by
  refine zqn (fun m ys μ'=>Keep μ μ'∧ys=((l.take m).filter p).map f) ⟨.refl,by simp⟩ (fun m ys μ' h=>hok μ' h.1) (fun m x ys μ' hx h=>?_) (fun ys μ' h=>?_)
  · rw [List.getElem?_map] at hx
    cases hy:l[m]? with
    | none=>rw [hy] at hx;cases hx
    | some y =>
      rw [hy] at hx
      cases hx
      obtain ⟨δ1,μ1,e1,b,μ2,e2,hb,k2,h3⟩:=hs y (List.mem_of_getElem? hy) μ' h.1
      have ht:l.take (m+1)=l.take m ++ [y]:=by
        rw [List.take_succ,hy]
        rfl
      refine ⟨δ1,μ1,e1,b,μ2,e2,fun hb1=>?_,fun hb1=>⟨k2,?_⟩⟩
      · obtain ⟨d,μ3,e3,rfl,k3⟩:=h3 hb1
        refine ⟨_,_,e3,k3,?_⟩
        rw [ht,List.filter_append,List.map_append,← h.2,List.filter_cons_of_pos (by rw [← hb,hb1])]
        rfl
      · rw [ht,List.filter_append,List.map_append,← h.2,List.filter_cons_of_neg (by rw [← hb,hb1];exact Bool.false_ne_true)]
        simp
  · rw [List.length_map,List.take_length] at h
    rw [h.2]
    exact hq μ' h.1
theorem zhf {α:Type} {g:FG} {φ:FE} {ok:Mem→Bool} {δ:Loc} {Q:D→Mem→Prop} {μ:Mem} (e:α→D) (l:List α) (f:α→D) (hok:∀ μ',Keep μ μ'→ok μ'=true)
    (hs:∀ x∈l,∀ μ',Keep μ μ'→WG g (e x) δ μ' fun δ1 μ1=>WE φ δ1 μ1 fun d μ3=>d=f x∧Keep μ μ3∧Keep μ μ1)
    (hq:∀ μ',Keep μ μ'→Q (.loc μ'.length) (μ' ++ [.lst (l.map f)])):WL g zSk φ ok δ (l.map e) [] μ Q :=
  zWf e l f (fun _=>true) hok (fun x hx μ' k=>by
    obtain ⟨δ1,μ1,e1,d,μ3,e3,h1,h2,h3⟩:=hs x hx μ' k
    exact ⟨δ1,μ1,e1,true,μ1,rfl,rfl,h3,fun _=>⟨d,μ3,e3,h1,h2⟩⟩) (fun μ' k=>by rw [List.filter_eq_self.mpr (fun _ _=>rfl)];exact hq μ' k)
theorem zuc {ds:List D} (h:ds.length≤1000000):few ds=true:=decide_eq_true h
theorem zlb {n:Nat} {ds:List D} {μ μ':Mem} (h:μ[n]?=some (.lst ds)) (k:Keep μ μ'):zHh n ds μ'=true:=stays_iff.mpr (k n _ h)
theorem znq {ns:List Int} {k:Int}:k∈uqL ns↔k∈ns:=by
  unfold uqL
  rw [zzn,List.mem_iff_getElem]
  constructor
  · rintro ⟨j,hj,h⟩
    exact ⟨j,hj,by simpa [hj] using h⟩
  · rintro ⟨j,hj,h⟩
    exact ⟨j,hj,by simpa [hj] using h⟩
theorem zxi {ns l:List Int} (h1:∀ k,k∈l↔k∈ns) (h2:l.Pairwise (· < ·)):(uqL ns).Perm l:=by
  refine (List.perm_ext_iff_of_nodup (z0j _ _) (h2.imp fun h=>Int.ne_of_lt h)).mpr fun k=>?_
  rw [h1]
  exact znq
theorem zhj {ns l:List Int} (h1:∀ k,k∈l↔k∈ns) (h2:l.Pairwise (· < ·)):zUk ns=l :=
  zHc ((List.mergeSort_perm _ _).trans (zxi h1 h2)) (zwh _) (h2.imp fun h=>Int.le_of_lt h)
end M
set_option Elab.async false
set_option linter.all false
set_option maxRecDepth 100000
set_option autoImplicit false
namespace M
open PySem PySem.Spec PyProof.Rows L2
structure KB (L:List Nat) (μ μ':Mem):Prop where
  len:μ.length≤μ'.length
  at_:∀ (n:Nat) (o:LObj),n∉L→μ[n]?=some o→μ'[n]?=some o
section
variable {L:List Nat} {μ μ1 μ2 μ':Mem} {n:Nat} {o:LObj}
theorem KB.refl:KB L μ μ:=⟨Nat.le_refl _,fun _ _ _ h=>h⟩
theorem KB.trans (a:KB L μ μ1) (b:KB L μ1 μ2):KB L μ μ2:=⟨Nat.le_trans a.len b.len,fun n o h e=>b.at_ n o h (a.at_ n o h e)⟩
theorem KB.app {g:Mem} (a:KB L μ μ1):KB L μ (μ1++g):=⟨by simp;have:=a.len;lia,fun n o h e=>zG (a.at_ n o h e)⟩
theorem KB.set {m:Nat} (a:KB L μ μ1) (h:m∈L∨μ.length≤m):KB L μ (μ1.set m o):=⟨by simp;exact a.len,fun n o' hn e=>by
  rw [List.getElem?_set_ne]
  · exact a.at_ n o' hn e
  · rintro rfl
    rcases h with h | h
    · exact hn h
    · exact absurd (zC e) (by first|decide|lia)⟩
end
section
variable {φ ψ χ:FE} {g g2:G2} {δ:Loc} {μ:Mem} {Q:D→Mem→Prop} {i j:Int} {d x y:D} {ds xs:List D}
theorem zap (h:WE φ δ μ fun x μ1=>∃ j:Int,x = .int j∧(-(2 ^ 62)≤j∧j≤1000000)∧Q (.loc μ1.length) (μ1 ++ [.lst ((List.range j.toNat).map fun (k:Nat) => .int k)])):WE (zWi φ) δ μ Q:=by
  obtain ⟨x,μ1,e1,j,rfl,h1,q⟩:=h
  exact ⟨_,_,by simp only [zWi,e1,Option.bind_some];rw [decide_eq_true h1];rfl,q⟩
theorem zHr {l:Nat} {n:Int} (h:μ[l]?=some (.lst xs)) (h1:n≤1000) (h2:-(2 ^ 62)≤n) (h3:xs.length≤1000) (q:Q (.loc μ.length) (μ ++ [.lst (List.replicate n.toNat xs).flatten])):W2 zYg (.loc l) (.int n) μ Q :=
  ⟨_,_,by simp only [zYg,h];rw [decide_eq_true ⟨h1,h2,h3⟩];rfl,q⟩
theorem zfr {lo hi:FO} (h:WE φ δ μ fun x μ1=>WO lo δ μ1 fun l μ2=>WO hi δ μ2 fun u μ3=>∃ n ds,x = .loc n∧μ3[n]?=some (.lst ds)∧Q (.loc μ3.length) (μ3 ++ [.lst (cutD ds l u)])):WE (fSl φ lo hi) δ μ Q:=by
  obtain ⟨x,μ1,e1,l,μ2,e2,u,μ3,e3,n,ds,rfl,e4,q⟩:=h
  exact ⟨_,_,by simp [e1,e2,e3,e4] <;> rfl,q⟩
theorem z3q {R:Loc→Mem→Prop} (h:WE φ δ μ fun x μ1=>WE ψ δ μ1 fun y μ2=>∃ (n:Nat) (i:Int) (zs:List D),x = .loc n∧y = .int i∧μ2[n]?=some (.lst zs)∧(0≤i∧i<zs.length)∧R δ (μ2.set n (.lst (zs.set i.toNat d)))):WG (gAt φ ψ) d δ μ R:=by
  obtain ⟨x,μ1,e1,y,μ2,e2,n,i,zs,rfl,rfl,e3,hi,q⟩:=h
  have e4:ixN zs.length i=some i.toNat:=by unfold ixN;rw [if_pos hi.1,if_pos hi.2]
  exact ⟨_,_,by simp [e1,e2,e3,e4] <;> rfl,q⟩
end
end M
set_option Elab.async false
set_option linter.all false
set_option maxRecDepth 100000
set_option autoImplicit false
namespace M
open PySem PySem.Spec PyProof.Rows L2
noncomputable abbrev nat (S:List Nat):List D:=S.map fun (k:Nat)=>D.int k
theorem zBe (a b:List Nat):nat (a++b)=nat a++nat b:=List.map_append
theorem zKf {α:Type} (f:α→Nat) (l:List α):nat (l.map f)=l.map fun a=>D.int (f a:Nat):=List.map_map
class Enc (α:Type) where
  d:α→D
  p:α→PyData
  dep:Nat
  rd:∀ (μ:Mem) (n:Nat) (a:α),toP μ (n+dep) (d a)=some (p a)
  eq:∀ a b:α,PyData.eqv (p a) (p b)=true↔a=b
noncomputable instance:Enc Int:=⟨.int, .int,1,fun _ _ _=>rfl,fun a b=>by simp [PyData.eqv]⟩
noncomputable instance:Enc Nat:=⟨fun (k:Nat) => .int k,fun (k:Nat) => .int k,1,fun _ _ _=>rfl,fun a b=>by simp [PyData.eqv];lia⟩
noncomputable instance:Enc Bool:=⟨.bl, .bool,1,fun _ _ _=>rfl,fun a b=>by simp [PyData.eqv]⟩
noncomputable abbrev onD:Option Nat→D
  | none => .non
  | some k => .int k
noncomputable instance:Enc (Option Nat):=⟨onD,fun | none => .none | some k => .int k,1,fun _ _ a=>by cases a <;> rfl,fun a b=>by cases a <;> cases b <;> simp [PyData.eqv];lia⟩
theorem zge {α:Type} [Enc α]:∀ xs ys:List α,PyData.eqvAll (xs.map Enc.p) (ys.map Enc.p)=true↔xs=ys
  | [],[]=>by simp [PyData.eqvAll]
  | [],y :: ys=>by simp [PyData.eqvAll]
  | x :: xs,[]=>by simp [PyData.eqvAll]
  | x :: xs,y :: ys=>by
    rw [List.map_cons,List.map_cons,PyData.eqvAll,Bool.and_eq_true,Enc.eq,zge xs ys,List.cons.injEq]
theorem rdAll {α:Type} [Enc α] (μ:Mem) (n:Nat):∀ xs:List α,(xs.map Enc.d).mapM (toP μ (n+Enc.dep α))=some (xs.map Enc.p)
  | []=>rfl
  | x :: xs=>by rw [List.map_cons,List.mapM_cons,rdAll μ n xs,Enc.rd];rfl
noncomputable instance instEncList {α:Type} [Enc α]:Enc (List α):=⟨fun xs => .tup (xs.map Enc.d),fun xs => .tuple (xs.map Enc.p),Enc.dep α + 1,fun μ n xs=>by
    show ((xs.map Enc.d).mapM (toP μ (n+Enc.dep α))).bind (fun ps=>some (PyData.tuple ps))=_
    rw [rdAll];rfl,fun a b=>by rw [PyData.eqv];exact zge a b⟩
theorem zpg {μ:Mem} {α:Type} [Enc α] (a:α) (h:Enc.dep α≤8):toP μ 8 (Enc.d a)=some (Enc.p a):=by
  have:=Enc.rd μ (8 - Enc.dep α) a
  rw [Nat.sub_add_cancel h] at this
  exact this
theorem zwe {b:Bool} {p:Prop} [Decidable p] (h:b=true↔p):b=decide p:=by
  cases b <;> simp_all
section
variable {φ ψ χ:FE} {g g2:G2} {δ:Loc} {μ:Mem} {Q:D→Mem→Prop} {i j:Int} {d x y:D} {ds xs:List D} {α:Type} [Enc α] [DecidableEq α]
theorem zdq (a b:α) (q:Q (.bl (decide (a=b))) μ) (hx:x=Enc.d a:=by rfl) (hy:y=Enc.d b:=by rfl) (h:Enc.dep α≤8:=by decide):W2 gEq x y μ Q:=by
  subst hx hy
  exact z5s (zpg a h) (zpg b h) (by rw [zwe (Enc.eq a b)];exact q)
theorem zqs (a b:α) (q:Q (.bl (!decide (a=b))) μ) (hx:x=Enc.d a:=by rfl) (hy:y=Enc.d b:=by rfl) (h:Enc.dep α≤8:=by decide):W2 gNe x y μ Q:=by
  subst hx hy
  exact z8s (zpg a h) (zpg b h) (by rw [zwe (Enc.eq a b)];exact q)
theorem ztg {n:Nat} (as:List α) (e:μ[n]?=some (.lst (as.map Enc.d))) (h:Enc.dep α≤7):toP μ 8 (.loc n)=some (.list (as.map Enc.p)):=by
  show (match μ[n]? with
      | some (.lst ds)=>(ds.mapM (toP μ 7)).bind fun ps=>some (PyData.list ps)
      | _=>none)=_
  rw [e]
  show ((as.map Enc.d).mapM (toP μ 7)).bind (fun ps=>some (PyData.list ps))=_
  have:=rdAll μ (7 - Enc.dep α) as
  rw [Nat.sub_add_cancel h] at this
  rw [this];rfl
theorem zIt (as bs:List α) {m n:Nat} (e1:μ[m]?=some (.lst (as.map Enc.d))) (e2:μ[n]?=some (.lst (bs.map Enc.d))) (q:Q (.bl (decide (as=bs))) μ) (h:Enc.dep α≤7:=by decide):W2 gEq (.loc m) (.loc n) μ Q :=
  z5s (ztg as e1 h) (ztg bs e2 h) (by rw [PyData.eqv,zwe (zge as bs)];exact q)
theorem zht (as bs:List α) {m n:Nat} (e1:μ[m]?=some (.lst (as.map Enc.d))) (e2:μ[n]?=some (.lst (bs.map Enc.d))) (q:Q (.bl (!decide (as=bs))) μ) (h:Enc.dep α≤7:=by decide):W2 gNe (.loc m) (.loc n) μ Q :=
  z8s (ztg as e1 h) (ztg bs e2 h) (by rw [PyData.eqv,zwe (zge as bs)];exact q)
theorem zEi (S:List Nat):(nat S).all ztc=true:=List.all_eq_true.mpr fun x hx=>by
  obtain ⟨k,_,rfl⟩:=List.mem_map.mp hx
  rfl
theorem zYn (k:Nat):∀ S:List Nat,((nat S).any fun d=>eqF d (.int k))=decide (k∈S):=fun S=>by
  refine zwe ?_
  rw [List.any_eq_true]
  constructor
  · rintro ⟨x,hx,e⟩
    obtain ⟨j,hj,rfl⟩:=List.mem_map.mp hx
    have h1:(j:Int)=k:=by simpa [eqF] using e
    have h2:j=k:=by lia
    exact h2▸hj
  · intro h
    exact ⟨.int k,List.mem_map.mpr ⟨k,h,rfl⟩,by simp [eqF]⟩
theorem zll {k:Nat} {S:List Nat} (h:items μ y=some (nat S)) (q:Q (.bl (!decide (k∈S))) μ):W2 zdh (.int k) y μ Q:=zXm h rfl (zEi S) (by rw [zYn];exact q)
theorem zSn (S:List (Option Nat)):(S.map onD).all ztc=true:=List.all_eq_true.mpr fun x hx=>by
  obtain ⟨k,_,rfl⟩:=List.mem_map.mp hx
  cases k <;> rfl
theorem zSr (a b:Option Nat):eqF (onD a) (onD b)=decide (a=b):=by
  cases a <;> cases b <;> simp [onD,eqF]
  rename_i a b
  by_cases h:a=b
  · simp [h]
  · simp [h]
    lia
theorem zxs {n:Nat} {S:List Nat} (h:μ[n]?=some (.lst (nat S))) (q:Q (.int (S.sum:Nat)) μ):WF zJs [.loc n] μ Q:=by
  refine zvt (ns:=S.map fun (k:Nat)=>(k:Int)) (by rw [h];simp) ?_
  have:(S.map fun (k:Nat)=>(k:Int)).sum=((S.sum:Nat):Int):=by
    clear h q
    induction S with
    | nil=>rfl
    | cons a S ih=>rw [List.map_cons,List.sum_cons,List.sum_cons,ih];lia
  rw [this];exact q
theorem zRd {S:List Nat} {i:Nat} (h:i<S.length):atI (nat S) (i:Int)=some (.int (S.getD i 0:Nat)):=zdd (by simp [h])
end
end M
set_option Elab.async false
set_option linter.all false
set_option maxRecDepth 100000
set_option autoImplicit false
namespace M
open PySem PySem.Spec PyProof.Rows L2
section
variable {φ ψ χ:FE} {g g2:G2} {δ:Loc} {μ:Mem} {Q:D→Mem→Prop} {i j:Int} {d x y:D} {ds xs:List D}
theorem z8f {R:List D→(Mem→Bool)→Mem→Prop} (h:WE φ δ μ fun x μ1=>(∃ ds,x = .tup ds∧R (zQe ds) yes μ1)∨(∃ ds,x = .fz ds∧R (zQe ds) yes μ1)∨∃ n ds,x = .loc n∧μ1[n]?=some (.lst ds)∧R (zQe ds) (zHh n ds) μ1):WI (zYi φ) δ μ R:=by
  obtain ⟨x,μ1,e1,⟨ds,rfl,q⟩ | ⟨ds,rfl,q⟩ | ⟨n,ds,rfl,e2,q⟩⟩:=h
  · exact ⟨_,_,_,by simp [e1] <;> rfl,q⟩
  · exact ⟨_,_,_,by simp [e1] <;> rfl,q⟩
  · exact ⟨_,_,_,by simp [e1,e2] <;> rfl,q⟩
theorem zTh {α:Type} {f:α→D} {xs:List α} {m:Nat} {x:D} (h:(zQe (xs.map f))[m]?=some x):∃ y,xs[m]?=some y∧x = .tup [.int m,f y]:=by
  obtain ⟨z,hz,rfl⟩:=zFi h
  rw [List.getElem?_map] at hz
  cases e:xs[m]? with
  | none=>rw [e] at hz;cases hz
  | some y=>rw [e] at hz;cases hz;exact ⟨y,rfl,rfl⟩
theorem zjo {n:Nat} (h:μ[n]?=some (.lst xs)) (h1:ztc d=true) (h2:xs.all ztc=true) (q:Q (.int (xs.countP fun y=>eqF y d:Nat)) μ):WM zeh (.loc n) [d] μ Q:=⟨_,_,by simp only [zeh,h,h1,h2,Bool.and_self,cond_true],q⟩
theorem zMn {n k:Nat} {S:List Nat} (h:μ[n]?=some (.lst (nat S))) (hk:k∈S) (q:Q .non (μ.set n (.lst (nat (S.erase k))))):WM z5f (.loc n) [.int k] μ Q:=by
  have e1:nat S=(S.map fun (k:Nat)=>(k:Int)).map D.int:=by simp
  have e2:∀ T:List Nat,(T.map fun (k:Nat)=>(k:Int)).erase (k:Int)=(T.erase k).map fun (k:Nat)=>(k:Int):=fun T=>by
    induction T with
    | nil=>rfl
    | cons t T ih =>
      rw [List.map_cons]
      by_cases ht:t=k
      · subst ht;simp
      · rw [List.erase_cons_tail (by simp;lia),List.erase_cons_tail (by simpa using ht),ih];rfl
  have e3:(S.map fun (k:Nat)=>(k:Int)).contains (k:Int)=true:=by
    rw [List.contains_iff_mem]
    exact List.mem_map.mpr ⟨k,hk,rfl⟩
  refine ⟨.non,_,?_,q⟩
  simp only [z5f,h]
  rw [e1,zgf]
  simp only [Option.bind_some,e3,cond_true,e2]
  rw [List.map_map]
  rfl
end
section
variable {φ ψ:FE} {δ:Loc} {μ:Mem} {nx:Loc→Mem→Prop} {rt:D→Mem→Prop} {bk ct:Loc→Mem→Prop} {p q:FS}
theorem z4s {i:Nat} {g:G2} {x:D} (hx:δ[i]?=some (some x)) (h:WE φ δ μ fun y μ1=>W2 g x y μ1 fun d μ2=>nx (δ.set i (some d)) μ2):WS (zrr i g φ) δ μ nx rt bk ct:=by
  obtain ⟨y,μ1,e1,d,μ2,e2,k⟩:=h
  exact ⟨.next _ _,by simp only [zrr,hx,e1,Option.bind_some,e2],k⟩
theorem zAr {i j:Int} {Q:D→Mem→Prop} (q:Q (.int (i+j)) μ):W2 z9o (.int i) (.int j) μ Q:=⟨_,_,rfl,q⟩
theorem zgj {c:FT} {body:FS} (I:Nat→Loc→Mem→Prop):∀ {n m:Nat} {δ:Loc} {μ:Mem},m<n→I m δ μ →
    (∀ m δ μ,I m δ μ→WT c δ μ fun b μ1=>(b=true→WS body δ μ1 (fun δ' μ'=>∃ m',m'<m∧I m' δ' μ') rt nx (fun δ' μ'=>∃ m',m'<m∧I m' δ' μ'))∧(b=false→nx δ μ1))→WS (z5j n c body) δ μ nx rt bk ct
  | 0,m,δ,μ,h,_,_=>absurd h (Nat.not_lt_zero _)
  | n+1,m,δ,μ,h,h0,hs=>by
    obtain ⟨b,μ1,e1,ht,hf⟩:=hs m δ μ h0
    cases b with
    | false=>exact ⟨.next δ μ1,by show zzb c body (n+1) δ μ = _;simp only [zzb,e1,Option.bind_some,cond_false],hf rfl⟩
    | true =>
      obtain ⟨o,e2,k⟩:=ht rfl
      have step:∀ δ' μ',(∃ m',m'<m∧I m' δ' μ')→∃ o,zzb c body n δ' μ'=some o∧Ek nx rt bk ct o:=fun δ' μ' ⟨m',hm',hI⟩=>by
        obtain ⟨o,e,k⟩:=zgj I (n:=n) (m:=m') (by first|decide|lia) hI hs
        exact ⟨o,e,k⟩
      cases o with
      | next δ' μ'=>obtain ⟨o,e3,k3⟩:=step δ' μ' k;exact ⟨o,by show zzb c body (n+1) δ μ = _;simp only [zzb,e1,Option.bind_some,cond_true,e2];exact e3,k3⟩
      | cont δ' μ'=>obtain ⟨o,e3,k3⟩:=step δ' μ' k;exact ⟨o,by show zzb c body (n+1) δ μ = _;simp only [zzb,e1,Option.bind_some,cond_true,e2];exact e3,k3⟩
      | brk δ' μ'=>exact ⟨.next δ' μ',by show zzb c body (n+1) δ μ = _;simp only [zzb,e1,Option.bind_some,cond_true,e2],k⟩
      | ret d μ'=>exact ⟨.ret d μ',by show zzb c body (n+1) δ μ = _;simp only [zzb,e1,Option.bind_some,cond_true,e2],k⟩
      | exc _ _ _=>exact k.elim
end
theorem zPc {α:Type} (f:α→D) (xs:List α) (d:α):zQe (xs.map f)=(List.range xs.length).map fun (k:Nat) => .tup [.int k,f (xs.getD k d)]:=by
  refine List.ext_getElem? fun i=>?_
  unfold zQe
  simp only [List.getElem?_map,List.getElem?_zipIdx]
  by_cases h:i<xs.length
  · simp [h]
  · simp [h]
noncomputable abbrev oiD:Option Int→D
  | none => .non
  | some k => .int k
noncomputable instance:Enc (Option Int):=⟨oiD,fun | none => .none | some k => .int k,1,fun _ _ a=>by cases a <;> rfl,fun a b=>by cases a <;> cases b <;> simp [PyData.eqv]⟩
noncomputable def zxr:D→Bool
  | .non=>true
  | _=>false
theorem zlf {d:D} {μ:Mem} {Q:D→Mem→Prop} (h:ztc d=true) (q:Q (.bl (!zxr d)) μ):W2 z7f d .non μ Q:=by
  cases d <;> first | exact ⟨_,_,rfl,q⟩ | cases h
theorem zKl (a:Option Nat):ztc (onD a)=true:=by cases a <;> rfl
noncomputable def zvq (ds:List D) (h:Nat):Nat:=ds.countP fun y=>eqF y (.int h)
theorem zvo (lay:List (Option Nat)) (h:Nat):zvq (lay.map onD) h=lay.count (some h):=by
  unfold zvq List.count
  rw [List.countP_map]
  congr 1
  funext a
  have:=zSr a (some h)
  show eqF (onD a) (onD (some h))=_
  rw [this]
  exact (Bool.beq_eq_decide_eq a (some h)).symm
theorem zZn {n:Nat} {lay:List (Option Nat)} {h:Nat} {μ:Mem} {Q:D→Mem→Prop} (e:μ[n]?=some (.lst (lay.map onD))) (q:Q (.int (lay.count (some h):Nat)) μ):WM zeh (.loc n) [.int h] μ Q :=
  zjo e rfl (zSn lay) (by rw [show (lay.map onD).countP (fun y=>eqF y (.int h))=lay.count (some h) from zvo lay h];exact q)
theorem zdi {n m:Nat} {p:Nat→Bool} (h:p m=true) (hlt:m<n) (hb:∀ j<m,p j=false):(List.range n).find? p=some m:=by
  rw [List.find?_eq_some_iff_append]
  refine ⟨h,List.range m,(List.range' (m+1) (n - m - 1)),?_,fun a ha=>by simp [hb a (by simpa using ha)]⟩
  have:List.range n=List.range m++List.range' m (n - m):=by
    have e:n=m+(n - m):=by lia
    have:=List.range'_append_1 (s:=0) (m:=m) (n:=n - m)
    rw [← e] at this
    rw [List.range_eq_range',List.range_eq_range',← this]
    simp
  rw [this,show n - m=(n - m - 1)+1 by first|decide|lia,List.range'_succ]
  simp
theorem zbe {n:Nat} {p:Nat→Bool} (h:∀ j<n,p j=false):(List.range n).find? p=none:=by
  rw [List.find?_eq_none]
  intro x hx
  rw [h x (by simpa using hx)]
  exact Bool.false_ne_true
end M
set_option Elab.async false
set_option linter.all false
set_option maxRecDepth 100000
set_option autoImplicit false
namespace M
open PySem PySem.Spec PyProof.Rows L2
section
variable {φ ψ χ:FE} {g g2:G2} {δ:Loc} {μ:Mem} {Q:D→Mem→Prop} {i j:Int} {d x y:D} {ds xs:List D} {kvs:List (Int×D)} {n:Nat}
theorem z8h (h:μ[n]?=some (.dct kvs)):z4b μ (.loc n)=some kvs:=by simp [h]
theorem zJf (h:μ[n]?=some (.dcf kvs)):z4b μ (.loc n)=some kvs:=by simp [h]
theorem zzs (h:z4b μ x=some kvs) (h2:zWc kvs i=some d) (q:Q d μ):W2 zSq x (.int i) μ Q:=⟨_,_,by simp only [zSq,h,Option.bind_some,h2],q⟩
theorem zts (h:z4b μ y=some kvs) (q:Q (.bl (zWc kvs i).isSome) μ):W2 zhl (.int i) y μ Q:=⟨_,_,by simp only [zhl,h,Option.bind_some],q⟩
theorem zUr (h:z4b μ y=some kvs) (h2:kvs.all (fun p=>decide (0≤p.1∧p.1<1000))=true) (q:Q (.bl false) μ):W2 zhl .non y μ Q:=⟨_,_,by simp only [zhl,h,Option.bind_some,h2,cond_true],q⟩
theorem zxp (h:z4b μ y=some kvs) (q:Q (.bl (!(zWc kvs i).isSome)) μ):W2 zxh (.int i) y μ Q:=⟨_,_,by simp only [zxh,h,Option.bind_some],q⟩
theorem zOp {R:Loc→Mem→Prop} (h:WE φ δ μ fun x μ1=>WE ψ δ μ1 fun y μ2=>∃ (n:Nat) (i:Int) (kvs:List (Int×D)),x = .loc n∧y = .int i∧μ2[n]?=some (.dct kvs)∧kvs.length≤1000000∧R δ (μ2.set n (.dct (zyo kvs i d)))):WG (zXs φ ψ) d δ μ R:=by
  obtain ⟨x,μ1,e1,y,μ2,e2,n,i,kvs,rfl,rfl,e3,hi,q⟩:=h
  exact ⟨_,_,by simp [e1,e2,e3,hi] <;> rfl,q⟩
theorem zjr (h:z4b μ x=some kvs) (q:Q (.loc μ.length) (μ ++ [.lst (z8g kvs)])):WF z2j [x] μ Q:=⟨_,_,by simp only [z2j,h,Option.bind_some],q⟩
theorem zbq {R:List D→(Mem→Bool)→Mem→Prop} (h:WE φ δ μ fun x μ1=>∃ n kvs,x = .loc n∧μ1[n]?=some (.dct kvs)∧R (z8g kvs) yes (μ1.set n (.dcf kvs))):WI (zkq φ) δ μ R:=by
  obtain ⟨x,μ1,e1,n,kvs,rfl,e2,q⟩:=h
  exact ⟨_,_,_,by simp [e1,e2] <;> rfl,q⟩
theorem zds (h:WE φ δ μ fun x μ1=>∃ n ds,x = .loc n∧μ1[n]?=some (.lst ds)∧Q (.loc μ1.length) (μ1 ++ [.lst ds.reverse])):WE (zpp φ) δ μ Q:=by
  obtain ⟨x,μ1,e1,n,ds,rfl,e2,q⟩:=h
  exact ⟨_,_,by simp [zpp,e1,e2] <;> rfl,q⟩
end
end M
set_option Elab.async false
set_option linter.all false
set_option maxRecDepth 100000
set_option autoImplicit false
namespace P
open PySem PySem.Spec PyProof.Rows L2 M
noncomputable def top (i:Nat):Stmt:=PySem.Challenge.pw_keynests_k42_whole_places_by_other_names.main.body.getD i (.Pass ⟨0,0,0,0⟩)
noncomputable def zYh:List Str:=["_law_script"]
noncomputable def zte:FS:=(zqc (zQi (ze (zk 0) (ze (fOr (zt gEq (zz zzi (ze (zk 0) zF)) (fC (.int 0))) (zt gEq (zt zgl (zt gIx (zk 0) (fC (.int 0))) (fC (.int 2))) (fC (.int 0)))) (ze (fC (.int 0)) (ze (fC (.int 0)) zF))))))
noncomputable def zCe:FF:=fun ds μ=>zWb (zte (zP zYh ds) μ)
noncomputable def z6f:List Str:=["_law_script","_law_k","_law_cell","_law_one","_law_two"]
noncomputable def z8c:FS:=(zV (zVb 2 (fC (.int 29))) (zV (sIf (z9 (zt (zSl fun i j=>decide (j<i)) (zz zzi (ze (zk 0) zF)) (fC (.int 0)))) (zVb 2 (zt gIx (zk 0) (zt zgl (zk 1) (zz zzi (ze (zk 0) zF))))) zbc) (zV (zVb 3 (zt zgl (zt zxd (zt zYg (zt zxd (zt zxd (zk 2) (zt zYg (fC (.int 40503)) (zk 1))) (fC (.int 1))) (fC (.int 48271))) (zt zYg (zk 1) (zk 1))) (fC (.int 2147483647)))) (zV (zVb 4 (zt zgl (zt zxd (zt zxd (zt zYg (zk 3) (zk 3)) (zt zYg (fC (.int 69621)) (zk 3))) (zt zYg (fC (.int 31)) (zk 1))) (fC (.int 2147483629)))) (zqc (zt zgl (zt zxd (zt zxd (zt zYg (zk 4) (zk 4)) (zt zYg (fC (.int 16807)) (zk 4))) (zk 1)) (fC (.int 1073741789))))))))
noncomputable def z7c:FF:=fun ds μ=>zWb (z8c (zP z6f ds) μ)
noncomputable def zih:List Str:=["_law_pen_here","_law_many","_law_script","_law_is_mixed","_law_k","_law_rest"]
noncomputable def zSd:FS:=(zV (zAo (zk 0) (gTL 4 (zxb (gN 2) (zxb (gN 3) (zxb (gN 4) (zxb (gN 5) zLf)))))) (zV (zAo (zt zxd (zk 4) (fC (.int 1))) (gAt (zk 0) (fC (.int 2)))) (zV (sIf (z9 (zk 3)) (zqc (zt zgl (zz z7c (ze (zk 2) (ze (zk 4) zF))) (zk 1))) zbc) (zV (sIf (z9 (zt gEq (zt zgl (zk 4) (fC (.int 60))) (fC (.int 0)))) (zV (zVb 5 (fC (.int 0))) (sIf (z9 (zt (zSl fun i j=>decide (i<j)) (zt zxd (zt z8p (zk 4) (fC (.int 60))) (fC (.int 1))) (zz zzi (ze (zk 2) zF)))) (zVb 5 (zt gIx (zk 2) (zt zxd (zt z8p (zk 4) (fC (.int 60))) (fC (.int 1))))) zbc)) zbc) (zV (zAo (zt z8p (zk 5) (zk 1)) (gAt (zk 0) (fC (.int 3)))) (zqc (zt zgl (zk 5) (zk 1))))))))
noncomputable def zx:FF:=fun ds μ=>zWb (zSd (zP zih ds) μ)
noncomputable def zdg:FE:=(zz zx (ze (zk 1) (ze (zk 2) zF)))
noncomputable def z5c:FS:=(zV (zVb 8 (zt zxd (fC (.int 2)) (zz zx (ze (zk 0) (ze (fC (.int 2)) zF))))) (zph (zYd z4d (zk 6) (ze (zz zid (ze (fLC 1 [0,2] (z2c (ze (zk 8) zF)) (gN 0) zSk zdg) zF)) zF))))
noncomputable def zce:FE:=(zz zx (ze (zk 1) (ze (zk 2) zF)))
noncomputable def zci:List Str:=["_law_pen_here","_law_many","_law_nests","_law_wide","_law_rooms","_law_at","_law_keys","_law_k","_law_size"]
noncomputable def zse:FS:=(zV (zVb 2 (zt zxd (fC (.int 1)) (zz zx (ze (zk 0) (ze (fC (.int 6)) zF))))) (zV (sIf (z9 (zt gEq (zz zx (ze (zk 0) (ze (fC (.int 8)) zF))) (fC (.int 5)))) (zVb 2 (zt zxd (fC (.int 5)) (zz zx (ze (zk 0) (ze (fC (.int 6)) zF))))) zbc) (zV (zVb 3 (zt gIx (zQi (ze (fC (.int 2)) (ze (fC (.int 3)) (ze (fC (.int 3)) (ze (fC (.int 10)) zF))))) (zz zx (ze (zk 0) (ze (fC (.int 4)) zF))))) (zV (zVb 4 (zz zid (ze (fLC 1 [0,3] (z2c (ze (zk 2) zF)) (gN 0) zSk zce) zF))) (zV (sIf (z9 (zt gEq (zz zx (ze (zk 0) (ze (fC (.int 8)) zF))) (fC (.int 3)))) (zV (zVb 5 (zz zx (ze (zk 0) (ze (zk 2) zF)))) (zVb 4 (zt zxd (zt zxd (fSl (zk 4) pNo (zSm (zk 5))) (zBg (ze (zt zxd (zt gIx (zk 4) (zk 5)) (zt gIx (zQi (ze (fC (.int 1)) (ze (fC (.int 10)) (ze (zt zpr (fC (.int 10)) (fC (.int 40))) zF)))) (zz zx (ze (zk 0) (ze (fC (.int 3)) zF))))) zF))) (fSl (zk 4) (zSm (zt zxd (zk 5) (fC (.int 1)))) pNo)))) zbc) (zV (zVb 6 (zQi zF)) (zV (zAh (z2c (ze (zz zx (ze (zk 0) (ze (zk 1) zF))) zF)) (gN 7) z5c) (zqc (zBg (ze (zk 4) (ze (zz zid (ze (zk 6) zF)) zF)))))))))))
noncomputable def zme:FF:=fun ds μ=>zWb (zse (zP zci ds) μ)
noncomputable def zGe:FS:=(zph (zYd z6g (zk 2) (ze (zz zx (ze (zk 0) (ze (zt zxd (zk 3) (fC (.int 1))) zF))) (ze (zk 3) zF))))
noncomputable def zhg:List Str:=["_law_pen_here","_law_many","_law_found","_law_k"]
noncomputable def z4c:FS:=(zV (zVb 2 (zQi zF)) (zV (zAh (z2c (ze (zk 1) zF)) (gN 3) zGe) (zqc (zk 2))))
noncomputable def zpc:FF:=fun ds μ=>zWb (z4c (zP zhg ds) μ)
noncomputable def zYc:FE:=(zt gIx (zk 1) (zk 0))
noncomputable def zZc:FE:=(zz zid (ze (fLC 1 [1] (zLg (zrp (zk 0) (zSm (zet (fC (.int 1)))))) (gN 0) zSk zYc) zF))
noncomputable def zXc:FE:=(zt gIx (zt gIx (zk 1) (fC (.int 1))) (zYd zVg (zk 2) (ze (zk 0) zF)))
noncomputable def z1c:FE:=(zt gIx (zt gIx (zk 1) (fC (.int 0))) (zYd zVg (zk 2) (ze (zk 0) zF)))
noncomputable def z0d:List Str:=["_law_web_here","_law_nests","_law_keys","_law_rooms","_law_found"]
noncomputable def zMb:FS:=(zV (zVb 3 (fLC 1 [0,1] (z2c (ze (zz zzi (ze (zk 1) zF)) zF)) (gN 0) zSk z1c)) (zV (zVb 4 (fLC 1 [0,2] (z2c (ze (zz zzi (ze (zk 2) zF)) zF)) (gN 0) zSk zXc)) (zqc (zBg (ze (zz zid (ze (zk 3) zF)) (ze (zz zid (ze (fLC 1 [1] (zLg (zk 4)) (gN 0) zSk zZc) zF)) zF))))))
noncomputable def zOb:FF:=fun ds μ=>zWb (zMb (zP z0d ds) μ)
noncomputable def zBj:FE:=(zk 0)
noncomputable def zUn:FT:=(z9 (zt gEq (zk 1) (zk 2)))
noncomputable def z7n:List Str:=["laying","nest"]
noncomputable def zBi:FS:=(zqc (fLC 2 [1] (zYi (zk 0)) (gT 2 (zxb (gN 0) (zxb (gN 1) zLf))) zUn zBj))
noncomputable def zcj:FF:=fun ds μ=>zWb (zBi (zP z7n ds) μ)
noncomputable def zzf:FS:=(sIf (z9 (zt zxh (zk 4) (zk 3))) (zV (zAo (zBg (ze (zk 7) (ze (zt gIx (zk 5) (zk 6)) zF))) (zXs (zk 3) (zk 4))) (zph (zYd z4d (zk 5) (ze (zk 4) zF)))) zbc)
noncomputable def zGd:FS:=(zAh (zLg (zt gIx (zt gIx (zk 0) (fC (.int 1))) (zk 7))) (gN 4) zzf)
noncomputable def zbf:FS:=(zV (zAh (zLg (zz zcj (ze (zk 1) (ze (zt gIx (zk 5) (zk 6)) zF)))) (gN 7) zGd) (zrr 6 z9o (fC (.int 1))))
noncomputable def z9e:FS:=(zAo (zBg (ze (zk 2) (ze (fC .non) zF))) (zXs (zk 3) (zk 4)))
noncomputable def zqh:List Str:=["web","laying","key","pushes","nest","nests","at","other"]
noncomputable def zJd:FS:=(zV (zVb 3 zDt) (zV (zAh (zLg (zt gIx (zt gIx (zk 0) (fC (.int 1))) (zk 2))) (gN 4) z9e) (zV (zVb 5 (zz z2j (ze (zk 3) zF))) (zV (zVb 6 (fC (.int 0))) (zV (z5j 100000 (z9 (zt (zSl fun i j=>decide (i<j)) (zk 6) (zz zzi (ze (zk 5) zF)))) zbf) (zqc (zk 3)))))))
noncomputable def zOd:FF:=fun ds μ=>zWb (zJd (zP zqh ds) μ)
noncomputable def zKo:FE:=(zt zqq (zk 1) (zYd zeh (zk 2) (ze (zk 0) zF)))
noncomputable def zQp:List Str:=["web","laying"]
noncomputable def zli:FS:=(zqc (fLC 2 [1] (zYi (zt gIx (zk 0) (fC (.int 0)))) (gT 2 (zxb (gN 0) (zxb (gN 1) zLf))) zSk zKo))
noncomputable def zhh:FF:=fun ds μ=>zWb (zli (zP zQp ds) μ)
noncomputable def z6h:FS:=(zV (zph (zYd z4d (zk 2) (ze (zBg (ze (zt gIx (zt zSq (zk 0) (zk 1)) (fC (.int 0))) (ze (zk 1) zF))) zF))) (zVb 1 (zt gIx (zt zSq (zk 0) (zk 1)) (fC (.int 1)))))
noncomputable def zzl:List Str:=["pushes","nest","row"]
noncomputable def zCg:FS:=(zV (zVb 2 (zQi zF)) (zV (z5j 100000 (z9 (zt z7f (zk 1) (fC .non))) z6h) (zqc (zpp (zk 2)))))
noncomputable def zrg:FF:=fun ds μ=>zWb (zCg (zP zzl ds) μ)
noncomputable def z7h:FE:=(zk 0)
noncomputable def zji:FT:=(zqr (z9 (zt gEq (zk 0) (zk 2))) (z9 (zt zhl (zk 1) (zk 3))))
noncomputable def z5h:FS:=(sIf (z9 (zt (zSl fun i j=>decide (j<i)) (zt gIx (zk 4) (zk 5)) (fC (.int 0)))) (zqc (zBg (ze (fC (.str "put")) (ze (zz zrg (ze (zk 3) (ze (zk 5) zF))) zF)))) zbc)
noncomputable def zEl:List Str:=["web","laying","key","pushes","room","nest"]
noncomputable def zog:FS:=(zV (zVb 3 (zz zOd (ze (zk 0) (ze (zk 1) (ze (zk 2) zF))))) (zV (zVb 4 (zz zhh (ze (zk 0) (ze (zk 1) zF)))) (zV (zAh (zkq (zk 3)) (gN 5) z5h) (zqc (zBg (ze (fC (.str "full")) (ze (fLC 2 [2,3] (zYi (zk 1)) (gT 2 (zxb (gN 0) (zxb (gN 1) zLf))) zji z7h) zF)))))))
noncomputable def zle:FF:=fun ds μ=>zWb (zog (zP zEl ds) μ)
noncomputable def ztn:FS:=(sIf (z9 (zt (zSl fun i j=>decide (i<j)) (zk 4) (fC (.int 0)))) (zqc (zBg (ze (fC (.str "room")) (ze (zk 3) zF)))) zbc)
noncomputable def zno:FS:=(sIf (zUo (z9 (zt z7f (zk 3) (fC .non))) (z9 (zt zdh (zk 3) (zt gIx (zt gIx (zk 0) (fC (.int 1))) (zk 2))))) (zqc (zBg (ze (fC (.str "home")) (ze (zk 2) zF)))) zbc)
noncomputable def zio:List Str:=["web","laying","key","nest","room"]
noncomputable def zSi:FS:=(zV (zAh (zYi (zk 1)) (gT 2 (zxb (gN 2) (zxb (gN 3) zLf))) zno) (zV (zAh (zYi (zz zhh (ze (zk 0) (ze (zk 1) zF)))) (gT 2 (zxb (gN 3) (zxb (gN 4) zLf))) ztn) (zqc (fC .non))))
noncomputable def zbj:FF:=fun ds μ=>zWb (zSi (zP zio ds) μ)
noncomputable def z2g:FE:=(zt gIx (zk 0) (fC (.int 0)))
noncomputable def zhk:List Str:=["web","laying","row","at","key"]
noncomputable def zGf:FS:=(zV (zVb 4 (zt gIx (zt gIx (zk 2) (zk 3)) (fC (.int 0)))) (zV (sIf (zqr (z9 (zt (zSl fun i j=>decide (i<j)) (zk 4) (fC (.int 0)))) (z9 (zt (zSl fun i j=>decide (j≤i)) (zk 4) (zz zzi (ze (zk 1) zF))))) (zqc (fC (.bl false))) zbc) (zV (sIf (zqr (z9 (zt zdh (zt gIx (zt gIx (zk 2) (zk 3)) (fC (.int 1))) (zt gIx (zt gIx (zk 0) (fC (.int 1))) (zk 4)))) (z9 (zt gEq (zt gIx (zt gIx (zk 2) (zk 3)) (fC (.int 1))) (zt gIx (zk 1) (zk 4))))) (zqc (fC (.bl false))) zbc) (zqc (zt zdh (zk 4) (fLC 1 [] (zLg (fSl (zk 2) pNo (zSm (zk 3)))) (gN 0) zSk z2g))))))
noncomputable def zmf:FF:=fun ds μ=>zWb (zGf (zP zhk ds) μ)
noncomputable def zPj:List Str:=["laying","key","row","at"]
noncomputable def zaf:FS:=(zV (sIf (z9 (zt gEq (zk 3) (fC (.int 0)))) (zqc (zt gEq (zt gIx (zt gIx (zk 2) (fC (.int 0))) (fC (.int 0))) (zk 1))) zbc) (zqc (zt gEq (zt gIx (zk 0) (zt gIx (zt gIx (zk 2) (zk 3)) (fC (.int 0)))) (zt gIx (zt gIx (zk 2) (zt zqq (zk 3) (fC (.int 1)))) (fC (.int 1))))))
noncomputable def z7e:FF:=fun ds μ=>zWb (zaf (zP zPj ds) μ)
noncomputable def z2h:FS:=(zV (sIf (z0q (zUo (z9 (zz zmf (ze (zk 0) (ze (zk 1) (ze (zk 3) (ze (zk 5) zF)))))) (z9 (zz z7e (ze (zk 1) (ze (zk 2) (ze (zk 3) (ze (zk 5) zF)))))))) zso zbc) (zAo (zt gIx (zk 6) (fC (.int 1))) (gAt (zk 4) (zt gIx (zk 6) (fC (.int 0))))))
noncomputable def zVl:List Str:=["web","laying","key","row","behind","at","push"]
noncomputable def zHg:FS:=(zV (zVb 4 (zz z8n (ze (zk 1) zF))) (zV (zAh (zYi (zk 3)) (gT 2 (zxb (gN 5) (zxb (gN 6) zLf))) z2h) (zV (sIf (zqr (z9 (zt gEq (zz zzi (ze (zk 3) zF)) (fC (.int 0)))) (z9 (zt z7f (zz zbj (ze (zk 0) (ze (zk 4) zF))) (fC .non)))) zso zbc) (zqc (zk 4)))))
noncomputable def zFg:FF:=fun ds μ=>zWb (zHg (zP zVl ds) μ)
noncomputable def zBf:FS:=(zV (zVb 5 (zz zle (ze (zk 0) (ze (zk 1) (ze (zk 4) zF))))) (sIf (z9 (zt gEq (zt gIx (zk 5) (fC (.int 0))) (fC (.str "put")))) (zVb 1 (zz zFg (ze (zk 0) (ze (zk 1) (ze (zk 4) (ze (zt gIx (zk 5) (fC (.int 1))) zF)))))) (zph (zYd ziq (zk 3) (ze (zt gIx (zk 5) (fC (.int 1))) zF)))))
noncomputable def zrh:List Str:=["web","laying","keys","crowded","key","told"]
noncomputable def zUd:FS:=(zV (zVb 3 (zQi zF)) (zV (zAh (zLg (zk 2)) (gN 4) zBf) (zqc (zBg (ze (zk 1) (ze (znm (zk 3)) zF))))))
noncomputable def zAd:FF:=fun ds μ=>zWb (zUd (zP zrh ds) μ)
noncomputable def zFf:List Str:=["web"]
noncomputable def zzc:FS:=(zqc (zz zAd (ze (zk 0) (ze (zt zYg (zQi (ze (fC .non) zF)) (zz zzi (ze (zt gIx (zk 0) (fC (.int 1))) zF))) (ze (zWi (zz zzi (ze (zt gIx (zk 0) (fC (.int 1))) zF))) zF)))))
noncomputable def zBc:FF:=fun ds μ=>zWb (zzc (zP zFf ds) μ)
noncomputable def zRg:FE:=(zt gIx (zt gIx (zk 1) (fC (.int 0))) (zk 0))
noncomputable def zkj:List Str:=["web","nests"]
noncomputable def zif:FS:=(zqc (zz zJs (ze (fLC 1 [0] (zLg (zk 1)) (gN 0) zSk zRg) zF)))
noncomputable def z8e:FF:=fun ds μ=>zWb (zif (zP zkj ds) μ)
noncomputable def zag:FS:=(zph (zYd ziq (zk 2) (ze (zt gIx (zt gIx (zk 0) (fC (.int 1))) (zk 3)) zF)))
noncomputable def zXh:List Str:=["web","some","found","key"]
noncomputable def zre:FS:=(zV (zVb 2 (zQi zF)) (zV (zAh (zLg (zk 1)) (gN 3) zag) (zqc (znm (zk 2)))))
noncomputable def zhe:FF:=fun ds μ=>zWb (zre (zP zXh ds) μ)
noncomputable def zVh:List Str:=["web","some"]
noncomputable def zxe:FS:=(zqc (zt (zSl fun i j=>decide (i<j)) (zz z8e (ze (zk 0) (ze (zz zhe (ze (zk 0) (ze (zk 1) zF))) zF))) (zz zzi (ze (zk 1) zF))))
noncomputable def zie:FF:=fun ds μ=>zWb (zxe (zP zVh ds) μ)
noncomputable def z4e:FE:=(zk 0)
noncomputable def zMi:FT:=(z9 (zt gNe (zk 0) (zk 1)))
noncomputable def zDf:FS:=(sIf (z9 (zz zie (ze (zk 0) (ze (fLC 1 [2] (zLg (zk 1)) (gN 0) zMi z4e) zF)))) (zqc (zk 2)) zbc)
noncomputable def z5g:List Str:=["web","some","key"]
noncomputable def zQd:FS:=(zV (zAh (zLg (zk 1)) (gN 2) zDf) (zqc (fC .non)))
noncomputable def zJc:FF:=fun ds μ=>zWb (zQd (zP z5g ds) μ)
noncomputable def zJg:FS:=(zV (zph (zYd z5f (zk 2) (ze (zk 3) zF))) (zVb 3 (zz zJc (ze (zk 0) (ze (zk 2) zF)))))
noncomputable def zSj:List Str:=["web","some","rest","spare"]
noncomputable def ztf:FS:=(zV (zVb 2 (zz z8n (ze (zk 1) zF))) (zV (zVb 3 (zz zJc (ze (zk 0) (ze (zk 2) zF)))) (zV (z5j 100000 (z9 (zt z7f (zk 3) (fC .non))) zJg) (zqc (zk 2)))))
noncomputable def znf:FF:=fun ds μ=>zWb (ztf (zP zSj ds) μ)
noncomputable def zql:List Str:=["web","told"]
noncomputable def zqg:FS:=(zV (zVb 1 (zz zBc (ze (zk 0) zF))) (zV (sIf (z9 (zt gEq (zt gIx (zk 1) (fC (.int 1))) (zQi zF))) (zqc (zBg (ze (fC (.str "fits")) (ze (zt gIx (zk 1) (fC (.int 0))) zF)))) zbc) (zqc (zBg (ze (fC (.str "crowd")) (ze (zz znf (ze (zk 0) (ze (zt gIx (zk 1) (fC (.int 1))) zF))) zF))))))
noncomputable def zue:FF:=fun ds μ=>zWb (zqg (zP zql ds) μ)
noncomputable def zRj:List Str:=["web","key","nest"]
noncomputable def zjf:FS:=(zqc (zBg (ze (zt gIx (zk 0) (fC (.int 0))) (ze (zt zxd (zt zxd (fSl (zt gIx (zk 0) (fC (.int 1))) pNo (zSm (zk 1))) (zBg (ze (zBg (ze (zk 2) (ze (zk 2) zF))) zF))) (fSl (zt gIx (zk 0) (fC (.int 1))) (zSm (zt zxd (zk 1) (fC (.int 1)))) pNo)) zF))))
noncomputable def zld:FF:=fun ds μ=>zWb (zjf (zP zRj ds) μ)
noncomputable def zmi:List Str:=["web","laying","key","nest","others"]
noncomputable def zve:FS:=(zV (zVb 4 (zt zxd (zt zxd (fSl (zk 1) pNo (zSm (zk 2))) (zQi (ze (fC .non) zF))) (fSl (zk 1) (zSm (zt zxd (zk 2) (fC (.int 1)))) pNo))) (zqc (zt gEq (zt gIx (zz zle (ze (zz zld (ze (zk 0) (ze (zk 2) (ze (zk 3) zF)))) (ze (zk 4) (ze (zk 2) zF)))) (fC (.int 0))) (fC (.str "put")))))
noncomputable def zAe:FF:=fun ds μ=>zWb (zve (zP zmi ds) μ)
noncomputable def zsi:FE:=(zk 0)
noncomputable def zni:FT:=(z9 (zz zAe (ze (zk 1) (ze (zt gIx (zk 2) (fC (.int 1))) (ze (zk 3) (ze (zk 0) zF))))))
noncomputable def zki:FS:=(zph (zYd z4d (zk 2) (ze (fLC 1 [0,1,3] (zLg (zmk (zk 4))) (gN 0) zni zsi) zF)))
noncomputable def ztl:List Str:=["web","told","found","key","homes"]
noncomputable def zxg:FS:=(zV (zVb 1 (zz zue (ze (zk 0) zF))) (zV (sIf (z9 (zt gEq (zt gIx (zk 1) (fC (.int 0))) (fC (.str "crowd")))) (zXg "NoFit" "some" (ze (zt gIx (zk 1) (fC (.int 1))) zF)) zbc) (zV (zVb 2 (zQi zF)) (zV (zAh (zYi (zt gIx (zk 0) (fC (.int 1)))) (gT 2 (zxb (gN 3) (zxb (gN 4) zLf))) zki) (zqc (zk 2))))))
noncomputable def zyg:FX:=fun ds μ=>zft (zxg (zP ztl ds) μ)
noncomputable def zkg:List Str:=["_law_web_here","_law_found"]
noncomputable def z0c:FS:=(zV (zVb 1 (fC .non)) (zV (zCo (z5k 1 zyg (ze (zk 0) zF)) (zFh [("NoFit",true)] (zVb 1 (fC .non)) zLr)) (zqc (zk 1))))
noncomputable def zmc:FF:=fun ds μ=>zWb (z0c (zP zkg ds) μ)
noncomputable def zGk:FE:=(zk 0)
noncomputable def zPk:FT:=(z9 (zt gNe (zk 0) (zk 1)))
noncomputable def znk:List Str:=["web","key","nest","told"]
noncomputable def zCf:FS:=(zV (sIf (z9 (zt gEq (zt gIx (zt gIx (zk 0) (fC (.int 0))) (zk 2)) (fC (.int 0)))) (zqc (zBg (ze (fC (.str "never")) (ze (zQi zF) zF)))) zbc) (zV (zVb 3 (zz zue (ze (zz zld (ze (zk 0) (ze (zk 1) (ze (zk 2) zF)))) zF))) (zV (sIf (z9 (zt gEq (zt gIx (zk 3) (fC (.int 0))) (fC (.str "fits")))) (zqc (zBg (ze (fC (.str "lies")) (ze (zt gIx (zk 3) (fC (.int 1))) zF)))) zbc) (zqc (zBg (ze (fC (.str "never")) (ze (fLC 1 [1] (zLg (zt gIx (zk 3) (fC (.int 1)))) (gN 0) zPk zGk) zF)))))))
noncomputable def zjd:FF:=fun ds μ=>zWb (zCf (zP znk ds) μ)
noncomputable def zwk:FS:=(zV (zVb 11 (zt gIx (zz zjd (ze (zk 2) (ze (zk 8) (ze (zk 10) zF)))) (fC (.int 0)))) (sIf (z9 (zt gNe (zk 11) (zt gIx (zz zjd (ze (zk 5) (ze (zt gIx (zk 4) (zk 8)) (ze (zt gIx (zk 3) (zk 10)) zF)))) (fC (.int 0))))) (zqc (fC (.bl false))) zbc))
noncomputable def zco:FE:=(zt gIx (zk 1) (zk 0))
noncomputable def z1i:FS:=(zV (sIf (z9 (zt z7f (zk 6) (fC .non))) (zV (zVb 9 (zz zCj (ze (fLC 1 [3] (zLg (zt gIx (zk 6) (zk 8))) (gN 0) zSk zco) zF))) (sIf (z9 (zt gNe (zt gIx (zk 7) (zt gIx (zk 4) (zk 8))) (zk 9))) (zqc (fC (.bl false))) zbc)) zbc) (zAh (zLg (zt gIx (zt gIx (zk 2) (fC (.int 1))) (zk 8))) (gN 10) zwk))
noncomputable def zrs:List Str:=["_law_script","_law_pen_here","_law_web_here","_law_nests","_law_keys","_law_other","_law_found","_law_again","_law_key","_law_due","_law_nest","_law_word"]
noncomputable def zJo:FS:=(zV (zVb 1 (zz zCe (ze (zk 0) zF))) (zV (zVb 2 (zz zme (ze (zk 1) (ze (fC (.int 10)) zF)))) (zV (zVb 3 (zz zpc (ze (zk 1) (ze (zz zzi (ze (zt gIx (zk 2) (fC (.int 0))) zF)) zF)))) (zV (zVb 4 (zz zpc (ze (zk 1) (ze (zz zzi (ze (zt gIx (zk 2) (fC (.int 1))) zF)) zF)))) (zV (zVb 5 (zz zOb (ze (zk 2) (ze (zk 3) (ze (zk 4) zF))))) (zV (zVb 6 (zz zmc (ze (zk 2) zF))) (zV (zVb 7 (zz zmc (ze (zk 5) zF))) (zV (sIf (z9 (zt gNe (zt gIs (zk 6) (fC .non)) (zt gIs (zk 7) (fC .non)))) (zqc (fC (.bl false))) zbc) (zV (zAh (z2c (ze (zz zzi (ze (zk 4) zF)) zF)) (gN 8) z1i) (zqc (fC (.bl true))))))))))))
noncomputable def zfm:FF:=fun ds μ=>zWb (zJo (zP zrs ds) μ)
structure Txt (K:PySem.W.Frag) (mg:Str→Option Value):Prop where
  x_NoFit:∃ C,PySem.W.nsIn K mainGlobals "NoFit" = some (some (.ref C))∧mg "NoFit" = some (.ref C)∧PySem.W.ktsIn K C "BaseException" = true
  x_NestError:∃ C,PySem.W.nsIn K mainGlobals "NestError" = some (some (.ref C))∧mg "NestError" = some (.ref C)∧PySem.W.ktsIn K C "BaseException" = true
  s_NoFit:∀ C,PySem.W.nsIn K mainGlobals "NoFit" = some (some (.ref C))→Subs K C [("NoFit",true)]
  n_enumerate:mg "enumerate" = none
  n_len:mg "len" = none
  n_list:mg "list" = none
  n_range:mg "range" = none
  n_reversed:mg "reversed" = none
  n_set:mg "set" = none
  n_sorted:mg "sorted" = none
  n_sum:mg "sum" = none
  n_tuple:mg "tuple" = none
theorem zBb:bootBuiltins "enumerate" = some (.type "enumerate"):=by decide +kernel
theorem zKc:bootBuiltins "len" = some (.builtin "len"):=by decide +kernel
theorem z0f:bootBuiltins "list" = some (.type "list"):=by decide +kernel
theorem zqk:bootBuiltins "reversed" = some (.type "reversed"):=by decide +kernel
theorem zao:bootBuiltins "set" = some (.type "set"):=by decide +kernel
theorem zEf:bootBuiltins "sorted" = some (.builtin "sorted"):=by decide +kernel
theorem zys:bootBuiltins "sum" = some (.builtin "sum"):=by decide +kernel
theorem zke:bootBuiltins "tuple" = some (.type "tuple"):=by decide +kernel
section
variable {P:Program} {w:World} {K:PySem.W.Frag} {mg:Str→Option Value} {base:Heap}
set_option maxHeartbeats 4000000
noncomputable abbrev zdb:Stmt:=zwt (top 3)
noncomputable abbrev zfb:List Str:=["self","some"]
theorem z3i:FnScope zfb zfb (zi zdb):=⟨rfl,rfl,rfl,by decide +kernel,rfl,by decide +kernel,by decide +kernel⟩
theorem zIh (T:Txt K mg) {C NE fI:Addr} {fd:FuncData} (B:IniAt K mg "NoFit" "some" "NoFit.__init__" zdb zfb C NE fI fd):FnOk P w K mg base CX0 1 fI fd zfb (spL C "some"):=by
  refine B.fn.ok (k:=0) z3i (fun vs H Q E ⟨e,a,ns,h,_⟩=>by rw [h];rfl) (fun cdv A outer s H vs Q E hr ⟨e,a,ns,hv,hsm,ha,he,hq⟩=>⟨_,zol (z2m (zDq B.ex B.ne (zsc (pv 0) (zsc (zIo (pv 1) hr.gd hr.units) zee)))) (z9m (z2n B.ex (pv 0) (zwd zjg rfl T.n_list z0f (zsc (pv 1) zee)))),?_⟩)
  subst hv
  exact ⟨_,rfl,_,rfl,a,ns,rfl,ha,hsm,fun y=>⟨e,_,rfl,he,_,rfl,a,_,rfl, .inl (SqL.of ha),fun l hl=>⟨_,rfl,e,rfl,by rw [zA (zu he hl)];exact he,fun p hp hpe=>by
    have hpl:p≠l:=fun z=>by rw [z,zo] at hp;cases hp
    exact hq l p hl (Ne.symm (zu he hl)) (by rwa [zA hpl] at hp) hpe hpl⟩⟩⟩
noncomputable abbrev zIb:Stmt:=top 31
noncomputable abbrev zQb:List Str:=["_law_script"]
theorem zOk:FnScope zYh zQb (zi zIb):=⟨rfl,rfl,rfl,by decide +kernel,rfl,by decide +kernel,by decide +kernel⟩
theorem zNj (T:Txt K mg) {f:Addr} {fd:FuncData} (B:FnAt K mg "_law_pen" zIb zQb f fd):FnOk P w K mg base CX0 1 f fd zQb (spM K 1 zCe):=by
  refine fnM B.fn zOk rfl (fun cdv A outer s H E hr=>⟨zte,?_,fun _ _ _ _ _ e=>e⟩)
  have hu:=hr.units
  exact (zm (zN (zkd (za (mv 0) (za (zJt (zof (zcc hu) (zcb zZ T.n_len zKc (za (mv 0) zd)) zl) (zDr (zof (zcc hu) (z5 z9d (zB (mv 0) zl) zl) zl))) (za zl (za zl zd)))))))
noncomputable abbrev zab:Stmt:=top 32
noncomputable abbrev zqb:List Str:=["_law_script","_law_k"]
theorem sc__law_mixed:FnScope z6f zqb (zi zab):=⟨rfl,rfl,rfl,by decide +kernel,rfl,by decide +kernel,by decide +kernel⟩
theorem zJh (T:Txt K mg) {f:Addr} {fd:FuncData} (B:FnAt K mg "_law_mixed" zab zqb f fd):FnOk P w K mg base CX0 1 f fd zqb (spM K 2 z7c):=by
  refine fnM B.fn sc__law_mixed rfl (fun cdv A outer s H E hr=>⟨z8c,?_,fun _ _ _ _ _ e=>e⟩)
  have hu:=hr.units
  exact (zh (zH 2 zl (hN:=sc__law_mixed.nd)) (zh (zrc (zS z2p (zcb zZ T.n_len zKc (za (mv 0) zd)) zl) (zm (zH 2 (zB (mv 0) (z5 z9d (mv 1) (zcb zZ T.n_len zKc (za (mv 0) zd)))) (hN:=sc__law_mixed.nd))) zW) (zh (zH 3 (z5 z9d (z5 zX (z5 zKd (z5 zX (z5 zX (mv 2) (z5 zKd zl (mv 1))) zl) zl) (z5 zKd (mv 1) (mv 1))) zl) (hN:=sc__law_mixed.nd)) (zh (zH 4 (z5 z9d (z5 zX (z5 zX (z5 zKd (mv 3) (mv 3)) (z5 zKd zl (mv 3))) (z5 zKd zl (mv 1))) zl) (hN:=sc__law_mixed.nd)) (zm (zN (z5 z9d (z5 zX (z5 zX (z5 zKd (mv 4) (mv 4)) (z5 zKd zl (mv 4))) (mv 1)) zl)))))))
noncomputable abbrev zib:Stmt:=top 33
noncomputable abbrev zgb:List Str:=["_law_pen_here","_law_many"]
theorem sc__law_take:FnScope zih zgb (zi zib):=⟨rfl,rfl,rfl,by decide +kernel,rfl,by decide +kernel,by decide +kernel⟩
theorem z0i (T:Txt K mg) {f__law_mixed:Addr} {fd__law_mixed:FuncData} (z9c:FnAt K mg "_law_mixed" zab zqb f__law_mixed fd__law_mixed) (zzd:FnOk P w K mg base CX0 1 f__law_mixed fd__law_mixed zqb (spM K 2 z7c)) {f:Addr} {fd:FuncData} (B:FnAt K mg "_law_take" zib zgb f fd):FnOk P w K mg base CX0 2 f fd zgb (spM K 2 zx):=by
  refine fnM B.fn sc__law_take rfl (fun cdv A outer s H E hr=>⟨zSd,?_,fun _ _ _ _ _ e=>e⟩)
  have hu:=hr.units
  exact (zh (zvi (mv 0) (z8q (zLb (z6 2 (hN:=sc__law_take.nd)) (zLb (z6 3 (hN:=sc__law_take.nd)) (zLb (z6 4 (hN:=sc__law_take.nd)) (zLb (z6 5 (hN:=sc__law_take.nd)) z4g)))))) (zh (zvi (z5 zX (mv 4) zl) (zXq (mv 0) zl)) (zh (zrc (zQj (mv 3)) (zm (zN (z5 z9d (mcall z9c zzd hr (za (mv 2) (za (mv 4) zd))) (mv 1)))) zW) (zh (zrc (zS (zcc hu) (z5 z9d (mv 4) zl) zl) (zh (zH 5 zl (hN:=sc__law_take.nd)) (zm (zrc (zS zgk (z5 zX (z5 zZk (mv 4) zl) zl) (zcb zZ T.n_len zKc (za (mv 2) zd))) (zm (zH 5 (zB (mv 2) (z5 zX (z5 zZk (mv 4) zl) zl)) (hN:=sc__law_take.nd))) zW))) zW) (zh (zvi (z5 zZk (mv 5) (mv 1)) (zXq (mv 0) zl)) (zm (zN (z5 z9d (mv 5) (mv 1)))))))))
noncomputable abbrev zGb:Stmt:=top 34
noncomputable abbrev zRb:List Str:=["_law_pen_here","_law_many"]
theorem sc__law_web:FnScope zci zRb (zi zGb):=⟨rfl,rfl,rfl,by decide +kernel,rfl,by decide +kernel,by decide +kernel⟩
theorem zLj (T:Txt K mg) {f__law_take:Addr} {fd__law_take:FuncData} (zI:FnAt K mg "_law_take" zib zgb f__law_take fd__law_take) (zE:FnOk P w K mg base CX0 2 f__law_take fd__law_take zgb (spM K 2 zx)) {f:Addr} {fd:FuncData} (B:FnAt K mg "_law_web" zGb zRb f fd):FnOk P w K mg base CX0 3 f fd zRb (spM K 2 zme):=by
  refine fnM B.fn sc__law_web rfl (fun cdv A outer s H E hr=>⟨zse,?_,fun _ _ _ _ _ e=>e⟩)
  have hu:=hr.units
  exact (zh (zH 2 (z5 zX zl (mcall zI zE hr (za (mv 0) (za zl zd)))) (hN:=sc__law_web.nd)) (zh (zrc (zS (zcc hu) (mcall zI zE hr (za (mv 0) (za zl zd))) zl) (zm (zH 2 (z5 zX zl (mcall zI zE hr (za (mv 0) (za zl zd)))) (hN:=sc__law_web.nd))) zW) (zh (zH 3 (zB (zkd (za zl (za zl (za zl (za zl zd))))) (mcall zI zE hr (za (mv 0) (za zl zd)))) (hN:=sc__law_web.nd)) (zh (zH 4 (zEc zgc T.n_tuple zke (za (mlc ["_law_nest"] [0,3] (zFd T.n_range (za (mv 2) zd)) (fun _ _ _ _ _=>(z8 0 (hN:=z7 (by rfl)))) (fun _ _ _ _ _=>zIe) (fun _ _ _ _ _=>(mcall zI zE hr (za (mv 1) (za (mv 2) zd)))) (zjb ⟨_,rfl,rfl⟩ (zjb ⟨_,rfl,rfl⟩ zTc))) zd)) (hN:=sc__law_web.nd)) (zh (zrc (zS (zcc hu) (mcall zI zE hr (za (mv 0) (za zl zd))) zl) (zh (zH 5 (mcall zI zE hr (za (mv 0) (za (mv 2) zd))) (hN:=sc__law_web.nd)) (zm (zH 4 (z5 zX (z5 zX (zsk (mv 4) z2k (zeg (mv 5))) (z1b (za (z5 zX (zB (mv 4) (mv 5)) (zB (zkd (za zl (za zl (za (z5 z1q zl zl) zd)))) (mcall zI zE hr (za (mv 0) (za zl zd))))) zd))) (zsk (mv 4) (zeg (z5 zX (mv 5) zl)) z2k)) (hN:=sc__law_web.nd)))) zW) (zh (zH 6 (zkd zd) (hN:=sc__law_web.nd)) (zh (zIc (zFd T.n_range (za (mcall zI zE hr (za (mv 0) (za (mv 1) zd))) zd)) (z6 7 (hN:=sc__law_web.nd)) (zh (zH 8 (z5 zX zl (mcall zI zE hr (za (mv 0) (za zl zd)))) (hN:=sc__law_web.nd)) (zm (zde (z5e (mv 6) (za (zEc zgc T.n_tuple zke (za (mlc ["_law_j"] [0,2] (zFd T.n_range (za (mv 8) zd)) (fun _ _ _ _ _=>(z8 0 (hN:=z7 (by rfl)))) (fun _ _ _ _ _=>zIe) (fun _ _ _ _ _=>(mcall zI zE hr (za (mv 1) (za (mv 2) zd)))) (zjb ⟨_,rfl,rfl⟩ (zjb ⟨_,rfl,rfl⟩ zTc))) zd)) zd)))))) (zm (zN (z1b (za (mv 4) (za (zEc zgc T.n_tuple zke (za (mv 6) zd)) zd))))))))))))
noncomputable abbrev zeb:Stmt:=top 35
noncomputable abbrev zob:List Str:=["_law_pen_here","_law_many"]
theorem sc__law_order:FnScope zhg zob (zi zeb):=⟨rfl,rfl,rfl,by decide +kernel,rfl,by decide +kernel,by decide +kernel⟩
theorem zDh (T:Txt K mg) {f__law_take:Addr} {fd__law_take:FuncData} (zI:FnAt K mg "_law_take" zib zgb f__law_take fd__law_take) (zE:FnOk P w K mg base CX0 2 f__law_take fd__law_take zgb (spM K 2 zx)) {f:Addr} {fd:FuncData} (B:FnAt K mg "_law_order" zeb zob f fd):FnOk P w K mg base CX0 3 f fd zob (spM K 2 zpc):=by
  refine fnM B.fn sc__law_order rfl (fun cdv A outer s H E hr=>⟨z4c,?_,fun _ _ _ _ _ e=>e⟩)
  have hu:=hr.units
  exact (zh (zH 2 (zkd zd) (hN:=sc__law_order.nd)) (zh (zIc (zFd T.n_range (za (mv 1) zd)) (z6 3 (hN:=sc__law_order.nd)) (zm (zde (zxo (mv 2) (za (mcall zI zE hr (za (mv 0) (za (z5 zX (mv 3) zl) zd))) (za (mv 3) zd)))))) (zm (zN (mv 2)))))
noncomputable abbrev zO:Stmt:=top 36
noncomputable abbrev zR:List Str:=["_law_web_here","_law_nests","_law_keys"]
theorem sc__law_exchanged:FnScope z0d zR (zi zO):=⟨rfl,rfl,rfl,by decide +kernel,rfl,by decide +kernel,by decide +kernel⟩
theorem z0e (T:Txt K mg) {f:Addr} {fd:FuncData} (B:FnAt K mg "_law_exchanged" zO zR f fd):FnOk P w K mg base CX0 1 f fd zR (spM K 3 zOb):=by
  refine fnM B.fn sc__law_exchanged rfl (fun cdv A outer s H E hr=>⟨zMb,?_,fun _ _ _ _ _ e=>e⟩)
  have hu:=hr.units
  exact (zh (mslc 3 ["_law_nest"] [0,1] (zFd T.n_range (za (zcb zZ T.n_len zKc (za (mv 1) zd)) zd)) (fun _ _ _ _ _=>(z8 0 (hN:=z7 (by rfl)))) (fun _ _ _ _ _=>zIe) (fun _ _ _ _ _=>(zB (zB (mv 1) zl) (zrl (mv 2) (za (mv 0) zd)))) (zjb ⟨_,rfl,rfl⟩ (zjb ⟨_,rfl,rfl⟩ zTc)) sc__law_exchanged.nd) (zh (mslc 4 ["_law_key"] [0,2] (zFd T.n_range (za (zcb zZ T.n_len zKc (za (mv 2) zd)) zd)) (fun _ _ _ _ _=>(z8 0 (hN:=z7 (by rfl)))) (fun _ _ _ _ _=>zIe) (fun _ _ _ _ _=>(zB (zB (mv 1) zl) (zrl (mv 2) (za (mv 0) zd)))) (zjb ⟨_,rfl,rfl⟩ (zjb ⟨_,rfl,rfl⟩ zTc)) sc__law_exchanged.nd) (zm (zN (z1b (za (zEc zgc T.n_tuple zke (za (mv 3) zd)) (za (zEc zgc T.n_tuple zke (za (mlc ["_law_own"] [1] (zVc (mv 4)) (fun _ _ _ _ _=>(z8 0 (hN:=z7 (by rfl)))) (fun _ _ _ _ _=>zIe) (fun _ _ _ _ _=>(zEc zgc T.n_tuple zke (za (mlc ["_law_nest"] [1] (zVc (zmq (mv 0) (zeg (z5r zl)))) (fun _ _ _ _ _=>(z8 0 (hN:=z7 (by rfl)))) (fun _ _ _ _ _=>zIe) (fun _ _ _ _ _=>(zB (mv 1) (mv 0))) (zjb ⟨_,rfl,rfl⟩ zTc)) zd))) (zjb ⟨_,rfl,rfl⟩ zTc)) zd)) zd)))))))
noncomputable abbrev zWd:Stmt:=top 7
noncomputable abbrev zNd:List Str:=["laying","nest"]
theorem z6o:FnScope z7n zNd (zi zWd):=⟨rfl,rfl,rfl,by decide +kernel,rfl,by decide +kernel,by decide +kernel⟩
theorem z1n (T:Txt K mg) {f:Addr} {fd:FuncData} (B:FnAt K mg "lying" zWd zNd f fd):FnOk P w K mg base CX0 1 f fd zNd (spM K 2 zcj):=by
  refine fnM B.fn z6o rfl (fun cdv A outer s H E hr=>⟨zBi,?_,fun _ _ _ _ _ e=>e⟩)
  have hu:=hr.units
  exact (zm (zN (mlc ["key","place"] [1] (zWe T.n_enumerate zBb (mv 0)) (fun _ _ _ _ _=>(zrk (ztd (z8 0 (hN:=z7 (by rfl))) (ztd (z8 1 (hN:=z7 (by rfl))) zNi)))) (fun _ _ _ _ _=>(zJj (zS (zcc hu) (mv 1) (mv 2)))) (fun _ _ _ _ _=>(mv 0)) (zjb ⟨_,rfl,rfl⟩ zTc))))
noncomputable abbrev ztb:Stmt:=top 12
noncomputable abbrev zAb:List Str:=["web","laying","key"]
theorem sc_pushes_to:FnScope zqh zAb (zi ztb):=⟨rfl,rfl,rfl,by decide +kernel,rfl,by decide +kernel,by decide +kernel⟩
theorem zUi (T:Txt K mg) {f_lying:Addr} {fd_lying:FuncData} (z8i:FnAt K mg "lying" zWd zNd f_lying fd_lying) (z4i:FnOk P w K mg base CX0 1 f_lying fd_lying zNd (spM K 2 zcj)) {f:Addr} {fd:FuncData} (B:FnAt K mg "pushes_to" ztb zAb f fd):FnOk P w K mg base CX0 2 f fd zAb (spM K 3 zOd):=by
  refine fnM B.fn sc_pushes_to rfl (fun cdv A outer s H E hr=>⟨zJd,?_,fun _ _ _ _ _ e=>e⟩)
  have hu:=hr.units
  exact (zh (zH 3 zQs (hN:=sc_pushes_to.nd)) (zh (zIc (zVc (zB (zB (mv 0) zl) (mv 2))) (z6 4 (hN:=sc_pushes_to.nd)) (zm (zvi (z1b (za (mv 2) (za z3c zd))) (zSp (mv 3) (mv 4))))) (zh (zH 5 (zEc (z4k rfl) T.n_list z0f (za (mv 3) zd)) (hN:=sc_pushes_to.nd)) (zh (zH 6 zl (hN:=sc_pushes_to.nd)) (zh (zdj 100000 (zS zgk (mv 6) (zcb zZ T.n_len zKc (za (mv 5) zd))) (zh (zIc (zVc (mcall z8i z4i hr (za (mv 1) (za (zB (mv 5) (mv 6)) zd)))) (z6 7 (hN:=sc_pushes_to.nd)) (zm (zIc (zVc (zB (zB (mv 0) zl) (mv 7))) (z6 4 (hN:=sc_pushes_to.nd)) (zm (zrc (zS zFm (mv 4) (mv 3)) (zh (zvi (z1b (za (mv 7) (za (zB (mv 5) (mv 6)) zd))) (zSp (mv 3) (mv 4))) (zm (zde (z5e (mv 5) (za (mv 4) zd))))) zW))))) (zm (zZr 6 zRq zl (hN:=sc_pushes_to.nd))))) (zm (zN (mv 3))))))))
noncomputable abbrev zJe:Stmt:=top 5
noncomputable abbrev zXd:List Str:=["web","laying"]
theorem zfq:FnScope zQp zXd (zi zJe):=⟨rfl,rfl,rfl,by decide +kernel,rfl,by decide +kernel,by decide +kernel⟩
theorem zdp (T:Txt K mg) {f:Addr} {fd:FuncData} (B:FnAt K mg "left" zJe zXd f fd):FnOk P w K mg base CX0 1 f fd zXd (spM K 2 zhh):=by
  refine fnM B.fn zfq rfl (fun cdv A outer s H E hr=>⟨zli,?_,fun _ _ _ _ _ e=>e⟩)
  have hu:=hr.units
  exact (zm (zN (mlc ["nest","room"] [1] (zWe T.n_enumerate zBb (zB (mv 0) zl)) (fun _ _ _ _ _=>(zrk (ztd (z8 0 (hN:=z7 (by rfl))) (ztd (z8 1 (hN:=z7 (by rfl))) zNi)))) (fun _ _ _ _ _=>zIe) (fun _ _ _ _ _=>(z5 zHn (mv 1) (zXo (mv 2) (za (mv 0) zd)))) (zjb ⟨_,rfl,rfl⟩ zTc))))
noncomputable abbrev zyc:Stmt:=top 13
noncomputable abbrev zRc:List Str:=["pushes","nest"]
theorem sc_row_to:FnScope zzl zRc (zi zyc):=⟨rfl,rfl,rfl,by decide +kernel,rfl,by decide +kernel,by decide +kernel⟩
theorem zbm (T:Txt K mg) {f:Addr} {fd:FuncData} (B:FnAt K mg "row_to" zyc zRc f fd):FnOk P w K mg base CX0 1 f fd zRc (spM K 2 zrg):=by
  refine fnM B.fn sc_row_to rfl (fun cdv A outer s H E hr=>⟨zCg,?_,fun _ _ _ _ _ e=>e⟩)
  have hu:=hr.units
  exact (zh (zH 2 (zkd zd) (hN:=sc_row_to.nd)) (zh (zdj 100000 (zS z5d (mv 1) z3c) (zh (zde (z5e (mv 2) (za (z1b (za (zB (zFp (mv 0) (mv 1)) zl) (za (mv 1) zd))) zd))) (zm (zH 1 (zB (zFp (mv 0) (mv 1)) zl) (hN:=sc_row_to.nd))))) (zm (zN (zuq T.n_list z0f T.n_reversed zqk (mv 2))))))
noncomputable abbrev zkc:Stmt:=top 14
noncomputable abbrev z5b:List Str:=["web","laying","key"]
theorem sc_put_in:FnScope zEl z5b (zi zkc):=⟨rfl,rfl,rfl,by decide +kernel,rfl,by decide +kernel,by decide +kernel⟩
theorem zpm (T:Txt K mg) {f_pushes_to:Addr} {fd_pushes_to:FuncData} (zMd:FnAt K mg "pushes_to" ztb zAb f_pushes_to fd_pushes_to) (z7d:FnOk P w K mg base CX0 2 f_pushes_to fd_pushes_to zAb (spM K 3 zOd)) {f_left:Addr} {fd_left:FuncData} (zmh:FnAt K mg "left" zJe zXd f_left fd_left) (zVf:FnOk P w K mg base CX0 1 f_left fd_left zXd (spM K 2 zhh)) {f_row_to:Addr} {fd_row_to:FuncData} (zIg:FnAt K mg "row_to" zyc zRc f_row_to fd_row_to) (z1g:FnOk P w K mg base CX0 1 f_row_to fd_row_to zRc (spM K 2 zrg)) {f:Addr} {fd:FuncData} (B:FnAt K mg "put_in" zkc z5b f fd):FnOk P w K mg base CX0 3 f fd z5b (spM K 3 zle):=by
  refine fnM B.fn sc_put_in rfl (fun cdv A outer s H E hr=>⟨zog,?_,fun _ _ _ _ _ e=>e⟩)
  have hu:=hr.units
  exact (zh (zH 3 (mcall zMd z7d hr (za (mv 0) (za (mv 1) (za (mv 2) zd)))) (hN:=sc_put_in.nd)) (zh (zH 4 (mcall zmh zVf hr (za (mv 0) (za (mv 1) zd))) (hN:=sc_put_in.nd)) (zh (zIc (zaq (mv 3)) (z6 5 (hN:=sc_put_in.nd)) (zm (zrc (zS z2p (zB (mv 4) (mv 5)) zl) (zm (zN (z1b (za zpd (za (mcall zIg z1g hr (za (mv 3) (za (mv 5) zd))) zd))))) zW))) (zm (zN (z1b (za zpd (za (mlc ["other","nest"] [2,3] (zWe T.n_enumerate zBb (mv 1)) (fun _ _ _ _ _=>(zrk (ztd (z8 0 (hN:=z7 (by rfl))) (ztd (z8 1 (hN:=z7 (by rfl))) zNi)))) (fun _ _ _ _ _=>(zJj (MW.mt (zVo (zS (zcc hu) (mv 0) (mv 2)) (zHl (zS zkp (mv 1) (mv 3))))))) (fun _ _ _ _ _=>(mv 0)) (zjb ⟨_,rfl,rfl⟩ (zjb ⟨_,rfl,rfl⟩ zTc))) zd))))))))
noncomputable abbrev zLd:Stmt:=top 6
noncomputable abbrev zTd:List Str:=["web","laying"]
theorem sc_fault:FnScope zio zTd (zi zLd):=⟨rfl,rfl,rfl,by decide +kernel,rfl,by decide +kernel,by decide +kernel⟩
theorem zDn (T:Txt K mg) {f_left:Addr} {fd_left:FuncData} (zmh:FnAt K mg "left" zJe zXd f_left fd_left) (zVf:FnOk P w K mg base CX0 1 f_left fd_left zXd (spM K 2 zhh)) {f:Addr} {fd:FuncData} (B:FnAt K mg "fault" zLd zTd f fd):FnOk P w K mg base CX0 2 f fd zTd (spM K 2 zbj):=by
  refine fnM B.fn sc_fault rfl (fun cdv A outer s H E hr=>⟨zSi,?_,fun _ _ _ _ _ e=>e⟩)
  have hu:=hr.units
  exact (zh (zIc (zWe T.n_enumerate zBb (mv 1)) (zJl (zLb (z6 2 (hN:=sc_fault.nd)) (zLb (z6 3 (hN:=sc_fault.nd)) z4g))) (zm (zrc (MW.mt (zPp (zS z5d (mv 3) z3c) (zTn (zS zuh (mv 3) (zB (zB (mv 0) zl) (mv 2)))))) (zm (zN (z1b (za zpd (za (mv 2) zd))))) zW))) (zh (zIc (zWe T.n_enumerate zBb (mcall zmh zVf hr (za (mv 0) (za (mv 1) zd)))) (zJl (zLb (z6 3 (hN:=sc_fault.nd)) (zLb (z6 4 (hN:=sc_fault.nd)) z4g))) (zm (zrc (zS zgk (mv 4) zl) (zm (zN (z1b (za zpd (za (mv 3) zd))))) zW))) (zm (zN z3c))))
noncomputable abbrev z9b:Stmt:=top 9
noncomputable abbrev zhc:List Str:=["web","laying","row","at"]
theorem sc_is_push:FnScope zhk zhc (zi z9b):=⟨rfl,rfl,rfl,by decide +kernel,rfl,by decide +kernel,by decide +kernel⟩
theorem zel (T:Txt K mg) {f:Addr} {fd:FuncData} (B:FnAt K mg "is_push" z9b zhc f fd):FnOk P w K mg base CX0 1 f fd zhc (spM K 4 zmf):=by
  refine fnM B.fn sc_is_push rfl (fun cdv A outer s H E hr=>⟨zGf,?_,fun _ _ _ _ _ e=>e⟩)
  have hu:=hr.units
  exact (zh (zH 4 (zB (zB (mv 2) (mv 3)) zl) (hN:=sc_is_push.nd)) (zh (zrc (MW.mt (zVo (zS zgk (mv 4) zl) (zHl (zS zNs (mv 4) (zcb zZ T.n_len zKc (za (mv 1) zd)))))) (zm (zN z5l)) zW) (zh (zrc (MW.mt (zVo (zS zuh (zB (zB (mv 2) (mv 3)) zl) (zB (zB (mv 0) zl) (mv 4))) (zHl (zS (zcc hu) (zB (zB (mv 2) (mv 3)) zl) (zB (mv 1) (mv 4)))))) (zm (zN z5l)) zW) (zm (zN (zof zuh (mv 4) (mlc ["push"] [] (zVc (zsk (mv 2) z2k (zeg (mv 3)))) (fun _ _ _ _ _=>(z8 0 (hN:=z7 (by rfl)))) (fun _ _ _ _ _=>zIe) (fun _ _ _ _ _=>(zB (mv 0) zl)) zTc)))))))
noncomputable abbrev z6b:Stmt:=top 10
noncomputable abbrev zic:List Str:=["laying","key","row","at"]
theorem zLm:FnScope zPj zic (zi z6b):=⟨rfl,rfl,rfl,by decide +kernel,rfl,by decide +kernel,by decide +kernel⟩
theorem zil (T:Txt K mg) {f:Addr} {fd:FuncData} (B:FnAt K mg "follows" z6b zic f fd):FnOk P w K mg base CX0 1 f fd zic (spM K 4 z7e):=by
  refine fnM B.fn zLm rfl (fun cdv A outer s H E hr=>⟨zaf,?_,fun _ _ _ _ _ e=>e⟩)
  have hu:=hr.units
  exact (zh (zrc (zS (zcc hu) (mv 3) zl) (zm (zN (zof (zcc hu) (zB (zB (mv 2) zl) zl) (mv 1)))) zW) (zm (zN (zof (zcc hu) (zB (mv 0) (zB (zB (mv 2) (mv 3)) zl)) (zB (zB (mv 2) (z5 zHn (mv 3) zl)) zl)))))
noncomputable abbrev zvc:Stmt:=top 11
noncomputable abbrev zQc:List Str:=["web","laying","key","row"]
theorem sc_pushed:FnScope zVl zQc (zi zvc):=⟨rfl,rfl,rfl,by decide +kernel,rfl,by decide +kernel,by decide +kernel⟩
theorem zNm (T:Txt K mg) {f_fault:Addr} {fd_fault:FuncData} (zLi:FnAt K mg "fault" zLd zTd f_fault fd_fault) (zIi:FnOk P w K mg base CX0 2 f_fault fd_fault zTd (spM K 2 zbj)) {f_is_push:Addr} {fd_is_push:FuncData} (zqf:FnAt K mg "is_push" z9b zhc f_is_push fd_is_push) (zUf:FnOk P w K mg base CX0 1 f_is_push fd_is_push zhc (spM K 4 zmf)) {f_follows:Addr} {fd_follows:FuncData} (zrf:FnAt K mg "follows" z6b zic f_follows fd_follows) (zRf:FnOk P w K mg base CX0 1 f_follows fd_follows zic (spM K 4 z7e)) {f:Addr} {fd:FuncData} (B:FnAt K mg "pushed" zvc zQc f fd):FnOk P w K mg base CX0 3 f fd zQc (spM K 4 zFg):=by
  refine fnM B.fn sc_pushed rfl (fun cdv A outer s H E hr=>⟨zHg,?_,fun _ _ _ _ _ e=>e⟩)
  have hu:=hr.units
  exact (zh (zH 4 (zEc zRh T.n_list z0f (za (mv 1) zd)) (hN:=sc_pushed.nd)) (zh (zIc (zWe T.n_enumerate zBb (mv 3)) (zJl (zLb (z6 5 (hN:=sc_pushed.nd)) (zLb (z6 6 (hN:=sc_pushed.nd)) z4g))) (zh (zrc (zvs (MW.mt (zPp (zQj (mcall zqf zUf hr (za (mv 0) (za (mv 1) (za (mv 3) (za (mv 5) zd)))))) (zTn (zQj (mcall zrf zRf hr (za (mv 1) (za (mv 2) (za (mv 3) (za (mv 5) zd)))))))))) (zm zGl) zW) (zm (zvi (zB (mv 6) zl) (zXq (mv 4) (zB (mv 6) zl)))))) (zh (zrc (MW.mt (zVo (zS (zcc hu) (zcb zZ T.n_len zKc (za (mv 3) zd)) zl) (zHl (zS z5d (mcall zLi zIi hr (za (mv 0) (za (mv 4) zd))) z3c)))) (zm zGl) zW) (zm (zN (mv 4))))))
noncomputable abbrev zpb:Stmt:=top 15
noncomputable abbrev zyb:List Str:=["web","laying","keys"]
theorem sc_laid_more:FnScope zrh zyb (zi zpb):=⟨rfl,rfl,rfl,by decide +kernel,rfl,by decide +kernel,by decide +kernel⟩
theorem z9i (T:Txt K mg) {f_put_in:Addr} {fd_put_in:FuncData} (zId:FnAt K mg "put_in" zkc z5b f_put_in fd_put_in) (zqd:FnOk P w K mg base CX0 3 f_put_in fd_put_in z5b (spM K 3 zle)) {f_pushed:Addr} {fd_pushed:FuncData} (zsg:FnAt K mg "pushed" zvc zQc f_pushed fd_pushed) (z7g:FnOk P w K mg base CX0 3 f_pushed fd_pushed zQc (spM K 4 zFg)) {f:Addr} {fd:FuncData} (B:FnAt K mg "laid_more" zpb zyb f fd):FnOk P w K mg base CX0 4 f fd zyb (spM K 3 zAd):=by
  refine fnM B.fn sc_laid_more rfl (fun cdv A outer s H E hr=>⟨zUd,?_,fun _ _ _ _ _ e=>e⟩)
  have hu:=hr.units
  exact (zh (zH 3 (zkd zd) (hN:=sc_laid_more.nd)) (zh (zIc (zVc (mv 2)) (z6 4 (hN:=sc_laid_more.nd)) (zh (zH 5 (mcall zId zqd hr (za (mv 0) (za (mv 1) (za (mv 4) zd)))) (hN:=sc_laid_more.nd)) (zm (zrc (zS (zcc hu) (zB (mv 5) zl) zpd) (zm (zH 1 (mcall zsg z7g hr (za (mv 0) (za (mv 1) (za (mv 4) (za (zB (mv 5) zl) zd))))) (hN:=sc_laid_more.nd))) (zm (zde (zwj (mv 3) (za (zB (mv 5) zl) zd)))))))) (zm (zN (z1b (za (mv 1) (za (zRn T.n_sorted zEf T.n_set zao (mv 3)) zd)))))))
noncomputable abbrev zY:Stmt:=top 16
noncomputable abbrev zhb:List Str:=["web"]
theorem zNh:FnScope zFf zhb (zi zY):=⟨rfl,rfl,rfl,by decide +kernel,rfl,by decide +kernel,by decide +kernel⟩
theorem z3g (T:Txt K mg) {f_laid_more:Addr} {fd_laid_more:FuncData} (zHd:FnAt K mg "laid_more" zpb zyb f_laid_more fd_laid_more) (z6d:FnOk P w K mg base CX0 4 f_laid_more fd_laid_more zyb (spM K 3 zAd)) {f:Addr} {fd:FuncData} (B:FnAt K mg "laid_at_all" zY zhb f fd):FnOk P w K mg base CX0 5 f fd zhb (spM K 1 zBc):=by
  refine fnM B.fn zNh rfl (fun cdv A outer s H E hr=>⟨zzc,?_,fun _ _ _ _ _ e=>e⟩)
  have hu:=hr.units
  exact (zm (zN (mcall zHd z6d hr (za (mv 0) (za (z5 zKd (zkd (za z3c zd)) (zcb zZ T.n_len zKc (za (zB (mv 0) zl) zd))) (za (zbo T.n_list z0f T.n_range (zcb zZ T.n_len zKc (za (zB (mv 0) zl) zd))) zd))))))
noncomputable abbrev z3b:Stmt:=top 19
noncomputable abbrev zdc:List Str:=["web","nests"]
theorem zmm:FnScope zkj zdc (zi z3b):=⟨rfl,rfl,rfl,by decide +kernel,rfl,by decide +kernel,by decide +kernel⟩
theorem zBk (T:Txt K mg) {f:Addr} {fd:FuncData} (B:FnAt K mg "room_of" z3b zdc f fd):FnOk P w K mg base CX0 1 f fd zdc (spM K 2 z8e):=by
  refine fnM B.fn zmm rfl (fun cdv A outer s H E hr=>⟨zif,?_,fun _ _ _ _ _ e=>e⟩)
  have hu:=hr.units
  exact (zm (zN (zcb (zGn rfl) T.n_sum zys (za (mlc ["nest"] [0] (zVc (mv 1)) (fun _ _ _ _ _=>(z8 0 (hN:=z7 (by rfl)))) (fun _ _ _ _ _=>zIe) (fun _ _ _ _ _=>(zB (zB (mv 1) zl) (mv 0))) (zjb ⟨_,rfl,rfl⟩ zTc)) zd))))
noncomputable abbrev zDb:Stmt:=top 18
noncomputable abbrev zTb:List Str:=["web","some"]
theorem sc_homes_of:FnScope zXh zTb (zi zDb):=⟨rfl,rfl,rfl,by decide +kernel,rfl,by decide +kernel,by decide +kernel⟩
theorem zpj (T:Txt K mg) {f:Addr} {fd:FuncData} (B:FnAt K mg "homes_of" zDb zTb f fd):FnOk P w K mg base CX0 1 f fd zTb (spM K 2 zhe):=by
  refine fnM B.fn sc_homes_of rfl (fun cdv A outer s H E hr=>⟨zre,?_,fun _ _ _ _ _ e=>e⟩)
  have hu:=hr.units
  exact (zh (zH 2 (zkd zd) (hN:=sc_homes_of.nd)) (zh (zIc (zVc (mv 1)) (z6 3 (hN:=sc_homes_of.nd)) (zm (zde (zwj (mv 2) (za (zB (zB (mv 0) zl) (mv 3)) zd))))) (zm (zN (zRn T.n_sorted zEf T.n_set zao (mv 2))))))
noncomputable abbrev zEb:Stmt:=top 21
noncomputable abbrev zPb:List Str:=["web","some"]
theorem zCk:FnScope zVh zPb (zi zEb):=⟨rfl,rfl,rfl,by decide +kernel,rfl,by decide +kernel,by decide +kernel⟩
theorem zTj (T:Txt K mg) {f_room_of:Addr} {fd_room_of:FuncData} (zxf:FnAt K mg "room_of" z3b zdc f_room_of fd_room_of) (z2f:FnOk P w K mg base CX0 1 f_room_of fd_room_of zdc (spM K 2 z8e)) {f_homes_of:Addr} {fd_homes_of:FuncData} (zze:FnAt K mg "homes_of" zDb zTb f_homes_of fd_homes_of) (zNe:FnOk P w K mg base CX0 1 f_homes_of fd_homes_of zTb (spM K 2 zhe)) {f:Addr} {fd:FuncData} (B:FnAt K mg "is_crowd" zEb zPb f fd):FnOk P w K mg base CX0 2 f fd zPb (spM K 2 zie):=by
  refine fnM B.fn zCk rfl (fun cdv A outer s H E hr=>⟨zxe,?_,fun _ _ _ _ _ e=>e⟩)
  have hu:=hr.units
  exact (zm (zN (zof zgk (mcall zxf z2f hr (za (mv 0) (za (mcall zze zNe hr (za (mv 0) (za (mv 1) zd))) zd))) (zcb zZ T.n_len zKc (za (mv 1) zd)))))
noncomputable abbrev zrb:Stmt:=top 22
noncomputable abbrev zCb:List Str:=["web","some"]
theorem sc_spare_key:FnScope z5g zCb (zi zrb):=⟨rfl,rfl,rfl,by decide +kernel,rfl,by decide +kernel,by decide +kernel⟩
theorem zaj (T:Txt K mg) {f_is_crowd:Addr} {fd_is_crowd:FuncData} (zje:FnAt K mg "is_crowd" zEb zPb f_is_crowd fd_is_crowd) (zZe:FnOk P w K mg base CX0 2 f_is_crowd fd_is_crowd zPb (spM K 2 zie)) {f:Addr} {fd:FuncData} (B:FnAt K mg "spare_key" zrb zCb f fd):FnOk P w K mg base CX0 3 f fd zCb (spM K 2 zJc):=by
  refine fnM B.fn sc_spare_key rfl (fun cdv A outer s H E hr=>⟨zQd,?_,fun _ _ _ _ _ e=>e⟩)
  have hu:=hr.units
  exact (zh (zIc (zVc (mv 1)) (z6 2 (hN:=sc_spare_key.nd)) (zm (zrc (zQj (mcall zje zZe hr (za (mv 0) (za (mlc ["other"] [2] (zVc (mv 1)) (fun _ _ _ _ _=>(z8 0 (hN:=z7 (by rfl)))) (fun _ _ _ _ _=>(zJj (zS (znj hu) (mv 0) (mv 1)))) (fun _ _ _ _ _=>(mv 0)) (zjb ⟨_,rfl,rfl⟩ zTc)) zd)))) (zm (zN (mv 2))) zW))) (zm (zN z3c)))
noncomputable abbrev z2b:Stmt:=top 23
noncomputable abbrev zec:List Str:=["web","some"]
theorem sc_trimmed:FnScope zSj zec (zi z2b):=⟨rfl,rfl,rfl,by decide +kernel,rfl,by decide +kernel,by decide +kernel⟩
theorem zWk (T:Txt K mg) {f_spare_key:Addr} {fd_spare_key:FuncData} (zNc:FnAt K mg "spare_key" zrb zCb f_spare_key fd_spare_key) (zad:FnOk P w K mg base CX0 3 f_spare_key fd_spare_key zCb (spM K 2 zJc)) {f:Addr} {fd:FuncData} (B:FnAt K mg "trimmed" z2b zec f fd):FnOk P w K mg base CX0 4 f fd zec (spM K 2 znf):=by
  refine fnM B.fn sc_trimmed rfl (fun cdv A outer s H E hr=>⟨ztf,?_,fun _ _ _ _ _ e=>e⟩)
  have hu:=hr.units
  exact (zh (zH 2 (zEc zRh T.n_list z0f (za (mv 1) zd)) (hN:=sc_trimmed.nd)) (zh (zH 3 (mcall zNc zad hr (za (mv 0) (za (mv 2) zd))) (hN:=sc_trimmed.nd)) (zh (zdj 100000 (zS z5d (mv 3) z3c) (zh (zde (zJn (mv 2) (za (mv 3) zd))) (zm (zH 3 (mcall zNc zad hr (za (mv 0) (za (mv 2) zd))) (hN:=sc_trimmed.nd))))) (zm (zN (mv 2))))))
noncomputable abbrev zlc:Stmt:=top 24
noncomputable abbrev z7b:List Str:=["web"]
theorem sc_fitted:FnScope zql z7b (zi zlc):=⟨rfl,rfl,rfl,by decide +kernel,rfl,by decide +kernel,by decide +kernel⟩
theorem zym (T:Txt K mg) {f_laid_at_all:Addr} {fd_laid_at_all:FuncData} (zFc:FnAt K mg "laid_at_all" zY zhb f_laid_at_all fd_laid_at_all) (zed:FnOk P w K mg base CX0 5 f_laid_at_all fd_laid_at_all zhb (spM K 1 zBc)) {f_trimmed:Addr} {fd_trimmed:FuncData} (z6e:FnAt K mg "trimmed" z2b zec f_trimmed fd_trimmed) (zOf:FnOk P w K mg base CX0 4 f_trimmed fd_trimmed zec (spM K 2 znf)) {f:Addr} {fd:FuncData} (B:FnAt K mg "fitted" zlc z7b f fd):FnOk P w K mg base CX0 6 f fd z7b (spM K 1 zue):=by
  refine fnM B.fn sc_fitted rfl (fun cdv A outer s H E hr=>⟨zqg,?_,fun _ _ _ _ _ e=>e⟩)
  have hu:=hr.units
  exact (zh (zH 1 (mcall zFc zed hr (za (mv 0) zd)) (hN:=sc_fitted.nd)) (zh (zrc (zS (zcc hu) (zB (mv 1) zl) (zkd zd)) (zm (zN (z1b (za zpd (za (zB (mv 1) zl) zd))))) zW) (zm (zN (z1b (za zpd (za (mcall z6e zOf hr (za (mv 0) (za (zB (mv 1) zl) zd))) zd)))))))
noncomputable abbrev zKb:Stmt:=top 26
noncomputable abbrev zFb:List Str:=["web","key","nest"]
theorem zMm:FnScope zRj zFb (zi zKb):=⟨rfl,rfl,rfl,by decide +kernel,rfl,by decide +kernel,by decide +kernel⟩
theorem zxk (T:Txt K mg) {f:Addr} {fd:FuncData} (B:FnAt K mg "held_to" zKb zFb f fd):FnOk P w K mg base CX0 1 f fd zFb (spM K 3 zld):=by
  refine fnM B.fn zMm rfl (fun cdv A outer s H E hr=>⟨zjf,?_,fun _ _ _ _ _ e=>e⟩)
  have hu:=hr.units
  exact (zm (zN (z1b (za (zB (mv 0) zl) (za (z5 zX (z5 zX (zsk (zB (mv 0) zl) z2k (zeg (mv 1))) (z1b (za (z1b (za (mv 2) (za (mv 2) zd))) zd))) (zsk (zB (mv 0) zl) (zeg (z5 zX (mv 1) zl)) z2k)) zd)))))
noncomputable abbrev zHb:Stmt:=top 28
noncomputable abbrev zUb:List Str:=["web","laying","key","nest"]
theorem sc_can_move:FnScope zmi zUb (zi zHb):=⟨rfl,rfl,rfl,by decide +kernel,rfl,by decide +kernel,by decide +kernel⟩
theorem zIj (T:Txt K mg) {f_put_in:Addr} {fd_put_in:FuncData} (zId:FnAt K mg "put_in" zkc z5b f_put_in fd_put_in) (zqd:FnOk P w K mg base CX0 3 f_put_in fd_put_in z5b (spM K 3 zle)) {f_held_to:Addr} {fd_held_to:FuncData} (zMc:FnAt K mg "held_to" zKb zFb f_held_to fd_held_to) (zGc:FnOk P w K mg base CX0 1 f_held_to fd_held_to zFb (spM K 3 zld)) {f:Addr} {fd:FuncData} (B:FnAt K mg "can_move" zHb zUb f fd):FnOk P w K mg base CX0 4 f fd zUb (spM K 4 zAe):=by
  refine fnM B.fn sc_can_move rfl (fun cdv A outer s H E hr=>⟨zve,?_,fun _ _ _ _ _ e=>e⟩)
  have hu:=hr.units
  exact (zh (zH 4 (z5 zX (z5 zX (zsk (mv 1) z2k (zeg (mv 2))) (zkd (za z3c zd))) (zsk (mv 1) (zeg (z5 zX (mv 2) zl)) z2k)) (hN:=sc_can_move.nd)) (zm (zN (zof (zcc hu) (zB (mcall zId zqd hr (za (mcall zMc zGc hr (za (mv 0) (za (mv 2) (za (mv 3) zd)))) (za (mv 4) (za (mv 2) zd)))) zl) zpd))))
noncomputable abbrev zAc:Stmt:=top 29
noncomputable abbrev zSc:List Str:=["web"]
theorem sc_places:FnScope ztl zSc (zi zAc):=⟨rfl,rfl,rfl,by decide +kernel,rfl,by decide +kernel,by decide +kernel⟩
theorem zBm (T:Txt K mg) {f_fitted:Addr} {fd_fitted:FuncData} (zVd:FnAt K mg "fitted" zlc z7b f_fitted fd_fitted) (zmd:FnOk P w K mg base CX0 6 f_fitted fd_fitted z7b (spM K 1 zue)) {f_can_move:Addr} {fd_can_move:FuncData} (zye:FnAt K mg "can_move" zHb zUb f_can_move fd_can_move) (zPe:FnOk P w K mg base CX0 4 f_can_move fd_can_move zUb (spM K 4 zAe)) {C_NoFit NE_NoFit fI_NoFit:Addr} {fd_init_NoFit:FuncData} (B_init_NoFit:IniAt K mg "NoFit" "some" "NoFit.__init__" zdb zfb C_NoFit NE_NoFit fI_NoFit fd_init_NoFit) (zEd:FnOk P w K mg base CX0 1 fI_NoFit fd_init_NoFit zfb (spL C_NoFit "some")) {f:Addr} {fd:FuncData} (B:FnAt K mg "places" zAc zSc f fd):FnOk P w K mg base (CXq P w) 7 f fd zSc (spX K 1 zyg):=by
  refine fnX B.fn sc_places rfl (fun cdv A outer s H E hr=>⟨zxg,?_,fun _ _ _ _ e=>e⟩)
  have hu:=hr.units
  exact (zh (zH 1 (mcall zVd zmd hr (za (mv 0) zd)) (hN:=sc_places.nd)) (zh (zrc (zS (zcc hu) (zB (mv 1) zl) zpd) (zm (zVn B_init_NoFit.nm B_init_NoFit.ex zEd B_init_NoFit.bd hr (za (zB (mv 1) zl) zd))) zW) (zh (zH 2 (zkd zd) (hN:=sc_places.nd)) (zh (zIc (zWe T.n_enumerate zBb (zB (mv 0) zl)) (zJl (zLb (z6 3 (hN:=sc_places.nd)) (zLb (z6 4 (hN:=sc_places.nd)) z4g))) (zm (zde (z5e (mv 2) (za (mlc ["nest"] [0,1,3] (zVc (zOo T.n_sorted zEf T.n_set zao (mv 4))) (fun _ _ _ _ _=>(z8 0 (hN:=z7 (by rfl)))) (fun _ _ _ _ _=>(zJj (zQj (mcall zye zPe hr (za (mv 1) (za (zB (mv 2) zl) (za (mv 3) (za (mv 0) zd)))))))) (fun _ _ _ _ _=>(mv 0)) (zjb ⟨_,rfl,rfl⟩ (zjb ⟨_,rfl,rfl⟩ (zjb ⟨_,rfl,rfl⟩ zTc)))) zd))))) (zm (zN (mv 2)))))))
noncomputable abbrev zbb:Stmt:=top 37
noncomputable abbrev zsb:List Str:=["_law_web_here"]
theorem sc__law_heard:FnScope zkg zsb (zi zbb):=⟨rfl,rfl,rfl,by decide +kernel,rfl,by decide +kernel,by decide +kernel⟩
theorem zEh (T:Txt K mg) {f_places:Addr} {fd_places:FuncData} (zzg:FnAt K mg "places" zAc zSc f_places fd_places) (zjh:FnOk P w K mg base (CXq P w) 7 f_places fd_places zSc (spX K 1 zyg)) {f:Addr} {fd:FuncData} (B:FnAt K mg "_law_heard" zbb zsb f fd):FnOk P w K mg base CX0 8 f fd zsb (spM K 1 zmc):=by
  obtain ⟨C_NoFit,n_NoFit,m_NoFit,k_NoFit⟩:=T.x_NoFit
  refine fnM B.fn sc__law_heard rfl (fun cdv A outer s H E hr=>⟨z0c,?_,fun _ _ _ _ _ e=>e⟩)
  have hu:=hr.units
  exact (zh (zH 1 z3c (hN:=sc__law_heard.nd)) (zh (zRr (zbs (zwr 1 zzg zjh hr (za (mv 0) zd) (hN:=sc__law_heard.nd))) (zoq [("NoFit",true)] n_NoFit k_NoFit (T.s_NoFit C_NoFit n_NoFit) (fun _=>(zm (zH 1 z3c (hN:=sc__law_heard.nd)))) zCq)) (zm (zN (mv 1)))))
noncomputable abbrev z8b:Stmt:=top 27
noncomputable abbrev zjc:List Str:=["web","key","nest"]
theorem sc_may_lie:FnScope znk zjc (zi z8b):=⟨rfl,rfl,rfl,by decide +kernel,rfl,by decide +kernel,by decide +kernel⟩
theorem zAk (T:Txt K mg) {f_fitted:Addr} {fd_fitted:FuncData} (zVd:FnAt K mg "fitted" zlc z7b f_fitted fd_fitted) (zmd:FnOk P w K mg base CX0 6 f_fitted fd_fitted z7b (spM K 1 zue)) {f_held_to:Addr} {fd_held_to:FuncData} (zMc:FnAt K mg "held_to" zKb zFb f_held_to fd_held_to) (zGc:FnOk P w K mg base CX0 1 f_held_to fd_held_to zFb (spM K 3 zld)) {f:Addr} {fd:FuncData} (B:FnAt K mg "may_lie" z8b zjc f fd):FnOk P w K mg base CX0 7 f fd zjc (spM K 3 zjd):=by
  refine fnM B.fn sc_may_lie rfl (fun cdv A outer s H E hr=>⟨zCf,?_,fun _ _ _ _ _ e=>e⟩)
  have hu:=hr.units
  exact (zh (zrc (zS (zcc hu) (zB (zB (mv 0) zl) (mv 2)) zl) (zm (zN (z1b (za zpd (za (zkd zd) zd))))) zW) (zh (zH 3 (mcall zVd zmd hr (za (mcall zMc zGc hr (za (mv 0) (za (mv 1) (za (mv 2) zd)))) zd)) (hN:=sc_may_lie.nd)) (zh (zrc (zS (zcc hu) (zB (mv 3) zl) zpd) (zm (zN (z1b (za zpd (za (zB (mv 3) zl) zd))))) zW) (zm (zN (z1b (za zpd (za (mlc ["other"] [1] (zVc (zB (mv 3) zl)) (fun _ _ _ _ _=>(z8 0 (hN:=z7 (by rfl)))) (fun _ _ _ _ _=>(zJj (zS (znj hu) (mv 0) (mv 1)))) (fun _ _ _ _ _=>(mv 0)) (zjb ⟨_,rfl,rfl⟩ zTc)) zd))))))))
noncomputable abbrev z9g:Stmt:=top 38
noncomputable abbrev zFj:List Str:=["_law_script"]
theorem sc_law:FnScope zrs zFj (zi z9g):=⟨rfl,rfl,rfl,by decide +kernel,rfl,by decide +kernel,by decide +kernel⟩
theorem zLq (T:Txt K mg) {f__law_pen:Addr} {fd__law_pen:FuncData} (zEe:FnAt K mg "_law_pen" zIb zQb f__law_pen fd__law_pen) (zLe:FnOk P w K mg base CX0 1 f__law_pen fd__law_pen zQb (spM K 1 zCe)) {f__law_web:Addr} {fd__law_web:FuncData} (zoe:FnAt K mg "_law_web" zGb zRb f__law_web fd__law_web) (zOe:FnOk P w K mg base CX0 3 f__law_web fd__law_web zRb (spM K 2 zme)) {f__law_order:Addr} {fd__law_order:FuncData} (znc:FnAt K mg "_law_order" zeb zob f__law_order fd__law_order) (zCc:FnOk P w K mg base CX0 3 f__law_order fd__law_order zob (spM K 2 zpc)) {f__law_exchanged:Addr} {fd__law_exchanged:FuncData} (zNb:FnAt K mg "_law_exchanged" zO zR f__law_exchanged fd__law_exchanged) (zfc:FnOk P w K mg base CX0 1 f__law_exchanged fd__law_exchanged zR (spM K 3 zOb)) {f__law_heard:Addr} {fd__law_heard:FuncData} (zoc:FnAt K mg "_law_heard" zbb zsb f__law_heard fd__law_heard) (zxc:FnOk P w K mg base CX0 8 f__law_heard fd__law_heard zsb (spM K 1 zmc)) {f_may_lie:Addr} {fd_may_lie:FuncData} (z3d:FnAt K mg "may_lie" z8b zjc f_may_lie fd_may_lie) (zpe:FnOk P w K mg base CX0 7 f_may_lie fd_may_lie zjc (spM K 3 zjd)) {f:Addr} {fd:FuncData} (B:FnAt K mg "law" z9g zFj f fd):FnOk P w K mg base CX0 9 f fd zFj (spM K 1 zfm):=by
  refine fnM B.fn sc_law rfl (fun cdv A outer s H E hr=>⟨zJo,?_,fun _ _ _ _ _ e=>e⟩)
  have hu:=hr.units
  exact (zh (zH 1 (mcall zEe zLe hr (za (mv 0) zd)) (hN:=sc_law.nd)) (zh (zH 2 (mcall zoe zOe hr (za (mv 1) (za zl zd))) (hN:=sc_law.nd)) (zh (zH 3 (mcall znc zCc hr (za (mv 1) (za (zcb zZ T.n_len zKc (za (zB (mv 2) zl) zd)) zd))) (hN:=sc_law.nd)) (zh (zH 4 (mcall znc zCc hr (za (mv 1) (za (zcb zZ T.n_len zKc (za (zB (mv 2) zl) zd)) zd))) (hN:=sc_law.nd)) (zh (zH 5 (mcall zNb zfc hr (za (mv 2) (za (mv 3) (za (mv 4) zd)))) (hN:=sc_law.nd)) (zh (zH 6 (mcall zoc zxc hr (za (mv 2) zd)) (hN:=sc_law.nd)) (zh (zH 7 (mcall zoc zxc hr (za (mv 5) zd)) (hN:=sc_law.nd)) (zh (zrc (zS (znj hu) (zof zDp (mv 6) z3c) (zof zDp (mv 7) z3c)) (zm (zN z5l)) zW) (zh (zIc (zFd T.n_range (za (zcb zZ T.n_len zKc (za (mv 4) zd)) zd)) (z6 8 (hN:=sc_law.nd)) (zh (zrc (zS z5d (mv 6) z3c) (zh (zH 9 (zcb (zuk rfl) T.n_sorted zEf (za (mlc ["_law_nest"] [3] (zVc (zB (mv 6) (mv 8))) (fun _ _ _ _ _=>(z8 0 (hN:=z7 (by rfl)))) (fun _ _ _ _ _=>zIe) (fun _ _ _ _ _=>(zB (mv 1) (mv 0))) (zjb ⟨_,rfl,rfl⟩ zTc)) zd)) (hN:=sc_law.nd)) (zm (zrc (zS (znj hu) (zB (mv 7) (zB (mv 4) (mv 8))) (mv 9)) (zm (zN z5l)) zW))) zW) (zm (zIc (zVc (zB (zB (mv 2) zl) (mv 8))) (z6 10 (hN:=sc_law.nd)) (zh (zH 11 (zB (mcall z3d zpe hr (za (mv 2) (za (mv 8) (za (mv 10) zd)))) zl) (hN:=sc_law.nd)) (zm (zrc (zS (znj hu) (mv 11) (zB (mcall z3d zpe hr (za (mv 5) (za (zB (mv 4) (mv 8)) (za (zB (mv 3) (mv 10)) zd)))) zl)) (zm (zN z5l)) zW))))))) (zm (zN z5l)))))))))))
end
end P
set_option Elab.async false
set_option linter.all false
set_option maxRecDepth 100000
set_option autoImplicit false
namespace P
open PySem PySem.Spec PyProof.Rows L2 M
set_option maxHeartbeats 4000000
theorem zWg {xs:List D} {i:Nat}:M.cutD xs none (some (i:Int))=xs.take i:=by
  unfold M.cutD
  rw [HT.sIx_none,HT.sIx_nat,List.drop_zero,Nat.sub_zero]
  rcases Nat.le_total i xs.length with h | h
  · rw [Nat.min_eq_left h]
  · rw [Nat.min_eq_right h,List.take_length,List.take_of_length_le h]
theorem zHi {xs:List D} {i:Nat}:M.cutD xs (some (i:Int)) none=xs.drop i:=by
  unfold M.cutD
  rw [HT.sIx_none,HT.sIx_nat]
  rcases Nat.le_total i xs.length with h | h
  · rw [Nat.min_eq_left h,List.take_of_length_le (by simp)]
  · rw [Nat.min_eq_right h,Nat.sub_self,List.take_zero,List.drop_eq_nil_of_le h]
structure WebA (L:Int) (rooms:List Int) (ks:List (List Int)):Prop where
  rl:1≤rooms.length∧rooms.length≤10
  rn:∀ r∈rooms,0≤r
  kl:ks.length≤L
  kn:∀ k∈ks,(2≤k.length∧k.length≤3)∧∀ i∈k,0≤i∧i<rooms.length
theorem zLp {ds:List D} {i:Int} (h0:0≤i) (h1:i<ds.length):∃ d,d∈ds∧ds[i.toNat]?=some d∧atI ds i=some d:=by
  have hi:i.toNat<ds.length:=by lia
  refine ⟨ds[i.toNat],List.getElem_mem hi,by simp [hi],?_⟩
  have:=zdd (xs:=ds) (j:=i.toNat) (v:=ds[i.toNat]) (by simp [hi])
  rw [Int.toNat_of_nonneg h0] at this
  exact this
noncomputable def PenC (ns:List Int) (μ:Mem) (l B:Nat):Prop:=∃ (b:Bool) (k:Nat) (r:Int),k≤B∧μ[l]?=some (.lst [.fz (ns.map .int), .bl b, .int (k:Nat), .int r])
section
variable {ns:List Int}
theorem PenC.kb {μ μ':Mem} {L:List Nat} {l B:Nat} (h:PenC ns μ l B) (k:KB L μ μ') (hl:l∉L):PenC ns μ' l B:=by
  obtain ⟨b,j,r,hj,e⟩:=h
  exact ⟨b,j,r,hj,k.at_ _ _ hl e⟩
theorem PenC.app {μ g:Mem} {l B:Nat} (h:PenC ns μ l B):PenC ns (μ ++ g) l B:=h.kb (L:=[]) (KB.refl.app) (by simp)
theorem PenC.lt {μ:Mem} {l B:Nat} (h:PenC ns μ l B):l < μ.length:=by
  obtain ⟨b,j,r,hj,e⟩:=h
  exact zC e
theorem PenC.set {μ:Mem} {l m B:Nat} {o:LObj} (h:PenC ns μ l B) (hne:m≠l):PenC ns (μ.set m o) l B:=by
  obtain ⟨b,j,r,hj,e⟩:=h
  exact ⟨b,j,r,hj,zM e hne⟩
theorem PenC.up {μ:Mem} {l B B':Nat} (h:PenC ns μ l B) (hb:B≤B'):PenC ns μ l B':=by
  obtain ⟨b,j,r,hj,e⟩:=h
  exact ⟨b,j,r,by first|decide|lia,e⟩
theorem z5p {μ:Mem} {Q:D→Mem→Prop} (q:∀ μ',Keep μ μ'→PenC ns μ' μ.length 0→μ'.length = μ.length+1→Q (.loc μ.length) μ'):WF zCe [.fz (ns.map .int)] μ Q:=by
  refine zYb rfl ?_
  show WS zte [some (.fz (ns.map .int))] μ _ _ _ _
  unfold zte
  refine znb (zYf (zc (zb rfl (zc (zZt (zj (zq (zc (zb rfl (zn (zTe rfl (w_c (zOh ⟨_,rfl,fun h=>?_,fun h=>?_⟩)))))))))))))
  · have h0:ns≠[]:=by
      rintro rfl
      simp at h
    obtain ⟨n,ns',rfl⟩:=List.exists_cons_of_ne_nil h0
    refine zj (zj (zj (zb rfl (w_c (zXb rfl (zdd (j:=0) (v:=D.int n) rfl) (w_c (zkk (by first|decide|lia) (w_c (zOh ?_)))))))))
    exact zc (w_c (zc (w_c (zn (q _ .app ⟨_,0,0,Nat.le_refl _,zw⟩ (by simp))))))
  · exact zc (w_c (zc (w_c (zn (q _ .app ⟨_,0,0,Nat.le_refl _,zw⟩ (by simp))))))
theorem zwo {k:Nat} {μ:Mem} {Q:D→Mem→Prop} (hk:k≤1000000) (q:∀ v:Int,Q (.int v) μ):WF z7c [.fz (ns.map .int), .int (k:Nat)] μ Q:=by
  refine zYb rfl ?_
  show WS z8c [some (.fz (ns.map .int)),some (.int (k:Nat)),none,none,none] μ _ _ _ _
  unfold z8c
  have mk:∀ {i:Int},zzh i (k:Nat)=true:=fun {i}=>by
    unfold zzh
    rw [decide_eq_true (show -(2 ^ 64)<((k:Nat):Int)∧((k:Nat):Int)<2 ^ 64 by first|decide|lia)]
    simp
  have rest:∀ c:Int,WS (zV (zVb 3 (zt zgl (zt zxd (zt zYg (zt zxd (zt zxd (zk 2) (zt zYg (fC (.int 40503)) (zk 1))) (fC (.int 1))) (fC (.int 48271))) (zt zYg (zk 1) (zk 1))) (fC (.int 2147483647)))) (zV (zVb 4 (zt zgl (zt zxd (zt zxd (zt zYg (zk 3) (zk 3)) (zt zYg (fC (.int 69621)) (zk 3))) (zt zYg (fC (.int 31)) (zk 1))) (fC (.int 2147483629)))) (zqc (zt zgl (zt zxd (zt zxd (zt zYg (zk 4) (zk 4)) (zt zYg (fC (.int 16807)) (zk 4))) (zk 1)) (fC (.int 1073741789)))))) [some (.fz (ns.map .int)),some (.int (k:Nat)),some (.int c),none,none] μ (fun _ μ'=>Q .non μ') Q (fun _ _=>False) (fun _ _=>False):=fun c=>by
    refine zp (zU (zj (zj (zj (zj (zj (zb rfl (zj (w_c (zb rfl (z1j mk (z2d (w_c (z2d (w_c (z1j (by unfold zzh;simp) (zj (zb rfl (zb rfl (z1j mk (z2d (w_c (zkk (by first|decide|lia) ?_)))))))))))))))))))))))
    have h1:∀ x:Int,0≤x % 2147483647∧x % 2147483647<2147483647:=fun x=>⟨Int.emod_nonneg _ (by first|decide|lia),Int.emod_lt_of_pos _ (by first|decide|lia)⟩
    obtain ⟨a1,b1⟩:=h1 ((c+40503 * (k:Nat)+1) * 48271+(k:Nat) * (k:Nat))
    generalize ((c+40503 * ((k:Nat):Int)+1) * 48271+((k:Nat):Int) * ((k:Nat):Int)) % 2147483647=x at a1 b1
    have mx:∀ {i:Int},zzh i x=true:=fun {i}=>by
      unfold zzh
      rw [decide_eq_true (show -(2 ^ 64)<x∧x<2 ^ 64 by first|decide|lia)]
      simp
    refine zp (zU (zj (zj (zj (zj (zb rfl (zb rfl (z1j mx (zj (w_c (zb rfl (z1j mx (z2d (zj (w_c (zb rfl (z1j mk (z2d (w_c (zkk (by first|decide|lia) ?_))))))))))))))))))))
    have h2:∀ y:Int,0≤y % 2147483629∧y % 2147483629<2147483629:=fun y=>⟨Int.emod_nonneg _ (by first|decide|lia),Int.emod_lt_of_pos _ (by first|decide|lia)⟩
    obtain ⟨a2,b2⟩:=h2 (x * x+69621 * x+31 * (k:Nat))
    generalize (x * x+69621 * x+31 * ((k:Nat):Int)) % 2147483629=y at a2 b2
    have my:∀ {i:Int},zzh i y=true:=fun {i}=>by
      unfold zzh
      rw [decide_eq_true (show -(2 ^ 64)<y∧y<2 ^ 64 by first|decide|lia)]
      simp
    exact znb (zj (zj (zj (zj (zb rfl (zb rfl (z1j my (zj (w_c (zb rfl (z1j my (z2d (zb rfl (z2d (w_c (zkk (by first|decide|lia) (q _)))))))))))))))))
  refine zp (zU (w_c ?_))
  refine zp (zHf (zK (zj (zq (zc (zb rfl (zn (zTe rfl (w_c (zrj ⟨_,rfl,fun h2=>?_,fun h2=>zmb (rest _)⟩))))))))))
  have h2:=of_decide_eq_true h2
  obtain ⟨d,hm,_,ha⟩:=zLp (ds:=ns.map .int) (i:=(k:Nat) % ((ns.map D.int).length:Int)) (Int.emod_nonneg _ (by first|decide|lia)) (Int.emod_lt_of_pos _ h2)
  obtain ⟨v,_,rfl⟩:=List.mem_map.mp hm
  exact zU (zj (zb rfl (zj (zb rfl (zq (zc (zb rfl (zn (zTe rfl (zkk h2 (zXb rfl ha (rest _))))))))))))
theorem zDs {gs:FGs} {P:M.Loc→Mem→Prop} {a b c d:D} {l:Nat} {δ:M.Loc} {μ:Mem} (e:μ[l]?=some (.lst [a,b,c,d])) (h:WGs gs [a,b,c,d] δ μ P):WG (gTL 4 gs) (.loc l) δ μ P:=by
  obtain ⟨δ1,μ1,e1,q⟩:=h
  refine ⟨δ1,μ1,?_,q⟩
  unfold gTL
  dsimp only
  rw [e]
  exact e1
theorem zDg {μ:Mem} {l B:Nat} {s:Int} {Q:D→Mem→Prop} (h:PenC ns μ l B) (hB:B≤1000000) (h0:0<s) (h1:s<1606938044258990275541962092341162602522202993782792835301376)
    (q:∀ v μ',0≤v→v<s→KB [l] μ μ'→μ'.length = μ.length→PenC ns μ' l (B+1)→Q (.int v) μ'):WF zx [.loc l, .int s] μ Q:=by
  obtain ⟨b,k,r,hk,e⟩:=h
  have hlt:=zC e
  refine zYb rfl ?_
  show WS zSd [some (.loc l),some (.int s),none,none,none,none] μ _ _ _ _
  unfold zSd
  refine zp (zhm (zb rfl (zDs e (zvd (zhd (zvd (zhd (zvd (zhd (zvd (zhd (zGi ?_))))))))))))
  refine zp (zhm (zj (zb rfl (w_c (z2d ?_)))))
  refine z3q (zb rfl (w_c ⟨_,_,_,rfl,rfl,e,⟨by first|decide|lia,by simp⟩,?_⟩))
  show WS _ _ (μ.set l (.lst [.fz (ns.map .int), .bl b, .int (((k:Nat):Int)+1), .int r])) _ _ _ _
  have e2:(μ.set l (LObj.lst [.fz (ns.map .int), .bl b, .int (((k:Nat):Int)+1), .int r]))[l]?=some (.lst [.fz (ns.map .int), .bl b, .int ((k+1:Nat):Int), .int r]):=zQ e
  have k2:KB [l] μ (μ.set l (LObj.lst [.fz (ns.map .int), .bl b, .int (((k:Nat):Int)+1), .int r])):=KB.refl.set (.inl (by simp))
  have l2:(μ.set l (LObj.lst [.fz (ns.map .int), .bl b, .int (((k:Nat):Int)+1), .int r])).length = μ.length:=by simp
  generalize μ.set l (LObj.lst [.fz (ns.map .int), .bl b, .int (((k:Nat):Int)+1), .int r]) = μ2 at e2 k2 l2
  refine zp (zHf (zK (zb rfl ⟨_,rfl,fun hb=>?_,fun hb=>zmb ?_⟩)))
  · refine znb (zj (zq (zc (zb rfl (zc (zb rfl (zn ?_))))))) 
    refine zwo (by first|decide|lia) fun v=>zb rfl (zkk h0 ?_)
    exact q _ _ (Int.emod_nonneg _ (by first|decide|lia)) (Int.emod_lt_of_pos _ h0) k2 l2 ⟨b,k+1,r,by first|decide|lia,e2⟩
  · have last:∀ r':Int,WS (zV (zAo (zt z8p (zk 5) (zk 1)) (gAt (zk 0) (fC (.int 3)))) (zqc (zt zgl (zk 5) (zk 1)))) [some (.loc l),some (.int s),some (.fz (ns.map .int)),some (.bl b),some (.int (k:Nat)),some (.int r')] μ2 (fun _ μ'=>Q .non μ') Q (fun _ _=>False) (fun _ _=>False):=fun r'=>by
      refine zp (zhm (zj (zb rfl (zb rfl (z5q h0 h1 ?_)))))
      refine z3q (zb rfl (w_c ⟨_,_,_,rfl,rfl,e2,⟨by first|decide|lia,by simp⟩,?_⟩))
      show WS _ _ (μ2.set l (.lst [.fz (ns.map .int), .bl b, .int ((k+1:Nat):Int), .int (r' / s)])) _ _ _ _
      refine znb (zj (zb rfl (zb rfl (zkk h0 ?_))))
      exact q _ _ (Int.emod_nonneg _ (by first|decide|lia)) (Int.emod_lt_of_pos _ h0) (k2.trans (KB.refl.set (.inl (by simp)))) (by simp [l2]) ⟨b,k+1,r' / s,by first|decide|lia,zQ e2⟩
    refine zp (zHf (zK (zj (zj (zb rfl (w_c (zkk (by first|decide|lia) (w_c (zOh ⟨_,rfl,fun hz=>?_,fun hz=>zmb (last r)⟩)))))))))
    refine zp (zU (w_c ?_))
    refine zHf (zK (zj (zj (zj (zb rfl (w_c (z5q (by first|decide|lia) (by first|decide|lia) (w_c (z2d (zq (zc (zb rfl (zn (zTe rfl (zrj ⟨_,rfl,fun h2=>?_,fun h2=>zmb (last 0)⟩)))))))))))))))
    have h2:=of_decide_eq_true h2
    obtain ⟨d,hm,_,ha⟩:=zLp (ds:=ns.map .int) (i:=((k:Nat):Int) / 60+1) (by first|decide|lia) h2
    obtain ⟨v,_,rfl⟩:=List.mem_map.mp hm
    exact zU (zj (zb rfl (zj (zj (zb rfl (w_c (z5q (by first|decide|lia) (by first|decide|lia) (w_c (z2d (zXb rfl ha (last v)))))))))))
theorem z0l {l s B:Nat} {m:Nat} {μ:Mem} {φ:FE} {δ:M.Loc} {Q:D→Mem→Prop} (hp:PenC ns μ l B)
    (he:∀ (k:Nat) (μ':Mem) (Q':D→Mem→Prop),k<m→PenC ns μ' l (B+k)→KB [l] μ μ'→(∀ v μ'',0≤v→v<(s:Int)→KB [l] μ' μ''→PenC ns μ'' l (B+k+1)→Q' (.int v) μ'')→WE φ (δ.set 0 (some (.int k))) μ' Q')
    (q:∀ (S:List Nat) (μ':Mem),S.length=m→(∀ h∈S,h<s)→KB [l] μ μ'→PenC ns μ' l (B+m)→Q (.loc μ'.length) (μ' ++ [.lst (nat S)])) :
    WL (gN 0) zSk φ yes δ ((List.range m).map fun (k:Nat) => .int k) [] μ Q:=by
  refine zqn (fun i ys μ'=>∃ S:List Nat,ys=nat S∧S.length=i∧(∀ h∈S,h<s)∧KB [l] μ μ'∧PenC ns μ' l (B+i)) ⟨[],rfl,rfl,by simp, .refl,hp⟩ (fun _ _ _ _=>rfl) ?_ ?_
  · rintro i x ys μ' hx ⟨S,rfl,hl,hS,k,p⟩
    obtain ⟨hi,rfl⟩:=zvg hx
    refine zhd (zzt ⟨fun _=>?_,fun hf=>(by cases hf)⟩)
    refine he i μ' _ hi p k fun v μ'' a b k' p'=>?_
    obtain ⟨v,rfl⟩:=Int.eq_ofNat_of_zero_le a
    refine ⟨S ++ [v],by rw [zBe];rfl,by simp [hl],fun h hh=>?_,k.trans k',p'⟩
    rcases List.mem_append.mp hh with hh | hh
    · exact hS h hh
    · rw [List.mem_singleton.mp hh];lia
  · rintro ys μ' ⟨S,rfl,hl,hS,k,p⟩
    simp only [List.length_map,List.length_range] at hl p
    exact q S μ' hl hS k p
end
noncomputable abbrev tn (ns:List Nat):D := .tup (nat ns)
noncomputable abbrev wn (R:List Nat) (K:List (List Nat)):D := .tup [tn R, .tup (K.map tn)]
structure Wb (L:Nat) (R:List Nat) (K:List (List Nat)):Prop where
  rl:1≤R.length∧R.length≤10
  kl:K.length≤L
  kn:∀ k∈K,(2≤k.length∧k.length≤3)∧∀ h∈k,h<R.length
theorem Wb.key {L:Nat} {R:List Nat} {K:List (List Nat)} (w:Wb L R K) {k:Nat} (h:k<K.length):(2≤(K.getD k []).length∧(K.getD k []).length≤3)∧∀ x∈K.getD k [],x<R.length:=by
  have:K.getD k []=K[k]:=by simp [h]
  rw [this]
  exact w.kn _ (List.getElem_mem h)
theorem zRe {R:List Nat} {K:List (List Nat)} {μ:Mem} {Q:D→Mem→Prop} (q:Q (tn R) μ):W2 gIx (wn R K) (.int 0) μ Q:=zXb rfl (show atI [tn R, .tup (K.map tn)] 0=some (tn R) from rfl) q
theorem zod {R:List Nat} {K:List (List Nat)} {μ:Mem} {Q:D→Mem→Prop} (q:Q (.tup (K.map tn)) μ):W2 gIx (wn R K) (.int 1) μ Q:=zXb rfl (show atI [tn R, .tup (K.map tn)] 1=some (.tup (K.map tn)) from rfl) q
theorem zNk {K:List (List Nat)} {k:Nat} {μ:Mem} {Q:D→Mem→Prop} (h:k<K.length) (q:Q (tn (K.getD k [])) μ):W2 gIx (.tup (K.map tn)) (.int k) μ Q :=
  zXb rfl (zdd (v:=tn (K.getD k [])) (by simp [h])) q
theorem zyn {R:List Nat} {k:Nat} {μ:Mem} {Q:D→Mem→Prop} (h:k<R.length) (q:Q (.int (R.getD k 0:Nat)) μ):W2 gIx (tn R) (.int k) μ Q:=zXb rfl (zRd h) q
theorem z4o {xs:List Nat} {i:Nat} {d:Nat} (h:i<xs.length):M.cutD (nat xs) none (some (i:Int)) ++ [D.int (d:Nat)]++M.cutD (nat xs) (some ((i:Int)+1)) none=nat (xs.set i d):=by
  have e1:=zWg (xs:=nat xs) (i:=i)
  have e2:=zHi (xs:=nat xs) (i:=i+1)
  have e3:(((i+1:Nat)):Int)=(i:Int)+1:=by lia
  rw [e3] at e2
  rw [e1,e2]
  show (xs.map _).take i ++ [_]++(xs.map _).drop (i+1)=(xs.set i d).map _
  rw [List.set_eq_take_append_cons_drop,if_pos h,List.map_append,List.map_cons,List.map_take,List.map_drop]
  simp
theorem zDc {ns:List Int} {μ:Mem} {l B s:Nat} {Q:D→Mem→Prop} (h:PenC ns μ l B) (hB:B≤1000000) (h0:0<s) (h1:s≤1000) (q:∀ (v:Nat) (μ':Mem),v<s→KB [l] μ μ'→PenC ns μ' l (B+1)→Q (.int (v:Nat)) μ'):WF zx [.loc l, .int (s:Nat)] μ Q :=
  zDg h hB (by first|decide|lia) (by first|decide|lia) fun v μ' a b k _ p=>by
    obtain ⟨v,rfl⟩:=Int.eq_ofNat_of_zero_le a
    exact q v μ' (by first|decide|lia) k p
theorem nin1 {a l:Nat} (h:l≠a):a∉[l]:=fun hm=>h (List.mem_singleton.mp hm).symm
theorem PenC.new {ns:List Int} {μ:Mem} {l B:Nat} (h:PenC ns μ l B):μ.length∉[l]:=nin1 (Nat.ne_of_lt h.lt)
theorem up100 {B k:Nat} (hB:B≤200000) (hk:k≤100):B+k≤1000000:=by lia
theorem zek {ns:List Int} {l B N m:Nat} {R:List Nat} {x3 x5:Option D} {ν:Mem} {Q:D→Mem→Prop} (hB:B≤200000) (h1:0<N) (hN:N≤10) (hm:0<m) (hm31:m≤31) (hR:R.length=N) (p:PenC ns ν l B) (q:∀ R K μ',Wb (m - 1) R K→KB [l] ν μ'→PenC ns μ' l (B+200)→Q (wn R K) μ') :
    WS (zV (zVb 6 (zQi zF)) (zV (zAh (z2c (ze (zz zx (ze (zk 0) (ze (zk 1) zF))) zF)) (gN 7) z5c) (zqc (zBg (ze (zk 4) (ze (zz zid (ze (zk 6) zF)) zF)))))) [some (.loc l),some (.int (m:Nat)),some (.int (N:Nat)),x3,some (tn R),x5,none,none,none] ν (fun _ μ'=>Q .non μ') Q (fun _ _=>False) (fun _ _=>False):=by
  have hlc:l≠ν.length:=Nat.ne_of_lt p.lt
  refine zp (zU (zYf (zn ?_)))
  have pa:=p.app (g:=[LObj.lst []])
  have ka:KB [l] ν (ν ++ [LObj.lst []]):=KB.refl.app
  have ga:(ν ++ [LObj.lst []])[ν.length]?=some (.lst []):=zw
  generalize ν ++ [LObj.lst []] = νa at pa ka ga
  generalize hcc:ν.length=c at ga hlc
  refine zp (zVe (zMe (zc (zq (zc (zb rfl (zc (zb rfl (zn ?_)))))))))
  refine zDc pa (up100 (k:=0) hB (by decide)) hm (Nat.le_trans hm31 (by decide)) fun t νb b0 kb pb=>zn ⟨_,rfl,Int.natCast_nonneg _,by first|decide|lia,?_⟩
  rw [Int.toNat_natCast]
  have ht:t≤m - 1:=by lia
  have ht30:t≤30:=by lia
  refine zSb (fun i δ μ=>∃ (K:List (List Nat)) (y z:Option D),δ = [some (.loc l),some (.int (m:Nat)),some (.int (N:Nat)),x3,some (tn R),x5,some (.loc c),y,z]∧K.length=i∧(∀ k∈K,(2≤k.length∧k.length≤3)∧∀ h∈k,h<N)∧KB [l] ν μ∧PenC ns μ l (B+1+4 * i)∧μ[c]?=some (.lst (K.map tn)))
    ⟨[],_,_,rfl,rfl,by simp,ka.trans kb,pb,kb.at_ _ _ (nin1 hlc) ga⟩ (fun _ _ _ _=>rfl) ?_ ?_
  · rintro i z0 δ ν1 hz ⟨K,y,z,rfl,hKl,hK,kk,pp,gg⟩
    obtain ⟨hi,rfl⟩:=zvg hz
    have hi30:i<30:=by lia
    have hB1:B+1+4 * i≤300000:=by lia
    clear hz hi ht ht30 hm31 hm b0
    refine zhd ?_
    unfold z5c
    refine zp (zU (zj (w_c (zq (zc (zb rfl (zc (w_c (zn ?_)))))))))
    refine zDc (s:=2) pp (Nat.le_trans hB1 (by decide)) (by decide) (by decide) fun v ν2 b2 k2 p2=>z2d ?_
    have hv:(2:Int)+(v:Nat)=((2+v:Nat):Int):=by lia
    rw [hv]
    have hz:2≤2+v∧2+v≤3:=by lia
    clear hv b2
    generalize 2+v=z at hz
    have g2:=k2.at_ _ _ (nin1 hlc) gg
    refine zfg (zZd (zb rfl ⟨_,_,rfl,g2,?_⟩))
    refine zc (zq (zc (zok (zMe (zc (zb rfl (zn ⟨_,rfl,Int.natCast_nonneg _,by first|decide|lia,zuc (by simp;lia),?_⟩)))))))
    rw [Int.toNat_natCast]
    refine z0l (s:=N) p2 (fun k μ' Q' hk p' k' q'=>?_) fun S ν3 hSl hS k3 p3=>zn (zIf (zr zw) (zn ?_))
    · unfold zdg
      exact zq (zc (zb rfl (zc (zb rfl (zn (zDg p' (by first|decide|lia) (by first|decide|lia) (by first|decide|lia) fun v μ'' a b k'' e'' p''=>q' v μ'' a b k'' p''))))))
    have g3:(ν3 ++ [LObj.lst (nat S)])[c]?=some (.lst (K.map tn)):=zG (k3.at_ _ _ (nin1 hlc) g2)
    refine zGg g3 (by rw [List.length_map];lia) ?_
    refine ⟨K ++ [S],_,_,rfl,by rw [List.length_append,hKl];rfl,fun k hk=>?_,((kk.trans (k2.trans k3)).app).set (.inr (Nat.le_of_eq hcc)),((p3.app).set (Ne.symm hlc)).up (by first|decide|lia),?_⟩
    · rcases List.mem_append.mp hk with hk | hk
      · exact hK k hk
      · rw [List.mem_singleton.mp hk];exact ⟨by rw [hSl];exact hz,hS⟩
    · rw [zQ g3,List.map_append];rfl
  · rintro δ ν1 ⟨K,y,z,rfl,hKl,hK,kk,pp,gg⟩
    simp only [List.length_map,List.length_range] at hKl pp
    refine znb (zDd (zc (zb rfl (zc (zq (zc (zb rfl (zn (zIf (zr gg) (zn ?_))))))))))
    refine q R K ν1 ⟨by rw [hR];exact ⟨h1,hN⟩,by rw [hKl];exact ht,fun k hk=>?_⟩ kk (pp.up (by first|decide|lia))
    rw [hR]
    exact hK k hk
theorem zFn (xs:List D) (lo hi:Option Int):(M.cutD xs lo hi).length≤xs.length:=by
  unfold M.cutD
  rw [List.length_take,List.length_drop]
  exact Nat.le_trans (Nat.min_le_right _ _) (Nat.sub_le _ _)
theorem zSh {ns:List Int} {l B N m:Nat} {ν:Mem} {Q:D→Mem→Prop} (hB:B≤150000) (h1:0<N) (hN:N≤10) (hm:0<m) (hm31:m≤31) (p:PenC ns ν l B) (q:∀ R K μ',Wb (m - 1) R K→KB [l] ν μ'→PenC ns μ' l (B+300)→Q (wn R K) μ') :
    WS (zV (zVb 3 (zt gIx (zQi (ze (fC (.int 2)) (ze (fC (.int 3)) (ze (fC (.int 3)) (ze (fC (.int 10)) zF))))) (zz zx (ze (zk 0) (ze (fC (.int 4)) zF))))) (zV (zVb 4 (zz zid (ze (fLC 1 [0,3] (z2c (ze (zk 2) zF)) (gN 0) zSk zce) zF))) (zV (sIf (z9 (zt gEq (zz zx (ze (zk 0) (ze (fC (.int 8)) zF))) (fC (.int 3)))) (zV (zVb 5 (zz zx (ze (zk 0) (ze (zk 2) zF)))) (zVb 4 (zt zxd (zt zxd (fSl (zk 4) pNo (zSm (zk 5))) (zBg (ze (zt zxd (zt gIx (zk 4) (zk 5)) (zt gIx (zQi (ze (fC (.int 1)) (ze (fC (.int 10)) (ze (zt zpr (fC (.int 10)) (fC (.int 40))) zF)))) (zz zx (ze (zk 0) (ze (fC (.int 3)) zF))))) zF))) (fSl (zk 4) (zSm (zt zxd (zk 5) (fC (.int 1)))) pNo)))) zbc) (zV (zVb 6 (zQi zF)) (zV (zAh (z2c (ze (zz zx (ze (zk 0) (ze (zk 1) zF))) zF)) (gN 7) z5c) (zqc (zBg (ze (zk 4) (ze (zz zid (ze (zk 6) zF)) zF))))))))) [some (.loc l),some (.int (m:Nat)),some (.int (N:Nat)),none,none,none,none,none,none] ν (fun _ μ'=>Q .non μ') Q (fun _ _=>False) (fun _ _=>False):=by
  have hB2:B≤200000:=Nat.le_trans hB (by decide)
  have hN':N≤1000:=Nat.le_trans hN (by decide)
  refine zp (zU (zj (zYf (zc (w_c (zc (w_c (zc (w_c (zc (w_c (zn (zq (zc (zb rfl (zc (w_c (zn ?_))))))))))))))))))
  refine zDc (s:=4) p.app (up100 (k:=0) hB2 (by decide)) (by decide) (by decide) fun x ν3 b3 k3 p3=>?_
  have g3:ν3[ν.length]?=some (.lst [.int 2, .int 3, .int 3, .int 10]):=k3.at_ _ _ p.new zw
  have k3':KB [l] ν ν3:=KB.refl.app.trans k3
  have hx:∃ wd:Nat,atI [D.int 2, .int 3, .int 3, .int 10] (x:Nat)=some (.int wd)∧2≤wd∧wd≤10:=by
    clear g3 k3' k3 p3 p q
    match x,b3 with
    | 0,_=>exact ⟨2,rfl,by decide⟩
    | 1,_=>exact ⟨3,rfl,by decide⟩
    | 2,_=>exact ⟨3,rfl,by decide⟩
    | 3,_=>exact ⟨10,rfl,by decide⟩
  obtain ⟨wd,ha,hw⟩:=hx
  refine zXb (zr g3) ha ?_
  clear g3 ha b3
  refine zp (zU (zq (zc (zok (zMe (zc (zb rfl (zn ⟨_,rfl,Int.natCast_nonneg _,by first|decide|lia,zuc (by simp;lia),?_⟩))))))))
  rw [Int.toNat_natCast]
  refine z0l (s:=wd) (m:=N) p3 (fun k μ' Q' hk p' k' q'=>?_) fun R ν4 hRl hR k4 p4=>zn (zIf (zr zw) ?_)
  · unfold zce
    exact zq (zc (zb rfl (zc (zb rfl (zn (zDg p' (by first|decide|lia) (by first|decide|lia) (by first|decide|lia) fun v μ'' a b k'' e'' p''=>q' v μ'' a b k'' p''))))))
  have k4':=(k3'.trans k4).app (g:=[.lst (nat R)])
  have p4':=(p4.app (g:=[.lst (nat R)])).up (B':=B+20) (by first|decide|lia)
  clear k4 p4 k3 p3 hw hR
  generalize ν4 ++ [LObj.lst (nat R)] = ν5 at k4' p4'
  refine zp (zHf (zK (zj (zq (zc (zb rfl (zc (w_c (zn ?_)))))))))
  refine zDc (s:=8) p4' (up100 (k:=20) hB2 (by decide)) (by decide) (by decide) fun v6 ν6 b6 k6 p6=>?_
  refine w_c (zOh ⟨_,rfl,fun _=>?_,fun _=>zmb (zek (B:=B+21) (Nat.le_trans (Nat.add_le_add_right hB 21) (by decide)) h1 hN hm hm31 hRl p6 fun R K μ' w k p'=>q R K μ' w (k4'.trans (k6.trans k)) (p'.up (by first|decide|lia)))⟩)
  refine zp (zU (zq (zc (zb rfl (zc (zb rfl (zn ?_)))))))
  refine zDc p6 (up100 (k:=21) hB2 (by decide)) h1 hN' fun i ν7 b7 k7 p7=>?_
  have hiR:i<R.length:=by rw [hRl];exact b7
  refine zU (zj (zj (zYs (zb rfl (zvk (zlg (zb rfl ⟨_,rfl,_,rfl,?_⟩)))))))
  refine zDd (zc (zj (zj (zb rfl (zb rfl (zXb rfl (zRd hiR) (zj (zYf (zc (w_c (zc (w_c (zc (zj (w_c (w_c (zKt (by decide) (by decide) (by decide) (zn (zq (zc (zb rfl (zc (w_c (zn ?_))))))))))))))))))))))))
  refine zDc (s:=3) p7.app (up100 (k:=22) hB2 (by decide)) (by decide) (by decide) fun y ν8 b8 k8 p8=>?_
  have g8:ν8[ν7.length]?=some (.lst [.int 1, .int 10, .int ((10:Int) ^ Int.toNat 40)]):=k8.at_ _ _ p7.new zw
  have hy:∃ u:Nat,atI [D.int 1,D.int 10,D.int ((10:Int) ^ Int.toNat 40)] (y:Nat)=some (.int u):=by
    clear g8 k8 p8 k7 p7 k6 p6 k4' p4' q
    match y,b8 with
    | 0,_=>exact ⟨1,rfl⟩
    | 1,_=>exact ⟨10,rfl⟩
    | 2,_=>exact ⟨10 ^ 40,rfl⟩
  obtain ⟨u,hy⟩:=hy
  refine zXb (zr g8) hy (z2d (zn ?_))
  have c1:=zFn (nat R) none (some (i:Int))
  have c2:=zFn (nat R) (some ((i:Int)+1)) none
  rw [List.length_map,hRl] at c1 c2
  clear hy g8 b8 b7 b6
  refine zMl (by simp;lia) (zYs (zb rfl (zlg (zj (zb rfl (w_c (z2d ⟨_,rfl,zvk ⟨_,rfl,?_⟩⟩)))))))
  refine zMl (by simp;lia) ?_
  have ed:((R.getD i 0:Nat):Int)+(u:Nat)=((R.getD i 0+u:Nat):Int):=(Int.natCast_add _ _).symm
  rw [ed,z4o hiR]
  exact zek (B:=B+23) (Nat.le_trans (Nat.add_le_add_right hB 23) (by decide)) h1 hN hm hm31 (by rw [List.length_set];exact hRl) p8 fun R K μ' w k p'=>q R K μ' w ((k4'.trans (k6.trans k7)).app.trans (k8.trans k)) (p'.up (by first|decide|lia))
theorem z6p {ns:List Int} {μ:Mem} {l B:Nat} {m:Nat} {Q:D→Mem→Prop} (h:PenC ns μ l B) (hB:B≤100000) (hm:0<m∧m≤31)
    (q:∀ R K μ',Wb (m - 1) R K→KB [l] μ μ'→PenC ns μ' l (B+1000)→Q (wn R K) μ'):WF zme [.loc l, .int (m:Nat)] μ Q:=by
  refine zYb rfl ?_
  show WS zse [some (.loc l),some (.int (m:Nat)),none,none,none,none,none,none,none] μ _ _ _ _
  unfold zse
  have hB2:B≤200000:=Nat.le_trans hB (by decide)
  refine zp (zU (zj (w_c (zq (zc (zb rfl (zc (w_c (zn ?_)))))))))
  refine zDc (s:=6) h (up100 (k:=0) hB2 (by decide)) (by decide) (by decide) fun n0 μ1 b1 k1 p1=>z2d ?_
  refine zp (zHf (zK (zj (zq (zc (zb rfl (zc (w_c (zn ?_)))))))))
  refine zDc (s:=8) p1 (up100 (k:=1) hB2 (by decide)) (by decide) (by decide) fun v2 μ2 b2 k2 p2=>w_c (zOh ⟨_,rfl,fun _=>?_,fun _=>zmb ?_⟩)
  · refine zU (zj (w_c (zq (zc (zb rfl (zc (w_c (zn ?_))))))))
    refine zDc (s:=6) p2 (up100 (k:=2) hB2 (by decide)) (by decide) (by decide) fun n1 μ3 b3 k3 p3=>z2d ?_
    rw [show (5:Int)+(n1:Nat)=((5+n1:Nat):Int) from (Int.natCast_add 5 n1).symm]
    exact zSh (B:=B+3) (Nat.le_trans (Nat.add_le_add_right hB 3) (by decide)) (by first|decide|lia) (by first|decide|lia) hm.1 hm.2 p3 fun R K μ' w k p'=>q R K μ' w (k1.trans (k2.trans (k3.trans k))) (p'.up (by first|decide|lia))
  · rw [show (1:Int)+(n0:Nat)=((1+n0:Nat):Int) from (Int.natCast_add 1 n0).symm]
    exact zSh (B:=B+2) (Nat.le_trans (Nat.add_le_add_right hB 2) (by decide)) (by first|decide|lia) (by first|decide|lia) hm.1 hm.2 p2 fun R K μ' w k p'=>q R K μ' w (k1.trans (k2.trans k)) (p'.up (by first|decide|lia))
structure RightL (R:List Nat) (K:List (List Nat)) (lay:List (Option Nat)):Prop where
  len:lay.length=K.length
  home:∀ k h,lay[k]?=some (some h)→h∈K.getD k []
  room:∀ h,lay.count (some h)≤R.getD h 0
noncomputable def zLh (K:List (List Nat)) (S:List Nat):List Nat:=S.flatMap fun k=>K.getD k []
noncomputable def z1d (n:Nat) (K:List (List Nat)) (S:List Nat):List Nat:=(List.range n).filter fun h=>decide (∃ k∈S,h∈K.getD k [])
noncomputable def zep (R:List Nat) (N:List Nat):Nat:=(N.map fun h=>R.getD h 0).sum
theorem zae {L:Nat} {R:List Nat} {K:List (List Nat)} {S:List Nat} (w:Wb L R K) (h:Nat):h∈z1d R.length K S↔∃ k∈S,h∈K.getD k []:=by
  unfold z1d
  rw [List.mem_filter,List.mem_range,decide_eq_true_iff]
  constructor
  · exact fun q=>q.2
  · rintro ⟨k,hk,hh⟩
    refine ⟨?_,k,hk,hh⟩
    rw [List.getD_eq_getElem?_getD] at hh
    cases e:K[k]? with
    | none=>rw [e] at hh;simp at hh
    | some x=>rw [e] at hh;exact (w.kn x (List.mem_of_getElem? e)).2 h hh
theorem zAp {n:Nat} {K:List (List Nat)} {S:List Nat}:∀ h∈z1d n K S,h<n:=fun h hh=>by
  have:=(List.mem_filter.mp hh).1
  simpa using this
theorem zfp (n:Nat) (K:List (List Nat)) (S:List Nat):(z1d n K S).Pairwise (· < ·):=List.pairwise_lt_range.filter _
theorem z8j (n:Nat) (K:List (List Nat)) (S:List Nat):(z1d n K S).length≤n:=by
  unfold z1d
  refine Nat.le_trans (List.length_filter_le _ _) ?_
  simp
theorem zkh {L:Nat} {R:List Nat} {K:List (List Nat)} (w:Wb L R K):∀ S:List Nat,(zLh K S).length≤3 * S.length
  | []=>by simp [zLh]
  | k :: S=>by
    have ih:=zkh w S
    have h1:(K.getD k []).length≤3:=by
      rw [List.getD_eq_getElem?_getD]
      cases e:K[k]? with
      | none=>simp
      | some x=>exact (w.kn x (List.mem_of_getElem? e)).1.2
    unfold zLh at ih ⊢
    rw [List.flatMap_cons,List.length_append,List.length_cons]
    lia
noncomputable def znd (R:List Nat) (K:List (List Nat)) (S:List Nat):Bool:=decide (zep R (z1d R.length K S)<S.length)
theorem z8l {L:Nat} {R:List Nat} {K:List (List Nat)} {S:List Nat} {n:Nat} {μ:Mem} {Q:D→Mem→Prop} (w:Wb L R K) (hn:μ[n]?=some (.lst (nat S))) (hS:∀ k∈S,k<K.length) (hl:S.length≤1000)
    (q:∀ (l:Nat) (μ':Mem),Keep μ μ'→μ.length≤l→μ'[l]?=some (.lst (nat (z1d R.length K S)))→Q (.loc l) μ'):WF zhe [wn R K, .loc n] μ Q:=by
  refine zYb rfl ?_
  show WS zre [some (wn R K),some (.loc n),none,none] μ _ _ _ _
  unfold zre
  (refine zp ?_;refine zU ?_;refine zYf ?_;refine zn ?_;refine zp ?_;refine zVe ?_)
  have hnl:=zC hn
  refine zXe (zb rfl (.inr (.inr ⟨n,_,rfl,zG hn,?_⟩)))
  refine zSb (fun m δ μ'=>∃ a:Option D,δ = [some (wn R K),some (.loc n),some (.loc μ.length),a]∧Keep μ μ'∧μ'[μ.length]?=some (.lst (nat (zLh K (S.take m))))) ⟨none,rfl, .app,by simp [zLh]⟩ (fun m δ μ' ⟨a,_,k,_⟩=>zlb hn k) ?_ ?_
  · rintro m x δ μ1 hx ⟨a,rfl,k,hg⟩
    rw [List.getElem?_map] at hx
    cases hy:S[m]? with
    | none=>rw [hy] at hx;cases hx
    | some kk =>
      rw [hy] at hx
      cases hx
      have hkk:=hS kk (List.mem_of_getElem? hy)
      (refine zhd ?_)
      unfold zag
      (refine zfg ?_;refine zZd ?_;refine zb rfl ?_)
      refine ⟨μ.length,_,rfl,hg,?_⟩
      (refine zc ?_;refine zj ?_;refine zj ?_;refine zb rfl ?_;refine w_c ?_)
      refine zod ?_
      (refine zb rfl ?_)
      refine zNk hkk ?_
      (refine zn ?_)
      have hfl:=zkh w (S.take m)
      have hks:=(w.key hkk).1
      have htl:(S.take m).length≤1000:=Nat.le_trans (by simp;lia) hl
      refine zHs hg (by simp only [List.length_map];lia) ?_
      refine ⟨_,rfl,fun i o e=>zM (k i o e) (Nat.ne_of_gt (zC e)),?_⟩
      rw [zQ hg]
      have ht:S.take (m+1)=S.take m ++ [kk]:=by rw [List.take_succ,hy];rfl
      have e2:zLh K (S.take (m+1))=zLh K (S.take m)++K.getD kk []:=by
        unfold zLh
        rw [ht,List.flatMap_append]
        simp
      rw [e2,zBe]
  · rintro δ μ1 ⟨a,rfl,k,hg⟩
    rw [List.length_map,List.take_length] at hg
    have hmem:∀ i:Int,i∈(z1d R.length K S).map (fun (k:Nat)=>(k:Int))↔i∈(zLh K S).map (fun (k:Nat)=>(k:Int)):=fun i=>by
      simp only [List.mem_map]
      constructor
      · rintro ⟨h,hh,rfl⟩
        obtain ⟨k,hk,hh⟩:=(zae w h).mp hh
        exact ⟨h,List.mem_flatMap.mpr ⟨k,hk,hh⟩,rfl⟩
      · rintro ⟨h,hh,rfl⟩
        obtain ⟨k,hk,hh⟩:=List.mem_flatMap.mp hh
        exact ⟨h,(zae w h).mpr ⟨k,hk,hh⟩,rfl⟩
    have hpw:((z1d R.length K S).map (fun (k:Nat)=>(k:Int))).Pairwise (· < ·):=by
      rw [List.pairwise_map]
      exact (zfp R.length K S).imp fun h=>by lia
    have hp:=zxi hmem hpw
    have hsort:=zhj hmem hpw
    have hfl:=zkh w S
    have hrl:=w.rl
    have hnl2:=z8j R.length K S
    refine znb (zZp (zb rfl ⟨_,(zLh K S).map (fun (k:Nat)=>(k:Int)),rfl,by rw [hg,List.map_map];rfl,by rw [List.length_map];lia,by rw [hp.length_eq,List.length_map];lia,?_⟩))
    rw [hsort,List.map_map]
    exact q _ _ k.to k.len zw
theorem zkn {R:List Nat} {K:List (List Nat)} {S:List Nat} {n:Nat} {μ:Mem} {Q:D→Mem→Prop} (hn:μ[n]?=some (.lst (nat S))) (hS:∀ k∈S,k<R.length) (hl:S.length≤1000)
    (q:∀ (μ':Mem),Keep μ μ'→Q (.int (zep R S:Nat)) μ'):WF z8e [wn R K, .loc n] μ Q:=by
  refine zYb rfl ?_
  show WS zif [some (wn R K),some (.loc n)] μ _ _ _ _
  unfold zif
  (refine znb ?_;refine zq ?_;refine zc ?_;refine zok ?_)
  refine zXe (zb rfl (.inr (.inr ⟨n,_,rfl,hn,zuc (by simp;lia),?_⟩)))
  refine zhf (fun (k:Nat)=>D.int k) S (fun k => .int (R.getD k 0:Nat)) (fun μ' k=>zlb hn k) (fun k hk μ' kp=>?_) (fun μ' kp=>?_)
  · have hkk:=hS k hk
    (refine zhd ?_)
    unfold zRg
    (refine zj ?_;refine zj ?_;refine zb rfl ?_;refine w_c ?_)
    refine zRe ?_
    (refine zb rfl ?_)
    exact zyn hkk ⟨rfl,kp,kp⟩
  · (refine zn ?_)
    refine zxs (S:=S.map fun k=>R.getD k 0) (by rw [zw,zKf]) ?_
    exact q _ kp.to
theorem z4l {L:Nat} {R:List Nat} {K:List (List Nat)} {S:List Nat} {n:Nat} {μ:Mem} {Q:D→Mem→Prop} (w:Wb L R K) (hn:μ[n]?=some (.lst (nat S))) (hS:∀ k∈S,k<K.length) (hl:S.length≤1000)
    (q:∀ μ',Keep μ μ'→Q (.bl (znd R K S)) μ'):WF zie [wn R K, .loc n] μ Q:=by
  refine zYb rfl ?_
  show WS zxe [some (wn R K),some (.loc n)] μ _ _ _ _
  unfold zxe
  (refine znb ?_;refine zj ?_;refine zq ?_;refine zc ?_;refine zb rfl ?_;refine zc ?_;refine zq ?_;refine zc ?_;refine zb rfl ?_;refine zc ?_;refine zb rfl ?_;refine zn ?_)
  refine z8l w hn hS hl fun l μ1 k1 hl1 g1=>?_
  (refine zn ?_)
  have hnl:=z8j R.length K S
  have hrl:=w.rl
  refine zkn g1 zAp (by first|decide|lia) fun μ2 k2=>?_
  (refine zq ?_;refine zc ?_;refine zb rfl ?_;refine zn ?_)
  refine zTe (zr (k2 _ _ (k1 _ _ hn))) ?_
  (refine zrj ?_)
  have:=q μ2 (k1.trans k2)
  unfold znd at this
  simp only [List.length_map,Int.ofNat_lt]
  exact this
theorem zEk (lay:List (Option Nat)) (a:Option Nat):lay.count a=((List.range lay.length).filter fun k=>decide (lay.getD k none=a)).length:=by
  have e:lay=(List.range lay.length).map fun k=>lay.getD k none:=by
    refine List.ext_getElem? fun i=>?_
    by_cases h:i<lay.length
    · simp [h]
    · simp [h]
  conv=>lhs;rw [e]
  rw [List.count,List.countP_map,List.countP_eq_length_filter]
  congr 1
  refine List.filter_congr fun k _=>?_
  simp only [Function.comp]
  exact Bool.beq_eq_decide_eq _ _
noncomputable def lyN (lay:List (Option Nat)) (N:List Nat):List Nat:=(List.range lay.length).filter fun k=>decide (∃ h∈N,lay.getD k none=some h)
theorem lyN_mem {lay:List (Option Nat)} {N:List Nat} {k:Nat}:k∈lyN lay N↔∃ h∈N,lay.getD k none=some h:=by
  unfold lyN
  rw [List.mem_filter,List.mem_range,decide_eq_true_iff]
  constructor
  · exact fun q=>q.2
  · rintro ⟨h,hh,e⟩
    refine ⟨?_,h,hh,e⟩
    refine Nat.lt_of_not_le fun hle=>?_
    rw [List.getD_eq_getElem?_getD,List.getElem?_eq_none hle] at e
    cases e
theorem zJr (lay:List (Option Nat)) (N:List Nat):(lyN lay N).Nodup:=List.nodup_range.sublist List.filter_sublist
theorem zyf {α:Type} (p q:α→Bool) (h:∀ x,p x=true→q x=false):∀ l:List α,(l.filter fun x=>p x || q x).length=(l.filter p).length+(l.filter q).length
  | []=>rfl
  | x :: l=>by
    have ih:=zyf p q h l
    cases hp:p x with
    | true=>simp [List.filter_cons,hp,h x hp,ih];lia
    | false =>
      cases hq:q x with
      | true=>simp [List.filter_cons,hp,hq,ih];lia
      | false=>simp [List.filter_cons,hp,hq,ih]
theorem z1k {lay:List (Option Nat)}:∀ {N:List Nat},N.Nodup→(lyN lay N).length=(N.map fun h=>lay.count (some h)).sum
  | [],_=>by simp [lyN]
  | h :: N,nd=>by
    obtain ⟨h1,h2⟩:=List.nodup_cons.mp nd
    rw [List.map_cons,List.sum_cons,← z1k h2,zEk]
    have:=zyf (fun k=>decide (lay.getD k none=some h)) (fun k=>decide (∃ g∈N,lay.getD k none=some g)) (fun k hk=>by
      have hk:=of_decide_eq_true hk
      refine decide_eq_false ?_
      rintro ⟨g,hg,e⟩
      rw [hk] at e
      cases e
      exact h1 hg) (List.range lay.length)
    rw [show lyN lay N=(List.range lay.length).filter fun k=>decide (∃ g∈N,lay.getD k none=some g) from rfl,← this]
    unfold lyN
    congr 1
    refine List.filter_congr fun k _=>?_
    rw [← Bool.decide_or]
    refine decide_eq_decide.mpr ?_
    simp only [List.mem_cons]
    constructor
    · rintro ⟨g,rfl | hg,e⟩
      · exact .inl e
      · exact .inr ⟨g,hg,e⟩
    · rintro (e | ⟨g,hg,e⟩)
      · exact ⟨h, .inl rfl,e⟩
      · exact ⟨g, .inr hg,e⟩
theorem zZm {α:Type} {f g:α→Nat}:∀ {l:List α},(∀ x∈l,f x≤g x)→(l.map f).sum≤(l.map g).sum
  | [],_=>Nat.le_refl _
  | x :: l,h=>by
    rw [List.map_cons,List.map_cons,List.sum_cons,List.sum_cons]
    have h1:=h x List.mem_cons_self
    have h2:=zZm (l:=l) fun y hy=>h y (List.mem_cons_of_mem _ hy)
    lia
theorem zud {α:Type} [DecidableEq α]:∀ {l m:List α},l.Nodup→(∀ x∈l,x∈m)→l.length≤m.length
  | [],_,_,_=>Nat.zero_le _
  | x :: l,m,nd,h=>by
    obtain ⟨h1,h2⟩:=List.nodup_cons.mp nd
    have hx:=h x List.mem_cons_self
    have ih:=zud (l:=l) (m:=m.erase x) h2 fun y hy=>(List.mem_erase_of_ne (by rintro rfl;exact h1 hy)).mpr (h y (List.mem_cons_of_mem _ hy))
    rw [List.length_erase_of_mem hx] at ih
    have:=List.length_pos_of_mem hx
    rw [List.length_cons]
    lia
theorem z1m {R:List Nat} {K:List (List Nat)} {lay:List (Option Nat)} {T:List Nat} {L:Nat} (w:Wb L R K) (r:RightL R K lay) (hd:T.Nodup) (hT:∀ k∈T,k<K.length) (hall:∀ k∈T,(lay.getD k none).isSome=true):znd R K T=false:=by
  refine decide_eq_false ?_
  have hN:(z1d R.length K T).Nodup:=List.nodup_range.sublist List.filter_sublist
  have h1:T.length≤(lyN lay (z1d R.length K T)).length:=zud hd fun k hk=>by
    rw [lyN_mem]
    have hs:=hall k hk
    cases e:lay.getD k none with
    | none=>rw [e] at hs;cases hs
    | some h =>
      refine ⟨h,?_,rfl⟩
      rw [zae w]
      refine ⟨k,hk,r.home k h ?_⟩
      have hkl:k<lay.length:=by rw [r.len];exact hT k hk
      simp [hkl] at e
      simp [hkl,e]
  rw [z1k hN] at h1
  have h2:((z1d R.length K T).map fun h=>lay.count (some h)).sum≤zep R (z1d R.length K T):=zZm fun h _=>r.room h
  lia
structure Shut (R:List Nat) (K:List (List Nat)) (lay:List (Option Nat)) (C:List Nat):Prop where
  keys:∀ k∈C,k<K.length
  full:∀ k∈C,∀ h∈K.getD k [],R.getD h 0≤lay.count (some h)
  lies:∀ k∈C,∀ h∈K.getD k [],∀ o,lay.getD o none=some h→o∈C
theorem Shut.nil {R:List Nat} {K:List (List Nat)} {lay:List (Option Nat)}:Shut R K lay []:=⟨by simp,by simp,by simp⟩
theorem Shut.app {R:List Nat} {K:List (List Nat)} {lay:List (Option Nat)} {C E:List Nat} (a:Shut R K lay C) (b:Shut R K lay E):Shut R K lay (C++E):=by
  refine ⟨fun k hk=>?_,fun k hk=>?_,fun k hk h hh o e=>?_⟩
  · rcases List.mem_append.mp hk with hk | hk
    · exact a.keys k hk
    · exact b.keys k hk
  · rcases List.mem_append.mp hk with hk | hk
    · exact a.full k hk
    · exact b.full k hk
  · rcases List.mem_append.mp hk with hk | hk
    · exact List.mem_append_left _ (a.lies k hk h hh o e)
    · exact List.mem_append_right _ (b.lies k hk h hh o e)
theorem Shut.congr {R:List Nat} {K:List (List Nat)} {lay:List (Option Nat)} {C E:List Nat} (a:Shut R K lay C) (h:∀ k,k∈E↔k∈C):Shut R K lay E :=
  ⟨fun k hk=>a.keys k ((h k).mp hk),fun k hk=>a.full k ((h k).mp hk),fun k hk g hg o e=>(h o).mpr (a.lies k ((h k).mp hk) g hg o e)⟩
theorem z3h {R:List Nat} {K:List (List Nat)} {lay:List (Option Nat)} {C:List Nat} {L:Nat} (w:Wb L R K) (s:Shut R K lay C) (hl:lay.length=K.length) {k0:Nat} (hk0:k0∈C) (hn:lay.getD k0 none=none):znd R K C=true:=by
  refine decide_eq_true ?_
  have hN:(z1d R.length K C).Nodup:=List.nodup_range.sublist List.filter_sublist
  have h1:zep R (z1d R.length K C)≤((z1d R.length K C).map fun h=>lay.count (some h)).sum:=zZm fun h hh=>by
    obtain ⟨k,hk,hm⟩:=(zae w h).mp hh
    exact s.full k hk h hm
  rw [← z1k hN] at h1
  have h2:(k0 :: lyN lay (z1d R.length K C)).length≤C.length:=zud (List.nodup_cons.mpr ⟨fun hm=>(by
    obtain ⟨h,_,e⟩:=lyN_mem.mp hm
    rw [hn] at e
    cases e),zJr _ _⟩) fun x hx=>by
    rcases List.mem_cons.mp hx with rfl | hx
    · exact hk0
    · obtain ⟨h,hh,e⟩:=lyN_mem.mp hx
      obtain ⟨k,hk,hm⟩:=(zae w h).mp hh
      exact s.lies k hk h hm x e
  rw [List.length_cons] at h2
  lia
structure RowOk (K:List (List Nat)) (lay:List (Option Nat)) (key:Nat) (row:List (Nat×Nat)):Prop where
  first:∃ h r,row=(key,h) :: r
  mem:∀ p∈row,p.1<K.length∧p.2∈K.getD p.1 []∧lay.getD p.1 none≠some p.2
  link:∀ i p q,row[i]?=some p→row[i+1]?=some q→lay.getD q.1 none=some p.2
  nd:(row.map (·.1)).Nodup
noncomputable def zbd (lay:List (Option Nat)) (row:List (Nat×Nat)):List (Option Nat):=row.foldl (fun l p=>l.set p.1 (some p.2)) lay
theorem zkf (row:List (Nat×Nat)):∀ lay:List (Option Nat),(zbd lay row).length=lay.length:=by
  induction row with
  | nil=>intro lay;rfl
  | cons p row ih=>intro lay;show (zbd (lay.set p.1 (some p.2)) row).length=_;rw [ih];simp
theorem z9h (lay:List (Option Nat)) (row:List (Nat×Nat)) (p:Nat×Nat):zbd lay (row ++ [p])=(zbd lay row).set p.1 (some p.2):=by
  unfold zbd
  rw [List.foldl_append]
  rfl
theorem zUc {row:List (Nat×Nat)}:∀ {lay:List (Option Nat)} {k:Nat},k∉row.map (·.1)→(zbd lay row).getD k none=lay.getD k none:=by
  induction row with
  | nil=>intro lay k _;rfl
  | cons p row ih =>
    intro lay k hk
    rw [List.map_cons,List.mem_cons,not_or] at hk
    show (zbd (lay.set p.1 (some p.2)) row).getD k none=_
    rw [ih hk.2]
    simp only [List.getD_eq_getElem?_getD]
    rw [List.getElem?_set_ne (Ne.symm hk.1)]
theorem zwg {row:List (Nat×Nat)} (nd:(row.map (·.1)).Nodup):∀ {lay:List (Option Nat)} {p:Nat×Nat},p∈row→p.1<lay.length→(zbd lay row).getD p.1 none=some p.2:=by
  induction row with
  | nil=>intro lay p hp;cases hp
  | cons q row ih =>
    intro lay p hp hl
    rw [List.map_cons,List.nodup_cons] at nd
    show (zbd (lay.set q.1 (some q.2)) row).getD p.1 none=_
    rcases List.mem_cons.mp hp with rfl | hp
    · rw [zUc nd.1]
      simp [hl]
    · exact ih nd.2 hp (by simpa using hl)
theorem count_set {lay:List (Option Nat)} {k:Nat} {a b:Option Nat} (hk:k<lay.length) (ha:lay.getD k none=a) (x:Option Nat):(lay.set k b).count x+(if a=x then 1 else 0)=lay.count x+(if b=x then 1 else 0):=by
  have e1:lay=lay.take k++a :: lay.drop (k+1):=by
    have:lay[k]=a:=by simpa [hk] using ha
    rw [← this,List.getElem_cons_drop,List.take_append_drop]
  have e2:lay.set k b=lay.take k++b :: lay.drop (k+1):=by rw [List.set_eq_take_append_cons_drop,if_pos hk]
  rw [e2]
  conv=>rhs;rw [e1]
  rw [List.count_append,List.count_append,List.count_cons,List.count_cons]
  simp only [beq_iff_eq]
  split <;> split <;> lia
theorem zyh {K:List (List Nat)} {lay:List (Option Nat)} {key:Nat} {row:List (Nat×Nat)} (r:RowOk K lay key row) (hl:lay.length=K.length) (hkey:lay.getD key none=none):∀ i,i<row.length→∀ h:Nat,(zbd lay (row.take (i+1))).count (some h)=lay.count (some h)+(if (row.getD i (0,0)).2=h then 1 else 0):=by
  intro i
  induction i with
  | zero =>
    intro hi h
    obtain ⟨h0,r0,e⟩:=r.first
    have hm:=r.mem (key,h0) (by rw [e];simp)
    subst e
    have:=count_set (lay:=lay) (k:=key) (b:=some h0) (by rw [hl];exact hm.1) hkey (some h)
    show (lay.set key (some h0)).count (some h)=_
    simpa using this
  | succ i ih =>
    intro hi h
    have ih:=ih (by first|decide|lia) h
    have hp:row[i]?=some row[i]:=by simp [show i<row.length by lia]
    have hq:row[i+1]?=some row[i+1]:=by simp [hi]
    have hlink:=r.link i _ _ hp hq
    have hm:=r.mem row[i+1] (List.getElem_mem hi)
    have et:row.take (i+1+1)=row.take (i+1) ++ [row[i+1]]:=by simp
    have hnot:(row[i+1]).1∉(row.take (i+1)).map (·.1):=by
      intro hmem
      have nd:=r.nd
      rw [← List.take_append_drop (i+1) row,List.map_append,List.nodup_append] at nd
      refine nd.2.2 _ hmem _ ?_ rfl
      refine List.mem_map.mpr ⟨row[i+1],?_,rfl⟩
      rw [List.drop_eq_getElem_cons hi]
      exact List.mem_cons_self
    have hcur:(zbd lay (row.take (i+1))).getD (row[i+1]).1 none=some (row[i]).2:=by rw [zUc hnot];exact hlink
    rw [et,z9h]
    have:=count_set (lay:=zbd lay (row.take (i+1))) (k:=(row[i+1]).1) (b:=some (row[i+1]).2) (by rw [zkf,hl];exact hm.1) hcur (some h)
    have e1:row.getD i (0,0)=row[i]:=by simp [show i<row.length by lia]
    have e2:row.getD (i+1) (0,0)=row[i+1]:=by simp [hi]
    rw [e1] at ih
    rw [e2]
    simp only [Option.some.injEq] at this
    lia
theorem zUe {R:List Nat} {K:List (List Nat)} {lay:List (Option Nat)} {key:Nat} {row:List (Nat×Nat)} (rt:RightL R K lay) (r:RowOk K lay key row) (hkey:lay.getD key none=none) (hroom:lay.count (some (row.getD (row.length - 1) (0,0)).2)<R.getD (row.getD (row.length - 1) (0,0)).2 0):RightL R K (zbd lay row):=by
  have hpos:0<row.length:=by
    obtain ⟨h,q,e⟩:=r.first
    rw [e];simp
  refine ⟨by rw [zkf];exact rt.len,fun k h e=>?_,fun h=>?_⟩
  · have e':(zbd lay row).getD k none=some h:=by rw [List.getD_eq_getElem?_getD,e];rfl
    by_cases hk:k∈row.map (·.1)
    · obtain ⟨p,hp,rfl⟩:=List.mem_map.mp hk
      have hm:=r.mem p hp
      rw [zwg r.nd hp (by rw [rt.len];exact hm.1)] at e'
      cases e'
      exact hm.2.1
    · rw [zUc hk] at e'
      refine rt.home k h ?_
      rw [List.getD_eq_getElem?_getD] at e'
      cases q:lay[k]? with
      | none=>rw [q] at e';cases e'
      | some z=>rw [q] at e';exact congrArg some e'
  · have:=zyh r rt.len hkey (row.length - 1) (by first|decide|lia) h
    rw [show row.length - 1+1=row.length by first|decide|lia,List.take_length] at this
    rw [this]
    have hr:=rt.room h
    split
    · rename_i e
      rw [e] at hroom
      lia
    · lia
theorem zPq {R:List Nat} {K:List (List Nat)} {lay:List (Option Nat)} {key:Nat} {row:List (Nat×Nat)} {C:List Nat} (s:Shut R K lay C) (r:RowOk K lay key row) (hroom:lay.count (some (row.getD (row.length - 1) (0,0)).2)<R.getD (row.getD (row.length - 1) (0,0)).2 0) :
    ∀ p∈row,∀ k∈C,p.2∉K.getD k []:=by
  have key1:∀ (j i:Nat),i+j+1=row.length→∀ k∈C,(row.getD i (0,0)).2∉K.getD k []:=by
    intro j
    induction j with
    | zero =>
      intro i hi k hk hm
      have:=s.full k hk _ hm
      rw [show row.length - 1=i by lia] at hroom
      lia
    | succ j ih =>
      intro i hi k hk hm
      have hp:row[i]?=some row[i]:=by simp [show i<row.length by lia]
      have hq:row[i+1]?=some row[i+1]:=by simp [show i+1<row.length by lia]
      have e1:row.getD i (0,0)=row[i]:=by simp [show i<row.length by lia]
      have e2:row.getD (i+1) (0,0)=row[i+1]:=by simp [show i+1<row.length by lia]
      rw [e1] at hm
      have hin:=s.lies k hk _ hm _ (r.link i _ _ hp hq)
      refine ih (i+1) (by first|decide|lia) _ hin ?_
      rw [e2]
      exact (r.mem _ (List.getElem_mem _)).2.1
  intro p hp k hk
  obtain ⟨i,hi,rfl⟩:=List.mem_iff_getElem.mp hp
  have:=key1 (row.length - 1 - i) i (by first|decide|lia) k hk
  rwa [show row.getD i (0,0)=row[i] by simp [hi]] at this
theorem Shut.push {R:List Nat} {K:List (List Nat)} {lay:List (Option Nat)} {key:Nat} {row:List (Nat×Nat)} {C:List Nat} (s:Shut R K lay C) (rt:RightL R K lay) (r:RowOk K lay key row) (hkey:lay.getD key none=none)
    (hroom:lay.count (some (row.getD (row.length - 1) (0,0)).2)<R.getD (row.getD (row.length - 1) (0,0)).2 0):Shut R K (zbd lay row) C:=by
  have hpos:0<row.length:=by
    obtain ⟨h,q,e⟩:=r.first
    rw [e];simp
  have hout:=zPq s r hroom
  refine ⟨s.keys,fun k hk h hh=>?_,fun k hk h hh o e=>?_⟩
  · have:=zyh r rt.len hkey (row.length - 1) (by first|decide|lia) h
    rw [show row.length - 1+1=row.length by first|decide|lia,List.take_length] at this
    have h1:=s.full k hk h hh
    lia
  · by_cases ho:o∈row.map (·.1)
    · obtain ⟨p,hp,rfl⟩:=List.mem_map.mp ho
      rw [zwg r.nd hp (by rw [rt.len];exact (r.mem p hp).1)] at e
      cases e
      exact absurd hh (hout p hp k hk)
    · rw [zUc ho] at e
      exact s.lies k hk h hh o e
noncomputable def zqi (lay:List (Option Nat)) (h:Nat):List Nat:=(List.range lay.length).filter fun k=>decide (lay.getD k none=some h)
noncomputable def zyq (R:List Nat) (lay:List (Option Nat)):List Int:=(List.range R.length).map fun h=>(R.getD h 0:Int) - (lay.count (some h):Nat)
theorem zFo {lay:List (Option Nat)} {n h:Nat} {μ:Mem} {Q:D→Mem→Prop} (hn:μ[n]?=some (.lst (lay.map onD))) (hl:lay.length≤1000) (q:∀ (l:Nat) (μ':Mem),Keep μ μ'→μ.length≤l→μ'[l]?=some (.lst (nat (zqi lay h)))→Q (.loc l) μ'):WF zcj [.loc n, .int h] μ Q:=by
  refine zYb rfl ?_
  show WS zBi [some (.loc n),some (.int h)] μ _ _ _ _
  unfold zBi
  (refine znb ?_;refine zok ?_)
  refine z8f (zb rfl (.inr (.inr ⟨n,_,rfl,hn,zuc (by rw [zZb,List.length_map];lia),?_⟩)))
  rw [zPc onD lay none]
  refine zWf (fun (k:Nat) => .tup [.int k,onD (lay.getD k none)]) (List.range lay.length) (fun (k:Nat)=>D.int k) (fun k=>decide (lay.getD k none=some h)) (fun μ' k=>zlb hn k) (fun k hk μ' kp=>?_) (fun μ' kp=>?_)
  · (refine zDj ?_;refine zvd ?_;refine zhd ?_;refine zvd ?_;refine zhd ?_;refine zGi ?_;refine zK ?_;refine zj ?_;refine zb rfl ?_;refine zb rfl ?_)
    refine zdq (α:=Option Nat) (lay.getD k none) (some h) ?_
    (with_reducible refine ⟨_,rfl,?_⟩)
    refine ⟨rfl,kp,fun _=>?_⟩
    unfold zBj
    exact zb rfl ⟨rfl,kp⟩
  · exact q _ _ kp.to kp.len zw
theorem zhr {L:Nat} {R:List Nat} {K:List (List Nat)} {lay:List (Option Nat)} {n:Nat} {μ:Mem} {Q:D→Mem→Prop} (w:Wb L R K) (hn:μ[n]?=some (.lst (lay.map onD))) (q:∀ (l:Nat) (μ':Mem),Keep μ μ'→μ.length≤l→μ'[l]?=some (.lst ((zyq R lay).map .int))→Q (.loc l) μ'):WF zhh [wn R K, .loc n] μ Q:=by
  have hrl:=w.rl
  refine zYb rfl ?_
  show WS zli [some (wn R K),some (.loc n)] μ _ _ _ _
  unfold zli
  (refine znb ?_;refine zok ?_)
  refine z8f ?_
  (refine zj ?_;refine zb rfl ?_;refine w_c ?_)
  refine zRe (.inl ⟨_,rfl,zuc (by rw [zZb,List.length_map];lia),?_⟩)
  rw [zPc (fun (k:Nat)=>D.int k) R 0]
  refine zhf (fun (k:Nat) => .tup [.int k, .int (R.getD k 0:Nat)]) (List.range R.length) (fun (k:Nat)=>D.int ((R.getD k 0:Int) - (lay.count (some k):Nat))) (fun _ _=>rfl) (fun k hk μ' kp=>?_) (fun μ' kp=>?_)
  · (refine zDj ?_;refine zvd ?_;refine zhd ?_;refine zvd ?_;refine zhd ?_;refine zGi ?_;refine zj ?_;refine zb rfl ?_;refine zZd ?_;refine zb rfl ?_)
    refine ⟨_,_,rfl,kp _ _ hn,?_⟩
    (refine zc ?_;refine zb rfl ?_;refine zn ?_)
    refine zZn (kp _ _ hn) ?_
    (refine zar ?_)
    exact ⟨rfl,kp,kp⟩
  · refine q _ _ kp.to kp.len ?_
    rw [zw]
    unfold zyq
    rw [List.map_map]
    rfl
noncomputable def zZi (K:List (List Nat)) (ds:List D) (k:Nat):Bool:=!zxr (ds.getD k .non) && !((nat (K.getD k [])).any fun y=>eqF y (ds.getD k .non))
noncomputable def zXn (R:List Nat) (ds:List D) (h:Nat):Bool:=decide ((R.getD h 0:Nat)<(zvq ds h:Int))
noncomputable def zri (R:List Nat) (K:List (List Nat)) (ds:List D):D:=match (List.range K.length).find? (zZi K ds) with
  | some k => .tup [.str "home", .int k]
  | none=>match (List.range R.length).find? (zXn R ds) with
    | some h => .tup [.str "room", .int h]
    | none => .non
theorem zDo {L:Nat} {R:List Nat} {K:List (List Nat)} {ds:List D} {n:Nat} {μ:Mem} {Q:D→Mem→Prop} (w:Wb L R K) (hf:ds.all ztc=true) (hn:μ[n]?=some (.lst ds)) (q:∀ (l:Nat) (μ':Mem),Keep μ μ'→μ.length≤l→μ'[l]?=some (.lst (((List.range R.length).map fun h=>(R.getD h 0:Int) - (zvq ds h:Nat)).map .int))→Q (.loc l) μ'):WF zhh [wn R K, .loc n] μ Q:=by
  have hrl:=w.rl
  refine zYb rfl ?_
  show WS zli [some (wn R K),some (.loc n)] μ _ _ _ _
  unfold zli
  (refine znb ?_;refine zok ?_)
  refine z8f ?_
  (refine zj ?_;refine zb rfl ?_;refine w_c ?_)
  refine zRe (.inl ⟨_,rfl,zuc (by rw [zZb,List.length_map];lia),?_⟩)
  rw [zPc (fun (k:Nat)=>D.int k) R 0]
  refine zhf (fun (k:Nat) => .tup [.int k, .int (R.getD k 0:Nat)]) (List.range R.length) (fun (k:Nat)=>D.int ((R.getD k 0:Int) - (zvq ds k:Nat))) (fun _ _=>rfl) (fun k hk μ' kp=>?_) (fun μ' kp=>?_)
  · (refine zDj ?_;refine zvd ?_;refine zhd ?_;refine zvd ?_;refine zhd ?_;refine zGi ?_;refine zj ?_;refine zb rfl ?_;refine zZd ?_;refine zb rfl ?_)
    refine ⟨_,_,rfl,kp _ _ hn,?_⟩
    (refine zc ?_;refine zb rfl ?_;refine zn ?_)
    refine zjo (kp _ _ hn) rfl hf ?_
    (refine zar ?_)
    exact ⟨rfl,kp,kp⟩
  · refine q _ _ kp.to kp.len ?_
    rw [zw,List.map_map]
    rfl
theorem zlp {ds:List D} (hf:ds.all ztc=true) {k:Nat} {d:D} (h:ds[k]?=some d):ztc d=true:=List.all_eq_true.mp hf d (List.mem_of_getElem? h)
theorem zPo {L:Nat} {R:List Nat} {K:List (List Nat)} {ds:List D} {n:Nat} {μ:Mem} {Q:D→Mem→Prop} (w:Wb L R K) (hf:ds.all ztc=true) (hl:ds.length=K.length) (hn:μ[n]?=some (.lst ds)) (q:∀ (μ':Mem),Keep μ μ'→Q (zri R K ds) μ'):WF zbj [wn R K, .loc n] μ Q:=by
  have hrl:=w.rl
  refine zYb rfl ?_
  show WS zSi [some (wn R K),some (.loc n),none,none,none] μ _ _ _ _
  unfold zSi
  refine zp (zVe (z8f (zb rfl (.inr (.inr ⟨n,_,rfl,hn,?_⟩)))))
  refine zSb (fun m δ μ'=>∃ a b:Option D,δ = [some (wn R K),some (.loc n),a,b,none]∧μ' = μ∧∀ j<m,zZi K ds j=false) ⟨_,_,rfl,rfl,by simp⟩ (fun m δ μ' h=>by obtain ⟨_,_,_,rfl,_⟩:=h;exact zlb hn .refl) ?_ ?_
  · rintro m x δ μ' hx ⟨a,b,rfl,rfl,hb⟩
    obtain ⟨y,hy,rfl⟩:=zFi hx
    have hm:m<ds.length:=(List.getElem?_eq_some_iff.mp hy).1
    have hfy:=zlp hf hy
    have hgy:ds.getD m .non=y:=by rw [List.getD_eq_getElem?_getD,hy];rfl
    have hgo:zZi K ds m=false→∀ j<m+1,zZi K ds j=false:=fun h j hj=>by
      by_cases e:j=m
      · subst e;exact h
      · exact hb j (by first|decide|lia)
    (refine zDj ?_;refine zvd ?_;refine zhd ?_;refine zvd ?_;refine zhd ?_;refine zGi ?_;refine zHf ?_;refine zTp ?_;refine zK ?_;refine zj ?_;refine zb rfl ?_;refine w_c ?_)
    refine zlf hfy ?_
    (with_reducible refine ⟨_,rfl,?_⟩)
    refine ⟨fun h1=>?_,fun h1=>⟨fun hc=>(by cases hc),fun _=>?_⟩⟩
    · (refine zK ?_;refine zj ?_;refine zb rfl ?_;refine zj ?_;refine zj ?_;refine zb rfl ?_;refine w_c ?_)
      refine zod ?_
      (refine zb rfl ?_)
      refine zNk (by first|decide|lia) ?_
      refine zXm rfl hfy (zEi _) ?_
      (with_reducible refine ⟨_,rfl,?_⟩)
      refine ⟨fun h2=>?_,fun h2=>?_⟩
      · (refine znb ?_;refine zDd ?_;refine zc ?_;refine w_c ?_;refine zc ?_;refine zb rfl ?_;refine zn ?_)
        have hh:zZi K ds m=true:=by
          unfold zZi
          rw [hgy,h1,h2];rfl
        have:=q μ' .refl
        unfold zri at this
        rw [zdi hh (by first|decide|lia) hb] at this
        exact this
      · (refine zmb ?_)
        refine ⟨_,_,rfl,rfl,hgo ?_⟩
        unfold zZi
        rw [hgy,h2,Bool.and_false]
    · (refine zmb ?_)
      refine ⟨_,_,rfl,rfl,hgo ?_⟩
      unfold zZi
      rw [hgy,h1,Bool.false_and]
  · rintro δ μ' ⟨a,b,rfl,rfl,hb⟩
    rw [zZb,hl] at hb
    refine zp (zVe (z8f (zq (zc (zb rfl (zc (zb rfl (zn ?_))))))))
    refine zDo w hf hn fun l μ1 k1 hl1 g1 => .inr (.inr ⟨l,_,rfl,g1,?_⟩)
    rw [zPc D.int _ 0]
    refine zSb (fun m δ μ'=>∃ a b c:Option D,δ = [some (wn R K),some (.loc n),a,b,c]∧μ' = μ1∧∀ j<m,zXn R ds j=false) ⟨_,_,_,rfl,rfl,by simp⟩ (fun m δ μ' h=>by obtain ⟨_,_,_,_,rfl,_⟩:=h;exact zlb g1 .refl) ?_ ?_
    · rintro m x δ μ2 hx ⟨a,b,c,rfl,rfl,hr⟩
      have hm:m<R.length:=by
        have:=(List.getElem?_eq_some_iff.mp hx).1
        simpa using this
      have ex:x = .tup [.int m, .int ((R.getD m 0:Int) - (zvq ds m:Nat))]:=by
        rw [List.getElem?_map] at hx
        simp [hm] at hx
        rw [← hx]
        simp [hm]
      subst ex
      (refine zDj ?_;refine zvd ?_;refine zhd ?_;refine zvd ?_;refine zhd ?_;refine zGi ?_;refine zHf ?_;refine zK ?_;refine zj ?_;refine zb rfl ?_;refine w_c ?_;refine zrj ?_;with_reducible refine ⟨_,rfl,?_⟩)
      have hdec:decide ((R.getD m 0:Int) - (zvq ds m:Nat)<0)=zXn R ds m:=by
        unfold zXn
        exact decide_eq_decide.mpr (by first|decide|lia)
      rw [hdec]
      refine ⟨fun h1=>?_,fun h1=>?_⟩
      · (refine znb ?_;refine zDd ?_;refine zc ?_;refine w_c ?_;refine zc ?_;refine zb rfl ?_;refine zn ?_)
        have:=q μ2 k1
        unfold zri at this
        rw [zbe hb,zdi h1 hm hr] at this
        exact this
      · (refine zmb ?_)
        refine ⟨_,_,_,rfl,rfl,fun j hj=>?_⟩
        by_cases e:j=m
        · subst e;exact h1
        · exact hr j (by first|decide|lia)
    · rintro δ μ2 ⟨a,b,c,rfl,rfl,hr⟩
      simp only [List.length_map,List.length_range] at hr
      (refine znb ?_;refine w_c ?_)
      have:=q μ2 k1
      unfold zri at this
      rw [zbe hb,zbe hr] at this
      exact this
noncomputable abbrev PT:=List (Nat×Nat×Option Nat)
noncomputable def dkP (P:PT):List (Int×D):=P.map fun p=>((p.1:Int), .tup [.int (p.2.1:Nat),onD p.2.2])
theorem z3l (P:PT):z8g (dkP P)=nat (P.map (·.1)):=by
  unfold z8g dkP
  rw [List.map_map,zKf]
  rfl
theorem z0k (P:PT) (h:Nat):((dkP P).any fun p=>decide (p.1=(h:Int)))=decide (h∈P.map (·.1)):=by
  refine zwe ?_
  unfold dkP
  rw [List.any_map,List.any_eq_true]
  simp only [Function.comp,decide_eq_true_iff,List.mem_map]
  constructor
  · rintro ⟨p,hp,e⟩
    exact ⟨p,hp,by first|decide|lia⟩
  · rintro ⟨p,hp,e⟩
    exact ⟨p,hp,by first|decide|lia⟩
theorem zlh {P:PT} {h:Nat}:(zWc (dkP P) (h:Int)).isSome=decide (h∈P.map (·.1)):=by
  rw [← z0k,Bool.eq_iff_iff]
  unfold zWc
  rw [Option.isSome_map,List.find?_isSome,List.any_eq_true]
theorem zgr {P:PT} (nd:(P.map (·.1)).Nodup) {p:Nat×Nat×Option Nat} (hp:p∈P):zWc (dkP P) (p.1:Int)=some (.tup [.int (p.2.1:Nat),onD p.2.2]):=by
  induction P with
  | nil=>cases hp
  | cons q P ih =>
    rw [List.map_cons,List.nodup_cons] at nd
    have e:zWc (dkP (q :: P)) (p.1:Int)=if (q.1:Int)=p.1 then some (.tup [.int (q.2.1:Nat),onD q.2.2]) else zWc (dkP P) (p.1:Int):=by
      unfold zWc dkP
      rw [List.map_cons,List.find?_cons]
      by_cases h:(q.1:Int)=p.1
      · simp [h]
      · simp [h]
    rw [e]
    rcases List.mem_cons.mp hp with rfl | hp
    · rw [if_pos rfl]
    · rw [if_neg,ih nd.2 hp]
      intro h
      refine nd.1 (List.mem_map.mpr ⟨p,hp,by first|decide|lia⟩)
theorem zrn {P:PT} {h k:Nat} {f:Option Nat} (hn:h∉P.map (·.1)):zyo (dkP P) (h:Int) (.tup [.int k,onD f])=dkP (P ++ [(h,k,f)]):=by
  unfold zyo
  rw [z0k,decide_eq_false hn,if_neg Bool.false_ne_true]
  simp [dkP]
theorem zEq {P:PT} {h k:Nat} {f:Option Nat} (hn:h∈P.map (·.1)) (ha:∀ p∈P,p.2=(k,f)):zyo (dkP P) (h:Int) (.tup [.int k,onD f])=dkP P:=by
  unfold zyo
  rw [z0k,decide_eq_true hn,if_pos rfl]
  unfold dkP
  rw [List.map_map]
  refine List.map_congr_left fun p hp=>?_
  simp only [Function.comp]
  split
  · rw [ha p hp]
  · rfl
structure Tree (R:List Nat) (K:List (List Nat)) (lay:List (Option Nat)) (key:Nat) (P:PT):Prop where
  nd:(P.map (·.1)).Nodup
  lt:∀ p∈P,p.1<R.length
  ok:∀ (i:Nat) p,P[i]?=some p→p.2.1<K.length∧p.1∈K.getD p.2.1 []∧((p.2.2=none∧p.2.1=key)∨∃ (j:Nat) (q:Nat×Nat×Option Nat),j<i∧P[j]?=some q∧p.2.2=some q.1∧lay.getD p.2.1 none=some q.1)
theorem Tree.len {R:List Nat} {K:List (List Nat)} {lay:List (Option Nat)} {key:Nat} {P:PT} (t:Tree R K lay key P):P.length≤R.length:=by
  have:=zud t.nd (m:=List.range R.length) fun x hx=>by
    obtain ⟨p,hp,rfl⟩:=List.mem_map.mp hx
    simpa using t.lt p hp
  simpa using this
theorem Tree.add {R:List Nat} {K:List (List Nat)} {lay:List (Option Nat)} {key:Nat} {P:PT} (t:Tree R K lay key P) {h k:Nat} {f:Option Nat} (hn:h∉P.map (·.1)) (hr:h<R.length) (hk:k<K.length) (hm:h∈K.getD k [])
    (hf:(f=none∧k=key)∨∃ (j:Nat) (q:Nat×Nat×Option Nat),P[j]?=some q∧f=some q.1∧lay.getD k none=some q.1):Tree R K lay key (P ++ [(h,k,f)]):=by
  refine ⟨?_,fun p hp=>?_,fun i p e=>?_⟩
  · rw [List.map_append,List.nodup_append]
    refine ⟨t.nd,by simp,fun a ha b hb=>?_⟩
    simp at hb
    subst hb
    exact fun e=>hn (e▸ha)
  · rcases List.mem_append.mp hp with hp | hp
    · exact t.lt p hp
    · rw [List.mem_singleton.mp hp];exact hr
  · by_cases hi:i<P.length
    · rw [List.getElem?_append_left hi] at e
      obtain ⟨h1,h2,h3⟩:=t.ok i p e
      refine ⟨h1,h2,?_⟩
      rcases h3 with h3 | ⟨j,q,hj,eq,h4⟩
      · exact .inl h3
      · exact .inr ⟨j,q,hj,by rw [List.getElem?_append_left (by first|decide|lia)];exact eq,h4⟩
    · rw [List.getElem?_append_right (by first|decide|lia)] at e
      have hi0:i - P.length=0:=by
        have:=(List.getElem?_eq_some_iff.mp e).1
        simp at this;lia
      rw [hi0] at e
      have e:(h,k,f)=p:=by simpa using e
      subst e
      refine ⟨hk,hm,?_⟩
      rcases hf with hf | ⟨j,q,eq,h4⟩
      · exact .inl hf
      · have hj:=(List.getElem?_eq_some_iff.mp eq).1
        exact .inr ⟨j,q,by first|decide|lia,by rw [List.getElem?_append_left hj];exact eq,h4⟩
noncomputable def zwn (d l:Nat) (μ ν:Mem):Prop:=∀ i o,i≠d→i≠l→μ[i]?=some o→ν[i]?=some o
noncomputable abbrev JPa (R:List Nat) (K:List (List Nat)) (lay:List (Option Nat)) (key n d l2 at_ o:Nat) (P0:PT) (ν:Mem):Nat→M.Loc→Mem→Prop:=fun m δ ν'=>∃ (P:PT) (x:Option D),δ = [some (wn R K),some (.loc n),some (.int key),some (.loc d),x,some (.loc l2),some (.int at_),some (.int o)]∧(∃ E,P=P0++E)∧Tree R K lay key P∧(∀ h∈(K.getD o []).take m,h∈P.map (·.1))∧zwn d l2 ν ν'∧ν'[d]?=some (.dct (dkP P))∧ν'[l2]?=some (.lst (nat (P.map (·.1))))
theorem zHo {L:Nat} {R:List Nat} {K:List (List Nat)} {lay:List (Option Nat)} {key n d l2 at_ o:Nat} {P0:PT} {q:Nat×Nat×Option Nat} {x4:Option D} {ν:Mem} {nx:M.Loc→Mem→Prop} {rt:D→Mem→Prop} {bk ct:M.Loc→Mem→Prop} (w:Wb L R K) (t:Tree R K lay key P0) (ho:o<K.length) (hq:P0[at_]?=some q) (hlo:lay.getD o none=some q.1)
    (hl2:d<l2) (gd:ν[d]?=some (.dct (dkP P0))) (gl:ν[l2]?=some (.lst (nat (P0.map (·.1)))))
    (k:∀ (P:PT) (x:Option D) (ν':Mem),(∃ E,P=P0++E)→Tree R K lay key P→(∀ h∈K.getD o [],h∈P.map (·.1))→zwn d l2 ν ν'→ν'[d]?=some (.dct (dkP P))→ν'[l2]?=some (.lst (nat (P.map (·.1))))→nx [some (wn R K),some (.loc n),some (.int key),some (.loc d),x,some (.loc l2),some (.int at_),some (.int o)] ν') :
    WS zGd [some (wn R K),some (.loc n),some (.int key),some (.loc d),x4,some (.loc l2),some (.int at_),some (.int o)] ν nx rt bk ct:=by
  unfold zGd
  refine zVe (zXe (zj (zj (zb rfl (w_c (zod (zb rfl (zNk ho (.inl ⟨_,rfl,?_⟩)))))))))
  refine zSb (JPa R K lay key n d l2 at_ o P0 ν) ⟨P0,_,rfl,⟨[],by simp⟩,t,by simp,fun _ _ _ _ e=>e,gd,gl⟩ (fun _ _ _ _=>rfl) ?_ ?_
  · rintro m x δ ν1 hx ⟨P,y,rfl,⟨E,hE⟩,tP,hm,k1,g1,g2⟩
    rw [List.getElem?_map] at hx
    cases hy:(K.getD o [])[m]? with
    | none=>rw [hy] at hx;cases hx
    | some h =>
      rw [hy] at hx
      cases hx
      have hmem:=List.mem_of_getElem? hy
      have htk:(K.getD o []).take (m+1)=(K.getD o []).take m ++ [h]:=by rw [List.take_succ,hy];rfl
      have hpl:=tP.len
      have hrl:=w.rl
      have hat:(P.map (·.1))[at_]?=some q.1:=by
        have hlt:=(List.getElem?_eq_some_iff.mp hq).1
        rw [hE,List.map_append,List.getElem?_append_left (by simpa using hlt),List.getElem?_map,hq]
        rfl
      refine zhd ?_
      unfold zzf
      refine zHf (zK (zj (zb rfl (zb rfl (zxp (z8h g1) ⟨_,rfl,fun hb=>?_,fun hb=>zmb ?_⟩)))))
      · have hnew:h∉P.map (·.1):=by
          rw [zlh] at hb
          simpa using hb
        refine zp (zhm (zDd (zc (zb rfl (zc (zj (zb rfl (zb rfl (zXb (zr g2) (zdd (v := .int (q.1:Nat)) (by rw [List.getElem?_map,hat];rfl)) (zn ?_))))))))))
        refine zOp (zb rfl (zb rfl ⟨_,_,_,rfl,rfl,g1,by simp [dkP];lia,?_⟩))
        rw [show (D.tup [.int (o:Nat), .int (q.1:Nat)]) = .tup [.int (o:Nat),onD (some q.1)] from rfl,zrn hnew]
        have g1':=zQ (o':=LObj.dct (dkP (P ++ [(h,o,some q.1)]))) g1
        have g2':=zM (o':=LObj.dct (dkP (P ++ [(h,o,some q.1)]))) g2 (by lia:d≠l2)
        refine zfg (zZd (zb rfl ⟨_,_,rfl,g2',?_⟩))
        refine zc (zb rfl (zn ?_))
        refine zGg g2' (by rw [List.length_map,List.length_map];lia) ?_
        have hatP:P[at_]?=some q:=by
          have hlt:=(List.getElem?_eq_some_iff.mp hq).1
          rw [hE,List.getElem?_append_left hlt]
          exact hq
        refine ⟨P ++ [(h,o,some q.1)],_,rfl,⟨E ++ [(h,o,some q.1)],by rw [hE];simp⟩,tP.add hnew ((w.key ho).2 h hmem) ho hmem (.inr ⟨at_,q,hatP,rfl,hlo⟩),fun g hg=>?_,fun i o' hi1 hi2 e'=>zM (zM (k1 i o' hi1 hi2 e') (Ne.symm hi1)) (Ne.symm hi2),zM g1' (by first|decide|lia),?_⟩
        · rw [htk] at hg
          rw [List.map_append,List.mem_append]
          rcases List.mem_append.mp hg with hg | hg
          · exact .inl (hm g hg)
          · rw [List.mem_singleton.mp hg];exact .inr (by simp)
        · rw [zQ g2',List.map_append,zBe]
          rfl
      · have hold:h∈P.map (·.1):=by
          rw [zlh] at hb
          simpa using hb
        refine ⟨P,_,rfl,⟨E,hE⟩,tP,fun g hg=>?_,k1,g1,g2⟩
        rw [htk] at hg
        rcases List.mem_append.mp hg with hg | hg
        · exact hm g hg
        · rw [List.mem_singleton.mp hg];exact hold
  · rintro δ ν1 ⟨P,y,rfl,hE,tP,hm,k1,g1,g2⟩
    rw [List.length_map,List.take_length] at hm
    exact k P y ν1 hE tP hm k1 g1 g2
noncomputable abbrev JPb (R:List Nat) (K:List (List Nat)) (lay:List (Option Nat)) (key n:Nat) (μ:Mem):Nat→M.Loc→Mem→Prop:=fun m δ ν=>∃ (P:PT) (x:Option D),δ = [some (wn R K),some (.loc n),some (.int key),some (.loc μ.length),x,none,none,none]∧Tree R K lay key P∧(∀ p∈P,p.2=(key,none))∧(∀ h∈(K.getD key []).take m,h∈P.map (·.1))∧Keep μ ν∧ν[μ.length]?=some (.dct (dkP P))
noncomputable abbrev JPc (R:List Nat) (K:List (List Nat)) (lay:List (Option Nat)) (key n:Nat) (μ ν1:Mem):Nat→M.Loc→Mem→Prop:=fun m δ ν=>∃ (P:PT) (at_:Nat) (x y:Option D),m=R.length - at_∧at_≤P.length∧δ = [some (wn R K),some (.loc n),some (.int key),some (.loc μ.length),x,some (.loc ν1.length),some (.int at_),y]∧Tree R K lay key P∧(∀ h∈K.getD key [],h∈P.map (·.1))∧(∀ (i:Nat) p,i<at_→P[i]?=some p→∀ o,lay.getD o none=some p.1→∀ h∈K.getD o [],h∈P.map (·.1))∧Keep μ ν∧ν[μ.length]?=some (.dct (dkP P))∧ν[ν1.length]?=some (.lst (nat (P.map (·.1))))
noncomputable abbrev JPd (R:List Nat) (K:List (List Nat)) (lay:List (Option Nat)) (key n:Nat) (μ ν1:Mem) (at_:Nat) (P:PT) (q0:Nat×Nat×Option Nat) (l4:Nat):Nat→M.Loc→Mem→Prop:=fun j δ ν=>∃ (P':PT) (x y:Option D),δ = [some (wn R K),some (.loc n),some (.int key),some (.loc μ.length),x,some (.loc ν1.length),some (.int at_),y]∧(∃ E,P'=P++E)∧Tree R K lay key P'∧(∀ o∈(zqi lay q0.1).take j,∀ h∈K.getD o [],h∈P'.map (·.1))∧Keep μ ν∧ν[μ.length]?=some (.dct (dkP P'))∧ν[ν1.length]?=some (.lst (nat (P'.map (·.1))))∧ν[l4]?=some (.lst (nat (zqi lay q0.1)))
theorem zIk {L:Nat} {R:List Nat} {K:List (List Nat)} {lay:List (Option Nat)} {key n:Nat} {μ:Mem} {Q:D→Mem→Prop} (w:Wb L R K) (hlen:lay.length=K.length) (hL:L≤1000) (hn:μ[n]?=some (.lst (lay.map onD))) (hk:key<K.length)
    (q:∀ (P:PT) (d:Nat) (μ':Mem),Tree R K lay key P→(∀ h∈K.getD key [],h∈P.map (·.1))→(∀ p∈P,∀ o,lay.getD o none=some p.1→∀ h∈K.getD o [],h∈P.map (·.1))→Keep μ μ'→μ.length≤d→μ'[d]?=some (.dct (dkP P))→Q (.loc d) μ'):WF zOd [wn R K, .loc n, .int key] μ Q:=by
  have hrl:=w.rl
  have hkl:=w.kl
  refine zYb rfl ?_
  show WS zJd [some (wn R K),some (.loc n),some (.int key),none,none,none,none,none] μ _ _ _ _
  unfold zJd
  refine zp (zU (zAt (zp (zVe (zXe (zj (zj (zb rfl (w_c (zod (zb rfl (zNk hk (.inl ⟨_,rfl,?_⟩))))))))))))) 
  refine zSb (JPb R K lay key n μ) ⟨[],_,rfl,⟨by simp,by simp,fun i p e=>by simp at e⟩,by simp,by simp, .app,zw⟩ (fun _ _ _ _=>rfl) ?_ ?_
  · rintro m x δ ν1 hx ⟨P,y,rfl,tP,ha,hm,k1,g1⟩
    rw [List.getElem?_map] at hx
    cases hy:(K.getD key [])[m]? with
    | none=>rw [hy] at hx;cases hx
    | some h =>
      rw [hy] at hx
      cases hx
      have hmem:=List.mem_of_getElem? hy
      have htk:(K.getD key []).take (m+1)=(K.getD key []).take m ++ [h]:=by rw [List.take_succ,hy];rfl
      have hpl:=tP.len
      refine zhd ?_
      unfold z9e
      refine zhm (zDd (zc (zb rfl (zc (w_c (zn ?_))))))
      refine zOp (zb rfl (zb rfl ⟨_,_,_,rfl,rfl,g1,by simp [dkP];lia,?_⟩))
      rw [show (D.tup [.int (key:Nat), .non]) = .tup [.int (key:Nat),onD none] from rfl]
      have kk:∀ o':LObj,Keep μ (ν1.set μ.length o'):=fun o' i o e=>zM (k1 i o e) (Nat.ne_of_gt (zC e))
      by_cases hin:h∈P.map (·.1)
      · rw [zEq hin ha]
        refine ⟨P,_,rfl,tP,ha,fun g hg=>?_,kk _,zQ g1⟩
        rw [htk] at hg
        rcases List.mem_append.mp hg with hg | hg
        · exact hm g hg
        · rw [List.mem_singleton.mp hg];exact hin
      · rw [zrn hin]
        refine ⟨P ++ [(h,key,none)],_,rfl,tP.add hin ((w.key hk).2 h hmem) hk hmem (.inl ⟨rfl,rfl⟩),fun p hp=>?_,fun g hg=>?_,kk _,zQ g1⟩
        · rcases List.mem_append.mp hp with hp | hp
          · exact ha p hp
          · rw [List.mem_singleton.mp hp]
        · rw [htk] at hg
          rw [List.map_append,List.mem_append]
          rcases List.mem_append.mp hg with hg | hg
          · exact .inl (hm g hg)
          · rw [List.mem_singleton.mp hg];exact .inr (by simp)
  · rintro δ ν1 ⟨P0,y,rfl,tP0,_,hm0,k1,g1⟩
    rw [List.length_map,List.take_length] at hm0
    refine zp (zU (zq (zc (zb rfl (zn (zjr (z8h g1) ?_))))))
    rw [z3l]
    have hl2:μ.length < ν1.length:=zC g1
    refine zp (zU (w_c (zp ?_)))
    refine zgj (JPc R K lay key n μ ν1) (m:=R.length) (by first|decide|lia) ⟨P0,0,_,_,by simp,by simp,rfl,tP0,hm0,by simp,k1.to,zG g1,zw⟩ ?_
    rintro m δ ν2 ⟨P,at_,x,y,rfl,hat,rfl,tP,hkey,hcl,k2,g2,g3⟩
    have hpl:=tP.len
    (refine zK ?_;refine zj ?_;refine zb rfl ?_;refine zq ?_;refine zc ?_;refine zb rfl ?_;refine zn ?_)
    refine zTe (zr g3) ?_
    refine zrj ⟨_,rfl,fun h1=>?_,fun h1=>?_⟩
    · have h1:at_<P.length:=by
        have:=of_decide_eq_true h1
        simp only [List.length_map] at this
        lia
      have hq:P[at_]?=some P[at_]:=by simp [h1]
      generalize P[at_]=q0 at hq
      have hat':(P.map (·.1))[at_]?=some q0.1:=by rw [List.getElem?_map,hq];rfl
      unfold zbf
      refine zp (zVe (zXe (zq (zc (zb rfl (zc (zj (zb rfl (zb rfl (zXb (zr g3) (zdd (v := .int (q0.1:Nat)) (by rw [List.getElem?_map,hat'];rfl)) (zn ?_)))))))))))
      refine zFo (h:=q0.1) (k2 _ _ hn) (by first|decide|lia) fun l4 ν4 k4 hl4 g4 => .inr (.inr ⟨l4,_,rfl,g4,?_⟩)
      have hν2:=zC g3
      refine zSb (JPd R K lay key n μ ν1 at_ P q0 l4) ⟨P,_,_,rfl,⟨[],by simp⟩,tP,by simp,k2.trans k4,k4 _ _ g2,k4 _ _ g3,g4⟩ (fun j δ ν ⟨_,_,_,_,_,_,_,_,_,_,h⟩=>zlb h .refl) ?_ ?_
      · rintro j z δ ν5 hz ⟨P',x',y',rfl,⟨E,hE⟩,tP',hdone,k5,g5,g6,g7⟩
        rw [List.getElem?_map] at hz
        cases ho:(zqi lay q0.1)[j]? with
        | none=>rw [ho] at hz;cases hz
        | some o =>
          rw [ho] at hz
          cases hz
          have hom:=List.mem_of_getElem? ho
          have hom':=List.mem_filter.mp hom
          have hol:o<K.length:=by rw [← hlen];simpa using hom'.1
          have hlo:=of_decide_eq_true hom'.2
          have htk:(zqi lay q0.1).take (j+1)=(zqi lay q0.1).take j ++ [o]:=by rw [List.take_succ,ho];rfl
          have hq':P'[at_]?=some q0:=by rw [hE,List.getElem?_append_left h1];exact hq
          refine zhd ?_
          have hl5:=zC g6
          refine zHo w tP' hol hq' hlo hl2 g5 g6 fun P'' x'' ν6 ⟨E',hE'⟩ tP'' hall k6 g8 g9=>⟨P'',_,_,rfl,⟨E++E',by rw [hE',hE,List.append_assoc]⟩,tP'',fun o' ho' h hh=>?_,fun i o' e'=>k6 i o' (Nat.ne_of_lt (zC e')) (by have:=zC e';lia) (k5 i o' e'),g8,g9,k6 l4 _ (by first|decide|lia) (by first|decide|lia) g7⟩
          rw [htk] at ho'
          rcases List.mem_append.mp ho' with ho' | ho'
          · rw [hE',List.map_append,List.mem_append]
            exact .inl (hdone o' ho' h hh)
          · rw [List.mem_singleton.mp ho'] at hh
            exact hall h hh
      · rintro δ ν5 ⟨P',x',y',rfl,⟨E,hE⟩,tP',hdone,k5,g5,g6,g7⟩
        rw [nat,List.length_map,List.take_length] at hdone
        have hpl':=tP'.len
        refine z4s rfl (w_c (zAr ?_))
        refine ⟨R.length - (at_+1),by first|decide|lia,P',at_+1,_,_,rfl,by rw [hE];simp;lia,rfl,tP',fun h hh=>?_,fun i p hi e o ho h hh=>?_,k5,g5,g6⟩
        · rw [hE,List.map_append,List.mem_append]
          exact .inl (hkey h hh)
        · by_cases hia:i<at_
          · rw [hE,List.getElem?_append_left (by first|decide|lia)] at e
            rw [hE,List.map_append,List.mem_append]
            exact .inl (hcl i p hia e o ho h hh)
          · have:i=at_:=by lia
            subst this
            rw [hE,List.getElem?_append_left h1,hq] at e
            cases e
            refine hdone o ?_ h hh
            refine List.mem_filter.mpr ⟨?_,decide_eq_true ho⟩
            rw [List.mem_range]
            refine Nat.lt_of_not_le fun hle=>?_
            rw [List.getD_eq_getElem?_getD,List.getElem?_eq_none hle] at ho
            cases ho
    · refine znb (zb rfl ?_)
      have h1:at_=P.length:=by
        have:=of_decide_eq_false h1
        simp only [List.length_map] at this
        lia
      refine q P _ ν2 tP hkey (fun p hp o e h hh=>?_) k2 (Nat.le_refl _) g2
      obtain ⟨i,hi,rfl⟩:=List.mem_iff_getElem.mp hp
      exact hcl i P[i] (by first|decide|lia) (by simp [hi]) o e h hh
noncomputable abbrev pD (p:Nat×Nat):D := .tup [.int (p.1:Nat), .int (p.2:Nat)]
inductive Path (P:PT) (lay:List (Option Nat)):Nat→List (Nat×Nat)→Prop
  | one {i:Nat} {p:Nat×Nat×Option Nat} (e:P[i]?=some p):Path P lay i [(p.2.1,p.1)]
  | up {i j:Nat} {p q:Nat×Nat×Option Nat} {row:List (Nat×Nat)} (h:Path P lay i row) (e:P[i]?=some p) (eq:P[j]?=some q) (hj:j<i) (hf:p.2.2=some q.1) (hl:lay.getD p.2.1 none=some q.1):Path P lay j ((q.2.1,q.1) :: row)
theorem Path.head {P:PT} {lay:List (Option Nat)} {i:Nat} {row:List (Nat×Nat)} (h:Path P lay i row):∃ p r,P[i]?=some p∧row=(p.2.1,p.1) :: r:=by
  cases h with
  | one e=>exact ⟨_,_,e,rfl⟩
  | up h e eq hj hf hl=>exact ⟨_,_,eq,rfl⟩
theorem Path.idx {P:PT} {lay:List (Option Nat)} {i:Nat} {row:List (Nat×Nat)} (h:Path P lay i row):∀ x∈row,∃ j p,i≤j∧P[j]?=some p∧x=(p.2.1,p.1):=by
  induction h with
  | one e=>intro x hx;rw [List.mem_singleton.mp hx];exact ⟨_,_,Nat.le_refl _,e,rfl⟩
  | up h e eq hj hf hl ih =>
    intro x hx
    rcases List.mem_cons.mp hx with rfl | hx
    · exact ⟨_,_,Nat.le_refl _,eq,rfl⟩
    · obtain ⟨m,p,hm,e',r⟩:=ih x hx
      exact ⟨m,p,by first|decide|lia,e',r⟩
theorem Path.tail {P:PT} {lay:List (Option Nat)} {i:Nat} {row:List (Nat×Nat)} (h:Path P lay i row):∀ x∈row.tail,∃ j p,i≤j∧P[j]?=some p∧lay.getD x.1 none=some p.1:=by
  induction h with
  | one e=>intro x hx;cases hx
  | up h e eq hj hf hl ih =>
    intro x hx
    obtain ⟨p',r,e',er⟩:=h.head
    rw [e] at e'
    cases e'
    rw [List.tail_cons,er] at hx
    rcases List.mem_cons.mp hx with rfl | hx
    · exact ⟨_,_,Nat.le_refl _,eq,hl⟩
    · obtain ⟨m,p,hm,e',r⟩:=ih x (by rw [er];exact hx)
      exact ⟨m,p,by first|decide|lia,e',r⟩
theorem Path.link {P:PT} {lay:List (Option Nat)} {i:Nat} {row:List (Nat×Nat)} (h:Path P lay i row):∀ n p q,row[n]?=some p→row[n+1]?=some q→lay.getD q.1 none=some p.2:=by
  induction h with
  | one e=>intro n p q _ e2;simp at e2
  | up h e eq hj hf hl ih =>
    intro n p q e1 e2
    cases n with
    | zero =>
      obtain ⟨p',r,e',er⟩:=h.head
      rw [e] at e'
      cases e'
      rw [er] at e2
      simp at e1 e2
      subst e1 e2
      exact hl
    | succ n=>exact ih n p q (by simpa using e1) (by simpa using e2)
theorem zjs {P:PT} (nd:(P.map (·.1)).Nodup) {i j:Nat} {p q:Nat×Nat×Option Nat} (e1:P[i]?=some p) (e2:P[j]?=some q) (h:p.1=q.1):i=j:=by
  have h1:(P.map (·.1))[i]?=some p.1:=by rw [List.getElem?_map,e1];rfl
  have h2:(P.map (·.1))[j]?=some p.1:=by rw [List.getElem?_map,e2,h];rfl
  obtain ⟨a,h1⟩:=List.getElem?_eq_some_iff.mp h1
  obtain ⟨b,h2⟩:=List.getElem?_eq_some_iff.mp h2
  have pw:=List.pairwise_iff_getElem.mp nd
  rcases Nat.lt_trichotomy i j with h | h | h
  · exact absurd (h1.trans h2.symm) (pw i j a b h)
  · exact h
  · exact absurd (h2.trans h1.symm) (pw j i b a h)
theorem Path.ndk {R:List Nat} {K:List (List Nat)} {P:PT} {lay:List (Option Nat)} {key i:Nat} {row:List (Nat×Nat)} (t:Tree R K lay key P) (hkey:lay.getD key none=none) (h:Path P lay i row):(row.map (·.1)).Nodup:=by
  induction h with
  | one e=>simp
  | @up i j p q row h e eq hj hf hl ih =>
    rw [List.map_cons,List.nodup_cons]
    refine ⟨fun hm=>?_,ih⟩
    obtain ⟨x,hx,ex⟩:=List.mem_map.mp hm
    have ht:=(Path.up h e eq hj hf hl).tail x hx
    obtain ⟨m,p',hm',e',el⟩:=ht
    rw [ex] at el
    obtain ⟨_,_,h3⟩:=t.ok j q eq
    rcases h3 with ⟨_,h3⟩ | ⟨j',q',hj',eq',_,h4⟩
    · simp only at el
      rw [h3,hkey] at el
      cases el
    · simp only at el
      rw [h4] at el
      have:=zjs t.nd eq' e' (by injection el)
      lia
theorem Path.ok {R:List Nat} {K:List (List Nat)} {P:PT} {lay:List (Option Nat)} {key i:Nat} {row:List (Nat×Nat)} {p:Nat×Nat×Option Nat} (t:Tree R K lay key P) (hkey:lay.getD key none=none) (h:Path P lay i row) (e:P[i]?=some p) (hp:p.2.2=none):RowOk K lay key row:=by
  refine ⟨?_,fun x hx=>?_,h.link,h.ndk t hkey⟩
  · obtain ⟨p',r,e',er⟩:=h.head
    rw [e] at e'
    cases e'
    rcases (t.ok i p e).2.2 with ⟨_,h3⟩ | ⟨_,_,_,_,h3,_⟩
    · exact ⟨p.1,r,by rw [er,h3]⟩
    · rw [hp] at h3;cases h3
  · obtain ⟨j,q,_,eq,rfl⟩:=h.idx x hx
    obtain ⟨h1,h2,h3⟩:=t.ok j q eq
    refine ⟨h1,h2,?_⟩
    rcases h3 with ⟨_,h3⟩ | ⟨j',q',hj',eq',_,h4⟩
    · simp only
      rw [h3,hkey]
      exact fun h=>by cases h
    · simp only
      rw [h4]
      intro h
      have:=zjs t.nd eq' eq (by injection h)
      lia
noncomputable abbrev JRo (P:PT) (lay:List (Option Nat)) (p0:Nat×Nat×Option Nat) (d:Nat) (μ:Mem):Nat→M.Loc→Mem→Prop:=fun m δ ν=>∃ (acc:List (Nat×Nat)) (f:Option Nat),δ = [some (.loc d),some (onD f),some (.loc μ.length)]∧Keep μ ν∧ν[μ.length]?=some (.lst (acc.map pD))∧acc.length+m≤P.length ∧
    ((f=none∧(∃ k,acc[0]?=some (k,p0.1))∧∃ i p,Path P lay i acc.reverse∧P[i]?=some p∧p.2.2=none) ∨
     (∃ i p,m=i+1∧P[i]?=some p∧f=some p.1∧((acc = []∧p=p0)∨((∃ k,acc[0]?=some (k,p0.1))∧∃ i' p',i<i'∧Path P lay i' acc.reverse∧P[i']?=some p'∧p'.2.2=some p.1∧lay.getD p'.2.1 none=some p.1))))
theorem zWo {R:List Nat} {K:List (List Nat)} {lay:List (Option Nat)} {key d i0:Nat} {p0:Nat×Nat×Option Nat} {P:PT} {μ:Mem} {Q:D→Mem→Prop} (t:Tree R K lay key P) (hR:R.length≤10) (hkey:lay.getD key none=none) (hd:z4b μ (.loc d)=some (dkP P)) (hp0:P[i0]?=some p0)
    (q:∀ (row:List (Nat×Nat)) (l:Nat) (μ':Mem),RowOk K lay key row→(row.getD (row.length - 1) (0,0)).2=p0.1→row.length≤P.length→Keep μ μ'→μ.length≤l→μ'[l]?=some (.lst (row.map pD))→Q (.loc l) μ'):WF zrg [.loc d, .int p0.1] μ Q:=by
  have hpl:=t.len
  refine zYb rfl ?_
  show WS zCg [some (.loc d),some (.int p0.1),none] μ _ _ _ _
  unfold zCg
  refine zp (zU (zYf (zn (zp ?_))))
  have hi0:=(List.getElem?_eq_some_iff.mp hp0).1
  have hdk:∀ {μ':Mem},Keep μ μ'→z4b μ' (.loc d)=some (dkP P):=fun {μ'} kp=>by
    cases e:μ[d]? with
    | none=>simp [e] at hd
    | some o =>
      have e':=kp _ _ e
      simp only [z4b,e] at hd
      simp only [z4b,e']
      exact hd
  refine zgj (JRo P lay p0 d μ) (m:=i0+1) (by first|decide|lia)
    ⟨[],some p0.1,rfl, .app,zw,by simp;lia, .inr ⟨i0,p0,rfl,hp0,rfl, .inl ⟨rfl,rfl⟩⟩⟩ ?_
  rintro m δ ν ⟨acc,f,rfl,kp,g,hlen,h⟩
  refine zK (zj (zb rfl (w_c (zlf (zKl _) ⟨_,rfl,fun h1=>?_,fun h1=>?_⟩))))
  · rcases h with ⟨rfl,_⟩ | ⟨i,p,rfl,ep,rfl,h⟩
    · cases h1
    · have hlook:=zgr t.nd (List.mem_of_getElem? ep)
      have hnew:Path P lay i ((p.2.1,p.1) :: acc.reverse):=by
        rcases h with ⟨rfl,rfl⟩ | ⟨_,i',p',hi',hpa,ep',hf,hl⟩
        · exact .one ep
        · exact .up hpa ep' ep hi' hf hl
      have hac:∃ k,(acc ++ [(p.2.1,p.1)])[0]?=some (k,p0.1):=by
        rcases h with ⟨rfl,rfl⟩ | ⟨⟨k,hk⟩,_⟩
        · exact ⟨p.2.1,rfl⟩
        · refine ⟨k,?_⟩
          rw [List.getElem?_append_left (List.getElem?_eq_some_iff.mp hk).1]
          exact hk
      unfold z6h
      refine zp (zfg (zZd (zb rfl ⟨_,_,rfl,g,?_⟩)))
      refine zc (zDd (zc (zj (zj (zb rfl (zb rfl (zzs (hdk kp) hlook (w_c (zXb rfl rfl (zc (zb rfl (zn (zn ?_)))))))))))))
      refine zGg g (by rw [List.length_map];lia) ?_
      have kp2:Keep μ (ν.set μ.length (.lst (acc.map pD ++ [pD (p.2.1,p.1)]))):=fun a o e=>zM (kp a o e) (Nat.ne_of_gt (zC e))
      refine zU (zj (zj (zb rfl (zb rfl (zzs (hdk kp2) hlook (w_c (zXb rfl rfl ?_)))))))
      obtain ⟨_,_,h3⟩:=t.ok i p ep
      rcases h3 with ⟨h3,_⟩ | ⟨j,q',hj,eq',h3,h4⟩
      · refine ⟨0,by first|decide|lia,acc ++ [(p.2.1,p.1)],none,?_,kp2,?_,by rw [List.length_append];simp;lia, .inl ⟨rfl,hac,i,p,?_,ep,h3⟩⟩
        · rw [h3];rfl
        · rw [zQ g,List.map_append];rfl
        · rw [List.reverse_append];exact hnew
      · refine ⟨j+1,by first|decide|lia,acc ++ [(p.2.1,p.1)],some q'.1,?_,kp2,?_,by rw [List.length_append];simp;lia, .inr ⟨j,q',rfl,eq',rfl, .inr ⟨hac,i,p,hj,?_,ep,h3,h4⟩⟩⟩
        · rw [h3];rfl
        · rw [zQ g,List.map_append];rfl
        · rw [List.reverse_append];exact hnew
  · rcases h with ⟨rfl,⟨k,hk⟩,i,p,hpa,ep,hn⟩ | ⟨i,p,rfl,ep,rfl,h⟩
    · refine znb (zds (zb rfl ⟨_,_,rfl,g,?_⟩))
      refine q acc.reverse _ _ (hpa.ok t hkey ep hn) ?_ (by rw [List.length_reverse];lia) kp.to kp.len ?_
      · have h0:=(List.getElem?_eq_some_iff.mp hk).1
        have:acc.reverse[acc.reverse.length - 1]?=some (k,p0.1):=by
          rw [List.length_reverse,List.getElem?_reverse (by first|decide|lia),show acc.length - 1 - (acc.length - 1)=0 by lia]
          exact hk
        rw [List.getD_eq_getElem?_getD,this]
        rfl
      · rw [zw,List.map_reverse]
    · cases h1
noncomputable def zAs (P:PT) (lay:List (Option Nat)) (key:Nat):List Nat:=(List.range lay.length).filter fun o=>decide (o=key) || decide (∃ p∈P,lay.getD o none=some p.1)
theorem zQl {L:Nat} {R:List Nat} {K:List (List Nat)} {lay:List (Option Nat)} {key n:Nat} {μ:Mem} {Q:D→Mem→Prop} (w:Wb L R K) (hlen:lay.length=K.length) (hL:L≤1000) (hn:μ[n]?=some (.lst (lay.map onD))) (hk:key<K.length) (hkey:lay.getD key none=none)
    (q1:∀ (row:List (Nat×Nat)) (l:Nat) (μ':Mem),RowOk K lay key row→lay.count (some (row.getD (row.length - 1) (0,0)).2)<R.getD (row.getD (row.length - 1) (0,0)).2 0→row.length≤10→Keep μ μ'→μ.length≤l→μ'[l]?=some (.lst (row.map pD))→Q (.tup [.str "put", .loc l]) μ')
    (q2:∀ (S:List Nat) (l:Nat) (μ':Mem),S.Sublist (List.range K.length)→key∈S→Shut R K lay S→Keep μ μ'→μ.length≤l→μ'[l]?=some (.lst (nat S))→Q (.tup [.str "full", .loc l]) μ'):WF zle [wn R K, .loc n, .int key] μ Q:=by
  have hrl:=w.rl
  have hkl:=w.kl
  refine zYb rfl ?_
  show WS zog [some (wn R K),some (.loc n),some (.int key),none,none,none] μ _ _ _ _
  unfold zog
  refine zp (zU (zq (zc (zb rfl (zc (zb rfl (zc (zb rfl (zn ?_)))))))))
  refine zIk w hlen hL hn hk fun P d μ1 t hhome hcl k1 hd g1=>?_
  refine zp (zU (zq (zc (zb rfl (zc (zb rfl (zn ?_)))))))
  refine zhr w (k1 _ _ hn) fun l2 μ2 k2 hl2 g2=>?_
  have g1':=k2 _ _ g1
  have hpl:=t.len
  refine zp (zVe (zbq (zb rfl ⟨_,_,rfl,g1',?_⟩)))
  have hd1:d < μ1.length:=zC g1
  have kf:Keep μ (μ2.set d (.dcf (dkP P))):=fun i o e=>zM ((k1.trans k2) i o e) (by have:=zC e;lia)
  have gd:=zQ (o':=LObj.dcf (dkP P)) g1'
  have gl:=zM (o':=LObj.dcf (dkP P)) g2 (by lia:d≠l2)
  generalize μ2.set d (.dcf (dkP P)) = μ3 at kf gd gl
  rw [z3l]
  refine zSb (fun m δ ν=>∃ x:Option D,δ = [some (wn R K),some (.loc n),some (.int key),some (.loc d),some (.loc l2),x]∧ν = μ3∧∀ (i:Nat) p,i<m→P[i]?=some p→R.getD p.1 0≤lay.count (some p.1)) ⟨_,rfl,rfl,by simp⟩ (fun _ _ _ _=>rfl) ?_ ?_
  · rintro m x δ ν hx ⟨y,rfl,rfl,hb⟩
    rw [List.getElem?_map,List.getElem?_map] at hx
    cases ep:P[m]? with
    | none=>rw [ep] at hx;cases hx
    | some p =>
      rw [ep] at hx
      cases hx
      have hlt:=t.lt p (List.mem_of_getElem? ep)
      refine zhd ?_
      unfold z5h
      refine zHf (zK (zj (zj (zb rfl (zb rfl (zXb (zr gl) (zdd (v := .int ((R.getD p.1 0:Int) - (lay.count (some p.1):Nat))) (by unfold zyq;simp [hlt])) (w_c (zrj ⟨_,rfl,fun h1=>?_,fun h1=>?_⟩))))))))
      · have h1:=of_decide_eq_true h1
        refine znb (zDd (zc (w_c (zc (zq (zc (zb rfl (zc (zb rfl (zn ?_))))))))))
        refine zWo t hrl.2 hkey (zJf gd) ep fun row l μ4 hrow hlast hrl4 k4 hl4 g4=>zn ?_
        refine q1 row l μ4 hrow ?_ (by first|decide|lia) (kf.trans k4) (by have:=kf.len;lia) g4
        rw [hlast]
        lia
      · have h1:=of_decide_eq_false h1
        refine zmb ⟨_,rfl,rfl,fun i p' hi e'=>?_⟩
        by_cases hm:i=m
        · subst hm
          rw [ep] at e'
          cases e'
          lia
        · exact hb i p' (by first|decide|lia) e'
  · rintro δ ν ⟨y,rfl,rfl,hb⟩
    rw [nat,List.length_map,List.length_map] at hb
    have hfull:∀ p∈P,R.getD p.1 0≤lay.count (some p.1):=fun p hp=>by
      obtain ⟨i,hi,rfl⟩:=List.mem_iff_getElem.mp hp
      exact hb i P[i] hi (by simp [hi])
    refine znb (zDd (zc (w_c (zc (zok ?_)))))
    refine z8f (zb rfl (.inr (.inr ⟨n,_,rfl,kf _ _ hn,zuc (by rw [zZb,List.length_map];lia),?_⟩)))
    rw [zPc onD lay none]
    refine zWf (fun (k:Nat) => .tup [.int k,onD (lay.getD k none)]) (List.range lay.length) (fun (k:Nat)=>D.int k) (fun o=>decide (o=key) || decide (∃ p∈P,lay.getD o none=some p.1)) (fun μ' k'=>zlb (kf _ _ hn) k') (fun k hk' μ' kp=>?_) (fun μ' kp=>?_)
    · have gd':=kp _ _ gd
      refine zDj (zvd (zhd (zvd (zhd (zGi ?_)))))
      unfold zji z7h
      refine zYo (zK (zj (zb rfl (zb rfl (zOh ⟨_,rfl,fun h1=>?_,fun h1=>?_⟩)))))
      · have h1:k≠key:=by
          intro e
          rw [e] at h1
          simp at h1
        rw [decide_eq_false h1,Bool.false_or]
        cases e:lay.getD k none with
        | none =>
          refine zK (zj (zb rfl (zb rfl (zUr (zJf gd') ?_ ⟨_,rfl,?_,kp,fun hb=>(by cases hb)⟩))))
          · rw [List.all_eq_true]
            intro x hx
            obtain ⟨p,hp,rfl⟩:=List.mem_map.mp hx
            have:=t.lt p hp
            exact decide_eq_true (by simp only;lia)
          · symm
            refine decide_eq_false ?_
            rintro ⟨p,_,e⟩
            cases e
        | some h =>
          refine zK (zj (zb rfl (zb rfl (zts (zJf gd') ⟨_,rfl,?_,kp,fun hb=>zb rfl ⟨rfl,kp⟩⟩))))
          rw [zlh]
          refine decide_eq_decide.mpr ?_
          rw [List.mem_map]
          constructor
          · rintro ⟨p,hp,rfl⟩
            exact ⟨p,hp,rfl⟩
          · rintro ⟨p,hp,e⟩
            cases e
            exact ⟨p,hp,rfl⟩
      · have h1:k=key:=by
          have:=beq_iff_eq.mp h1
          lia
        rw [decide_eq_true h1,Bool.true_or]
        exact ⟨rfl,kp,fun _=>zb rfl ⟨rfl,kp⟩⟩
    · refine zn (q2 (zAs P lay key) _ _ ?_ ?_ ?_ (kf.trans kp.to) (kf.trans kp).len zw)
      · rw [← hlen];exact List.filter_sublist
      · exact List.mem_filter.mpr ⟨by simpa [hlen] using hk,by simp⟩
      · have hin:∀ k∈zAs P lay key,∀ h∈K.getD k [],∃ p∈P,p.1=h:=fun k hkm h hh=>by
          have hm:=(List.mem_filter.mp hkm).2
          rw [Bool.or_eq_true,decide_eq_true_iff,decide_eq_true_iff] at hm
          rcases hm with rfl | ⟨p,hp,e⟩
          · obtain ⟨p,hp,e⟩:=List.mem_map.mp (hhome h hh)
            exact ⟨p,hp,e⟩
          · obtain ⟨p',hp',e'⟩:=List.mem_map.mp (hcl p hp k e h hh)
            exact ⟨p',hp',e'⟩
        refine ⟨fun k hkm=>?_,fun k hkm h hh=>?_,fun k hkm h hh o e=>?_⟩
        · have:=(List.mem_filter.mp hkm).1
          rw [← hlen]
          simpa using this
        · obtain ⟨p,hp,rfl⟩:=hin k hkm h hh
          exact hfull p hp
        · obtain ⟨p,hp,rfl⟩:=hin k hkm h hh
          refine List.mem_filter.mpr ⟨?_,?_⟩
          · rw [List.mem_range]
            refine Nat.lt_of_not_le fun hle=>?_
            rw [List.getD_eq_getElem?_getD,List.getElem?_eq_none hle] at e
            cases e
          · rw [Bool.or_eq_true]
            exact .inr (decide_eq_true ⟨p,hp,e⟩)
theorem z9r {n m:Nat} {xs ys:List D} {μ:Mem} {Q:D→Mem→Prop} (h:μ[n]?=some (.lst xs)) (h2:μ[m]?=some (.lst ys)) (hl:xs.length+ys.length≤1000000) (q:Q .non (μ.set n (.lst (xs++ys)))):WM ziq (.loc n) [.loc m] μ Q:=⟨_,_,by simp [h,h2,hl] <;> rfl,q⟩
theorem zGs {lay:List (Option Nat)} {k:Nat} (h:k<lay.length):atI (lay.map onD) (k:Int)=some (onD (lay.getD k none)):=zdd (by simp [h])
theorem zgm {row:List (Nat×Nat)} {i:Nat} {p:Nat×Nat} (e:row[i]?=some p):atI (row.map pD) (i:Int)=some (pD p):=zdd (by rw [List.getElem?_map,e];rfl)
theorem zNn {L:Nat} {R:List Nat} {K:List (List Nat)} {lay:List (Option Nat)} {key n r i:Nat} {row:List (Nat×Nat)} {p:Nat×Nat} {μ:Mem} {Q:D→Mem→Prop} (w:Wb L R K) (hlen:lay.length=K.length) (hn:μ[n]?=some (.lst (lay.map onD))) (hr:μ[r]?=some (.lst (row.map pD))) (hrl:row.length≤1000) (ok:RowOk K lay key row) (e:row[i]?=some p)
    (q:∀ μ',Keep μ μ'→Q (.bl true) μ'):WF zmf [wn R K, .loc n, .loc r, .int i] μ Q:=by
  have hm:=ok.mem p (List.mem_of_getElem? e)
  have hi:=(List.getElem?_eq_some_iff.mp e).1
  refine zYb rfl ?_
  show WS zGf [some (wn R K),some (.loc n),some (.loc r),some (.int i),none] μ _ _ _ _
  unfold zGf
  refine zp (zU (zj (zj (zb rfl (zb rfl (zXb (zr hr) (zgm e) (w_c (zXb rfl rfl ?_))))))))
  refine zp (zHf (zYo (zK (zj (zb rfl (w_c (zrj ⟨_,rfl,fun h1=>?_,fun h1=>?_⟩)))))))
  case refine_2=>have:=of_decide_eq_true h1;lia
  refine zK (zj (zb rfl (zq (zc (zb rfl (zn (zTe (zr hn) (zrj ⟨_,rfl,fun h2=>?_,fun h2=>zmb ?_⟩))))))))
  · have:=of_decide_eq_true h2
    rw [List.length_map] at this
    lia
  refine zp (zHf (zYo (zK (zj (zj (zj (zb rfl (zb rfl (zXb (zr hr) (zgm e) (w_c (zXb rfl rfl (zj (zj (zb rfl (w_c (zod (zb rfl (zNk hm.1 (zll rfl ⟨_,rfl,fun h3=>?_,fun h3=>?_⟩)))))))))))))))))))
  case refine_2=>rw [decide_eq_true hm.2.1] at h3;cases h3
  refine zK (zj (zj (zj (zb rfl (zb rfl (zXb (zr hr) (zgm e) (w_c (zXb rfl rfl (zj (zb rfl (zb rfl (zXb (zr hn) (zGs (by first|decide|lia)) (zdq (α:=Option Nat) (some p.2) (lay.getD p.1 none) ⟨_,rfl,fun h4=>?_,fun h4=>zmb ?_⟩)))))))))))))
  · exact absurd (of_decide_eq_true h4).symm hm.2.2
  refine znb (zj (zb rfl (zok (zXe (zfr (zb rfl (zvk (zlg (zb rfl ⟨_,rfl,_,_,rfl,hr, .inr (.inr ⟨_,_,rfl,zw,?_,?_⟩)⟩)))))))))
  · rw [zWg];exact zuc (by rw [List.length_take,List.length_map];lia)
  rw [zWg,← List.map_take]
  refine zhf pD (row.take i) (fun x => .int (x.1:Nat)) (fun μ' k=>zlb zw k) (fun x hx μ' kp=>?_) (fun μ' kp=>?_)
  · unfold z2g
    exact zhd (zj (zb rfl (w_c (zXb rfl rfl ⟨rfl,kp,kp⟩))))
  · have e2:((row.take i).map fun x=>D.int (x.1:Nat))=nat ((row.take i).map (·.1)):=(zKf _ _).symm
    rw [e2]
    refine zll (zr zw) ?_
    have hnot:p.1∉(row.take i).map (·.1):=by
      intro hmem
      have nd:=ok.nd
      rw [← List.take_append_drop i row,List.map_append,List.nodup_append] at nd
      refine nd.2.2 _ hmem _ ?_ rfl
      refine List.mem_map.mpr ⟨p,?_,rfl⟩
      rw [List.drop_eq_getElem_cons hi,(List.getElem?_eq_some_iff.mp e).2]
      exact List.mem_cons_self
    rw [decide_eq_false hnot]
    exact q _ (Keep.app.trans (kp.to))
theorem z7l {K:List (List Nat)} {lay:List (Option Nat)} {key n r i:Nat} {row:List (Nat×Nat)} {p:Nat×Nat} {μ:Mem} {Q:D→Mem→Prop} (hlen:lay.length=K.length) (hn:μ[n]?=some (.lst (lay.map onD))) (hr:μ[r]?=some (.lst (row.map pD))) (ok:RowOk K lay key row) (e:row[i]?=some p)
    (q:Q (.bl true) μ):WF z7e [.loc n, .int key, .loc r, .int i] μ Q:=by
  refine zYb rfl ?_
  show WS zaf [some (.loc n),some (.int key),some (.loc r),some (.int i)] μ _ _ _ _
  unfold zaf
  refine zp (zHf (zK (zj (zb rfl (w_c (zOh ⟨_,rfl,fun h1=>?_,fun h1=>zmb ?_⟩))))))
  · obtain ⟨h,r0,e0⟩:=ok.first
    refine znb (zj (zj (zj (zb rfl (w_c (zXb (zr hr) (zgm (i:=0) (p:=(key,h)) (by rw [e0];rfl)) (w_c (zXb rfl rfl (zb rfl (zOh ?_))))))))))
    rw [beq_self_eq_true]
    exact q
  · cases i with
    | zero=>exact absurd h1 (by decide)
    | succ j =>
      have hj:j<row.length:=by
        have:=(List.getElem?_eq_some_iff.mp e).1
        lia
      have ej:row[j]?=some row[j]:=by simp [hj]
      have hl:=ok.link j _ _ ej e
      have hm:=ok.mem p (List.mem_of_getElem? e)
      refine znb (zj (zj (zb rfl (zj (zj (zb rfl (zb rfl (zXb (zr hr) (zgm e) (w_c (zXb rfl rfl (zXb (zr hn) (zGs (by first|decide|lia)) (zj (zj (zb rfl (zj (zb rfl (w_c (zar ?_))))))))))))))))))
      rw [show ((j+1:Nat):Int) - 1=(j:Int) by lia]
      refine zXb (zr hr) (zgm ej) (w_c (zXb rfl rfl (zdq (α:=Option Nat) (lay.getD p.1 none) (some (row[j]).2) ?_)))
      rw [decide_eq_true hl]
      exact q
theorem zjl {R:List Nat} {K:List (List Nat)} {lay:List (Option Nat)} (r:RightL R K lay):zri R K (lay.map onD) = .non:=by
  unfold zri
  rw [zbe fun k hk=>?_,zbe fun h hh=>?_]
  · unfold zXn
    rw [zvo]
    have:=r.room h
    exact decide_eq_false (by first|decide|lia)
  · unfold zZi
    have e:(lay.map onD).getD k .non=onD (lay.getD k none):=by
      have hk':k<lay.length:=by rw [r.len];exact hk
      simp [hk']
    rw [e]
    cases e2:lay.getD k none with
    | none=>rfl
    | some h =>
      have hm:h∈K.getD k []:=r.home k h (by
        have hk':k<lay.length:=by rw [r.len];exact hk
        simp [hk'] at e2
        simp [hk',e2])
      show (_ && !((nat (K.getD k [])).any fun y=>eqF y (.int h)))=false
      rw [zYn,decide_eq_true hm,Bool.not_true,Bool.and_false]
theorem zns (lay:List (Option Nat)) (k h:Nat):(lay.set k (some h)).map onD=(lay.map onD).set k (.int h):=List.map_set
theorem zfo {L:Nat} {R:List Nat} {K:List (List Nat)} {lay:List (Option Nat)} {key n r:Nat} {row:List (Nat×Nat)} {μ:Mem} {Q:D→Mem→Prop} (w:Wb L R K) (hL:L≤1000) (rt:RightL R K lay) (hn:μ[n]?=some (.lst (lay.map onD))) (hr:μ[r]?=some (.lst (row.map pD))) (hrl:row.length≤1000) (ok:RowOk K lay key row) (hkey:lay.getD key none=none) (hroom:lay.count (some (row.getD (row.length - 1) (0,0)).2)<R.getD (row.getD (row.length - 1) (0,0)).2 0)
    (q:∀ (l:Nat) (μ':Mem),Keep μ μ'→μ.length≤l→μ'[l]?=some (.lst ((zbd lay row).map onD))→Q (.loc l) μ'):WF zFg [wn R K, .loc n, .int key, .loc r] μ Q:=by
  have hkl:=w.kl
  have hlen:=rt.len
  refine zYb rfl ?_
  show WS zHg [some (wn R K),some (.loc n),some (.int key),some (.loc r),none,none,none] μ _ _ _ _
  unfold zHg
  refine zp (zU (zq (zc (zb rfl (zn (zGp (zr hn) ?_))))))
  refine zp (zVe (z8f (zb rfl (.inr (.inr ⟨r,_,rfl,zG hr,?_⟩)))))
  refine zSb (fun m δ ν=>∃ x y:Option D,δ = [some (wn R K),some (.loc n),some (.int key),some (.loc r),some (.loc μ.length),x,y]∧Keep μ ν∧ν[μ.length]?=some (.lst ((zbd lay (row.take m)).map onD))) ⟨_,_,rfl, .app,zw⟩ (fun m δ ν ⟨_,_,_,k,_⟩=>zlb hr k) ?_ ?_
  · rintro m x δ ν hx ⟨a,b,rfl,kp,g⟩
    obtain ⟨p,ep,rfl⟩:=zTh hx
    have hm:=ok.mem p (List.mem_of_getElem? ep)
    have htk:row.take (m+1)=row.take m ++ [p]:=by rw [List.take_succ,ep];rfl
    refine zDj (zvd (zhd (zvd (zhd (zGi ?_)))))
    unfold z2h
    refine zp (zHf (zws (zTp (zK (zq (zc (zb rfl (zc (zb rfl (zc (zb rfl (zc (zb rfl (zn ?_))))))))))))))
    refine zNn w hlen (kp _ _ hn) (kp _ _ hr) hrl ok ep fun μ1 k1=>⟨_,rfl,fun _=>?_,fun h=>(by cases h)⟩
    refine zK (zq (zc (zb rfl (zc (zb rfl (zc (zb rfl (zc (zb rfl (zn ?_))))))))))
    refine z7l hlen ((kp.trans k1) _ _ hn) ((kp.trans k1) _ _ hr) ok ep ⟨_,rfl,fun h=>(by cases h),fun _=>zmb ?_⟩
    refine zhm (zj (zb rfl (w_c (zXb rfl rfl ?_))))
    have g1:=k1 _ _ g
    refine z3q (zb rfl (zj (zb rfl (w_c (zXb rfl rfl ⟨_,_,_,rfl,rfl,g1,?_,?_⟩)))))
    · rw [List.length_map,zkf];lia
    · refine ⟨_,_,rfl,fun i o e=>zM (k1 _ _ (kp i o e)) (Nat.ne_of_gt (zC e)),?_⟩
      rw [zQ g1,htk,z9h,zns]
      rfl
  · rintro δ ν ⟨a,b,rfl,kp,g⟩
    rw [zZb,List.length_map,List.take_length] at g
    have hpos:0<row.length:=by
      obtain ⟨h,q,e⟩:=ok.first
      rw [e];simp
    refine zp (zHf (zYo (zK (zj (zq (zc (zb rfl (zn (zTe (zr (kp _ _ hr)) (w_c (zOh ⟨_,rfl,fun h1=>?_,fun h1=>?_⟩)))))))))))
    case refine_2 =>
      have:=beq_iff_eq.mp h1
      rw [List.length_map] at this
      lia
    have hr2:=zUe rt ok hkey hroom
    refine zK (zj (zq (zc (zb rfl (zc (zb rfl (zn ?_)))))))
    refine zPo w (zSn _) (by rw [List.length_map,zkf];exact hlen) g fun μ1 k1=>?_
    rw [zjl hr2]
    refine w_c (zlf rfl ⟨_,rfl,fun h=>(by cases h),fun _=>zmb (znb (zb rfl ?_))⟩)
    exact q _ _ (kp.trans k1) (Nat.le_refl _) (k1 _ _ g)
noncomputable def zFe (S:List Nat) (k:Nat):List Nat:=S.filter fun o=>!decide (o=k)
noncomputable def z0b (R:List Nat) (K:List (List Nat)) (S:List Nat):Option Nat:=S.find? fun k=>znd R K (zFe S k)
theorem zNf {R:List Nat} {K:List (List Nat)} {S:List Nat} {k:Nat} (h:z0b R K S=some k):k∈S:=List.mem_of_find?_eq_some h
theorem zjj {R:List Nat} {K:List (List Nat)} {S:List Nat} {k:Nat} (h:z0b R K S=some k):znd R K (zFe S k)=true:=List.find?_some (p:=fun k=>znd R K (zFe S k)) h
theorem zrd (S:List Nat) (k:Nat):(zFe S k).Sublist S:=List.filter_sublist
theorem zNg {S:List Nat} (h:S.Nodup) (k:Nat):S.erase k=zFe S k:=by
  rw [h.erase_eq_filter]
  unfold zFe
  refine List.filter_congr fun x _=>?_
  by_cases e:x=k <;> simp [e]
theorem zZg {S:List Nat} (h:S.Nodup) {k:Nat} (hk:k∈S):(zFe S k).length+1=S.length:=by
  rw [← zNg h,List.length_erase_of_mem hk]
  have:=List.length_pos_of_mem hk
  lia
noncomputable def zMh (R:List Nat) (K:List (List Nat)):Nat→List Nat→List Nat
  | 0,S=>S
  | n+1,S=>match z0b R K S with
    | none=>S
    | some k=>zMh R K n (zFe S k)
noncomputable def zEj (R:List Nat) (K:List (List Nat)) (S:List Nat):List Nat:=zMh R K S.length S
theorem zcm {R:List Nat} {K:List (List Nat)} {S:List Nat} (h:z0b R K S=none):zEj R K S=S:=by
  unfold zEj
  cases S with
  | nil=>rfl
  | cons a S=>rw [List.length_cons,zMh,h]
theorem zom {R:List Nat} {K:List (List Nat)} {S:List Nat} {k:Nat} (hd:S.Nodup) (h:z0b R K S=some k):zEj R K S=zEj R K (zFe S k):=by
  have h1:=zZg hd (zNf h)
  unfold zEj
  conv=>lhs;rw [← h1,zMh,h]
theorem zjk {R:List Nat} {K:List (List Nat)}:∀ (n:Nat) (S:List Nat),(zMh R K n S).Sublist S
  | 0,S=>List.Sublist.refl _
  | n+1,S=>by
    unfold zMh
    cases z0b R K S with
    | none=>exact List.Sublist.refl _
    | some k=>exact (zjk n _).trans (zrd S k)
theorem zvj {R:List Nat} {K:List (List Nat)}:∀ (n:Nat) (S:List Nat),S.Nodup→S.length≤n→z0b R K (zMh R K n S)=none
  | 0,S,_,h=>by
    have:S = []:=List.length_eq_zero_iff.mp (by first|decide|lia)
    subst this
    rfl
  | n+1,S,hd,h=>by
    unfold zMh
    cases e:z0b R K S with
    | none=>exact e
    | some k =>
      have:=zZg hd (zNf e)
      exact zvj n _ (hd.sublist (zrd S k)) (by first|decide|lia)
theorem znh {R:List Nat} {K:List (List Nat)}:∀ (n:Nat) (S:List Nat),znd R K S=true→znd R K (zMh R K n S)=true
  | 0,S,h=>h
  | n+1,S,h=>by
    unfold zMh
    cases e:z0b R K S with
    | none=>exact h
    | some k=>exact znh n _ (zjj e)
theorem zOg {L:Nat} {R:List Nat} {K:List (List Nat)} {S:List Nat} {n:Nat} {μ:Mem} {Q:D→Mem→Prop} (w:Wb L R K) (hn:μ[n]?=some (.lst (nat S))) (hS:∀ k∈S,k<K.length) (hl:S.length≤1000)
    (q:∀ μ',Keep μ μ'→Q (onD (z0b R K S)) μ'):WF zJc [wn R K, .loc n] μ Q:=by
  refine zYb rfl ?_
  show WS zQd [some (wn R K),some (.loc n),none] μ _ _ _ _
  unfold zQd
  refine zp (zVe (zXe (zb rfl (.inr (.inr ⟨n,_,rfl,hn,?_⟩)))))
  refine zSb (fun m δ μ'=>∃ a:Option D,δ = [some (wn R K),some (.loc n),a]∧Keep μ μ'∧∀ k∈S.take m,znd R K (zFe S k)=false) ⟨_,rfl, .refl,by simp⟩ (fun m δ μ' ⟨a,_,k,_⟩=>zlb hn k) ?_ ?_
  · rintro m x δ μ1 hx ⟨a,rfl,k1,hb⟩
    rw [List.getElem?_map] at hx
    cases hy:S[m]? with
    | none=>rw [hy] at hx;cases hx
    | some kk =>
      rw [hy] at hx
      cases hx
      have ht:S.take (m+1)=S.take m ++ [kk]:=by rw [List.take_succ,hy];rfl
      refine zhd ?_
      unfold zDf
      refine zHf (zK (zq (zc (zb rfl (zc (zok ?_))))))
      refine zXe (zb rfl (.inr (.inr ⟨n,_,rfl,k1 _ _ hn,zuc (by rw [List.length_map];lia),?_⟩)))
      refine zWf (fun (k:Nat)=>D.int k) S (fun (k:Nat)=>D.int k) (fun o=>!decide (o=kk)) (fun μ' k'=>zlb (k1 _ _ hn) k') (fun j hj μ' kp=>?_) (fun μ2 k2=>?_)
      · (refine zhd ?_;refine zK ?_;refine zj ?_;refine zb rfl ?_;refine zb rfl ?_;refine zst ?_;with_reducible refine ⟨_,rfl,?_⟩)
        refine ⟨?_,kp,fun _=>?_⟩
        · congr 1
          by_cases e:j=kk
          · subst e;simp
          · simp [e];lia
        · unfold z4e
          exact zb rfl ⟨rfl,kp⟩
      · refine zn ?_
        have hls:(zFe S kk).length≤S.length:=(zrd S kk).length_le
        refine z4l w (S:=zFe S kk) zw (fun k hk=>hS k ((zrd S kk).subset hk)) (by first|decide|lia) fun μ3 k3=>⟨_,rfl,fun h1=>?_,fun h1=>?_⟩
        · refine znb (zb rfl ?_)
          have:=q μ3 (k1.trans (k2.to.trans k3))
          have e:z0b R K S=some kk:=by
            unfold z0b
            rw [List.find?_eq_some_iff_append]
            refine ⟨h1,S.take m,S.drop (m+1),?_,fun a ha=>by rw [hb a ha];rfl⟩
            have hlt:=(List.getElem?_eq_some_iff.mp hy).1
            have e1:S.drop m=kk :: S.drop (m+1):=by
              rw [List.drop_eq_getElem_cons hlt,(List.getElem?_eq_some_iff.mp hy).2]
            rw [← e1,List.take_append_drop]
          rw [e] at this
          exact this
        · refine zmb ⟨_,rfl,k1.trans (k2.to.trans k3),fun k hk=>?_⟩
          rw [ht] at hk
          rcases List.mem_append.mp hk with hk | hk
          · exact hb k hk
          · rw [List.mem_singleton.mp hk];exact h1
  · rintro δ μ1 ⟨a,rfl,k1,hb⟩
    rw [List.length_map,List.take_length] at hb
    refine znb (w_c ?_)
    have:=q μ1 k1
    have e:z0b R K S=none:=by
      unfold z0b
      rw [List.find?_eq_none]
      intro k hk
      rw [hb k hk]
      exact Bool.false_ne_true
    rw [e] at this
    exact this
theorem zPm {L:Nat} {R:List Nat} {K:List (List Nat)} {S:List Nat} {n:Nat} {μ:Mem} {Q:D→Mem→Prop} (w:Wb L R K) (hn:μ[n]?=some (.lst (nat S))) (hS:∀ k∈S,k<K.length) (hl:S.length≤1000) (hd:S.Nodup)
    (q:∀ (l:Nat) (μ':Mem),Keep μ μ'→μ.length≤l→μ'[l]?=some (.lst (nat (zEj R K S)))→Q (.loc l) μ'):WF znf [wn R K, .loc n] μ Q:=by
  refine zYb rfl ?_
  show WS ztf [some (wn R K),some (.loc n),none,none] μ _ _ _ _
  unfold ztf
  refine zp (zU (zq (zc (zb rfl (zn (zGp (zr hn) ?_))))))
  refine zp (zU (zq (zc (zb rfl (zc (zb rfl (zn ?_)))))))
  refine zOg w zw hS hl fun μ1 k1=>?_
  refine zp ?_
  refine zgj (fun m δ μ'=>∃ T:List Nat,m=T.length∧δ = [some (wn R K),some (.loc n),some (.loc μ.length),some (onD (z0b R K T))]∧Keep μ μ'∧μ'[μ.length]?=some (.lst (nat T))∧T.Sublist S∧zEj R K S=zEj R K T) (m:=S.length) (by first|decide|lia) ⟨S,rfl,rfl,Keep.app.trans k1,k1 _ _ zw,List.Sublist.refl _,rfl⟩ ?_
  rintro m δ μ' ⟨T,rfl,rfl,k2,g2,hT,ht⟩
  have hTd:=hd.sublist hT
  have hTl:=hT.length_le
  (refine zK ?_;refine zj ?_;refine zb rfl ?_;refine w_c ?_)
  refine zlf (zKl _) ⟨_,rfl,fun h1=>?_,fun h1=>?_⟩
  · cases e:z0b R K T with
    | none=>rw [e] at h1;cases h1
    | some k =>
      have hk:=zNf e
      have hle:=zZg hTd hk
      unfold zJg
      refine zp (zfg (zZd (zb rfl ⟨_,_,rfl,g2,?_⟩)))
      refine zc (zb rfl (zn ?_))
      refine zMn g2 hk ?_
      rw [zNg hTd]
      refine zU (zq (zc (zb rfl (zc (zb rfl (zn ?_))))))
      have g3:=zQ (o':=LObj.lst (nat (zFe T k))) g2
      refine zOg w g3 (fun x hx=>hS x (hT.subset ((zrd T k).subset hx))) (by first|decide|lia) fun μ3 k3=>?_
      exact ⟨(zFe T k).length,by first|decide|lia,zFe T k,rfl,rfl,fun i o e'=>k3 _ _ (zM (k2 _ _ e') (Nat.ne_of_gt (zC e'))),k3 _ _ g3,(zrd T k).trans hT,by rw [ht,zom hTd e]⟩
  · refine znb (zb rfl ?_)
    have e:z0b R K T=none:=by
      cases e:z0b R K T with
      | none=>rfl
      | some k=>rw [e] at h1;cases h1
    refine q _ _ k2 (Nat.le_refl _) ?_
    rw [ht,zcm e]
    exact g2
theorem zup {K:List (List Nat)} {lay:List (Option Nat)} {key:Nat} {row:List (Nat×Nat)} (ok:RowOk K lay key row) {k:Nat} (h:k∈row.map (·.1)):k=key∨(lay.getD k none).isSome=true:=by
  obtain ⟨p,hp,rfl⟩:=List.mem_map.mp h
  obtain ⟨i,hi,rfl⟩:=List.mem_iff_getElem.mp hp
  cases i with
  | zero =>
    obtain ⟨h,r,e⟩:=ok.first
    subst e
    exact .inl rfl
  | succ j =>
    have:=ok.link j row[j] row[j+1] (by simp [show j<row.length by lia]) (by simp [hi])
    exact .inr (by rw [this];rfl)
theorem zMg {K:List (List Nat)} {lay:List (Option Nat)} {key:Nat} {row:List (Nat×Nat)} (hlen:lay.length=K.length) (ok:RowOk K lay key row) {k:Nat} (h:k=key∨(lay.getD k none).isSome=true):((zbd lay row).getD k none).isSome=true:=by
  by_cases hm:k∈row.map (·.1)
  · obtain ⟨p,hp,rfl⟩:=List.mem_map.mp hm
    rw [zwg ok.nd hp (by rw [hlen];exact (ok.mem p hp).1)]
    rfl
  · rcases h with rfl | h
    · obtain ⟨h,r,e⟩:=ok.first
      subst e
      exact absurd (by simp) hm
    · rw [zUc hm];exact h
theorem zah {K:List (List Nat)} {lay:List (Option Nat)} {key:Nat} {row:List (Nat×Nat)} (ok:RowOk K lay key row) {k:Nat} (h:lay.getD k none=none) (hk:k≠key):(zbd lay row).getD k none=none:=by
  rw [zUc fun hm=>?_]
  · exact h
  · rcases zup ok hm with e | e
    · exact hk e
    · rw [h] at e;cases e
theorem z2i {s:Str} {μ:Mem} (h:PyData.strOk s=true):toP μ 8 (.str s)=some (.str s):=by
  show (bif PyData.strOk s then some (PyData.str s) else none)=_
  rw [h];rfl
theorem zfe {a b:Str} {μ:Mem} {Q:D→Mem→Prop} (q:Q (.bl (PyData.eqv (.str a) (.str b))) μ) (ha:PyData.strOk a=true:=by decide +kernel) (hb:PyData.strOk b=true:=by decide +kernel):W2 gEq (.str a) (.str b) μ Q:=z5s (z2i ha) (z2i hb) q
theorem zhn {a b:Str} {μ:Mem} {Q:D→Mem→Prop} (q:Q (.bl (!PyData.eqv (.str a) (.str b))) μ) (ha:PyData.strOk a=true:=by decide +kernel) (hb:PyData.strOk b=true:=by decide +kernel):W2 gNe (.str a) (.str b) μ Q:=z8s (z2i ha) (z2i hb) q
structure Done (R:List Nat) (K:List (List Nat)) (lay0 lay:List (Option Nat)) (ks C:List Nat):Prop where
  right:RightL R K lay
  shut:Shut R K lay C
  old:∀ k,(lay0.getD k none).isSome=true→(lay.getD k none).isSome=true
  non:∀ k,k∉ks→lay0.getD k none=none→lay.getD k none=none
  all:∀ k∈ks,(lay.getD k none).isSome=true∨(k∈C∧lay.getD k none=none)
  out:C≠[]→∃ k∈C,k∈ks∧lay.getD k none=none
theorem Done.put {R:List Nat} {K:List (List Nat)} {lay0 lay:List (Option Nat)} {ks C:List Nat} {key:Nat} {row:List (Nat×Nat)} (d:Done R K lay0 lay ks C) (hk:key∉ks) (hkey:lay.getD key none=none) (ok:RowOk K lay key row)
    (hroom:lay.count (some (row.getD (row.length - 1) (0,0)).2)<R.getD (row.getD (row.length - 1) (0,0)).2 0):Done R K lay0 (zbd lay row) (ks ++ [key]) C:=by
  have hlen:=d.right.len
  refine ⟨zUe d.right ok hkey hroom,d.shut.push d.right ok hkey hroom,fun k h=>zMg hlen ok (.inr (d.old k h)),fun k h h0=>?_,fun k h=>?_,fun hC=>?_⟩
  · rw [List.mem_append,not_or] at h
    exact zah ok (d.non k h.1 h0) (by simpa using h.2)
  · rcases List.mem_append.mp h with h' | h
    · rcases d.all k h' with h1 | ⟨h1,h2⟩
      · exact .inl (zMg hlen ok (.inr h1))
      · exact .inr ⟨h1,zah ok h2 (by rintro rfl;exact hk h')⟩
    · rw [List.mem_singleton.mp h]
      exact .inl (zMg hlen ok (.inl rfl))
  · obtain ⟨k,h1,h2,h3⟩:=d.out hC
    exact ⟨k,h1,List.mem_append_left _ h2,zah ok h3 (by rintro rfl;exact hk h2)⟩
theorem Done.full {R:List Nat} {K:List (List Nat)} {lay0 lay:List (Option Nat)} {ks C S:List Nat} {key:Nat} (d:Done R K lay0 lay ks C) (hkey:lay.getD key none=none) (hS:key∈S) (s:Shut R K lay S):Done R K lay0 lay (ks ++ [key]) (C++S):=by
  refine ⟨d.right,d.shut.app s,d.old,fun k h h0=>?_,fun k h=>?_,fun hC=>⟨key,List.mem_append_right _ hS,by simp,hkey⟩⟩
  · rw [List.mem_append,not_or] at h
    exact d.non k h.1 h0
  · rcases List.mem_append.mp h with h | h
    · rcases d.all k h with h1 | ⟨h1,h2⟩
      · exact .inl h1
      · exact .inr ⟨List.mem_append_left _ h1,h2⟩
    · rw [List.mem_singleton.mp h]
      exact .inr ⟨List.mem_append_right _ hS,hkey⟩
noncomputable def zrm (m:Nat) (C:List Nat):List Nat:=(List.range m).filter fun k=>decide (k∈C)
theorem zdf {m:Nat} {C:List Nat} (h:∀ k∈C,k<m) (k:Nat):k∈zrm m C↔k∈C:=by
  unfold zrm
  rw [List.mem_filter,List.mem_range,decide_eq_true_iff]
  exact ⟨fun q=>q.2,fun q=>⟨h k q,q⟩⟩
theorem ztq {m n:Nat} {C:List Nat} {φ:FE} {δ:M.Loc} {μ:Mem} {Q:D→Mem→Prop} (hC:∀ k∈C,k<m) (hm:m<64) (hl:C.length≤4000) (h:WE φ δ μ fun x μ1=>x = .loc n∧μ1[n]?=some (.lst (nat C))∧Q (.loc μ1.length) (μ1 ++ [.lst (nat (zrm m C))])):WE (znm φ) δ μ Q:=by
  have hmem:∀ i:Int,i∈(zrm m C).map (fun (k:Nat)=>(k:Int))↔i∈C.map (fun (k:Nat)=>(k:Int)):=fun i=>by
    simp only [List.mem_map]
    constructor
    · rintro ⟨k,hk,rfl⟩
      exact ⟨k,(zdf hC k).mp hk,rfl⟩
    · rintro ⟨k,hk,rfl⟩
      exact ⟨k,(zdf hC k).mpr hk,rfl⟩
  have hpw:((zrm m C).map (fun (k:Nat)=>(k:Int))).Pairwise (· < ·):=by
    rw [List.pairwise_map]
    exact (List.pairwise_lt_range.filter _).imp fun h=>by lia
  have hp:=zxi hmem hpw
  have hsort:=zhj hmem hpw
  have hsl:(zrm m C).length≤m:=by unfold zrm;simpa using (List.filter_sublist (l:=List.range m) (p:=fun k=>decide (k∈C))).length_le
  refine zZp (h.mono ?_)
  rintro x μ1 ⟨rfl,g,q⟩
  refine ⟨_,C.map (fun (k:Nat)=>(k:Int)),rfl,by rw [g,List.map_map];rfl,by rw [List.length_map];lia,by rw [hp.length_eq,List.length_map];lia,?_⟩
  rw [hsort,List.map_map]
  exact q
noncomputable abbrev JLm (R:List Nat) (K:List (List Nat)) (lay0:List (Option Nat)) (ks:List Nat) (n m:Nat) (μ:Mem):Nat→M.Loc→Mem→Prop:=fun i δ ν=>∃ (lay:List (Option Nat)) (C:List Nat) (l:Nat) (x y:Option D),δ = [some (wn R K),some (.loc l),some (.loc m),some (.loc μ.length),x,y]∧Done R K lay0 lay (ks.take i) C∧C.length≤i * K.length∧Keep μ ν∧(l=n∧lay=lay0∨μ.length<l)∧ν[μ.length]?=some (.lst (nat C))∧ν[l]?=some (.lst (lay.map onD))
theorem zyk {L:Nat} {R:List Nat} {K:List (List Nat)} {lay0:List (Option Nat)} {ks:List Nat} {n m:Nat} {μ:Mem} {Q:D→Mem→Prop} (w:Wb L R K) (hL:L≤60) (rt:RightL R K lay0) (hn:μ[n]?=some (.lst (lay0.map onD))) (hm:μ[m]?=some (.lst (nat ks))) (hks:∀ k∈ks,k<K.length) (hnd:ks.Nodup) (hnon:∀ k∈ks,lay0.getD k none=none)
    (q:∀ (lay:List (Option Nat)) (C:List Nat) (l l2:Nat) (μ':Mem),Done R K lay0 lay ks C→Keep μ μ'→(l=n∧lay=lay0∨μ.length≤l)→μ.length≤l2→l≠l2→μ'[l]?=some (.lst (lay.map onD))→μ'[l2]?=some (.lst (nat (zrm K.length C)))→Q (.tup [.loc l, .loc l2]) μ'):WF zAd [wn R K, .loc n, .loc m] μ Q:=by
  have hkl:=w.kl
  have hkn:ks.length≤K.length:=by
    have:=zud hnd (m:=List.range K.length) fun x hx=>by simpa using hks x hx
    simpa using this
  refine zYb rfl ?_
  show WS zUd [some (wn R K),some (.loc n),some (.loc m),none,none,none] μ _ _ _ _
  unfold zUd
  refine zp (zU (zYf (zn (zp (zVe (zXe (zb rfl (.inr (.inr ⟨m,_,rfl,zG hm,?_⟩)))))))))
  have hnl:=zC hn
  refine zSb (JLm R K lay0 ks n m μ)
    ⟨lay0,[],n,_,_,rfl,⟨rt, .nil,fun _ h=>h,fun _ _ h=>h,by simp,fun h=>absurd rfl h⟩,by simp, .app, .inl ⟨rfl,rfl⟩,zw,zG hn⟩ (fun i δ ν ⟨_,_,_,_,_,_,_,_,k,_⟩=>zlb hm k) ?_ ?_
  · rintro i z δ ν hz ⟨lay,C,l,x,y,rfl,d,hCl,kp,hl,gC,gl⟩
    rw [List.getElem?_map] at hz
    cases ek:ks[i]? with
    | none=>rw [ek] at hz;cases hz
    | some key =>
      rw [ek] at hz
      cases hz
      have hkm:=List.mem_of_getElem? ek
      have hil:=(List.getElem?_eq_some_iff.mp ek).1
      have htk:ks.take (i+1)=ks.take i ++ [key]:=by rw [List.take_succ,ek];rfl
      have hkt:key∉ks.take i:=by
        intro hmem
        have nd:=hnd
        rw [← List.take_append_drop i ks,List.nodup_append] at nd
        refine nd.2.2 _ hmem _ ?_ rfl
        rw [List.drop_eq_getElem_cons hil,(List.getElem?_eq_some_iff.mp ek).2]
        exact List.mem_cons_self
      have hkey:=d.non key hkt (hnon key hkm)
      have hCb:i * K.length≤60 * 60:=Nat.mul_le_mul (by first|decide|lia) (by first|decide|lia)
      refine zhd ?_
      unfold zBf
      refine zp (zU (zq (zc (zb rfl (zc (zb rfl (zc (zb rfl (zn ?_)))))))))
      refine zQl w d.right.len (by first|decide|lia) gl (hks key hkm) hkey (fun row r μ1 ok hroom hrl k1 hr gr=>?_) (fun S r μ1 hS hkS s k1 hr gr=>?_)
      · refine zHf (zK (zj (zj (zb rfl (w_c (zXb rfl rfl (w_c (zfe ⟨_,rfl,fun _=>?_,fun h=>absurd h (by decide +kernel)⟩))))))))
        refine zU (zq (zc (zb rfl (zc (zb rfl (zc (zb rfl (zc (zj (zb rfl (w_c (zXb rfl rfl (zn ?_)))))))))))))
        refine zfo w (by first|decide|lia) d.right (k1 _ _ gl) gr (by first|decide|lia) ok hkey hroom fun l' μ2 k2 hl' g2=>?_
        refine ⟨zbd lay row,C,l',_,_,rfl,by rw [htk];exact d.put hkt hkey ok hroom,by rw [Nat.succ_mul];lia,kp.trans (k1.trans k2), .inr ?_,(k1.trans k2) _ _ gC,g2⟩
        have:=(kp.trans k1).len
        have:=k1.len
        have:=zC gC
        lia
      · refine zHf (zK (zj (zj (zb rfl (w_c (zXb rfl rfl (w_c (zfe ⟨_,rfl,fun h=>?_,fun _=>?_⟩))))))))
        · exact absurd h (by decide +kernel)
        have hSl:S.length≤K.length:=by simpa using hS.length_le
        refine zfg (zZd (zb rfl ⟨_,_,rfl,k1 _ _ gC,?_⟩))
        refine zc (zj (zb rfl (w_c (zXb rfl rfl (zn ?_)))))
        refine z9r (k1 _ _ gC) gr (by simp only [List.length_map];lia) ?_
        have hlt:=zC gC
        refine ⟨lay,C++S,l,_,_,rfl,by rw [htk];exact d.full hkey hkS s,by rw [Nat.succ_mul,List.length_append];lia,fun a o e=>zM (k1 _ _ (kp a o e)) (Nat.ne_of_gt (zC e)),hl,?_,zM (k1 _ _ gl) (by rcases hl with ⟨h,_⟩ | h <;> lia)⟩
        rw [zQ (k1 _ _ gC),zBe]
  · rintro δ ν ⟨lay,C,l,x,y,rfl,d,hCl,kp,hl,gC,gl⟩
    rw [List.length_map,List.take_length] at d
    rw [List.length_map] at hCl
    have hCb:ks.length * K.length≤60 * 60:=Nat.mul_le_mul (by first|decide|lia) (by first|decide|lia)
    refine znb (zDd (zc (zb rfl (zc ?_))))
    refine ztq (n:=μ.length) (m:=K.length) d.shut.keys (by first|decide|lia) (by first|decide|lia) (zb rfl ⟨rfl,gC,zn ?_⟩)
    have:=zC gl
    exact q lay C l _ _ d kp.to (by rcases hl with h | h;exact .inl h;exact .inr (by first|decide|lia)) kp.len (by first|decide|lia) (zG gl) zw
theorem zyj {L:Nat} {R:List Nat} {K:List (List Nat)} {μ:Mem} {Q:D→Mem→Prop} (w:Wb L R K) (hL:L≤60)
    (q:∀ (lay:List (Option Nat)) (C:List Nat) (l l2:Nat) (μ':Mem),Done R K (List.replicate K.length none) lay (List.range K.length) C→Keep μ μ'→μ.length≤l→μ.length≤l2→l≠l2→μ'[l]?=some (.lst (lay.map onD))→μ'[l2]?=some (.lst (nat (zrm K.length C)))→Q (.tup [.loc l, .loc l2]) μ'):WF zBc [wn R K] μ Q:=by
  have hkl:=w.kl
  refine zYb rfl ?_
  show WS zzc [some (wn R K)] μ _ _ _ _
  unfold zzc
  refine znb (zq (zc (zb rfl (zc (zj (zYf (zc (w_c (zn (zq (zc (zj (zb rfl (w_c (zod (zn (zTe rfl ?_)))))))))))))))))
  refine zHr zw (by rw [List.length_map];lia) (by first|decide|lia) (by simp) ?_
  refine zc (zap (zq (zc (zj (zb rfl (w_c (zod (zn (zTe rfl ⟨_,rfl,?_,zn ?_⟩)))))))))
  · rw [List.length_map];lia
  have e1:(List.replicate (((K.map tn).length:Nat):Int).toNat [D.non]).flatten=(List.replicate K.length (none:Option Nat)).map onD:=by
    rw [Int.toNat_natCast,List.length_map,List.map_replicate,List.flatten_replicate_singleton]
  rw [e1,Int.toNat_natCast,List.length_map]
  have hrep:∀ k,(List.replicate K.length (none:Option Nat)).getD k none=none:=fun k=>by
    rw [List.getD_eq_getElem?_getD,List.getElem?_replicate]
    split <;> rfl
  refine zyk (ks:=List.range K.length) w hL ⟨by simp,fun k h e=>?_,fun h=>?_⟩ (zG zw) zw (by simp) List.nodup_range (fun k _=>hrep k) fun lay C l l2 μ' d k hl hl2 hne g g2=>?_
  · rw [List.getElem?_replicate] at e
    split at e
    · cases e
    · cases e
  · rw [List.count_replicate]
    simp
  · have k':=(Keep.to (Keep.to (Keep.app (μ:=μ) (g:=[.lst [.non]])))).trans k
    refine q lay C l l2 μ' d k' ?_ ?_ hne g g2
    · rcases hl with ⟨rfl,_⟩ | hl
      · simp
      · simp at hl;lia
    · simp at hl2;lia
theorem zXj {L:Nat} {R:List Nat} {K:List (List Nat)} {μ:Mem} {Q:D→Mem→Prop} (w:Wb L R K) (hL:L≤60)
    (q1:∀ (lay:List (Option Nat)) (l:Nat) (μ':Mem),RightL R K lay→(∀ k<K.length,(lay.getD k none).isSome=true)→Keep μ μ'→μ.length≤l→μ'[l]?=some (.lst (lay.map onD))→Q (.tup [.str "fits", .loc l]) μ')
    (q2:∀ (T:List Nat) (l:Nat) (μ':Mem),T.Sublist (List.range K.length)→znd R K T=true→z0b R K T=none→Keep μ μ'→μ.length≤l→μ'[l]?=some (.lst (nat T))→Q (.tup [.str "crowd", .loc l]) μ'):WF zue [wn R K] μ Q:=by
  have hkl:=w.kl
  refine zYb rfl ?_
  show WS zqg [some (wn R K),none] μ _ _ _ _
  unfold zqg
  refine zp (zU (zq (zc (zb rfl (zn ?_)))))
  refine zyj w hL fun lay C l l2 μ1 d k1 hl hl2 hne g g2=>?_
  refine zp (zHf (zK (zj (zj (zb rfl (w_c (zXb rfl rfl (zYf (zn ?_)))))))))
  refine zIt (α:=Nat) (zrm K.length C) [] (zG g2) zw ⟨_,rfl,fun h1=>?_,fun h1=>zmb ?_⟩
  · have h1:=of_decide_eq_true h1
    refine znb (zDd (zc (w_c (zc (zj (zb rfl (w_c (zXb rfl rfl (zn ?_)))))))))
    refine q1 lay l _ d.right (fun k hk=>?_) k1.to hl (zG g)
    rcases d.all k (by simpa using hk) with h | ⟨h,_⟩
    · exact h
    · have:=(zdf d.shut.keys k).mpr h
      rw [h1] at this
      cases this
  · have h1:=of_decide_eq_false h1
    have hC:C≠[]:=by
      rintro rfl
      exact h1 (by unfold zrm;simp)
    obtain ⟨k0,hk0,_,hn0⟩:=d.out hC
    have hsub:(zrm K.length C).Sublist (List.range K.length):=List.filter_sublist
    have hcr:=z3h w (d.shut.congr (zdf d.shut.keys)) d.right.len ((zdf d.shut.keys k0).mpr hk0) hn0
    have hsl:(zrm K.length C).length≤K.length:=by simpa using hsub.length_le
    have hnd:=List.nodup_range.sublist hsub
    refine znb (zDd (zc (w_c (zc (zq (zc (zb rfl (zc (zj (zb rfl (w_c (zXb rfl rfl (zn ?_)))))))))))))
    refine zPm w (zG g2) (fun k hk=>by simpa using hsub.subset hk) (by first|decide|lia) hnd fun l3 μ3 k3 hl3 g3=>zn ?_
    exact q2 _ l3 μ3 ((zjk _ _).trans hsub) (znh _ _ hcr) (zvj _ _ hnd (Nat.le_refl _)) (k1.to.trans k3) (by have:=k1.len;simp at hl3;lia) g3
noncomputable def zOc (R:List Nat) (K:List (List Nat)):Prop:=∃ lay,RightL R K lay∧∀ k<K.length,(lay.getD k none).isSome=true
theorem z5i {L:Nat} {R:List Nat} {K:List (List Nat)} {T:List Nat} (w:Wb L R K) (hT:T.Sublist (List.range K.length)) (hc:znd R K T=true):¬ zOc R K:=by
  rintro ⟨lay,r,h⟩
  have hTk:∀ k∈T,k<K.length:=fun k hk=>by simpa using hT.subset hk
  have:=z1m w r (List.nodup_range.sublist hT) hTk fun k hk=>h k (hTk k hk)
  rw [hc] at this
  cases this
theorem zlq {S:List Nat} {n kk i:Nat} {δ:M.Loc} {μ:Mem} {c:FT} {e:FE} {Q:D→Mem→Prop} (hc:c=z9 (zt gNe (zk 0) (zk 1))) (he:e=zk 0) (hi:δ[i]?=some (some (.int kk))) (hn:μ[n]?=some (.lst (nat S)))
    (q:∀ μ',Keep μ μ'→Q (.loc μ'.length) (μ' ++ [.lst (nat (zFe S kk))])):WL (gN 0) c e (zHh n (nat S)) (δC 1 [i] δ) (nat S) [] μ Q:=by
  subst hc he
  refine zWf (fun (k:Nat)=>D.int k) S (fun (k:Nat)=>D.int k) (fun o=>!decide (o=kk)) (fun μ' k'=>zlb hn k') (fun j hj μ' kp=>?_) q
  refine zhd (zK (zj (zb rfl (zb (d := .int kk) ?_ ?_))))
  · simp [δC,hi]
  · refine zqs (α:=Nat) j kk ⟨_,rfl,rfl,kp,fun _=>zb rfl ⟨rfl,kp⟩⟩
noncomputable def zac (K:List (List Nat)) (key nest:Nat):List (List Nat):=K.set key [nest,nest]
theorem zKg {K:List (List Nat)} {key nest:Nat} (h:key<K.length):(zac K key nest).getD key [] = [nest,nest]:=by
  unfold zac
  rw [List.getD_eq_getElem?_getD,List.getElem?_set_self h]
  rfl
theorem zfh {K:List (List Nat)} {key nest k:Nat} (h:k≠key):(zac K key nest).getD k []=K.getD k []:=by
  unfold zac
  rw [List.getD_eq_getElem?_getD,List.getD_eq_getElem?_getD,List.getElem?_set_ne (Ne.symm h)]
theorem zPg {L:Nat} {R:List Nat} {K:List (List Nat)} {key nest:Nat} (w:Wb L R K) (hn:nest<R.length):Wb L R (zac K key nest) :=
  ⟨w.rl,by unfold zac;rw [List.length_set];exact w.kl,fun k hk=>by
    rcases List.mem_or_eq_of_mem_set hk with hk | rfl
    · exact w.kn k hk
    · refine ⟨by simp,fun h hh=>?_⟩
      have:h=nest:=by simpa using hh
      lia⟩
theorem z0n {K:List (List Nat)} {i:Nat} {d:D} (h:i<K.length):M.cutD (K.map tn) none (some (i:Int)) ++ [d]++M.cutD (K.map tn) (some ((i:Int)+1)) none=(K.map tn).set i d:=by
  have e1:=zWg (xs:=K.map tn) (i:=i)
  have e2:=zHi (xs:=K.map tn) (i:=i+1)
  have e3:(((i+1:Nat)):Int)=(i:Int)+1:=by lia
  rw [e3] at e2
  rw [e1,e2,List.set_eq_take_append_cons_drop,if_pos (by simpa using h)]
  simp
theorem zsj {L:Nat} {R:List Nat} {K:List (List Nat)} {key nest:Nat} {μ:Mem} {Q:D→Mem→Prop} (w:Wb L R K) (hL:L≤1000) (hk:key<K.length) (q:Q (wn R (zac K key nest)) μ):WF zld [wn R K, .int key, .int nest] μ Q:=by
  have hkl:=w.kl
  refine zYb rfl ?_
  show WS zjf [some (wn R K),some (.int key),some (.int nest)] μ _ _ _ _
  unfold zjf
  refine znb (zDd (zc (zj (zb rfl (w_c (zRe (zc (zj (zj (zYs (zj (zb rfl (w_c (zod (zvk (zlg (zb rfl ⟨_,rfl,_,rfl,?_⟩)))))))))))))))))
  refine zDd (zc (zDd (zc (zb rfl (zc (zb rfl (zn (zn ?_))))))))
  have hcl:∀ (lo hi:Option Int),(M.cutD (K.map tn) lo hi).length≤K.length:=fun lo hi=>by
    unfold M.cutD
    rw [List.length_take,List.length_drop,List.length_map]
    lia
  have c1:=hcl none (some (key:Int))
  have c2:=hcl (some ((key:Int)+1)) none
  refine zMl (by simp;lia) (zYs (zj (zb rfl (w_c (zod (zlg (zj (zb rfl (w_c (z2d ⟨_,rfl,zvk ⟨_,rfl,?_⟩⟩))))))))))
  refine zMl (by simp;lia) (zn ?_)
  have e:=z0n (d:=tn [nest,nest]) hk
  have e2:(K.map tn).set key (tn [nest,nest])=(zac K key nest).map tn:=by
    unfold zac
    rw [List.map_set]
  rw [e2] at e
  rw [show M.cutD (K.map tn) none (some (key:Int)) ++ [D.tup [D.int (nest:Nat),D.int (nest:Nat)]]++M.cutD (K.map tn) (some ((key:Int)+1)) none=(zac K key nest).map tn from e]
  exact q
structure LayA (R:List Nat) (K:List (List Nat)) (X:List Nat):Prop where
  len:X.length=K.length
  home:∀ (i h:Nat) (k:List Nat),X[i]?=some h→K[i]?=some k→h∈k
  room:∀ h,X.count h≤R.getD h 0
theorem zei (X:List Nat) (h:Nat):(X.map some).count (some h)=X.count h:=by
  induction X with
  | nil=>rfl
  | cons x X ih =>
    rw [List.map_cons,List.count_cons,List.count_cons,ih]
    congr 1
theorem zCl:∀ {lay:List (Option Nat)},(∀ k<lay.length,(lay.getD k none).isSome=true)→∃ X:List Nat,lay=X.map some
  | [],_=>⟨[],rfl⟩
  | x :: lay,h=>by
    obtain ⟨X,rfl⟩:=zCl (lay:=lay) fun k hk=>by simpa using h (k+1) (by simp;lia)
    have h0:=h 0 (by simp)
    cases x with
    | none=>cases h0
    | some n=>exact ⟨n :: X,rfl⟩
theorem z1l {R:List Nat} {K:List (List Nat)} {lay:List (Option Nat)} (r:RightL R K lay) (hall:∀ k<K.length,(lay.getD k none).isSome=true):∃ X:List Nat,lay.map onD=nat X∧LayA R K X:=by
  have hl:=r.len
  obtain ⟨X,rfl⟩:=zCl (lay:=lay) fun k h=>hall k (by first|decide|lia)
  refine ⟨X,by rw [List.map_map];rfl,⟨by rw [List.length_map] at hl;exact hl,fun i h k e1 e2=>?_,fun h=>?_⟩⟩
  · have h1:=r.home i h (by rw [List.getElem?_map,e1];rfl)
    rw [List.getD_eq_getElem?_getD,e2] at h1
    exact h1
  · have:=r.room h
    rw [zei] at this
    exact this
theorem LayA.right {R:List Nat} {K:List (List Nat)} {X:List Nat} (a:LayA R K X):RightL R K (X.map some):=by
  have hl:=a.len
  refine ⟨by rw [List.length_map];exact hl,fun k h e=>?_,fun h=>by rw [zei];exact a.room h⟩
  rw [List.getElem?_map] at e
  cases ex:X[k]? with
  | none=>rw [ex] at e;cases e
  | some h' =>
    rw [ex] at e
    cases e
    have hk:=(List.getElem?_eq_some_iff.mp ex).1
    have ek:K[k]?=some (K.getD k []):=by rw [List.getD_eq_getElem?_getD,List.getElem?_eq_getElem (by first|decide|lia)];rfl
    exact a.home k h _ ex ek
theorem zth {X:List Nat} {k:Nat} (h:k<X.length):((X.map some).getD k none).isSome=true:=by
  rw [List.getD_eq_getElem?_getD,List.getElem?_map,List.getElem?_eq_getElem h]
  rfl
theorem LayA.fits {R:List Nat} {K:List (List Nat)} {X:List Nat} (a:LayA R K X):zOc R K:=⟨_,a.right,fun k hk=>zth (by have:=a.len;lia)⟩
theorem zJb (K:List (List Nat)) (key nest:Nat):(zac K key nest).length=K.length:=by unfold zac;rw [List.length_set]
theorem z4n {R:List Nat} {K:List (List Nat)} {key nest:Nat} (hk:key<K.length) (h0:R.getD nest 0=0):¬ zOc R (zac K key nest):=by
  rintro ⟨lay,r,a⟩
  have hlen:=zJb K key nest
  have hl:=r.len
  have h1:=a key (by first|decide|lia)
  have e:lay[key]?=some (lay.getD key none):=by rw [List.getD_eq_getElem?_getD,List.getElem?_eq_getElem (by first|decide|lia)];rfl
  cases hc:lay.getD key none with
  | none=>rw [hc] at h1;cases h1
  | some h =>
    rw [hc] at e
    have h2:=r.home key h e
    rw [zKg hk] at h2
    have:h=nest:=by simpa using h2
    subst this
    have h3:=r.room h
    have h4:0<lay.count (some h):=List.count_pos_iff.mpr (List.mem_of_getElem? e)
    lia
theorem zvn {R:List Nat} {K:List (List Nat)} {X:List Nat} {key nest:Nat} (a:LayA R K X) (hk:key<K.length):RightL R (zac K key nest) ((X.map some).set key none):=by
  have r:=a.right
  have hl:=a.len
  refine ⟨by rw [List.length_set,List.length_map,zJb];exact hl,fun k h e=>?_,fun h=>?_⟩
  · by_cases hkk:k=key
    · subst hkk
      rw [List.getElem?_set_self (by rw [List.length_map];lia)] at e
      cases e
    · rw [List.getElem?_set_ne (Ne.symm hkk)] at e
      rw [zfh hkk]
      exact r.home k h e
  · have:=r.room h
    have h2:=List.count_set (a:=none) (b:=some h) (l:=X.map some) (i:=key) (by rw [List.length_map];lia)
    rw [h2]
    have e3:((none:Option Nat) == some h)=false:=rfl
    rw [e3]
    simp only [Bool.false_eq_true,if_false]
    lia
theorem zKq {R:List Nat} {K:List (List Nat)} {X:List Nat} {key nest:Nat} {row:List (Nat×Nat)} (a:LayA R K X) (hk:key<K.length) (hr:RowOk (zac K key nest) ((X.map some).set key none) key row) (hroom:((X.map some).set key none).count (some (row.getD (row.length - 1) (0,0)).2)<R.getD (row.getD (row.length - 1) (0,0)).2 0):zOc R (zac K key nest):=by
  have hl:=a.len
  have r:=zvn (nest:=nest) a hk
  have hnone:((X.map some).set key none).getD key none=none:=by
    rw [List.getD_eq_getElem?_getD,List.getElem?_set_self (by rw [List.length_map];lia)]
    rfl
  refine ⟨_,zUe r hr hnone hroom,fun k h=>?_⟩
  rw [zJb] at h
  by_cases hm:k∈row.map (·.1)
  · obtain ⟨p,hp,rfl⟩:=List.mem_map.mp hm
    rw [zwg hr.nd hp (by rw [List.length_set,List.length_map];lia)]
    rfl
  · rw [zUc hm]
    have hne:k≠key:=by
      rintro rfl
      obtain ⟨h',r',e⟩:=hr.first
      rw [e] at hm
      simp at hm
    rw [List.getD_eq_getElem?_getD,List.getElem?_set_ne (Ne.symm hne),← List.getD_eq_getElem?_getD]
    exact zth (by first|decide|lia)
theorem zfi {L:Nat} {R:List Nat} {K:List (List Nat)} {key nest:Nat} {μ:Mem} {Q:D→Mem→Prop} (w:Wb L R K) (hL:L≤60) (hk:key<K.length) (hn:nest∈K.getD key [])
    (q1:∀ (l:Nat) (μ':Mem),zOc R (zac K key nest)→Keep μ μ'→Q (.tup [.str "lies", .loc l]) μ')
    (q2:∀ (l:Nat) (μ':Mem),¬ zOc R (zac K key nest)→Keep μ μ'→Q (.tup [.str "never", .loc l]) μ'):WF zjd [wn R K, .int key, .int nest] μ Q:=by
  have hnR:nest<R.length:=(w.key hk).2 nest hn
  have hkl:=w.kl
  refine zYb rfl ?_
  show WS zCf [some (wn R K),some (.int key),some (.int nest),none] μ _ _ _ _
  unfold zCf
  refine zp (zHf (zK (zj (zj (zj (zb rfl (w_c (zRe (zb rfl (zyn hnR (w_c (zOh ⟨_,rfl,fun h0=>?_,fun h0=>zmb ?_⟩))))))))))))
  · have h0:R.getD nest 0=0:=by
      have:=of_decide_eq_true h0
      lia
    refine znb (zDd (zc (w_c (zc (zYf (zn (zn ?_)))))))
    exact q2 μ.length _ (z4n hk h0) .app
  refine zp (zU (zq (zc (zq (zc (zb rfl (zc (zb rfl (zc (zb rfl (zn ?_)))))))))))
  refine zsj w (by first|decide|lia) hk (zn ?_)
  refine zXj (zPg w hnR) hL (fun lay l μ1 r hall k1 hl g=>?_) (fun T l μ1 hT hc hs k1 hl g=>?_)
  · refine zp (zHf (zK (zj (zj (zb rfl (w_c (zXb rfl rfl (w_c (zfe ⟨_,rfl,fun _=>?_,fun h=>absurd h (by decide +kernel)⟩)))))))))
    refine znb (zDd (zc (w_c (zc (zj (zb rfl (w_c (zXb rfl rfl (zn ?_)))))))))
    exact q1 l μ1 ⟨lay,r,hall⟩ k1
  · have nf:=z5i (zPg w hnR) hT hc
    rw [zJb] at hT
    have hTl:=hT.length_le
    rw [List.length_range] at hTl
    refine zp (zHf (zK (zj (zj (zb rfl (w_c (zXb rfl rfl (w_c (zfe ⟨_,rfl,fun h=>absurd h (by decide +kernel),fun _=>zmb ?_⟩)))))))))
    refine znb (zDd (zc (w_c (zc (zok (zXe (zj (zb rfl (w_c (zXb rfl rfl (.inr (.inr ⟨l,_,rfl,g,zuc (by rw [List.length_map];lia),?_⟩))))))))))))
    exact zlq (S:=T) (i:=1) rfl rfl rfl g fun μ2 k2=>zn (q2 _ _ nf (k1.trans k2.to))
theorem z3n {X:List Nat} {i:Nat} (h:i<X.length):M.cutD (nat X) none (some (i:Int)) ++ [D.non]++M.cutD (nat X) (some ((i:Int)+1)) none=((X.map some).set i none).map onD:=by
  have e1:=zWg (xs:=nat X) (i:=i)
  have e2:=zHi (xs:=nat X) (i:=i+1)
  have e3:(((i+1:Nat)):Int)=(i:Int)+1:=by lia
  rw [e3] at e2
  rw [e1,e2,List.map_set,List.map_map,List.set_eq_take_append_cons_drop,if_pos (by simpa using h)]
  simp
  rfl
theorem zKp (xs:List D) (lo hi:Option Int):(M.cutD xs lo hi).length≤xs.length:=by
  unfold M.cutD
  rw [List.length_take,List.length_drop]
  lia
structure WX (F:FX) (ds:List D) (μ:Mem) (Q:D→Mem→Prop):Prop where
  ex:∃ d μ',F ds μ = some (.ok d μ')∧Q d μ'
noncomputable def zWt (nx:M.Loc→Mem→Prop) (rt:D→Mem→Prop) (ex:Str→List (Str×D)→Mem→Prop):Out→Prop
  | .next δ μ=>nx δ μ
  | .ret d μ=>rt d μ
  | .exc c fs μ=>ex c fs μ
  | _=>False
structure WXs (p:FS) (δ:M.Loc) (μ:Mem) (nx:M.Loc→Mem→Prop) (rt:D→Mem→Prop) (ex:Str→List (Str×D)→Mem→Prop):Prop where
  ex:∃ o,p δ μ = some o∧zWt nx rt ex o
section
variable {p q:FS} {δ:M.Loc} {μ:Mem} {nx:M.Loc→Mem→Prop} {rt:D→Mem→Prop} {ex:Str→List (Str×D)→Mem→Prop}
theorem zls (h:WS p δ μ nx rt (fun _ _=>False) fun _ _=>False):WXs p δ μ nx rt ex:=by
  obtain ⟨o,e,k⟩:=h
  cases o with
  | next _ _=>exact ⟨_,e,k⟩
  | ret _ _=>exact ⟨_,e,k⟩
  | brk _ _=>exact k.elim
  | cont _ _=>exact k.elim
  | exc _ _ _=>exact k.elim
theorem zAj (h:WXs p δ μ (fun δ' μ'=>WXs q δ' μ' nx rt ex) rt ex):WXs (zV p q) δ μ nx rt ex:=by
  obtain ⟨o,e,k⟩:=h
  cases o with
  | next δ' μ'=>obtain ⟨o2,e2,k2⟩:=k;exact ⟨o2,by simp [e,e2],k2⟩
  | ret d μ'=>exact ⟨.ret d μ',by simp only [zV,e],k⟩
  | exc c fs μ'=>exact ⟨.exc c fs μ',by simp only [zV,e],k⟩
  | brk _ _=>exact k.elim
  | cont _ _=>exact k.elim
theorem zPt {c:FT} (h:WT c δ μ fun b μ1=>(b=true→WXs p δ μ1 nx rt ex)∧(b=false→WXs q δ μ1 nx rt ex)):WXs (sIf c p q) δ μ nx rt ex:=by
  obtain ⟨b,μ1,e,h1,h2⟩:=h
  cases b with
  | true=>obtain ⟨o,e2,k⟩:=h1 rfl;exact ⟨o,by simp [e,e2],k⟩
  | false=>obtain ⟨o,e2,k⟩:=h2 rfl;exact ⟨o,by simp [e,e2],k⟩
end
structure WXr (F:FX) (ds:List D) (μ:Mem) (Q:D→Mem→Prop) (ex:Str→List (Str×D)→Mem→Prop):Prop where
  ex:(∃ d μ',F ds μ = some (.ok d μ')∧Q d μ')∨∃ c fs μ',F ds μ = some (.exc c fs μ')∧ex c fs μ'
theorem zGt {F:FX} {N:List Str} {p:FS} {ds:List D} {μ:Mem} {Q:D→Mem→Prop} {ex:Str→List (Str×D)→Mem→Prop} (hF:F=fun ds μ=>zft (p (zP N ds) μ)) (h:WXs p (zP N ds) μ (fun _ μ'=>Q .non μ') Q ex):WXr F ds μ Q ex:=by
  subst hF
  obtain ⟨o,e,k⟩:=h
  cases o with
  | next δ' μ'=>exact ⟨.inl ⟨_,_,by rw [e];rfl,k⟩⟩
  | ret d μ'=>exact ⟨.inl ⟨_,_,by rw [e];rfl,k⟩⟩
  | exc c fs μ'=>exact ⟨.inr ⟨_,_,_,by rw [e];rfl,k⟩⟩
  | brk _ _=>exact k.elim
  | cont _ _=>exact k.elim
structure RowsX (μ:Mem) (f:Nat) (ls:List Nat) (rows:List (List Nat)):Prop where
  at_:μ[f]?=some (.lst (ls.map D.loc))
  len:ls.length=rows.length
  row:∀ (j n:Nat) (r:List Nat),ls[j]?=some n→rows[j]?=some r→μ[n]?=some (.lst (nat r))
theorem RowsX.keep {μ μ':Mem} {f:Nat} {ls:List Nat} {rows:List (List Nat)} (h:RowsX μ f ls rows) (k:Keep μ μ'):RowsX μ' f ls rows:=⟨k _ _ h.at_,h.len,fun j n r a b=>k _ _ (h.row j n r a b)⟩
theorem RowsX.push {μ:Mem} {c n:Nat} {lc:List Nat} {lon:List (List Nat)} {r:List Nat} (h:RowsX μ c lc lon) (hc:∀ m∈lc,c<m) (g:μ[n]?=some (.lst (nat r))) (hn:c<n):RowsX (μ.set c (.lst (lc.map D.loc ++ [D.loc n]))) c (lc ++ [n]) (lon ++ [r]):=by
  have hl:=h.len
  refine ⟨by rw [zQ h.at_,List.map_append];rfl,by simp [hl],fun j m s e1 e2=>?_⟩
  by_cases hj:j<lc.length
  · rw [List.getElem?_append_left hj] at e1
    rw [List.getElem?_append_left (by first|decide|lia)] at e2
    have:=hc m (List.mem_of_getElem? e1)
    exact zM (h.row j m s e1 e2) (by first|decide|lia)
  · have hj2:=(List.getElem?_eq_some_iff.mp e1).1
    rw [List.length_append,List.length_singleton] at hj2
    have ej:j=lc.length:=by lia
    subst ej
    rw [List.getElem?_append_right (Nat.le_refl _),Nat.sub_self] at e1
    rw [hl,List.getElem?_append_right (Nat.le_refl _),Nat.sub_self] at e2
    cases e1
    cases e2
    exact zM g (by first|decide|lia)
theorem zsq {φ:FE} {δ:M.Loc} {μ:Mem} {Q:D→Mem→Prop} (h:WE φ δ μ fun x μ1=>∃ ns:List Int,x = .tup (ns.map .int)∧ns.length≤4000∧(uqL ns).length<64∧Q (.loc μ1.length) (μ1 ++ [.lst ((zUk ns).map .int)])):WE (zmk φ) δ μ Q:=by
  obtain ⟨x,μ1,e1,ns,rfl,h1,h2,q⟩:=h
  exact ⟨_,_,by simp [zmk,e1,h1,h2] <;> rfl,q⟩
theorem zem {L:Nat} {R:List Nat} {K:List (List Nat)} {X:List Nat} {key nest n:Nat} {μ:Mem} {Q:D→Mem→Prop} (w:Wb L R K) (hL:L≤60) (a:LayA R K X) (hk:key<K.length) (hnR:nest<R.length) (hn:μ[n]?=some (.lst (nat X)))
    (q:∀ (b:Bool) (μ':Mem),(b=true↔zOc R (zac K key nest))→Keep μ μ'→Q (.bl b) μ'):WF zAe [wn R K, .loc n, .int key, .int nest] μ Q:=by
  have hkl:=w.kl
  have hX:=a.len
  refine zYb rfl ?_
  show WS zve [some (wn R K),some (.loc n),some (.int key),some (.int nest),none] μ _ _ _ _
  unfold zve
  have c1:=zKp (nat X) none (some (key:Int))
  have c2:=zKp (nat X) (some ((key:Int)+1)) none
  rw [List.length_map] at c1 c2
  refine zp (zU (zj (zj (zfr (zb rfl (zvk (zlg (zb rfl ⟨_,rfl,n,_,rfl,hn,?_⟩))))))))
  refine zYf (zc (w_c (zn (zYp (zG zw) zw (by simp;lia) ?_))))
  refine zfr (zb rfl (zlg (zj (zb rfl (w_c (z2d ⟨_,rfl,zvk ⟨n,_,rfl,zG (zG (zG hn)),?_⟩⟩))))))
  refine zYp (zG zw) zw (by simp;lia) ?_
  rw [z3n (by lia:key<X.length)]
  refine znb (zj (zj (zq (zc (zq (zc (zb rfl (zc (zb rfl (zc (zb rfl (zn ?_))))))))))))
  refine zsj w (by first|decide|lia) hk (zc (zb rfl (zc (zb rfl (zn ?_)))))
  have hnone:((X.map some).set key none).getD key none=none:=by
    rw [List.getD_eq_getElem?_getD,List.getElem?_set_self (by rw [List.length_map];lia)]
    rfl
  refine zQl (zPg w hnR) (by rw [List.length_set,List.length_map,zJb];exact hX) (by first|decide|lia) zw (by rw [zJb];exact hk) hnone (fun row l μ1 ro hroom _ k1 hl g=>?_) (fun S l μ1 hS hkS sh k1 hl g=>?_)
  · refine w_c (zXb rfl rfl (w_c (zfe ?_)))
    refine q _ _ ⟨fun _=>zKq a hk ro hroom,fun _=>by decide +kernel⟩ ?_
    exact Keep.trans (Keep.to (Keep.to (Keep.to (Keep.to (Keep.to .refl))))) k1
  · refine w_c (zXb rfl rfl (w_c (zfe ?_)))
    have hc:=z3h (zPg (key:=key) w hnR) sh (by rw [List.length_set,List.length_map,zJb];exact hX) hkS hnone
    have nf:=z5i (zPg w hnR) hS hc
    refine q _ _ ⟨fun h=>absurd h (by decide +kernel),fun h=>absurd h nf⟩ ?_
    exact Keep.trans (Keep.to (Keep.to (Keep.to (Keep.to (Keep.to .refl))))) k1
theorem zop {φ:FA} {c f:Str} {δ:M.Loc} {μ:Mem} {nx:M.Loc→Mem→Prop} {rt:D→Mem→Prop} {ex:Str→List (Str×D)→Mem→Prop} (h:WA φ δ μ fun ds μ1=>∃ (n:Nat) (ns:List Int),ds = [.loc n]∧μ1[n]?=some (.lst (ns.map D.int))∧zKe ns∧ex c [(f, .loc μ1.length)] (μ1 ++ [.lst (ns.map D.int)])):WXs (zXg c f φ) δ μ nx rt ex:=by
  obtain ⟨ds,μ1,e,n,ns,rfl,hm,hs,k⟩:=h
  exact ⟨Out.exc c [(f,D.loc μ1.length)] (μ1 ++ [LObj.lst (ns.map D.int)]),by simp only [zXg,e,Option.bind_some,hm,zgf,decide_eq_true hs,cond_true],k⟩
theorem zAg (T:List Nat):nat T=(T.map fun (k:Nat)=>(k:Int)).map D.int:=by rw [List.map_map];rfl
noncomputable def plc (R:List Nat) (K:List (List Nat)) (j:Nat):List Nat:=((List.range R.length).filter fun h=>decide (h∈K.getD j [])).filter fun h=>@decide (zOc R (zac K j h)) (Classical.propDecidable _)
theorem plc_mem {R:List Nat} {K:List (List Nat)} {j h:Nat}:h∈plc R K j↔h<R.length∧h∈K.getD j []∧zOc R (zac K j h):=by
  unfold plc
  rw [List.mem_filter,List.mem_filter,@decide_eq_true_iff _ (Classical.propDecidable _),decide_eq_true_iff,List.mem_range,and_assoc]
theorem zTq (R:List Nat) (K:List (List Nat)) (j:Nat):(plc R K j).length≤R.length:=by
  unfold plc
  have h1:=List.length_filter_le (fun h=>@decide (zOc R (zac K j h)) (Classical.propDecidable _)) ((List.range R.length).filter fun h=>decide (h∈K.getD j []))
  have h2:=List.length_filter_le (fun h=>decide (h∈K.getD j [])) (List.range R.length)
  rw [List.length_range] at h2
  lia
theorem z8o {R ks:List Nat} {φ:FE} {δ:M.Loc} {μ:Mem} {Q:D→Mem→Prop} (hk3:ks.length≤3) (hkn:∀ h∈ks,h<R.length) (h:WE φ δ μ fun x μ1=>x=tn ks∧Q (.loc μ1.length) (μ1 ++ [.lst (nat ((List.range R.length).filter fun h=>decide (h∈ks)))])):WE (zmk φ) δ μ Q:=by
  obtain ⟨x,μ1,e1,rfl,q⟩:=h
  obtain ⟨U,hU⟩:∃ U,U=(List.range R.length).filter fun h=>decide (h∈ks):=⟨_,rfl⟩
  rw [← hU] at q
  have hUm:∀ h,h∈U↔h∈ks:=fun h=>by
    rw [hU,List.mem_filter,List.mem_range,decide_eq_true_iff]
    exact ⟨fun h=>h.2,fun h'=>⟨hkn h h',h'⟩⟩
  have hUp:U.Pairwise (· < ·):=by rw [hU];exact List.pairwise_lt_range.filter _
  have hmem:∀ i:Int,i∈U.map (fun (k:Nat)=>(k:Int))↔i∈ks.map (fun (k:Nat)=>(k:Int)):=fun i=>by
    simp only [List.mem_map]
    constructor
    · rintro ⟨h,hh,rfl⟩
      exact ⟨h,(hUm h).mp hh,rfl⟩
    · rintro ⟨h,hh,rfl⟩
      exact ⟨h,(hUm h).mpr hh,rfl⟩
  have hpw:(U.map (fun (k:Nat)=>(k:Int))).Pairwise (· < ·):=by
    rw [List.pairwise_map]
    exact hUp.imp fun h=>by lia
  have h2:(uqL (ks.map fun (k:Nat)=>(k:Int))).length≤(ks.map fun (k:Nat)=>(k:Int)).length:=zal _ _
  rw [List.length_map] at h2
  have hs:=zhj hmem hpw
  have e2:tn ks = .tup ((ks.map fun (k:Nat)=>(k:Int)).map D.int):=by
    show D.tup (nat ks)=_
    rw [zAg]
  rw [e2] at e1
  refine zsq ⟨_,μ1,e1,ks.map (fun (k:Nat)=>(k:Int)),rfl,by rw [List.length_map];lia,by first|decide|lia,?_⟩
  rw [hs,← zAg]
  exact q
noncomputable abbrev JPx (R:List Nat) (K:List (List Nat)) (X:List Nat) (l c:Nat) (μ:Mem):Nat→M.Loc→Mem→Prop:=fun i δ ν=>∃ (ls:List Nat) (x y:Option D),δ = [some (wn R K),some (.tup [.str "fits", .loc l]),some (.loc c),x,y]∧Keep μ ν∧ν[l]?=some (.lst (nat X))∧RowsX ν c ls ((List.range i).map (plc R K))∧∀ m∈ls,c<m
theorem znn {L:Nat} {R:List Nat} {K:List (List Nat)} {μ:Mem} {Q:D→Mem→Prop} {ex:Str→List (Str×D)→Mem→Prop} (w:Wb L R K) (hL:L≤60)
    (q:∀ (l:Nat) (ls:List Nat) (μ':Mem),zOc R K→RowsX μ' l ls ((List.range K.length).map (plc R K))→(∀ m∈ls,l<m)→μ.length≤l→Keep μ μ'→Q (.loc l) μ')
    (x:∀ (T:List Nat) (n:Nat) (μ':Mem),¬ zOc R K→T.Sublist (List.range K.length)→znd R K T=true→μ.length≤n→μ'[n]?=some (.lst (nat T))→Keep μ μ'→ex "NoFit" [("some", .loc n)] μ'):WXr zyg [wn R K] μ Q ex:=by
  have hkl:=w.kl
  have hrl:=w.rl
  refine zGt rfl ?_
  show WXs zxg [some (wn R K),none,none,none,none] μ _ _ _
  unfold zxg
  refine zAj (zls (zU (zq (zc (zb rfl (zn ?_))))))
  refine zXj w hL (fun lay l μ1 r hall k1 hl g=>?_) (fun T l μ1 hT hc hs k1 hl g=>?_)
  · have hf:zOc R K:=⟨lay,r,hall⟩
    obtain ⟨X,e,a⟩:=z1l r hall
    rw [e] at g
    refine zAj (zPt (zK (zj (zj (zb rfl (w_c (zXb rfl rfl (w_c (zfe ⟨_,rfl,fun h=>absurd h (by decide +kernel),fun _=>zls (zmb ?_)⟩)))))))))
    refine zAj (zls (zU (zYf (zn ?_))))
    refine zAj (zls (zVe (z8f (zj (zb rfl (w_c (zod (.inl ⟨_,rfl,?_⟩))))))))
    have kl:Keep μ (μ1 ++ [LObj.lst []]):=k1.to
    have gl:(μ1 ++ [LObj.lst []])[l]?=some (.lst (nat X)):=zG g
    have gc:(μ1 ++ [LObj.lst []])[μ1.length]?=some (.lst []):=zw
    have hc:μ.length≤μ1.length:=k1.len
    have hlc:l < μ1.length:=zC g
    generalize μ1 ++ [LObj.lst []] = μ2 at kl gl gc
    generalize μ1.length=c at gc hc hlc
    refine zSb (JPx R K X l c μ) ⟨[],_,_,rfl,kl,gl,⟨gc,rfl,fun j n r e _=>by cases e⟩,by simp⟩ (fun _ _ _ _=>rfl) ?_ ?_
    · rintro key z δ ν hz ⟨ls,x1,y1,rfl,kν,gν,hr,hls⟩
      obtain ⟨ks,hks,rfl⟩:=zTh hz
      have hk:=(List.getElem?_eq_some_iff.mp hks).1
      have eks:K.getD key []=ks:=by rw [List.getD_eq_getElem?_getD,hks];rfl
      obtain ⟨hk3,hkn⟩:=w.key hk
      rw [eks] at hk3 hkn
      refine zDj (zvd (zhd (zvd (zhd (zGi ?_)))))
      unfold zki
      refine zfg (zZd (zb rfl ⟨_,_,rfl,hr.at_,zc (zok (zXe (z8o (ks:=ks) hk3.2 hkn (zb rfl ⟨rfl, .inr (.inr ⟨_,_,rfl,zw,zuc ?_,?_⟩)⟩))))⟩))
      · have:=List.length_filter_le (fun h=>decide (h∈ks)) (List.range R.length)
        rw [List.length_range] at this
        rw [List.length_map]
        lia
      obtain ⟨U,hU⟩:∃ U,U=(List.range R.length).filter fun h=>decide (h∈ks):=⟨_,rfl⟩
      have hUm:∀ h∈U,h<R.length:=fun h hh=>by
        rw [hU,List.mem_filter,List.mem_range] at hh
        exact hh.1
      rw [← hU]
      have kn:Keep μ (ν ++ [LObj.lst (nat U)]):=kν.to
      have gn:(ν ++ [LObj.lst (nat U)])[l]?=some (.lst (nat X)):=zG gν
      have hrn:RowsX (ν ++ [LObj.lst (nat U)]) c ls ((List.range key).map (plc R K)):=hr.keep .app
      have gu:(ν ++ [LObj.lst (nat U)])[ν.length]?=some (.lst (nat U)):=zw
      show WL _ _ _ (zHh ν.length (nat U)) _ (nat U) [] (ν ++ [LObj.lst (nat U)]) _
      generalize ν ++ [LObj.lst (nat U)] = ν1 at kn gn hrn gu
      generalize ν.length=ul at gu
      refine zWf (fun (k:Nat)=>D.int k) U (fun (k:Nat)=>D.int k) (fun h=>@decide (zOc R (zac K key h)) (Classical.propDecidable _)) (fun μ' k=>zlb gu k) (fun h hh μ' kp=>?_) (fun μ' kp=>?_)
      · refine zhd ?_
        unfold zni zsi
        refine zK (zq (zc (zb rfl (zc (zj (zb rfl (w_c (zXb rfl rfl (zc (zb rfl (zc (zb rfl (zn ?_)))))))))))))
        refine zem w hL a hk (hUm h hh) (kp _ _ gn) fun b μ3 hb k3=>⟨b,rfl,?_,kp.trans k3,fun _=>zb rfl ⟨rfl,kp.trans k3⟩⟩
        by_cases hf:zOc R (zac K key h)
        · rw [hb.mpr hf,@decide_eq_true _ (Classical.propDecidable _) hf]
        · have:b=false:=by
            cases b with
            | false=>rfl
            | true=>exact absurd (hb.mp rfl) hf
          rw [this,@decide_eq_false _ (Classical.propDecidable _) hf]
      · have hp:U.filter (fun h=>@decide (zOc R (zac K key h)) (Classical.propDecidable _))=plc R K key:=by
          unfold plc
          rw [eks,← hU]
        refine zn ?_
        rw [hp]
        have hr2:RowsX (μ' ++ [LObj.lst (nat (plc R K key))]) c ls ((List.range key).map (plc R K)):=(hrn.keep kp).keep .app
        have hcl:=zC (hrn.keep kp).at_
        refine zGg hr2.at_ (by rw [List.length_map];have:=hr2.len;simp at this;lia) ?_
        have hr3:=hr2.push hls (n:=μ'.length) (r:=plc R K key) zw hcl
        refine ⟨ls ++ [μ'.length],_,_,rfl,?_,zM (zG (kp _ _ gn)) (by first|decide|lia),?_,?_⟩
        · intro i o e
          have hi:=zC e
          exact zM (zG (kp _ _ (kn _ _ e))) (by first|decide|lia)
        · rw [List.range_succ,List.map_append]
          exact hr3
        · intro m hm
          rcases List.mem_append.mp hm with hm | hm
          · exact hls m hm
          · rw [List.mem_singleton.mp hm];exact hcl
    · rintro δ ν ⟨ls,x1,y1,rfl,kν,gν,hr,hls⟩
      have e:(zQe (K.map tn)).length=K.length:=by rw [zZb,List.length_map]
      rw [e] at hr
      exact zls (znb (zb rfl (q c ls ν hf hr hls hc kν)))
  · have nf:=z5i w hT hc
    have hTl:=hT.length_le
    rw [List.length_range] at hTl
    refine zAj (zPt (zK (zj (zj (zb rfl (w_c (zXb rfl rfl (w_c (zfe ⟨_,rfl,fun _=>?_,fun h=>absurd h (by decide +kernel)⟩)))))))))
    refine zop (zc (zj (zb rfl (w_c (zXb rfl rfl (zn ⟨l,T.map fun (k:Nat)=>(k:Int),rfl,by rw [← zAg];exact g,⟨by rw [List.length_map];lia,fun n hn=>?_⟩,?_⟩))))))
    · obtain ⟨k,hk,rfl⟩:=List.mem_map.mp hn
      have:=hT.subset hk
      rw [List.mem_range] at this
      lia
    · rw [← zAg]
      exact x T _ _ nf hT hc k1.len zw k1.to
structure Ord (O:List Nat) (n:Nat):Prop where
  nd:O.Nodup
  len:O.length=n
  mem:∀ k,k∈O↔k<n
theorem Ord.lt {O:List Nat} {n i:Nat} (o:Ord O n) (h:i<n):O.getD i 0<n:=by
  have hi:i<O.length:=by rw [o.len];exact h
  rw [List.getD_eq_getElem?_getD,List.getElem?_eq_getElem hi]
  exact (o.mem _).mp (List.getElem_mem hi)
theorem Ord.idx_lt {O:List Nat} {n j:Nat} (o:Ord O n) (h:j<n):O.idxOf j<n:=by
  rw [← o.len]
  exact List.idxOf_lt_length_iff.mpr ((o.mem j).mpr h)
theorem Ord.at_idx {O:List Nat} {n j:Nat} (o:Ord O n) (h:j<n):O.getD (O.idxOf j) 0=j:=by
  have hi:=List.idxOf_lt_length_iff.mpr ((o.mem j).mpr h)
  rw [List.getD_eq_getElem?_getD,List.getElem?_eq_getElem hi]
  exact List.getElem_idxOf hi
theorem Ord.idx_at {O:List Nat} {n i:Nat} (o:Ord O n) (h:i<n):O.idxOf (O.getD i 0)=i:=by
  have hi:i<O.length:=by rw [o.len];exact h
  rw [List.getD_eq_getElem?_getD,List.getElem?_eq_getElem hi]
  exact o.nd.idxOf_getElem i hi
noncomputable def zQm (O:List Nat):List Nat:=(List.range O.length).map fun j=>O.idxOf j
theorem zTk {O:List Nat} {n j:Nat} (o:Ord O n) (h:j<n):(zQm O).getD j 0=O.idxOf j:=by
  unfold zQm
  simp [o.len,h]
theorem Ord.inv {O:List Nat} {n:Nat} (o:Ord O n):Ord (zQm O) n:=by
  have hm:∀ k,k∈zQm O↔k<n:=fun k=>by
    unfold zQm
    rw [List.mem_map]
    constructor
    · rintro ⟨j,hj,rfl⟩
      exact o.idx_lt (by rw [← o.len];simpa using hj)
    · intro hk
      exact ⟨O.getD k 0,by rw [List.mem_range,o.len];exact o.lt hk,o.idx_at hk⟩
  refine ⟨?_,by unfold zQm;simp [o.len],hm⟩
  unfold zQm
  rw [List.Nodup,List.pairwise_map]
  refine List.Pairwise.imp_of_mem ?_ List.nodup_range
  intro a b ha hb hne he
  have ha:a<n:=by rw [← o.len];simpa using ha
  have hb:b<n:=by rw [← o.len];simpa using hb
  have e1:=o.at_idx ha
  have e2:=o.at_idx hb
  rw [he,e2] at e1
  exact hne e1.symm
theorem zmp {α:Type} {xs:List α} {k:Nat} {x y:α}:y∈zpl xs k x↔y=x∨y∈xs:=by
  unfold zpl
  rw [List.mem_append,List.mem_cons]
  constructor
  · rintro (h | h | h)
    · exact .inr (List.mem_of_mem_take h)
    · exact .inl h
    · exact .inr (List.mem_of_mem_drop h)
  · rintro (h | h)
    · exact .inr (.inl h)
    · rw [← List.take_append_drop k xs] at h
      rcases List.mem_append.mp h with h | h
      · exact .inl h
      · exact .inr (.inr h)
theorem zNq {α:Type} {xs:List α} {k:Nat} {x:α} (nd:xs.Nodup) (h:x∉xs):(zpl xs k x).Nodup:=by
  unfold zpl
  have e:=List.take_append_drop k xs
  rw [← e,List.nodup_append] at nd
  rw [List.nodup_append]
  refine ⟨nd.1,List.nodup_cons.mpr ⟨fun hm=>h (List.mem_of_mem_drop hm),nd.2.1⟩,fun a ha b hb=>?_⟩
  rcases List.mem_cons.mp hb with rfl | hb
  · rintro rfl
    exact h (List.mem_of_mem_take ha)
  · exact nd.2.2 a ha b hb
theorem zeq (S:List Nat) (i k:Nat):zpl (nat S) i (.int k)=nat (zpl S i k):=by
  unfold zpl nat
  rw [List.map_append,List.map_cons,List.map_take,List.map_drop]
theorem ztj {ns:List Int} {l m B:Nat} {μ:Mem} {Q:D→Mem→Prop} (h:PenC ns μ l B) (hB:B≤100000) (hm:m≤1000) (q:∀ (O:List Nat) (n:Nat) (μ':Mem),O.Nodup→O.length=m→(∀ k,k∈O↔k<m)→KB [l] μ μ'→PenC ns μ' l (B+m)→μ.length≤n→μ'[n]?=some (.lst (nat O))→Q (.loc n) μ'):WF zpc [.loc l, .int (m:Nat)] μ Q:=by
  refine zYb rfl ?_
  show WS z4c [some (.loc l),some (.int (m:Nat)),none,none] μ _ _ _ _
  unfold z4c
  refine zp (zU (zYf (zn ?_)))
  refine zp (zVe (zMe (zc (zb rfl (zn ⟨_,rfl,by first|decide|lia,by first|decide|lia,?_⟩)))))
  rw [Int.toNat_natCast]
  have hlt:=h.lt
  refine zSb (fun i δ ν=>∃ (O:List Nat) (x:Option D),δ = [some (.loc l),some (.int (m:Nat)),some (.loc μ.length),x]∧O.Nodup∧O.length=i∧(∀ k,k∈O↔k<i)∧KB [l] μ ν∧PenC ns ν l (B+i)∧ν[μ.length]?=some (.lst (nat O))) ⟨[],_,rfl,by simp,rfl,by simp,KB.refl.app,h.app,zw⟩ (fun _ _ _ _=>rfl) ?_ ?_
  · rintro i x δ ν hx ⟨O,y,rfl,nd,hl,hm',k,p,g⟩
    obtain ⟨hi,rfl⟩:=zvg hx
    refine zhd ?_
    unfold zGe
    refine zfg (zZd (zb rfl ⟨_,_,rfl,g,?_⟩))
    refine zc (zq (zc (zb rfl (zc (zj (zb rfl (w_c (z2d (zn ?_)))))))))
    refine zDg p (by first|decide|lia) (by first|decide|lia) (by first|decide|lia) fun v ν2 a b k2 e2 p2=>zc (zb rfl (zn ?_))
    have g2:=k2.at_ _ _ (by simp;lia) g
    refine ⟨.non,_,by simp only [z6g,g2];rw [decide_eq_true (by rw [List.length_map];lia),cond_true],?_⟩
    rw [zeq]
    refine ⟨zpl O v.toNat i,_,rfl,zNq nd fun h=>(by have:=(hm' i).mp h;lia),by rw [zvl,hl],fun k'=>?_,(k.trans k2).set (.inr (Nat.le_refl _)),p2.set (by first|decide|lia),zQ g2⟩
    rw [zmp,hm' k']
    lia
  · rintro δ ν ⟨O,y,rfl,nd,hl,hm',k,p,g⟩
    simp only [List.length_map,List.length_range] at hl hm' p
    exact znb (zb rfl (q O _ ν nd hl hm' k p (Nat.le_refl _) g))
theorem zYl {n k:Nat} {S:List Nat} {μ:Mem} {Q:D→Mem→Prop} (h:μ[n]?=some (.lst (nat S))) (hk:k∈S) (q:Q (.int (S.idxOf k:Nat)) μ):WM zVg (.loc n) [.int (k:Nat)] μ Q:=by
  have hf:(nat S).findIdx? (fun y=>eqF y (.int (k:Nat)))=some (S.idxOf k):=by
    rw [List.findIdx?_map,List.findIdx?_eq_some_iff_getElem]
    have hi:=List.idxOf_lt_length_iff.mpr hk
    refine ⟨hi,?_,fun j hj=>?_⟩
    · show eqF (.int _) (.int _)=true
      rw [List.getElem_idxOf hi]
      show (((k:Nat):Int) == ((k:Nat):Int))=true
      exact beq_self_eq_true _
    · intro he
      have he:(((S[j]'(by first|decide|lia):Nat):Int) == ((k:Nat):Int))=true:=he
      have he:=beq_iff_eq.mp he
      have:=List.not_of_lt_findIdx (p:=(· == k)) (xs:=S) (i:=j) hj
      have e9:(S[j]'(by first|decide|lia) == k)=true:=by
        rw [beq_iff_eq]
        lia
      rw [e9] at this
      cases this
  exact ⟨_,_,by simp only [zVg,h];rw [zEi S];show (bif true && true then _ else _)=_;rw [Bool.and_self,cond_true,hf,Option.bind_some],q⟩
theorem z7p {n:Nat} {S T:List Nat} {μ:Mem} {Q:D→Mem→Prop} (h:μ[n]?=some (.lst (nat S))) (hp:T.Perm S) (hT:T.Pairwise (· < ·)) (hl:S.length<64) (q:Q (.loc μ.length) (μ ++ [.lst (nat T)])):WF zCj [.loc n] μ Q:=by
  have e1:nat S=(S.map fun (k:Nat)=>(k:Int)).map D.int:=by rw [List.map_map];rfl
  have e2:nat T=(T.map fun (k:Nat)=>(k:Int)).map D.int:=by rw [List.map_map];rfl
  have e3:zpo (S.map fun (k:Nat)=>(k:Int))=T.map fun (k:Nat)=>(k:Int):=by
    refine zHc ((List.mergeSort_perm _ _).trans (hp.symm.map _)) (zwh _) ?_
    rw [List.pairwise_map]
    exact hT.imp fun h=>by lia
  refine ⟨_,_,?_,q⟩
  simp only [zCj,h]
  rw [e1,zgf,Option.bind_some,List.length_map,decide_eq_true hl,cond_true,e3,← e2]
structure Ren (O T:List Nat) (R:List Nat) (K:List (List Nat)) (R':List Nat) (K':List (List Nat)):Prop where
  o:Ord O R.length
  t:Ord T K.length
  rl:R'.length=R.length
  kl:K'.length=K.length
  room:∀ h<R.length,R'.getD (O.getD h 0) 0=R.getD h 0
  home:∀ k<K.length,∀ h<R.length,h∈K.getD k []↔O.getD h 0∈K'.getD (T.getD k 0) []
  lt:∀ k<K.length,∀ h∈K.getD k [],h<R.length
  lt':∀ k<K.length,∀ h∈K'.getD k [],h<R.length
theorem Ord.inj {O:List Nat} {n i j:Nat} (o:Ord O n) (hi:i<n) (hj:j<n) (e:O.getD i 0=O.getD j 0):i=j:=by
  have:=o.idx_at hi
  rw [e,o.idx_at hj] at this
  exact this.symm
theorem Ren.inv {O T R R':List Nat} {K K':List (List Nat)} (r:Ren O T R K R' K'):Ren (zQm O) (zQm T) R' K' R K:=by
  have o:=r.o
  have t:=r.t
  refine ⟨by rw [r.rl];exact o.inv,by rw [r.kl];exact t.inv,r.rl.symm,r.kl.symm,fun h hh=>?_,fun k hk h hh=>?_,fun k hk h hh=>?_,fun k hk h hh=>?_⟩
  · rw [r.rl] at hh
    have:=r.room _ (o.idx_lt hh)
    rw [o.at_idx hh] at this
    rw [zTk o hh]
    exact this.symm
  · rw [r.rl] at hh
    rw [r.kl] at hk
    have:=r.home _ (t.idx_lt hk) _ (o.idx_lt hh)
    rw [o.at_idx hh,t.at_idx hk] at this
    rw [zTk o hh,zTk t hk]
    exact this.symm
  · rw [r.rl]
    exact r.lt' k (by rw [← r.kl];exact hk) h hh
  · rw [r.rl]
    exact r.lt k (by rw [← r.kl];exact hk) h hh
theorem Ren.held {O T R R':List Nat} {K K':List (List Nat)} {key nest:Nat} (r:Ren O T R K R' K') (hk:key<K.length) (hn:nest<R.length):Ren O T R (zac K key nest) R' (zac K' (T.getD key 0) (O.getD nest 0)):=by
  have o:=r.o
  have t:=r.t
  have hk':T.getD key 0<K'.length:=by rw [r.kl];exact t.lt hk
  refine ⟨o,by rw [zJb];exact t,r.rl,by rw [zJb,zJb];exact r.kl,r.room,fun k hkk h hh=>?_,fun k hkk h hh=>?_,fun k hkk h hh=>?_⟩
  · rw [zJb] at hkk
    by_cases z:k=key
    · subst z
      rw [zKg hk,zKg hk']
      constructor
      · intro h1
        have:h=nest:=by simpa using h1
        subst this
        exact List.mem_cons_self
      · intro h1
        have:O.getD h 0=O.getD nest 0:=by simpa using h1
        rw [o.inj hh hn this]
        exact List.mem_cons_self
    · rw [zfh z,zfh fun e=>z (t.inj hkk hk e)]
      exact r.home k hkk h hh
  · rw [zJb] at hkk
    by_cases z:k=key
    · subst z
      rw [zKg hk] at hh
      have:h=nest:=by simpa using hh
      rw [this]
      exact hn
    · rw [zfh z] at hh
      exact r.lt k hkk h hh
  · rw [zJb] at hkk
    by_cases z:k=T.getD key 0
    · rw [z,zKg hk'] at hh
      have:h=O.getD nest 0:=by simpa using hh
      rw [this]
      exact o.lt hn
    · rw [zfh z] at hh
      exact r.lt' k hkk h hh
theorem zUj {f:Nat→Nat} {h:Nat}:∀ {X:List Nat},(∀ x∈X,f x=f h→x=h)→(X.map f).count (f h)=X.count h
  | [],_=>rfl
  | x :: X,k=>by
    rw [List.map_cons,List.count_cons,List.count_cons,zUj fun y hy=>k y (List.mem_cons_of_mem _ hy)]
    congr 1
    by_cases z:x=h
    · rw [z,if_pos (beq_self_eq_true _),if_pos (beq_self_eq_true _)]
    · rw [if_neg (by rw [beq_iff_eq];exact fun e=>z (k x List.mem_cons_self e)),if_neg (by rw [beq_iff_eq];exact z)]
theorem z7i {T X:List Nat} (t:Ord T X.length):((List.range X.length).map fun j=>X.getD (T.idxOf j) 0).Perm X:=by
  have e1:((List.range X.length).map fun j=>X.getD (T.idxOf j) 0)=(zQm T).map fun i=>X.getD i 0:=by
    unfold zQm
    rw [List.map_map,t.len]
    rfl
  have e2:X=(List.range X.length).map fun i=>X.getD i 0:=by
    refine List.ext_getElem (by simp) fun i h1 h2=>?_
    simp [List.getElem?_eq_getElem h1]
  have hp:(zQm T).Perm (List.range X.length):=(List.perm_ext_iff_of_nodup t.inv.nd List.nodup_range).mpr fun k=>by rw [t.inv.mem,List.mem_range]
  rw [e1]
  exact (hp.map _).trans (List.Perm.of_eq e2.symm)
theorem Ren.to {O T R R':List Nat} {K K':List (List Nat)} (r:Ren O T R K R' K') (f:zOc R K):zOc R' K':=by
  obtain ⟨lay,rl,hall⟩:=f
  obtain ⟨X,_,a⟩:=z1l rl hall
  have o:=r.o
  have t:=r.t
  have hXl:=a.len
  have hX:∀ k,k<K.length→X.getD k 0∈K.getD k []:=fun k hk=>by
    have e1:X[k]?=some (X.getD k 0):=by rw [List.getD_eq_getElem?_getD,List.getElem?_eq_getElem (by first|decide|lia)];rfl
    have e2:K[k]?=some (K.getD k []):=by rw [List.getD_eq_getElem?_getD,List.getElem?_eq_getElem hk];rfl
    exact a.home k _ _ e1 e2
  have hXr:∀ x∈X,x<R.length:=fun x hx=>by
    obtain ⟨i,hi,rfl⟩:=List.mem_iff_getElem.mp hx
    have:=r.lt i (by first|decide|lia) _ (hX i (by first|decide|lia))
    rw [List.getD_eq_getElem?_getD,List.getElem?_eq_getElem hi] at this
    exact this
  have hp:=z7i (T:=T) (X:=X) (by rw [hXl];exact t)
  obtain ⟨Y,hY⟩:∃ Y,Y=(List.range X.length).map fun j=>X.getD (T.idxOf j) 0:=⟨_,rfl⟩
  rw [← hY] at hp
  have hYg:∀ j h,Y[j]?=some h→j<K.length∧h=X.getD (T.idxOf j) 0:=fun j h e=>by
    rw [hY,List.getElem?_map] at e
    cases er:(List.range X.length)[j]? with
    | none=>rw [er] at e;cases e
    | some i =>
      rw [er] at e
      cases e
      have hj:=(List.getElem?_eq_some_iff.mp er).1
      rw [List.length_range] at hj
      rw [List.getElem?_range hj] at er
      cases er
      exact ⟨by first|decide|lia,rfl⟩
  refine LayA.fits (X:=Y.map fun h=>O.getD h 0) ⟨by rw [List.length_map,hp.length_eq,hXl,r.kl],fun i h k e1 e2=>?_,fun h=>?_⟩
  · rw [List.getElem?_map] at e1
    cases ey:Y[i]? with
    | none=>rw [ey] at e1;cases e1
    | some y =>
      rw [ey] at e1
      cases e1
      obtain ⟨hi,rfl⟩:=hYg i y ey
      have hti:=t.idx_lt hi
      have h1:=hX _ hti
      have h2:=(r.home _ hti _ (r.lt _ hti _ h1)).mp h1
      rw [t.at_idx hi,List.getD_eq_getElem?_getD (l:=K'),e2] at h2
      exact h2
  · by_cases hm:h∈Y.map fun h=>O.getD h 0
    · obtain ⟨y,hy,rfl⟩:=List.mem_map.mp hm
      have hyr:=hXr y (hp.mem_iff.mp hy)
      rw [zUj (f:=fun h=>O.getD h 0) fun x hx e=>o.inj (hXr x (hp.mem_iff.mp hx)) hyr e,hp.count_eq,r.room y hyr]
      exact a.room y
    · rw [List.count_eq_zero.mpr hm]
      exact Nat.zero_le _
theorem Ren.fits {O T R R':List Nat} {K K':List (List Nat)} (r:Ren O T R K R' K'):zOc R' K'↔zOc R K:=⟨r.inv.to,r.to⟩
theorem Ren.plc {O T R R':List Nat} {K K':List (List Nat)} {k:Nat} (r:Ren O T R K R' K') (hk:k<K.length):(plc R' K' (T.getD k 0)).Perm ((plc R K k).map fun h=>O.getD h 0):=by
  have o:=r.o
  have nd:∀ (R:List Nat) K j,(P.plc R K j).Nodup:=fun R K j=>(List.nodup_range.filter _).filter _
  have nd2:((P.plc R K k).map fun h=>O.getD h 0).Nodup:=by
    rw [List.Nodup,List.pairwise_map]
    refine List.Pairwise.imp_of_mem ?_ (nd R K k)
    intro a b ha hb hne he
    exact hne (o.inj (plc_mem.mp ha).1 (plc_mem.mp hb).1 he)
  refine (List.perm_ext_iff_of_nodup (nd _ _ _) nd2).mpr fun j=>?_
  rw [List.mem_map,plc_mem,r.rl]
  constructor
  · rintro ⟨h1,h2,h3⟩
    have hi:=o.idx_lt h1
    have e:=o.at_idx h1
    refine ⟨O.idxOf j,plc_mem.mpr ⟨hi,(r.home k hk _ hi).mpr (by rw [e];exact h2),(r.held hk hi).fits.mp (by rw [e];exact h3)⟩,e⟩
  · rintro ⟨h,hh,rfl⟩
    obtain ⟨h1,h2,h3⟩:=plc_mem.mp hh
    exact ⟨o.lt h1,(r.home k hk h h1).mp h2,(r.held hk h1).fits.mpr h3⟩
theorem zis (R:List Nat) (K:List (List Nat)) (j:Nat):(plc R K j).Pairwise (· < ·):=(List.pairwise_lt_range.filter _).filter _
theorem zKr {φ:FE} {st:FO} {δ:M.Loc} {μ:Mem} {Q:D→Mem→Prop} (h:WE φ δ μ fun x μ1=>WO st δ μ1 fun o μ2=>∃ ds,x = .tup ds∧o=some (-1)∧Q (.tup ds.reverse) μ2):WE (zrp φ st) δ μ Q:=by
  obtain ⟨x,μ1,e1,o,μ2,e2,ds,rfl,rfl,q⟩:=h
  exact ⟨_,_,by simp only [zrp,e1,Option.bind_some,e2],q⟩
theorem z8r {a b:Bool} {μ:Mem} {Q:D→Mem→Prop} (q:Q (.bl (!decide (a=b))) μ):W2 gNe (.bl a) (.bl b) μ Q:=zqs (α:=Bool) a b q
noncomputable def exR (O R:List Nat):List Nat:=(List.range R.length).map fun j=>R.getD (O.idxOf j) 0
noncomputable def exK (O T:List Nat) (K:List (List Nat)):List (List Nat):=((List.range K.length).map fun j=>K.getD (T.idxOf j) []).map fun k=>k.reverse.map fun h=>O.getD h 0
theorem zXp {O T:List Nat} {K:List (List Nat)} {j:Nat} (hj:j<K.length):(exK O T K).getD j []=(K.getD (T.idxOf j) []).reverse.map fun h=>O.getD h 0:=by
  unfold exK
  rw [List.getD_eq_getElem?_getD,List.getElem?_map,List.getElem?_map,List.getElem?_range hj]
  rfl
theorem zBs {L:Nat} {O T R:List Nat} {K:List (List Nat)} (w:Wb L R K) (o:Ord O R.length) (t:Ord T K.length):Ren O T R K (exR O R) (exK O T K):=by
  have hlt:∀ k<K.length,∀ h∈K.getD k [],h<R.length:=fun k hk=>(w.key hk).2
  refine ⟨o,t,by simp [exR],by simp [exK],fun h hh=>?_,fun k hk h hh=>?_,hlt,fun k hk h hh=>?_⟩
  · unfold exR
    rw [List.getD_eq_getElem?_getD,List.getElem?_map,List.getElem?_range (o.lt hh)]
    show R.getD (O.idxOf (O.getD h 0)) 0=_
    rw [o.idx_at hh]
  · rw [zXp (t.lt hk),t.idx_at hk,List.mem_map]
    constructor
    · exact fun h1=>⟨h,List.mem_reverse.mpr h1,rfl⟩
    · rintro ⟨y,hy,e⟩
      have hy:=List.mem_reverse.mp hy
      rw [← o.inj (hlt k hk y hy) hh e]
      exact hy
  · rw [zXp hk,List.mem_map] at hh
    obtain ⟨y,hy,rfl⟩:=hh
    exact o.lt (hlt _ (t.idx_lt hk) y (List.mem_reverse.mp hy))
theorem zHt {L:Nat} {O T R:List Nat} {K:List (List Nat)} (w:Wb L R K) (o:Ord O R.length) (t:Ord T K.length):Wb L (exR O R) (exK O T K):=by
  have hl:=w.kl
  have hr:=w.rl
  refine ⟨by simpa [exR] using hr,by simpa [exK] using hl,fun k hk=>?_⟩
  obtain ⟨k0,h0,rfl⟩:=List.mem_map.mp hk
  obtain ⟨j,hj,rfl⟩:=List.mem_map.mp h0
  have hj:=List.mem_range.mp hj
  obtain ⟨h3,hn⟩:=w.key (t.idx_lt hj)
  refine ⟨by simpa using h3,fun h hh=>?_⟩
  obtain ⟨y,hy,rfl⟩:=List.mem_map.mp hh
  have:=o.lt (hn y (List.mem_reverse.mp hy))
  simpa [exR] using this
theorem z9q {L:Nat} {R:List Nat} {K:List (List Nat)} {O T:List Nat} {ol tl:Nat} {μ:Mem} {Q:D→Mem→Prop} (w:Wb L R K) (hL:L≤60) (o:Ord O R.length) (t:Ord T K.length) (ho:μ[ol]?=some (.lst (nat O))) (ht:μ[tl]?=some (.lst (nat T))) (q:∀ μ',Keep μ μ'→Q (wn (exR O R) (exK O T K)) μ'):WF zOb [wn R K, .loc ol, .loc tl] μ Q:=by
  have hkl:=w.kl
  have hrl:=w.rl
  have hol:=o.len
  have htl:=t.len
  refine zYb rfl ?_
  show WS zMb [some (wn R K),some (.loc ol),some (.loc tl),none,none] μ _ _ _ _
  unfold zMb
  refine zp (zU (zok (zMe (zc (zq (zc (zb rfl (zn (zTe (zr ho) (zn ⟨_,rfl,by first|decide|lia,by rw [List.length_map];lia,zuc (by simp;lia),?_⟩))))))))))
  rw [Int.toNat_natCast,List.length_map,hol]
  refine zhf (fun (k:Nat)=>D.int k) (List.range R.length) (fun j => .int (R.getD (O.idxOf j) 0:Nat)) (fun _ _=>rfl) (fun j hj μ' kp=>?_) (fun μ1 k1=>?_)
  · have hj:=List.mem_range.mp hj
    refine zhd ?_
    unfold z1c
    exact zj (zj (zb rfl (w_c (zRe (zZd (zb rfl ⟨_,_,rfl,kp _ _ ho,zc (zb rfl (zn (zYl (kp _ _ ho) ((o.mem j).mpr hj) (zyn (o.idx_lt hj) ⟨rfl,kp,kp⟩))))⟩))))))
  have eR:(List.range R.length).map (fun j=>D.int (R.getD (O.idxOf j) 0:Nat))=nat (exR O R):=by
    unfold exR
    rw [zKf]
  rw [eR]
  have g1:(μ1 ++ [LObj.lst (nat (exR O R))])[μ1.length]?=some (.lst (nat (exR O R))):=zw
  have k2:Keep μ (μ1 ++ [LObj.lst (nat (exR O R))]):=k1.to
  generalize μ1 ++ [LObj.lst (nat (exR O R))] = μ2 at g1 k2 ⊢
  generalize μ1.length=rl at g1 ⊢
  refine zp (zU (zok (zMe (zc (zq (zc (zb rfl (zn (zTe (zr (k2 _ _ ht)) (zn ⟨_,rfl,by first|decide|lia,by rw [List.length_map];lia,zuc (by simp;lia),?_⟩))))))))))
  rw [Int.toNat_natCast,List.length_map,htl]
  refine zhf (fun (k:Nat)=>D.int k) (List.range K.length) (fun j=>tn (K.getD (T.idxOf j) [])) (fun _ _=>rfl) (fun j hj μ' kp=>?_) (fun μ3 k3=>?_)
  · have hj:=List.mem_range.mp hj
    have gt:=kp _ _ (k2 _ _ ht)
    refine zhd ?_
    unfold zXc
    exact zj (zj (zb rfl (w_c (zod (zZd (zb rfl ⟨_,_,rfl,gt,zc (zb rfl (zn (zYl gt ((t.mem j).mpr hj) (zNk (t.idx_lt hj) ⟨rfl,kp,kp⟩))))⟩))))))
  have eK:(List.range K.length).map (fun j=>tn (K.getD (T.idxOf j) []))=((List.range K.length).map fun j=>K.getD (T.idxOf j) []).map tn:=by
    rw [List.map_map]
    rfl
  rw [eK]
  obtain ⟨KT,hKT⟩:∃ KT,KT=(List.range K.length).map fun j=>K.getD (T.idxOf j) []:=⟨_,rfl⟩
  have hKl:KT.length=K.length:=by rw [hKT];simp
  have hKn:∀ k∈KT,(2≤k.length∧k.length≤3)∧∀ h∈k,h<R.length:=fun k hk=>by
    rw [hKT] at hk
    obtain ⟨j,hj,rfl⟩:=List.mem_map.mp hk
    exact w.key (t.idx_lt (List.mem_range.mp hj))
  have eX:exK O T K=KT.map fun k=>k.reverse.map fun h=>O.getD h 0:=by rw [hKT];rfl
  rw [← hKT]
  have g4:(μ3 ++ [LObj.lst (KT.map tn)])[μ3.length]?=some (.lst (KT.map tn)):=zw
  have k4:Keep μ2 (μ3 ++ [LObj.lst (KT.map tn)]):=k3.to
  generalize μ3 ++ [LObj.lst (KT.map tn)] = μ4 at g4 k4 ⊢
  generalize μ3.length=fl at g4 ⊢
  refine znb (zDd (zc (zq (zc (zb rfl (zn (zIf (zr (k4 _ _ g1)) (zc (zq (zc (zok (zXe (zb rfl (.inr (.inr ⟨fl,_,rfl,g4,zuc (by rw [List.length_map];lia),?_⟩)))))))))))))))
  refine zhf tn KT (fun k=>tn (k.reverse.map fun h=>O.getD h 0)) (fun μ' k=>zlb g4 k) (fun k hk μ' kp=>?_) (fun μ5 k5=>?_)
  · obtain ⟨hk3,hkn⟩:=hKn k hk
    refine zhd ?_
    unfold zZc
    refine zq (zc (zok (zXe (zKr (zb rfl (zlg (zLt (w_c ⟨_,rfl,_,rfl,_,rfl,rfl, .inl ⟨_,rfl,zuc (by rw [List.length_reverse,List.length_map];lia),?_⟩⟩))))))))
    have er:(nat k).reverse=k.reverse.map fun (h:Nat)=>D.int h:=by
      show (k.map _).reverse=_
      rw [List.map_reverse]
    show WL _ _ _ _ _ (nat k).reverse _ _ _
    rw [er]
    refine zhf (fun (h:Nat)=>D.int h) k.reverse (fun h => .int (O.getD h 0:Nat)) (fun _ _=>rfl) (fun h hh μ2 k2'=>?_) (fun μ2 k2'=>?_)
    · refine zhd ?_
      unfold zYc
      exact zj (zb rfl (zb rfl (zXb (zr (k2' _ _ (kp _ _ (k4 _ _ (k2 _ _ ho))))) (zRd (by rw [hol];exact hkn h (List.mem_reverse.mp hh))) ⟨rfl,k2',k2'⟩)))
    · refine zn (zIf (zr zw) ⟨?_,kp.trans k2'.to,kp⟩)
      show D.tup _=D.tup (nat _)
      rw [zKf]
  · refine zn (zIf (zr zw) (zn ?_))
    have e9:D.tup [.tup (nat (exR O R)), .tup (KT.map fun k=>tn (k.reverse.map fun h=>O.getD h 0))]=wn (exR O R) (exK O T K):=by
      rw [eX]
      show _=D.tup [tn (exR O R), .tup ((KT.map fun k=>k.reverse.map fun h=>O.getD h 0).map tn)]
      rw [List.map_map]
      rfl
    rw [e9]
    exact q _ ((k2.trans k4).trans k5.to)
theorem zmn {F:FX} {φ:FA} {i:Nat} {tb:List (Str×Bool)} {q:FS} {η:FH} {δ:M.Loc} {μ:Mem} {nx:M.Loc→Mem→Prop} {rt:D→Mem→Prop} {bk ct:M.Loc→Mem→Prop} (h:WA φ δ μ fun ds μ1=>WXr F ds μ1 (fun d μ'=>nx (δ.set i (some d)) μ')
    (fun c fs μ'=>tb.lookup c=some true∧WS q δ μ' nx rt bk ct)):WS (zCo (z5k i F φ) (zFh tb q η)) δ μ nx rt bk ct:=by
  obtain ⟨ds,μ1,e1,⟨d,μ',e2,k⟩ | ⟨c,fs,μ',e2,ht,o,e3,k⟩⟩:=h
  · exact ⟨.next _ μ',by simp [e1,e2],k⟩
  · refine ⟨o,?_,k⟩
    cases o with
    | exc _ _ _=>exact k.elim
    | next δ' μ2=>simp only [zCo,z5k,znr,e1,Option.bind_some,e2,zFh,ht,e3]
    | ret d μ2=>simp only [zCo,z5k,znr,e1,Option.bind_some,e2,zFh,ht,e3]
    | brk _ _=>simp only [zCo,z5k,znr,e1,Option.bind_some,e2,zFh,ht,e3]
    | cont _ _=>simp only [zCo,z5k,znr,e1,Option.bind_some,e2,zFh,ht,e3]
theorem z4f {L:Nat} {R:List Nat} {K:List (List Nat)} {μ:Mem} {Q:D→Mem→Prop} (w:Wb L R K) (hL:L≤60)
    (q1:∀ (l:Nat) (ls:List Nat) (μ':Mem),zOc R K→RowsX μ' l ls ((List.range K.length).map (plc R K))→Keep μ μ'→Q (.loc l) μ')
    (q2:∀ μ':Mem,¬ zOc R K→Keep μ μ'→Q .non μ'):WF zmc [wn R K] μ Q:=by
  refine zYb rfl ?_
  show WS z0c [some (wn R K),none] μ _ _ _ _
  unfold z0c
  refine zp (zU (w_c ?_))
  refine zp (zmn (zc (zb rfl (zn ?_))))
  exact znn w hL (fun l ls μ1 f hr hls hl k=>znb (zb rfl (q1 l ls μ1 f hr k))) (fun T n μ1 nf hT hc hn g k=>⟨rfl,zU (w_c (znb (zb rfl (q2 _ nf k))))⟩)
theorem z5n {μ:Mem} {f n k:Nat} {ls:List Nat} {g:Nat→List Nat} (h:RowsX μ f ls ((List.range n).map g)) (hk:k<n):∃ m,atI (ls.map D.loc) (k:Int)=some (.loc m)∧μ[m]?=some (.lst (nat (g k))):=by
  have hl:=h.len
  rw [List.length_map,List.length_range] at hl
  have e:ls[k]?=some (ls[k]'(by first|decide|lia)):=List.getElem?_eq_getElem (by first|decide|lia)
  exact ⟨ls[k]'(by first|decide|lia),zdd (by rw [List.getElem?_map,e];rfl),h.row k _ _ e (by rw [List.getElem?_map,List.getElem?_range hk];rfl)⟩
noncomputable def Fg (R:List Nat) (K:List (List Nat)) (R':List Nat) (K':List (List Nat)) (f g:D) (μ:Mem):Prop:=(f = .non∧g = .non)∨∃ l1 ls1 l2 ls2,f = .loc l1∧g = .loc l2∧RowsX μ l1 ls1 ((List.range K.length).map (plc R K))∧RowsX μ l2 ls2 ((List.range K'.length).map (plc R' K'))
theorem Fg.keep {R:List Nat} {K:List (List Nat)} {R':List Nat} {K':List (List Nat)} {f g:D} {μ μ':Mem} (h:Fg R K R' K' f g μ) (k:Keep μ μ'):Fg R K R' K' f g μ':=by
  rcases h with h | ⟨l1,ls1,l2,ls2,e1,e2,h1,h2⟩
  · exact .inl h
  · exact .inr ⟨l1,ls1,l2,ls2,e1,e2,h1.keep k,h2.keep k⟩
theorem turn42 {R R' O T:List Nat} {K K':List (List Nat)} {l3 l4 k:Nat} {s p f g:D} {x9 x10 x11:Option D} {ν:Mem} {nx bk ct:M.Loc→Mem→Prop} {rt:D→Mem→Prop} (w:Wb 9 R K) (w':Wb 9 R' K') (r:Ren O T R K R' K') (hk:k<K.length) (gO:ν[l3]?=some (.lst (nat O))) (gT:ν[l4]?=some (.lst (nat T))) (hfg:Fg R K R' K' f g ν)
    (q:∀ (x9 x10 x11:Option D) (ν':Mem),Keep ν ν'→nx [some s,some p,some (wn R K),some (.loc l3),some (.loc l4),some (wn R' K'),some f,some g,some (.int k),x9,x10,x11] ν') :
    WS z1i [some s,some p,some (wn R K),some (.loc l3),some (.loc l4),some (wn R' K'),some f,some g,some (.int k),x9,x10,x11] ν nx rt bk ct:=by
  have o:=r.o
  have t:=r.t
  have hrl:=w.rl
  have hkl:=w.kl
  have hOl:=o.len
  have hTl:=t.len
  have hk':T.getD k 0<K'.length:=by rw [r.kl];exact t.lt hk
  obtain ⟨hk3,hkn⟩:=w.key hk
  have loop:∀ (x9:Option D) (ν1:Mem),Keep ν ν1→WS (zAh (zLg (zt gIx (zt gIx (zk 2) (fC (.int 1))) (zk 8))) (gN 10) zwk) [some s,some p,some (wn R K),some (.loc l3),some (.loc l4),some (wn R' K'),some f,some g,some (.int k),x9,x10,x11] ν1 nx rt bk ct:=fun x9 ν1 k1=>by
    refine zVe (zXe (zj (zj (zb rfl (w_c (zod (zb rfl (zNk hk (.inl ⟨_,rfl,?_⟩)))))))))
    refine zSb (fun _ δ ν2=>∃ y10 y11:Option D,δ = [some s,some p,some (wn R K),some (.loc l3),some (.loc l4),some (wn R' K'),some f,some g,some (.int k),x9,y10,y11]∧Keep ν ν2) ⟨_,_,rfl,k1⟩ (fun _ _ _ _=>rfl) ?_ ?_
    · rintro m z δ ν2 hz ⟨y10,y11,rfl,k2⟩
      rw [List.getElem?_map] at hz
      cases ey:(K.getD k [])[m]? with
      | none=>rw [ey] at hz;cases hz
      | some h =>
        rw [ey] at hz
        cases hz
        have hh:=List.mem_of_getElem? ey
        have hhR:=hkn h hh
        have hh':=(r.home k hk h hhR).mp hh
        have hf:=(r.held hk hhR).fits
        refine zhd ?_
        unfold zwk
        have second:∀ (a:Str) (b:Bool) (ν3:Mem) (bk ct:M.Loc→Mem→Prop),Keep ν ν3→a=(bif b then "lies" else "never")→(b=true↔zOc R (zac K k h))→WS (sIf (z9 (zt gNe (zk 11) (zt gIx (zz zjd (ze (zk 5) (ze (zt gIx (zk 4) (zk 8)) (ze (zt gIx (zk 3) (zk 10)) zF)))) (fC (.int 0))))) (zqc (fC (.bl false))) zbc) [some s,some p,some (wn R K),some (.loc l3),some (.loc l4),some (wn R' K'),some f,some g,some (.int k),x9,some (.int h),some (.str a)] ν3
            (fun δ ν2=>∃ y10 y11:Option D,δ = [some s,some p,some (wn R K),some (.loc l3),some (.loc l4),some (wn R' K'),some f,some g,some (.int k),x9,y10,y11]∧Keep ν ν2) rt bk ct:=fun a b ν3 bk ct k3 ea hb=>by
          refine zHf (zK (zj (zb rfl (zj (zq (zc (zb rfl (zc (zj (zb rfl (zb rfl (zXb (zr (k3 _ _ gT)) (zRd (by first|decide|lia)) (zc (zj (zb rfl (zb rfl (zXb (zr (k3 _ _ gO)) (zRd (by rw [hOl];exact hhR)) (zn ?_))))))))))))))))))
          refine zfi w' (by first|decide|lia) hk' hh' (fun l ν4 hfit k4=>?_) (fun l ν4 hfit k4=>?_)
          · have e:b=true:=hb.mpr (hf.mp hfit)
            rw [e] at ea
            have ea:a = "lies":=ea
            subst ea
            exact w_c (zXb rfl rfl (zhn ⟨_,rfl,fun h=>absurd h (by decide +kernel),fun _=>zmb ⟨_,_,rfl,k3.trans k4⟩⟩))
          · have e:b=false:=by
              cases b with
              | false=>rfl
              | true=>exact absurd (hf.mpr (hb.mp rfl)) hfit
            rw [e] at ea
            have ea:a = "never":=ea
            subst ea
            exact w_c (zXb rfl rfl (zhn ⟨_,rfl,fun h=>absurd h (by decide +kernel),fun _=>zmb ⟨_,_,rfl,k3.trans k4⟩⟩))
        refine zp (zU (zj (zq (zc (zb rfl (zc (zb rfl (zc (zb rfl (zn ?_))))))))))
        refine zfi w (by first|decide|lia) hk hh (fun l ν3 hfit k3=>?_) (fun l ν3 hfit k3=>?_)
        · exact w_c (zXb rfl rfl (second "lies" true ν3 _ _ (k2.trans k3) rfl ⟨fun _=>hfit,fun _=>rfl⟩))
        · exact w_c (zXb rfl rfl (second "never" false ν3 _ _ (k2.trans k3) rfl ⟨fun h=>(by cases h),fun h=>absurd h hfit⟩))
    · rintro δ ν2 ⟨y10,y11,rfl,k2⟩
      exact q _ _ _ _ k2
  unfold z1i
  rcases hfg with ⟨rfl,rfl⟩ | ⟨l1,ls1,l2,ls2,rfl,rfl,h1,h2⟩
  · exact zp (zHf (zK (zj (zb rfl (w_c (zlf rfl ⟨_,rfl,fun h=>(by cases h),fun _=>zmb (loop _ _ .refl)⟩))))))
  · obtain ⟨m1,a1,g1⟩:=z5n h1 hk
    obtain ⟨m2,a2,g2⟩:=z5n h2 hk'
    refine zp (zHf (zK (zj (zb rfl (w_c ⟨_,_,rfl,_,rfl,fun _=>?_,fun h=>(by cases h)⟩)))))
    have hpl:=zTq R K k
    refine zp (zU (zq (zc (zok (zXe (zj (zb rfl (zb rfl (zXb (zr h1.at_) a1 (.inr (.inr ⟨m1,_,rfl,g1,zuc (by rw [List.length_map];lia),?_⟩)))))))))))
    refine zhf (fun (h:Nat)=>D.int h) (plc R K k) (fun h => .int (O.getD h 0:Nat)) (fun μ' k=>zlb g1 k) (fun h hh μ' kp=>?_) (fun ν1 kp=>?_)
    · refine zhd ?_
      unfold zco
      exact zj (zb rfl (zb rfl (zXb (zr (kp _ _ gO)) (zRd (by rw [hOl];exact (plc_mem.mp hh).1)) ⟨rfl,kp,kp⟩)))
    refine zn (z7p (S:=(plc R K k).map fun h=>O.getD h 0) (T:=plc R' K' (T.getD k 0)) (by rw [zw,zKf]) (r.plc hk) (zis _ _ _) (by rw [List.length_map];lia) ?_)
    refine zHf (zK (zj (zj (zb rfl (zj (zb rfl (zb rfl (zXb (zr (zG (zG (kp _ _ gT)))) (zRd (by first|decide|lia)) (zXb (zr (zG (zG (kp _ _ h2.at_)))) a2 (zb rfl (zht (α:=Nat) _ _ (zG (zG (kp _ _ g2))) zw ⟨_,rfl,fun h=>?_,fun _=>zmb (loop _ _ kp.to.to)⟩)))))))))))
    simp at h
theorem zRo (ns:List Int) (_hn:ns.length≤63):∃ μ',zfm [.fz (ns.map .int)] []=some (.bl true,μ'):=by
  have main:WF zfm [.fz (ns.map .int)] [] fun d _=>d = .bl true:=by
    refine zYb rfl ?_
    show WS zJo [some (.fz (ns.map .int)),none,none,none,none,none,none,none,none,none,none,none] [] _ _ _ _
    unfold zJo
    refine zp (zU (zq (zc (zb rfl (zn ?_)))))
    refine z5p fun μ1 k1 p1 e1=>?_
    generalize List.length ([]:Mem)=pn at p1
    refine zp (zU (zq (zc (zb rfl (zc (w_c (zn ?_)))))))
    refine z6p (m:=10) p1 (by first|decide|lia) ⟨by first|decide|lia,by first|decide|lia⟩ fun R K μ2 w k2 p2=>?_
    have hkl:K.length≤9:=w.kl
    have hrl:=w.rl
    refine zp (zU (zq (zc (zb rfl (zc (zq (zc (zj (zb rfl (w_c (zRe (zn (zTe rfl (zn ?_))))))))))))))
    rw [List.length_map]
    refine ztj p2 (by first|decide|lia) (by first|decide|lia) fun O ol μ3 nd hOl hOm k3 p3 hol g3=>?_
    have o:Ord O R.length:=⟨nd,hOl,hOm⟩
    refine zp (zU (zq (zc (zb rfl (zc (zq (zc (zj (zb rfl (w_c (zod (zn (zTe rfl (zn ?_))))))))))))))
    rw [List.length_map]
    refine ztj p3 (by first|decide|lia) (by first|decide|lia) fun T tl μ4 nd2 hTl hTm k4 p4 htl g4=>?_
    have t:Ord T K.length:=⟨nd2,hTl,hTm⟩
    have hp2:=p2.lt
    have g34:=k4.at_ _ _ (by simp;lia) g3
    refine zp (zU (zq (zc (zb rfl (zc (zb rfl (zc (zb rfl (zn ?_)))))))))
    refine z9q w (by first|decide|lia) o t g34 g4 fun μ5 k5=>?_
    have r:=zBs w o t
    have w':=zHt w o t
    generalize exR O R=R' at r w' ⊢
    generalize exK O T K=K' at r w' ⊢
    have gO:=k5 _ _ g34
    have gT:=k5 _ _ g4
    have loop:∀ (f g:D) (μ7:Mem),Keep μ5 μ7→Fg R K R' K' f g μ7→WS (zV (zAh (z2c (ze (zz zzi (ze (zk 4) zF)) zF)) (gN 8) z1i) (zqc (fC (.bl true)))) [some (.fz (ns.map .int)),some (.loc pn),some (wn R K),some (.loc ol),some (.loc tl),some (wn R' K'),some f,some g,none,none,none,none] μ7 (fun _ _=>(D.non:D) = .bl true) (fun d _=>d = .bl true) (fun _ _=>False) (fun _ _=>False):=fun f g μ7 k7 hfg=>by
      refine zp (zVe (zMe (zc (zq (zc (zb rfl (zn (zTe (zr (k7 _ _ gT)) (zn ⟨_,rfl,by first|decide|lia,by rw [List.length_map];lia,?_⟩)))))))))
      rw [Int.toNat_natCast,List.length_map,hTl]
      refine zSb (fun _ δ ν=>∃ x8 x9 x10 x11:Option D,δ = [some (.fz (ns.map .int)),some (.loc pn),some (wn R K),some (.loc ol),some (.loc tl),some (wn R' K'),some f,some g,x8,x9,x10,x11]∧Keep μ7 ν) ⟨_,_,_,_,rfl, .refl⟩ (fun _ _ _ _=>rfl) ?_ ?_
      · rintro k z δ ν hz ⟨x8,x9,x10,x11,rfl,kν⟩
        obtain ⟨hk,rfl⟩:=zvg hz
        refine zhd ?_
        exact turn42 w w' r hk (kν _ _ (k7 _ _ gO)) (kν _ _ (k7 _ _ gT)) (hfg.keep kν) fun y9 y10 y11 ν' k'=>⟨_,_,_,_,rfl,kν.trans k'⟩
      · rintro δ ν ⟨x8,x9,x10,x11,rfl,kν⟩
        exact znb (w_c rfl)
    refine zp (zU (zq (zc (zb rfl (zn ?_)))))
    refine z4f w (by first|decide|lia) (fun l1 ls1 μ6 hf h1 k6=>?_) (fun μ6 hf k6=>?_)
    · refine zp (zU (zq (zc (zb rfl (zn ?_)))))
      refine z4f w' (by first|decide|lia) (fun l2 ls2 μ7 hf' h2 k7=>?_) (fun μ7 hf' k7=>absurd (r.fits.mpr hf) hf')
      refine zp (zHf (zK (zj (zj (zb rfl (w_c ⟨_,_,rfl,zj (zb rfl (w_c ⟨_,_,rfl,z8r ⟨_,rfl,fun h=>(by cases h),fun _=>zmb ?_⟩⟩))⟩))))))
      exact loop _ _ _ (k6.trans k7) (.inr ⟨l1,ls1,l2,ls2,rfl,rfl,h1.keep k7,h2⟩)
    · refine zp (zU (zq (zc (zb rfl (zn ?_)))))
      refine z4f w' (by first|decide|lia) (fun l2 ls2 μ7 hf' h2 k7=>absurd (r.fits.mp hf') hf) (fun μ7 hf' k7=>?_)
      refine zp (zHf (zK (zj (zj (zb rfl (w_c ⟨_,_,rfl,zj (zb rfl (w_c ⟨_,_,rfl,z8r ⟨_,rfl,fun h=>(by cases h),fun _=>zmb ?_⟩⟩))⟩))))))
      exact loop _ _ _ (k6.trans k7) (.inl ⟨rfl,rfl⟩)
  obtain ⟨d,μ',e,rfl⟩:=main
  exact ⟨μ',e⟩
end P
set_option Elab.async false
set_option linter.all false
set_option maxRecDepth 100000
set_option autoImplicit false
namespace P
open PySem PySem.Spec PyProof.Rows L2 M
set_option maxHeartbeats 4000000
theorem ln1 {α:Type}:∀ {us:List α},us.length=1→∃ a0,us = [a0]
  | [a0],_=>⟨a0,rfl⟩
theorem ln2 {α:Type}:∀ {us:List α},us.length=2→∃ a0 a1,us = [a0,a1]
  | [a0,a1],_=>⟨a0,a1,rfl⟩
theorem ln3 {α:Type}:∀ {us:List α},us.length=3→∃ a0 a1 a2,us = [a0,a1,a2]
  | [a0,a1,a2],_=>⟨a0,a1,a2,rfl⟩
theorem ln4 {α:Type}:∀ {us:List α},us.length=4→∃ a0 a1 a2 a3,us = [a0,a1,a2,a3]
  | [a0,a1,a2,a3],_=>⟨a0,a1,a2,a3,rfl⟩
theorem all_mk {l:PySem.W.OpenLaw} {w:World} {K:PySem.W.Frag} {h:Heap} {mg:Str→Option Value} {fa f__law_pen f__law_mixed f__law_take f__law_web f__law_order f__law_exchanged f_lying f_pushes_to f_left f_row_to f_put_in f_fault f_is_push f_follows f_pushed f_laid_more f_laid_at_all f_room_of f_homes_of f_is_crowd f_spare_key f_trimmed f_fitted f_held_to f_can_move f_places f__law_heard f_may_lie f_law C_NoFit C_NestError fI_NoFit:Addr} (X:K.In h) (G:h.Ns mainGlobals mg) (hfa:mg "law" = some (.ref fa))
    {od0 an0:Option Addr} {sl0:Array (Option Value)} {oc0 kV0 dc0 pm0 cd0 ct0:Value} (a0:PySem.W.nsIn K mainGlobals "_law_pen" = some (some (.ref f__law_pen))) (l0:K.lookup f__law_pen=some ⟨oc0,od0, .func (PySem.W.fnOf "_law_pen" "_law_pen" (zJ zIb) (zD zIb) (zi zIb) .none kV0 dc0 pm0 an0 cd0 ct0),sl0⟩) (c0:PySem.W.codeIn K cd0 "_law_pen" = true) (k0:PySem.W.keepIn K (.ref f__law_pen)=true)
    {od1 an1:Option Addr} {sl1:Array (Option Value)} {oc1 kV1 dc1 pm1 cd1 ct1:Value} (a1:PySem.W.nsIn K mainGlobals "_law_mixed" = some (some (.ref f__law_mixed))) (l1:K.lookup f__law_mixed=some ⟨oc1,od1, .func (PySem.W.fnOf "_law_mixed" "_law_mixed" (zJ zab) (zD zab) (zi zab) .none kV1 dc1 pm1 an1 cd1 ct1),sl1⟩) (c1:PySem.W.codeIn K cd1 "_law_mixed" = true) (k1:PySem.W.keepIn K (.ref f__law_mixed)=true)
    {od2 an2:Option Addr} {sl2:Array (Option Value)} {oc2 kV2 dc2 pm2 cd2 ct2:Value} (a2:PySem.W.nsIn K mainGlobals "_law_take" = some (some (.ref f__law_take))) (l2:K.lookup f__law_take=some ⟨oc2,od2, .func (PySem.W.fnOf "_law_take" "_law_take" (zJ zib) (zD zib) (zi zib) .none kV2 dc2 pm2 an2 cd2 ct2),sl2⟩) (c2:PySem.W.codeIn K cd2 "_law_take" = true) (k2:PySem.W.keepIn K (.ref f__law_take)=true)
    {od3 an3:Option Addr} {sl3:Array (Option Value)} {oc3 kV3 dc3 pm3 cd3 ct3:Value} (a3:PySem.W.nsIn K mainGlobals "_law_web" = some (some (.ref f__law_web))) (l3:K.lookup f__law_web=some ⟨oc3,od3, .func (PySem.W.fnOf "_law_web" "_law_web" (zJ zGb) (zD zGb) (zi zGb) .none kV3 dc3 pm3 an3 cd3 ct3),sl3⟩) (c3:PySem.W.codeIn K cd3 "_law_web" = true) (k3:PySem.W.keepIn K (.ref f__law_web)=true)
    {od4 an4:Option Addr} {sl4:Array (Option Value)} {oc4 kV4 dc4 pm4 cd4 ct4:Value} (a4:PySem.W.nsIn K mainGlobals "_law_order" = some (some (.ref f__law_order))) (l4:K.lookup f__law_order=some ⟨oc4,od4, .func (PySem.W.fnOf "_law_order" "_law_order" (zJ zeb) (zD zeb) (zi zeb) .none kV4 dc4 pm4 an4 cd4 ct4),sl4⟩) (c4:PySem.W.codeIn K cd4 "_law_order" = true) (k4:PySem.W.keepIn K (.ref f__law_order)=true)
    {od5 an5:Option Addr} {sl5:Array (Option Value)} {oc5 kV5 dc5 pm5 cd5 ct5:Value} (a5:PySem.W.nsIn K mainGlobals "_law_exchanged" = some (some (.ref f__law_exchanged))) (l5:K.lookup f__law_exchanged=some ⟨oc5,od5, .func (PySem.W.fnOf "_law_exchanged" "_law_exchanged" (zJ zO) (zD zO) (zi zO) .none kV5 dc5 pm5 an5 cd5 ct5),sl5⟩) (c5:PySem.W.codeIn K cd5 "_law_exchanged" = true) (k5:PySem.W.keepIn K (.ref f__law_exchanged)=true)
    {od6 an6:Option Addr} {sl6:Array (Option Value)} {oc6 kV6 dc6 pm6 cd6 ct6:Value} (a6:PySem.W.nsIn K mainGlobals "lying" = some (some (.ref f_lying))) (l6:K.lookup f_lying=some ⟨oc6,od6, .func (PySem.W.fnOf "lying" "lying" (zJ zWd) (zD zWd) (zi zWd) .none kV6 dc6 pm6 an6 cd6 ct6),sl6⟩) (c6:PySem.W.codeIn K cd6 "lying" = true) (k6:PySem.W.keepIn K (.ref f_lying)=true)
    {od7 an7:Option Addr} {sl7:Array (Option Value)} {oc7 kV7 dc7 pm7 cd7 ct7:Value} (a7:PySem.W.nsIn K mainGlobals "pushes_to" = some (some (.ref f_pushes_to))) (l7:K.lookup f_pushes_to=some ⟨oc7,od7, .func (PySem.W.fnOf "pushes_to" "pushes_to" (zJ ztb) (zD ztb) (zi ztb) .none kV7 dc7 pm7 an7 cd7 ct7),sl7⟩) (c7:PySem.W.codeIn K cd7 "pushes_to" = true) (k7:PySem.W.keepIn K (.ref f_pushes_to)=true)
    {od8 an8:Option Addr} {sl8:Array (Option Value)} {oc8 kV8 dc8 pm8 cd8 ct8:Value} (a8:PySem.W.nsIn K mainGlobals "left" = some (some (.ref f_left))) (l8:K.lookup f_left=some ⟨oc8,od8, .func (PySem.W.fnOf "left" "left" (zJ zJe) (zD zJe) (zi zJe) .none kV8 dc8 pm8 an8 cd8 ct8),sl8⟩) (c8:PySem.W.codeIn K cd8 "left" = true) (k8:PySem.W.keepIn K (.ref f_left)=true)
    {od9 an9:Option Addr} {sl9:Array (Option Value)} {oc9 kV9 dc9 pm9 cd9 ct9:Value} (a9:PySem.W.nsIn K mainGlobals "row_to" = some (some (.ref f_row_to))) (l9:K.lookup f_row_to=some ⟨oc9,od9, .func (PySem.W.fnOf "row_to" "row_to" (zJ zyc) (zD zyc) (zi zyc) .none kV9 dc9 pm9 an9 cd9 ct9),sl9⟩) (c9:PySem.W.codeIn K cd9 "row_to" = true) (k9:PySem.W.keepIn K (.ref f_row_to)=true)
    {od10 an10:Option Addr} {sl10:Array (Option Value)} {oc10 kV10 dc10 pm10 cd10 ct10:Value} (a10:PySem.W.nsIn K mainGlobals "put_in" = some (some (.ref f_put_in))) (l10:K.lookup f_put_in=some ⟨oc10,od10, .func (PySem.W.fnOf "put_in" "put_in" (zJ zkc) (zD zkc) (zi zkc) .none kV10 dc10 pm10 an10 cd10 ct10),sl10⟩) (c10:PySem.W.codeIn K cd10 "put_in" = true) (k10:PySem.W.keepIn K (.ref f_put_in)=true)
    {od11 an11:Option Addr} {sl11:Array (Option Value)} {oc11 kV11 dc11 pm11 cd11 ct11:Value} (a11:PySem.W.nsIn K mainGlobals "fault" = some (some (.ref f_fault))) (l11:K.lookup f_fault=some ⟨oc11,od11, .func (PySem.W.fnOf "fault" "fault" (zJ zLd) (zD zLd) (zi zLd) .none kV11 dc11 pm11 an11 cd11 ct11),sl11⟩) (c11:PySem.W.codeIn K cd11 "fault" = true) (k11:PySem.W.keepIn K (.ref f_fault)=true)
    {od12 an12:Option Addr} {sl12:Array (Option Value)} {oc12 kV12 dc12 pm12 cd12 ct12:Value} (a12:PySem.W.nsIn K mainGlobals "is_push" = some (some (.ref f_is_push))) (l12:K.lookup f_is_push=some ⟨oc12,od12, .func (PySem.W.fnOf "is_push" "is_push" (zJ z9b) (zD z9b) (zi z9b) .none kV12 dc12 pm12 an12 cd12 ct12),sl12⟩) (c12:PySem.W.codeIn K cd12 "is_push" = true) (k12:PySem.W.keepIn K (.ref f_is_push)=true)
    {od13 an13:Option Addr} {sl13:Array (Option Value)} {oc13 kV13 dc13 pm13 cd13 ct13:Value} (a13:PySem.W.nsIn K mainGlobals "follows" = some (some (.ref f_follows))) (l13:K.lookup f_follows=some ⟨oc13,od13, .func (PySem.W.fnOf "follows" "follows" (zJ z6b) (zD z6b) (zi z6b) .none kV13 dc13 pm13 an13 cd13 ct13),sl13⟩) (c13:PySem.W.codeIn K cd13 "follows" = true) (k13:PySem.W.keepIn K (.ref f_follows)=true)
    {od14 an14:Option Addr} {sl14:Array (Option Value)} {oc14 kV14 dc14 pm14 cd14 ct14:Value} (a14:PySem.W.nsIn K mainGlobals "pushed" = some (some (.ref f_pushed))) (l14:K.lookup f_pushed=some ⟨oc14,od14, .func (PySem.W.fnOf "pushed" "pushed" (zJ zvc) (zD zvc) (zi zvc) .none kV14 dc14 pm14 an14 cd14 ct14),sl14⟩) (c14:PySem.W.codeIn K cd14 "pushed" = true) (k14:PySem.W.keepIn K (.ref f_pushed)=true)
    {od15 an15:Option Addr} {sl15:Array (Option Value)} {oc15 kV15 dc15 pm15 cd15 ct15:Value} (a15:PySem.W.nsIn K mainGlobals "laid_more" = some (some (.ref f_laid_more))) (l15:K.lookup f_laid_more=some ⟨oc15,od15, .func (PySem.W.fnOf "laid_more" "laid_more" (zJ zpb) (zD zpb) (zi zpb) .none kV15 dc15 pm15 an15 cd15 ct15),sl15⟩) (c15:PySem.W.codeIn K cd15 "laid_more" = true) (k15:PySem.W.keepIn K (.ref f_laid_more)=true)
    {od16 an16:Option Addr} {sl16:Array (Option Value)} {oc16 kV16 dc16 pm16 cd16 ct16:Value} (a16:PySem.W.nsIn K mainGlobals "laid_at_all" = some (some (.ref f_laid_at_all))) (l16:K.lookup f_laid_at_all=some ⟨oc16,od16, .func (PySem.W.fnOf "laid_at_all" "laid_at_all" (zJ zY) (zD zY) (zi zY) .none kV16 dc16 pm16 an16 cd16 ct16),sl16⟩) (c16:PySem.W.codeIn K cd16 "laid_at_all" = true) (k16:PySem.W.keepIn K (.ref f_laid_at_all)=true)
    {od17 an17:Option Addr} {sl17:Array (Option Value)} {oc17 kV17 dc17 pm17 cd17 ct17:Value} (a17:PySem.W.nsIn K mainGlobals "room_of" = some (some (.ref f_room_of))) (l17:K.lookup f_room_of=some ⟨oc17,od17, .func (PySem.W.fnOf "room_of" "room_of" (zJ z3b) (zD z3b) (zi z3b) .none kV17 dc17 pm17 an17 cd17 ct17),sl17⟩) (c17:PySem.W.codeIn K cd17 "room_of" = true) (k17:PySem.W.keepIn K (.ref f_room_of)=true)
    {od18 an18:Option Addr} {sl18:Array (Option Value)} {oc18 kV18 dc18 pm18 cd18 ct18:Value} (a18:PySem.W.nsIn K mainGlobals "homes_of" = some (some (.ref f_homes_of))) (l18:K.lookup f_homes_of=some ⟨oc18,od18, .func (PySem.W.fnOf "homes_of" "homes_of" (zJ zDb) (zD zDb) (zi zDb) .none kV18 dc18 pm18 an18 cd18 ct18),sl18⟩) (c18:PySem.W.codeIn K cd18 "homes_of" = true) (k18:PySem.W.keepIn K (.ref f_homes_of)=true)
    {od19 an19:Option Addr} {sl19:Array (Option Value)} {oc19 kV19 dc19 pm19 cd19 ct19:Value} (a19:PySem.W.nsIn K mainGlobals "is_crowd" = some (some (.ref f_is_crowd))) (l19:K.lookup f_is_crowd=some ⟨oc19,od19, .func (PySem.W.fnOf "is_crowd" "is_crowd" (zJ zEb) (zD zEb) (zi zEb) .none kV19 dc19 pm19 an19 cd19 ct19),sl19⟩) (c19:PySem.W.codeIn K cd19 "is_crowd" = true) (k19:PySem.W.keepIn K (.ref f_is_crowd)=true)
    {od20 an20:Option Addr} {sl20:Array (Option Value)} {oc20 kV20 dc20 pm20 cd20 ct20:Value} (a20:PySem.W.nsIn K mainGlobals "spare_key" = some (some (.ref f_spare_key))) (l20:K.lookup f_spare_key=some ⟨oc20,od20, .func (PySem.W.fnOf "spare_key" "spare_key" (zJ zrb) (zD zrb) (zi zrb) .none kV20 dc20 pm20 an20 cd20 ct20),sl20⟩) (c20:PySem.W.codeIn K cd20 "spare_key" = true) (k20:PySem.W.keepIn K (.ref f_spare_key)=true)
    {od21 an21:Option Addr} {sl21:Array (Option Value)} {oc21 kV21 dc21 pm21 cd21 ct21:Value} (a21:PySem.W.nsIn K mainGlobals "trimmed" = some (some (.ref f_trimmed))) (l21:K.lookup f_trimmed=some ⟨oc21,od21, .func (PySem.W.fnOf "trimmed" "trimmed" (zJ z2b) (zD z2b) (zi z2b) .none kV21 dc21 pm21 an21 cd21 ct21),sl21⟩) (c21:PySem.W.codeIn K cd21 "trimmed" = true) (k21:PySem.W.keepIn K (.ref f_trimmed)=true)
    {od22 an22:Option Addr} {sl22:Array (Option Value)} {oc22 kV22 dc22 pm22 cd22 ct22:Value} (a22:PySem.W.nsIn K mainGlobals "fitted" = some (some (.ref f_fitted))) (l22:K.lookup f_fitted=some ⟨oc22,od22, .func (PySem.W.fnOf "fitted" "fitted" (zJ zlc) (zD zlc) (zi zlc) .none kV22 dc22 pm22 an22 cd22 ct22),sl22⟩) (c22:PySem.W.codeIn K cd22 "fitted" = true) (k22:PySem.W.keepIn K (.ref f_fitted)=true)
    {od23 an23:Option Addr} {sl23:Array (Option Value)} {oc23 kV23 dc23 pm23 cd23 ct23:Value} (a23:PySem.W.nsIn K mainGlobals "held_to" = some (some (.ref f_held_to))) (l23:K.lookup f_held_to=some ⟨oc23,od23, .func (PySem.W.fnOf "held_to" "held_to" (zJ zKb) (zD zKb) (zi zKb) .none kV23 dc23 pm23 an23 cd23 ct23),sl23⟩) (c23:PySem.W.codeIn K cd23 "held_to" = true) (k23:PySem.W.keepIn K (.ref f_held_to)=true)
    {od24 an24:Option Addr} {sl24:Array (Option Value)} {oc24 kV24 dc24 pm24 cd24 ct24:Value} (a24:PySem.W.nsIn K mainGlobals "can_move" = some (some (.ref f_can_move))) (l24:K.lookup f_can_move=some ⟨oc24,od24, .func (PySem.W.fnOf "can_move" "can_move" (zJ zHb) (zD zHb) (zi zHb) .none kV24 dc24 pm24 an24 cd24 ct24),sl24⟩) (c24:PySem.W.codeIn K cd24 "can_move" = true) (k24:PySem.W.keepIn K (.ref f_can_move)=true)
    {od25 an25:Option Addr} {sl25:Array (Option Value)} {oc25 kV25 dc25 pm25 cd25 ct25:Value} (a25:PySem.W.nsIn K mainGlobals "places" = some (some (.ref f_places))) (l25:K.lookup f_places=some ⟨oc25,od25, .func (PySem.W.fnOf "places" "places" (zJ zAc) (zD zAc) (zi zAc) .none kV25 dc25 pm25 an25 cd25 ct25),sl25⟩) (c25:PySem.W.codeIn K cd25 "places" = true) (k25:PySem.W.keepIn K (.ref f_places)=true)
    {od26 an26:Option Addr} {sl26:Array (Option Value)} {oc26 kV26 dc26 pm26 cd26 ct26:Value} (a26:PySem.W.nsIn K mainGlobals "_law_heard" = some (some (.ref f__law_heard))) (l26:K.lookup f__law_heard=some ⟨oc26,od26, .func (PySem.W.fnOf "_law_heard" "_law_heard" (zJ zbb) (zD zbb) (zi zbb) .none kV26 dc26 pm26 an26 cd26 ct26),sl26⟩) (c26:PySem.W.codeIn K cd26 "_law_heard" = true) (k26:PySem.W.keepIn K (.ref f__law_heard)=true)
    {od27 an27:Option Addr} {sl27:Array (Option Value)} {oc27 kV27 dc27 pm27 cd27 ct27:Value} (a27:PySem.W.nsIn K mainGlobals "may_lie" = some (some (.ref f_may_lie))) (l27:K.lookup f_may_lie=some ⟨oc27,od27, .func (PySem.W.fnOf "may_lie" "may_lie" (zJ z8b) (zD z8b) (zi z8b) .none kV27 dc27 pm27 an27 cd27 ct27),sl27⟩) (c27:PySem.W.codeIn K cd27 "may_lie" = true) (k27:PySem.W.keepIn K (.ref f_may_lie)=true)
    {od28 an28:Option Addr} {sl28:Array (Option Value)} {oc28 kV28 dc28 pm28 cd28 ct28:Value} (a28:PySem.W.nsIn K mainGlobals "law" = some (some (.ref f_law))) (l28:K.lookup f_law=some ⟨oc28,od28, .func (PySem.W.fnOf "law" "law" (zJ z9g) (zD z9g) (zi z9g) .none kV28 dc28 pm28 an28 cd28 ct28),sl28⟩) (c28:PySem.W.codeIn K cd28 "law" = true) (k28:PySem.W.keepIn K (.ref f_law)=true)
    (z_enumerate:PySem.W.nsIn K mainGlobals "enumerate" = some none)
    (z_len:PySem.W.nsIn K mainGlobals "len" = some none)
    (z_list:PySem.W.nsIn K mainGlobals "list" = some none)
    (z_range:PySem.W.nsIn K mainGlobals "range" = some none)
    (z_reversed:PySem.W.nsIn K mainGlobals "reversed" = some none)
    (z_set:PySem.W.nsIn K mainGlobals "set" = some none)
    (z_sorted:PySem.W.nsIn K mainGlobals "sorted" = some none)
    (z_sum:PySem.W.nsIn K mainGlobals "sum" = some none)
    (z_tuple:PySem.W.nsIn K mainGlobals "tuple" = some none)
    (xa_NoFit:PySem.W.nsIn K mainGlobals "NoFit" = some (some (.ref C_NoFit)))
    (xk_NoFit:PySem.W.ktsIn K C_NoFit "BaseException" = true)
    (xa_NestError:PySem.W.nsIn K mainGlobals "NestError" = some (some (.ref C_NestError)))
    (xk_NestError:PySem.W.ktsIn K C_NestError "BaseException" = true)
    (xm_NoFit_NoFit:PySem.W.mroIn K C_NoFit (.ref C_NoFit)=some true)
    (i4:PySem.W.excIn K C_NestError [.type "ValueError", .type "Exception", .type "BaseException", .type "object"] "ValueError.__new__" = true)
    (i7:PySem.W.specialIn K (.ref C_NestError) "__getattribute__" = some (some (.builtin "type.__getattribute__")))
    (i8:PySem.W.readsIn K C_NestError (.type "type")=true)
    (i9:PySem.W.findCls K (.ref C_NestError) (.type "type") "__init__" = some (.val (.builtin "ValueError.__init__")))
    {nm_NoFit q_NoFit:Str} {N_NoFit:Addr} {bs_NoFit sub_NoFit:List Value} {sn_NoFit:List Str} {ab_NoFit:Bool} {col_NoFit:Option Bool} {dd_NoFit:Option Addr} {k0_NoFit k1_NoFit k2_NoFit k3_NoFit k5_NoFit:Option Value}
    (i1_NoFit:K.lookup C_NoFit=some (excClassObj nm_NoFit q_NoFit C_NoFit N_NoFit bs_NoFit (.ref C_NestError :: [.type "ValueError", .type "Exception", .type "BaseException", .type "object"]) true sn_NoFit sub_NoFit ab_NoFit col_NoFit dd_NoFit k0_NoFit k1_NoFit k2_NoFit k3_NoFit k5_NoFit "ValueError.__new__"))
    (i2_NoFit:PySem.W.findIn K (.ref C_NoFit) "__init__" = some (some (.ref fI_NoFit)))
    (i3_NoFit:PySem.W.typeIn K (.ref fI_NoFit)=some (.type "function"))
    (i5_NoFit:PySem.W.findIn K (.ref C_NoFit) "__setattr__" = some (some (.builtin "object.__setattr__")))
    (i6_NoFit:PySem.W.findIn K (.ref C_NoFit) "some" = some none)
    (ih_NoFit:PySem.W.hasDictIn K C_NoFit=true)
    {od_NoFit an_NoFit:Option Addr} {sl_NoFit:Array (Option Value)} {oc_NoFit kV_NoFit dc_NoFit pm_NoFit cd0_NoFit ct_NoFit:Value}
    (il_NoFit:K.lookup fI_NoFit=some ⟨oc_NoFit,od_NoFit, .func (PySem.W.fnOf "__init__" "NoFit.__init__" (zJ zdb) (zD zdb) (zi zdb) .none kV_NoFit dc_NoFit pm_NoFit an_NoFit cd0_NoFit ct_NoFit),sl_NoFit⟩)
    (ic_NoFit:PySem.W.codeIn K cd0_NoFit "NoFit.__init__" = true)
    (ik_NoFit:PySem.W.keepIn K (.ref fI_NoFit)=true)
    : ∃ fd:FuncData,(∀ (s:Shared) (v:Value),BindsTo s fd ⟨[v],[]⟩ [("_law_script",v)])∧∀ base:Heap,K.In base→base.Ns mainGlobals mg→FnOk l.prog w K mg base CX0 9 fa fd ["_law_script"] (spM K 1 zfm):=by
  have e:=hfa.symm.trans (PySem.W.mg_of X G a28)
  cases e
  have T:Txt K mg:=⟨⟨C_NoFit,xa_NoFit,PySem.W.mg_of X G xa_NoFit,xk_NoFit⟩,⟨C_NestError,xa_NestError,PySem.W.mg_of X G xa_NestError,xk_NestError⟩,(fun C h=>by rw [xa_NoFit] at h;cases h;exact (Subs.cons xa_NoFit xk_NoFit xm_NoFit_NoFit Subs.nil)),PySem.W.mg_none_of X G z_enumerate,PySem.W.mg_none_of X G z_len,PySem.W.mg_none_of X G z_list,PySem.W.mg_none_of X G z_range,PySem.W.mg_none_of X G z_reversed,PySem.W.mg_none_of X G z_set,PySem.W.mg_none_of X G z_sorted,PySem.W.mg_none_of X G z_sum,PySem.W.mg_none_of X G z_tuple⟩
  have zEe:FnAt K mg "_law_pen" zIb zQb _ _:=⟨zy (st:=zIb) l0 c0 k0,PySem.W.mg_of X G a0,(zy (st:=zIb) l0 c0 k0).binds (ps:=zQb) fun _ _ _ _ _ _ us hl=>by obtain ⟨_,rfl⟩:=ln1 hl;rfl⟩
  have z9c:FnAt K mg "_law_mixed" zab zqb _ _:=⟨zy (st:=zab) l1 c1 k1,PySem.W.mg_of X G a1,(zy (st:=zab) l1 c1 k1).binds (ps:=zqb) fun _ _ _ _ _ _ us hl=>by obtain ⟨_,_,rfl⟩:=ln2 hl;rfl⟩
  have zI:FnAt K mg "_law_take" zib zgb _ _:=⟨zy (st:=zib) l2 c2 k2,PySem.W.mg_of X G a2,(zy (st:=zib) l2 c2 k2).binds (ps:=zgb) fun _ _ _ _ _ _ us hl=>by obtain ⟨_,_,rfl⟩:=ln2 hl;rfl⟩
  have zoe:FnAt K mg "_law_web" zGb zRb _ _:=⟨zy (st:=zGb) l3 c3 k3,PySem.W.mg_of X G a3,(zy (st:=zGb) l3 c3 k3).binds (ps:=zRb) fun _ _ _ _ _ _ us hl=>by obtain ⟨_,_,rfl⟩:=ln2 hl;rfl⟩
  have znc:FnAt K mg "_law_order" zeb zob _ _:=⟨zy (st:=zeb) l4 c4 k4,PySem.W.mg_of X G a4,(zy (st:=zeb) l4 c4 k4).binds (ps:=zob) fun _ _ _ _ _ _ us hl=>by obtain ⟨_,_,rfl⟩:=ln2 hl;rfl⟩
  have zNb:FnAt K mg "_law_exchanged" zO zR _ _:=⟨zy (st:=zO) l5 c5 k5,PySem.W.mg_of X G a5,(zy (st:=zO) l5 c5 k5).binds (ps:=zR) fun _ _ _ _ _ _ us hl=>by obtain ⟨_,_,_,rfl⟩:=ln3 hl;rfl⟩
  have z8i:FnAt K mg "lying" zWd zNd _ _:=⟨zy (st:=zWd) l6 c6 k6,PySem.W.mg_of X G a6,(zy (st:=zWd) l6 c6 k6).binds (ps:=zNd) fun _ _ _ _ _ _ us hl=>by obtain ⟨_,_,rfl⟩:=ln2 hl;rfl⟩
  have zMd:FnAt K mg "pushes_to" ztb zAb _ _:=⟨zy (st:=ztb) l7 c7 k7,PySem.W.mg_of X G a7,(zy (st:=ztb) l7 c7 k7).binds (ps:=zAb) fun _ _ _ _ _ _ us hl=>by obtain ⟨_,_,_,rfl⟩:=ln3 hl;rfl⟩
  have zmh:FnAt K mg "left" zJe zXd _ _:=⟨zy (st:=zJe) l8 c8 k8,PySem.W.mg_of X G a8,(zy (st:=zJe) l8 c8 k8).binds (ps:=zXd) fun _ _ _ _ _ _ us hl=>by obtain ⟨_,_,rfl⟩:=ln2 hl;rfl⟩
  have zIg:FnAt K mg "row_to" zyc zRc _ _:=⟨zy (st:=zyc) l9 c9 k9,PySem.W.mg_of X G a9,(zy (st:=zyc) l9 c9 k9).binds (ps:=zRc) fun _ _ _ _ _ _ us hl=>by obtain ⟨_,_,rfl⟩:=ln2 hl;rfl⟩
  have zId:FnAt K mg "put_in" zkc z5b _ _:=⟨zy (st:=zkc) l10 c10 k10,PySem.W.mg_of X G a10,(zy (st:=zkc) l10 c10 k10).binds (ps:=z5b) fun _ _ _ _ _ _ us hl=>by obtain ⟨_,_,_,rfl⟩:=ln3 hl;rfl⟩
  have zLi:FnAt K mg "fault" zLd zTd _ _:=⟨zy (st:=zLd) l11 c11 k11,PySem.W.mg_of X G a11,(zy (st:=zLd) l11 c11 k11).binds (ps:=zTd) fun _ _ _ _ _ _ us hl=>by obtain ⟨_,_,rfl⟩:=ln2 hl;rfl⟩
  have zqf:FnAt K mg "is_push" z9b zhc _ _:=⟨zy (st:=z9b) l12 c12 k12,PySem.W.mg_of X G a12,(zy (st:=z9b) l12 c12 k12).binds (ps:=zhc) fun _ _ _ _ _ _ us hl=>by obtain ⟨_,_,_,_,rfl⟩:=ln4 hl;rfl⟩
  have zrf:FnAt K mg "follows" z6b zic _ _:=⟨zy (st:=z6b) l13 c13 k13,PySem.W.mg_of X G a13,(zy (st:=z6b) l13 c13 k13).binds (ps:=zic) fun _ _ _ _ _ _ us hl=>by obtain ⟨_,_,_,_,rfl⟩:=ln4 hl;rfl⟩
  have zsg:FnAt K mg "pushed" zvc zQc _ _:=⟨zy (st:=zvc) l14 c14 k14,PySem.W.mg_of X G a14,(zy (st:=zvc) l14 c14 k14).binds (ps:=zQc) fun _ _ _ _ _ _ us hl=>by obtain ⟨_,_,_,_,rfl⟩:=ln4 hl;rfl⟩
  have zHd:FnAt K mg "laid_more" zpb zyb _ _:=⟨zy (st:=zpb) l15 c15 k15,PySem.W.mg_of X G a15,(zy (st:=zpb) l15 c15 k15).binds (ps:=zyb) fun _ _ _ _ _ _ us hl=>by obtain ⟨_,_,_,rfl⟩:=ln3 hl;rfl⟩
  have zFc:FnAt K mg "laid_at_all" zY zhb _ _:=⟨zy (st:=zY) l16 c16 k16,PySem.W.mg_of X G a16,(zy (st:=zY) l16 c16 k16).binds (ps:=zhb) fun _ _ _ _ _ _ us hl=>by obtain ⟨_,rfl⟩:=ln1 hl;rfl⟩
  have zxf:FnAt K mg "room_of" z3b zdc _ _:=⟨zy (st:=z3b) l17 c17 k17,PySem.W.mg_of X G a17,(zy (st:=z3b) l17 c17 k17).binds (ps:=zdc) fun _ _ _ _ _ _ us hl=>by obtain ⟨_,_,rfl⟩:=ln2 hl;rfl⟩
  have zze:FnAt K mg "homes_of" zDb zTb _ _:=⟨zy (st:=zDb) l18 c18 k18,PySem.W.mg_of X G a18,(zy (st:=zDb) l18 c18 k18).binds (ps:=zTb) fun _ _ _ _ _ _ us hl=>by obtain ⟨_,_,rfl⟩:=ln2 hl;rfl⟩
  have zje:FnAt K mg "is_crowd" zEb zPb _ _:=⟨zy (st:=zEb) l19 c19 k19,PySem.W.mg_of X G a19,(zy (st:=zEb) l19 c19 k19).binds (ps:=zPb) fun _ _ _ _ _ _ us hl=>by obtain ⟨_,_,rfl⟩:=ln2 hl;rfl⟩
  have zNc:FnAt K mg "spare_key" zrb zCb _ _:=⟨zy (st:=zrb) l20 c20 k20,PySem.W.mg_of X G a20,(zy (st:=zrb) l20 c20 k20).binds (ps:=zCb) fun _ _ _ _ _ _ us hl=>by obtain ⟨_,_,rfl⟩:=ln2 hl;rfl⟩
  have z6e:FnAt K mg "trimmed" z2b zec _ _:=⟨zy (st:=z2b) l21 c21 k21,PySem.W.mg_of X G a21,(zy (st:=z2b) l21 c21 k21).binds (ps:=zec) fun _ _ _ _ _ _ us hl=>by obtain ⟨_,_,rfl⟩:=ln2 hl;rfl⟩
  have zVd:FnAt K mg "fitted" zlc z7b _ _:=⟨zy (st:=zlc) l22 c22 k22,PySem.W.mg_of X G a22,(zy (st:=zlc) l22 c22 k22).binds (ps:=z7b) fun _ _ _ _ _ _ us hl=>by obtain ⟨_,rfl⟩:=ln1 hl;rfl⟩
  have zMc:FnAt K mg "held_to" zKb zFb _ _:=⟨zy (st:=zKb) l23 c23 k23,PySem.W.mg_of X G a23,(zy (st:=zKb) l23 c23 k23).binds (ps:=zFb) fun _ _ _ _ _ _ us hl=>by obtain ⟨_,_,_,rfl⟩:=ln3 hl;rfl⟩
  have zye:FnAt K mg "can_move" zHb zUb _ _:=⟨zy (st:=zHb) l24 c24 k24,PySem.W.mg_of X G a24,(zy (st:=zHb) l24 c24 k24).binds (ps:=zUb) fun _ _ _ _ _ _ us hl=>by obtain ⟨_,_,_,_,rfl⟩:=ln4 hl;rfl⟩
  have zzg:FnAt K mg "places" zAc zSc _ _:=⟨zy (st:=zAc) l25 c25 k25,PySem.W.mg_of X G a25,(zy (st:=zAc) l25 c25 k25).binds (ps:=zSc) fun _ _ _ _ _ _ us hl=>by obtain ⟨_,rfl⟩:=ln1 hl;rfl⟩
  have zoc:FnAt K mg "_law_heard" zbb zsb _ _:=⟨zy (st:=zbb) l26 c26 k26,PySem.W.mg_of X G a26,(zy (st:=zbb) l26 c26 k26).binds (ps:=zsb) fun _ _ _ _ _ _ us hl=>by obtain ⟨_,rfl⟩:=ln1 hl;rfl⟩
  have z3d:FnAt K mg "may_lie" z8b zjc _ _:=⟨zy (st:=z8b) l27 c27 k27,PySem.W.mg_of X G a27,(zy (st:=z8b) l27 c27 k27).binds (ps:=zjc) fun _ _ _ _ _ _ us hl=>by obtain ⟨_,_,_,rfl⟩:=ln3 hl;rfl⟩
  have zat:FnAt K mg "law" z9g zFj _ _:=⟨zy (st:=z9g) l28 c28 k28,PySem.W.mg_of X G a28,(zy (st:=z9g) l28 c28 k28).binds (ps:=zFj) fun _ _ _ _ _ _ us hl=>by obtain ⟨_,rfl⟩:=ln1 hl;rfl⟩
  refine ⟨PySem.W.fnOf "law" "law" (zJ z9g) (zD z9g) (zi z9g) .none kV28 dc28 pm28 an28 cd28 ct28,fun s v => .of_eq rfl,fun base _ _=>?_⟩
  have B_init_NoFit:IniAt K mg "NoFit" "some" "NoFit.__init__" zdb zfb _ _ _ _:=⟨xa_NoFit,PySem.W.mg_of X G xa_NestError,⟨⟨_,_,_,_,_,_,_,_,_,_,_,_,_,_,i1_NoFit⟩,i2_NoFit,i3_NoFit,i4,i5_NoFit,i6_NoFit,i7,i8,i9⟩,(zy (st:=zdb) il_NoFit ic_NoFit ik_NoFit),(zy (st:=zdb) il_NoFit ic_NoFit ik_NoFit).binds (ps:=zfb) fun _ _ _ _ _ _ us hl=>by obtain ⟨_,_,rfl⟩:=ln2 hl;rfl⟩
  have zEd:=zIh (P:=l.prog) (w:=w) (base:=base) T B_init_NoFit
  have zLe:=zNj (P:=l.prog) (w:=w) (base:=base) T zEe
  have zzd:=zJh (P:=l.prog) (w:=w) (base:=base) T z9c
  have zE:=z0i (P:=l.prog) (w:=w) (base:=base) T z9c zzd zI
  have zOe:=zLj (P:=l.prog) (w:=w) (base:=base) T zI zE zoe
  have zCc:=zDh (P:=l.prog) (w:=w) (base:=base) T zI zE znc
  have zfc:=z0e (P:=l.prog) (w:=w) (base:=base) T zNb
  have z4i:=z1n (P:=l.prog) (w:=w) (base:=base) T z8i
  have z7d:=zUi (P:=l.prog) (w:=w) (base:=base) T z8i z4i zMd
  have zVf:=zdp (P:=l.prog) (w:=w) (base:=base) T zmh
  have z1g:=zbm (P:=l.prog) (w:=w) (base:=base) T zIg
  have zqd:=zpm (P:=l.prog) (w:=w) (base:=base) T zMd z7d zmh zVf zIg z1g zId
  have zIi:=zDn (P:=l.prog) (w:=w) (base:=base) T zmh zVf zLi
  have zUf:=zel (P:=l.prog) (w:=w) (base:=base) T zqf
  have zRf:=zil (P:=l.prog) (w:=w) (base:=base) T zrf
  have z7g:=zNm (P:=l.prog) (w:=w) (base:=base) T zLi zIi zqf zUf zrf zRf zsg
  have z6d:=z9i (P:=l.prog) (w:=w) (base:=base) T zId zqd zsg z7g zHd
  have zed:=z3g (P:=l.prog) (w:=w) (base:=base) T zHd z6d zFc
  have z2f:=zBk (P:=l.prog) (w:=w) (base:=base) T zxf
  have zNe:=zpj (P:=l.prog) (w:=w) (base:=base) T zze
  have zZe:=zTj (P:=l.prog) (w:=w) (base:=base) T zxf z2f zze zNe zje
  have zad:=zaj (P:=l.prog) (w:=w) (base:=base) T zje zZe zNc
  have zOf:=zWk (P:=l.prog) (w:=w) (base:=base) T zNc zad z6e
  have zmd:=zym (P:=l.prog) (w:=w) (base:=base) T zFc zed z6e zOf zVd
  have zGc:=zxk (P:=l.prog) (w:=w) (base:=base) T zMc
  have zPe:=zIj (P:=l.prog) (w:=w) (base:=base) T zId zqd zMc zGc zye
  have zjh:=zBm (P:=l.prog) (w:=w) (base:=base) T zVd zmd zye zPe B_init_NoFit zEd zzg
  have zxc:=zEh (P:=l.prog) (w:=w) (base:=base) T zzg zjh zoc
  have zpe:=zAk (P:=l.prog) (w:=w) (base:=base) T zVd zmd zMc zGc z3d
  exact zLq T zEe zLe zoe zOe znc zCc zNb zfc zoc zxc z3d zpe zat
theorem walk {l:PySem.W.OpenLaw} {q:Program} {loose:List Str} {XP:(Str→Option Value)→Heap→Prop} {YP:World→Heap→Prop} {d:DefRec} {K:Params→PySem.W.Frag} (hn:l.most=some 63) (hdf:d.params.defaults = [])
    (hY:∀ (w:World) (h:Heap),YP w h→(K w.params).In h)
    (F:∀ (w:World) (mg:Str→Option Value) (fa:Addr) (h:Heap),(K w.params).In h→h.Ns mainGlobals mg→mg d.name=some (.ref fa) →
      ∃ fd:FuncData,(∀ (s:Shared) (u:Value),BindsTo s fd ⟨[u],[]⟩ [("_law_script",u)])∧∀ base:Heap,(K w.params).In base→base.Ns mainGlobals mg→FnOk l.prog w (K w.params) mg base CX0 9 fa fd ["_law_script"] (spM (K w.params) 1 zfm)) :
    PySem.W.WalkO q loose XP YP l.row.toRowW d [] (fun f vs=>PySem.call f vs) :=
  L2.walk_of (n:=63) (k:=9) (x:="_law_script") (CX:=fun _=>CX0) (sp:=fun w=>spM (K w.params) 1 zfm) hn (by decide) hdf (by first | exact ⟨rfl,by decide,by decide,rfl⟩ | exact ⟨rfl,by decide,by decide⟩) hY F (fun _ _ a ns hl hO hS=>zGr (zRo ns hl) hO hS) fun _ _ _ _ _ z=>z
end P
open PySem PySem.W PyProof.Rows
set_option maxRecDepth 100000 in
set_option maxHeartbeats 0 in
theorem PySem.Challenge.cw_keynests_k42_whole_places_by_other_names_holds : PySem.Challenge.rw_keynests_k42_whole_places_by_other_names.Holds := by
  w_on;o_law;k_head;(case hw=>w_witness2)
  k_fill
  refine P.walk (l:=PySem.Challenge.rw_keynests_k42_whole_places_by_other_names) rfl rfl (fun w h Y=>PySem.W.kIn_of Y) ?F
  case F =>
    intro w mg fa h KX G hmg
    refine' P.all_mk KX G hmg ?a0 ?l0 ?c0 ?k0 ?a1 ?l1 ?c1 ?k1 ?a2 ?l2 ?c2 ?k2 ?a3 ?l3 ?c3 ?k3 ?a4 ?l4 ?c4 ?k4 ?a5 ?l5 ?c5 ?k5 ?a6 ?l6 ?c6 ?k6 ?a7 ?l7 ?c7 ?k7 ?a8 ?l8 ?c8 ?k8 ?a9 ?l9 ?c9 ?k9 ?a10 ?l10 ?c10 ?k10 ?a11 ?l11 ?c11 ?k11 ?a12 ?l12 ?c12 ?k12 ?a13 ?l13 ?c13 ?k13 ?a14 ?l14 ?c14 ?k14 ?a15 ?l15 ?c15 ?k15 ?a16 ?l16 ?c16 ?k16 ?a17 ?l17 ?c17 ?k17 ?a18 ?l18 ?c18 ?k18 ?a19 ?l19 ?c19 ?k19 ?a20 ?l20 ?c20 ?k20 ?a21 ?l21 ?c21 ?k21 ?a22 ?l22 ?c22 ?k22 ?a23 ?l23 ?c23 ?k23 ?a24 ?l24 ?c24 ?k24 ?a25 ?l25 ?c25 ?k25 ?a26 ?l26 ?c26 ?k26 ?a27 ?l27 ?c27 ?k27 ?a28 ?l28 ?c28 ?k28 ?z_enumerate ?z_len ?z_list ?z_range ?z_reversed ?z_set ?z_sorted ?z_sum ?z_tuple ?xa_NoFit ?xk_NoFit ?xa_NestError ?xk_NestError ?xm_NoFit_NoFit ?i4 ?i7 ?i8 ?i9 ?i1_NoFit ?i2_NoFit ?i3_NoFit ?i5_NoFit ?i6_NoFit ?ih_NoFit ?il_NoFit ?ic_NoFit ?ik_NoFit
    (case a0=>k_is)
    (case l0=>k_is)
    (case c0=>k_is)
    (case k0=>k_is)
    (case a1=>k_is)
    (case l1=>k_is)
    (case c1=>k_is)
    (case k1=>k_is)
    (case a2=>k_is)
    (case l2=>k_is)
    (case c2=>k_is)
    (case k2=>k_is)
    (case a3=>k_is)
    (case l3=>k_is)
    (case c3=>k_is)
    (case k3=>k_is)
    (case a4=>k_is)
    (case l4=>k_is)
    (case c4=>k_is)
    (case k4=>k_is)
    (case a5=>k_is)
    (case l5=>k_is)
    (case c5=>k_is)
    (case k5=>k_is)
    (case a6=>k_is)
    (case l6=>k_is)
    (case c6=>k_is)
    (case k6=>k_is)
    (case a7=>k_is)
    (case l7=>k_is)
    (case c7=>k_is)
    (case k7=>k_is)
    (case a8=>k_is)
    (case l8=>k_is)
    (case c8=>k_is)
    (case k8=>k_is)
    (case a9=>k_is)
    (case l9=>k_is)
    (case c9=>k_is)
    (case k9=>k_is)
    (case a10=>k_is)
    (case l10=>k_is)
    (case c10=>k_is)
    (case k10=>k_is)
    (case a11=>k_is)
    (case l11=>k_is)
    (case c11=>k_is)
    (case k11=>k_is)
    (case a12=>k_is)
    (case l12=>k_is)
    (case c12=>k_is)
    (case k12=>k_is)
    (case a13=>k_is)
    (case l13=>k_is)
    (case c13=>k_is)
    (case k13=>k_is)
    (case a14=>k_is)
    (case l14=>k_is)
    (case c14=>k_is)
    (case k14=>k_is)
    (case a15=>k_is)
    (case l15=>k_is)
    (case c15=>k_is)
    (case k15=>k_is)
    (case a16=>k_is)
    (case l16=>k_is)
    (case c16=>k_is)
    (case k16=>k_is)
    (case a17=>k_is)
    (case l17=>k_is)
    (case c17=>k_is)
    (case k17=>k_is)
    (case a18=>k_is)
    (case l18=>k_is)
    (case c18=>k_is)
    (case k18=>k_is)
    (case a19=>k_is)
    (case l19=>k_is)
    (case c19=>k_is)
    (case k19=>k_is)
    (case a20=>k_is)
    (case l20=>k_is)
    (case c20=>k_is)
    (case k20=>k_is)
    (case a21=>k_is)
    (case l21=>k_is)
    (case c21=>k_is)
    (case k21=>k_is)
    (case a22=>k_is)
    (case l22=>k_is)
    (case c22=>k_is)
    (case k22=>k_is)
    (case a23=>k_is)
    (case l23=>k_is)
    (case c23=>k_is)
    (case k23=>k_is)
    (case a24=>k_is)
    (case l24=>k_is)
    (case c24=>k_is)
    (case k24=>k_is)
    (case a25=>k_is)
    (case l25=>k_is)
    (case c25=>k_is)
    (case k25=>k_is)
    (case a26=>k_is)
    (case l26=>k_is)
    (case c26=>k_is)
    (case k26=>k_is)
    (case a27=>k_is)
    (case l27=>k_is)
    (case c27=>k_is)
    (case k27=>k_is)
    (case a28=>k_is)
    (case l28=>k_is)
    (case c28=>k_is)
    (case k28=>k_is)
    (case z_enumerate=>k_is)
    (case z_len=>k_is)
    (case z_list=>k_is)
    (case z_range=>k_is)
    (case z_reversed=>k_is)
    (case z_set=>k_is)
    (case z_sorted=>k_is)
    (case z_sum=>k_is)
    (case z_tuple=>k_is)
    (case xa_NoFit=>k_is)
    (case xk_NoFit=>kts_isx)
    (case xa_NestError=>k_is)
    (case xk_NestError=>kts_isx)
    (case xm_NoFit_NoFit=>k_is)
    (case i4=>k_exc)
    (case i7=>k_is)
    (case i8=>k_is)
    (case i9=>k_is)
    (case i1_NoFit=>k_is)
    (case i2_NoFit=>k_is)
    (case i3_NoFit=>k_is)
    (case i5_NoFit=>k_is)
    (case i6_NoFit=>k_is)
    (case ih_NoFit=>k_is)
    (case il_NoFit=>k_is)
    (case ic_NoFit=>k_is)
    (case ik_NoFit=>k_is)
