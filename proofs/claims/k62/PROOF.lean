import PyProof.Rows.All
import Wide.All
import OpenK.AllK
import Wide.FinOn
import Lean
import PyProof.EqAt
import PyProof.EqKinds
import PyProof.TupleCall
import OpenK.KRaise
import PySem.SetOps
import PyProof.SetKind
import PyProof.DictStraight
import PyProof.CollectWalk
import PyProof.Seq
import PyProof.Walks
import PyProof.FactsAll.set
import PyProof.Rows.SortShell
import PyProof.Rows.SortWalk
import PyProof.Rows.SetFrom
import PyProof.SumAny
import PyProof.ListRange
import PyProof.EnumMake
import KE.KDictList
import KE.KRevIter
import KE.BitLaws
import PyProof.Rows.MinMaxN
import KE.KIntText
import PyProof.StrLawsTight
import PyProof.Rows.StrSplitJoin
import PySem.Challenge.RW_keynests_k62_webs_written
set_option autoImplicit false
set_option maxRecDepth 100000
set_option linter.all false
set_option Elab.async false
namespace L2
open PySem PySem.Spec PyProof.Rows
noncomputable abbrev Key := Sum Int Str
noncomputable def keyIs : Key → Value → Bool
  | .inl k, v => Value.isInt k v
  | .inr x, v => Value.isStrOf x v
noncomputable def keyH (w : World) : Key → Int
  | .inl k => hashInt k
  | .inr x => hashStr w x
theorem keyIs_shape : ∀ {k : Key} {v : Value}, keyIs k v = true → (∃ i t, k = Sum.inl i ∧ v = Value.int i t) ∨ (∃ x t, k = Sum.inr x ∧ v = Value.str x t)
  | .inl i, v, h => by
    obtain ⟨t, e⟩ := Value.isInt_shape (k := i) (v := v) h
    exact .inl ⟨i, t, rfl, e⟩
  | .inr x, v, h => by
    obtain ⟨t, e⟩ := Value.isStrOf_shape (x := x) (v := v) h
    exact .inr ⟨x, t, rfl, e⟩
theorem key_ll (a b : Int) : decide ((Sum.inl a : Key) = Sum.inl b) = (a == b) := by
  by_cases e : a = b
  · subst e; simp
  · have h : ¬ (Sum.inl a : Key) = Sum.inl b := fun q => e (Sum.inl.inj q)
    rw [decide_eq_false h]
    exact (beq_eq_false_iff_ne.mpr e).symm
theorem key_rr (a b : Str) : decide ((Sum.inr a : Key) = Sum.inr b) = decide (a = b) := by
  by_cases e : a = b
  · subst e; simp
  · have h : ¬ (Sum.inr a : Key) = Sum.inr b := fun q => e (Sum.inr.inj q)
    rw [decide_eq_false h, decide_eq_false e]
theorem key_lr (a : Int) (b : Str) : decide ((Sum.inl a : Key) = Sum.inr b) = false := decide_eq_false (fun q => nomatch q)
theorem key_rl (a : Str) (b : Int) : decide ((Sum.inr a : Key) = Sum.inl b) = false := decide_eq_false (fun q => nomatch q)
noncomputable def mixKind (prog : Program) (w : World) : PySem.KeyKind prog w Key where
  is := keyIs
  hash := keyH w
  inj := fun v a b ha hb => by
    rcases keyIs_shape ha with ⟨i, t, rfl, rfl⟩ | ⟨x, t, rfl, rfl⟩
    · rcases keyIs_shape hb with ⟨j, u, rfl, e⟩ | ⟨y, u, rfl, e⟩
      · injection e with e1 _; rw [e1]
      · exact nomatch e
    · rcases keyIs_shape hb with ⟨j, u, rfl, e⟩ | ⟨y, u, rfl, e⟩
      · exact nomatch e
      · injection e with e1 _; rw [e1]
  byValue := fun k v h => by
    rcases keyIs_shape h with ⟨i, t, rfl, rfl⟩ | ⟨x, t, rfl, rfl⟩ <;> rfl
  pyHash := fun hv h => by
    rcases keyIs_shape hv with ⟨i, t, rfl, rfl⟩ | ⟨x, t, rfl, rfl⟩
    · exact wpAny_pyHash_int h
    · exact wpAny_pyHash_str h
  eqBool := fun hu hv h => by
    rcases keyIs_shape hu with ⟨i, t, rfl, rfl⟩ | ⟨x, t, rfl, rfl⟩
    · rcases keyIs_shape hv with ⟨j, u, rfl, rfl⟩ | ⟨y, u, rfl, rfl⟩
      · rw [key_ll] at h; exact wpAny_eqBool_int h
      · rw [key_lr] at h; exact SeqAt.EqAt.int_str i t y u _ _ _ _ h
    · rcases keyIs_shape hv with ⟨j, u, rfl, rfl⟩ | ⟨y, u, rfl, rfl⟩
      · rw [key_rl] at h; exact SeqAt.EqAt.str_int x t j u _ _ _ _ h
      · rw [key_rr] at h; exact wpAny_eqBool_str h
  «strs» := fun k x t v h => by
    rcases keyIs_shape h with ⟨i, u, rfl, e⟩ | ⟨y, u, rfl, e⟩
    · exact nomatch e
    · injection e with e1 _
      subst e1
      cases v <;> rfl
end L2
namespace L2
open PySem PySem.Spec PyProof.Rows
inductive V where
  | non | bl (b : Bool) | int (i : Int) | str (x : Str) | byt (b : Array UInt8) | flt (b : UInt64) | ref (a : Addr) | ty (n : String)
  deriving DecidableEq
noncomputable def RelV : V → Value → Prop
  | .non, u => u = Value.none
  | .bl b, u => u = Value.bool b
  | .int i, u => ∃ t, u = Value.int i t
  | .str x, u => ∃ t, u = Value.str x t
  | .byt b, u => ∃ t, u = Value.bytes b t
  | .flt b, u => ∃ t, u = Value.float b t
  | .ref a, u => u = Value.ref a
  | .ty n, u => u = Value.type n
noncomputable abbrev Vals : List V → List Value → Prop := Paired RelV
theorem Vals.length {xs : List V} {us : List Value} (r : Vals xs us) : xs.length = us.length := Paired.length r
theorem Vals.get : ∀ {xs : List V} {us : List Value} {i : Nat} {x : V}, Vals xs us → xs[i]? = some x → ∃ u, us[i]? = some u ∧ RelV x u
  | _, _, _, _, .nil, e => by simp at e
  | _, _, 0, _, .cons r _, e => by simp at e; subst e; exact ⟨_, rfl, r⟩
  | _, _, i + 1, x, .cons _ t, e => by
    obtain ⟨u, h1, h2⟩ := Vals.get (i := i) (x := x) t (by simpa using e)
    exact ⟨u, by simpa using h1, h2⟩
theorem Vals.set {x : V} {u : Value} (r : RelV x u) : ∀ {xs : List V} {us : List Value} (i : Nat), Vals xs us → Vals (xs.set i x) (us.set i u)
  | _, _, _, .nil => .nil
  | _, _, 0, .cons _ t => .cons r t
  | _, _, i + 1, .cons q t => .cons q (Vals.set r i t)
theorem Vals.append : ∀ {xs ys : List V} {us ws : List Value}, Vals xs us → Vals ys ws → Vals (xs ++ ys) (us ++ ws)
  | _, _, _, _, .nil, s => s
  | _, _, _, _, .cons r t, s => .cons r (Vals.append t s)
theorem Vals.take : ∀ {xs : List V} {us : List Value} (n : Nat), Vals xs us → Vals (xs.take n) (us.take n)
  | _, _, 0, _ => .nil
  | _, _, _ + 1, .nil => .nil
  | _, _, n + 1, .cons r t => .cons r (Vals.take n t)
theorem Vals.drop : ∀ {xs : List V} {us : List Value} (n : Nat), Vals xs us → Vals (xs.drop n) (us.drop n)
  | _, _, 0, r => r
  | _, _, _ + 1, .nil => .nil
  | _, _, n + 1, .cons _ t => Vals.drop n t
noncomputable def RelO : Option V → Option Value → Prop
  | some v, some u => RelV v u
  | none, none => True
  | _, _ => False
noncomputable def KV {κ : Type} : List (κ × V) → List (κ × Value) → Prop := Paired fun (p : κ × V) (q : κ × Value) => p.1 = q.1 ∧ RelV p.2 q.2
noncomputable def kV : Key → V
  | .inl i => .int i
  | .inr x => .str x
inductive HO where
    | lst (xs : List V)
    | tup (xs : List V)
    | dK (kvs : List (Key × V)) | dT (kvs : List (List Key × V))
    | set (S : Int → Bool) (n : Nat)
    | ins (C dx : Addr) (fs : List (Str × V))
    | own (x : Addr)
    | xd (fs : List (Str × V))
    | met (f x : Addr)
    | rng (lo hi : Int)
    | frz (o : Obj) (u : HO)
    | tbl (ps : Array Value)
    | ext (φ : Heap → Prop)
noncomputable abbrev Hp := Addr → Option HO
noncomputable def upd (H : Hp) (a : Addr) (o : HO) : Hp := fun b => if b = a then some o else H b
theorem upd_same {H : Hp} {a : Addr} {o : HO} : upd H a o a = some o := by unfold upd; rw [if_pos rfl]
theorem upd_ne {H : Hp} {a b : Addr} {o : HO} (h : b ≠ a) : upd H a o b = H b := by unfold upd; rw [if_neg h]
theorem ne_of_none {H : Hp} {a b : Addr} {o : HO} (h : H a = some o) (h' : H b = none) : a ≠ b := by
  intro e; subst e; rw [h] at h'; cases h'
section
variable (P : Program) (w : World)
noncomputable def ObjOk (H : Hp) (h : Heap) (a : Addr) : HO → Prop
  | .lst xs => xs.length ≤ sizeLine ∧ ∃ (its : List Value) (n : Nat), Vals xs its ∧ h.get? a = some { cls := .type "list", data := .seq its.toArray n }
  | .tup xs => xs.length ≤ sizeLine ∧ ∃ its : List Value, Vals xs its ∧ IsTup h a its.toArray
  | .dK kvs => kvs.length ≤ sizeLine ∧ (a == sysModules) = false ∧ ∃ vs, KV kvs vs ∧ h.DictOf (mixKind P w) a vs
  | .dT kvs => kvs.length ≤ sizeLine ∧ (a == sysModules) = false ∧ ∃ xs : List (List Key × Addr × Value),
      Paired (fun (p : List Key × V) (q : List Key × Addr × Value) => p.1 = q.1 ∧ H q.2.1 = some (.tup (p.1.map kV)) ∧ RelV p.2 q.2.2) kvs xs ∧
      ∃ o es ep, h.get? a = some o ∧ o.ExactDict ∧ o.data = .dict es ep ∧ es.toList = xs.map (entryOfKey (tupleKind (mixKind P w))) ∧ (xs.map (·.1)).Nodup
  | .set S n => h.SetOf (intKind P w) a S n
  | .ins C dx fs => H dx = some (.own a) ∧ fs.length ≤ 1000 ∧ dx ≠ a ∧ h.get? a = some (PySem.W.instObj C dx) ∧
      ∃ mA, h.Ns1 dx mA ∧ (∀ f, RelO (fs.lookup f) (mA f)) ∧ PySem.Within mA (fs.map (·.1))
  | .own _ => ∃ o, h.get? a = some o
  | .xd fs => ∃ mA, h.Ns1 a mA ∧ ∀ f, RelO (fs.lookup f) (mA f)
  | .rng lo hi => ∃ t u v, h.get? a = some { cls := .type "range", data := .fields #[.int lo t, .int hi u, .int 1 v] }
  | .frz o u => h.get? a = some o ∧ ObjOk H h a u
  | .tbl ps => h.get? a = some { cls := .none, data := .fields ps }
  | .met f x => h.get? a = some (PySem.W.methodObj (.ref f) (.ref x))
  | .ext φ => φ h ∧ (∃ o, h.get? a = some o) ∧ ∀ h1 h2 : Heap, φ h1 → (∀ o, h1.get? a = some o → h2.get? a = some o) → φ h2
noncomputable def HOk (H : Hp) (h : Heap) : Prop := ∀ a o, H a = some o → ObjOk P w H h a o
end
section
variable {P : Program} {w : World} {H H' : Hp} {h h' : Heap} {a : Addr} {o : HO}
theorem ObjOk.lt (x : ObjOk P w H h a o) : a < h.objs.size := by
  cases o with
  | lst xs => obtain ⟨_, _, _, _, e⟩ := x; exact Heap.lt_size e
  | tup xs => obtain ⟨_, _, _, p⟩ := x; exact p.lt
  | dK kvs => obtain ⟨_, _, _, _, o, _, _, e, _⟩ := x; exact Heap.lt_size e
  | dT kvs => obtain ⟨_, _, _, _, o, _, _, e, _⟩ := x; exact Heap.lt_size e
  | set S n => obtain ⟨o, _, _, _, e, _⟩ := x; exact Heap.lt_size e
  | ins C dx fs => obtain ⟨_, _, _, e, _⟩ := x; exact Heap.lt_size e
  | own y => obtain ⟨_, e⟩ := x; exact Heap.lt_size e
  | xd fs => obtain ⟨_, ⟨_, _, _, e, _⟩, _⟩ := x; exact Heap.lt_size e
  | rng lo hi => obtain ⟨_, _, _, e⟩ := x; exact Heap.lt_size e
  | frz ob u => obtain ⟨e, _⟩ := x; exact Heap.lt_size e
  | tbl ps => exact Heap.lt_size (show h.get? a = some _ from x)
  | met f y => exact Heap.lt_size (show h.get? a = some _ from x)
  | ext φ => obtain ⟨_, ⟨_, e⟩, _⟩ := x; exact Heap.lt_size e
theorem Paired.mapP {α β : Type} {F G : α → β → Prop} : ∀ {l₁ : List α} {l₂ : List β}, Paired F l₁ l₂ → (∀ a b, F a b → G a b) → Paired G l₁ l₂
  | _, _, .nil, _ => .nil
  | _, _, .cons r t, f => .cons (f _ _ r) (Paired.mapP t f)
theorem ObjOk.stay (x : ObjOk P w H h a o) (k : ∀ b u, (b = a ∨ H b = some (.own a)) → h.get? b = some u → h'.get? b = some u)
    (ho : ∀ b, H b = some (.own a) → H' b = some (.own a)) (ht : ∀ b xs, H b = some (.tup xs) → H' b = some (.tup xs)) : ObjOk P w H' h' a o := by
  induction o with
  | lst xs => obtain ⟨z, its, n, r, e⟩ := x; exact ⟨z, its, n, r, k _ _ (.inl rfl) e⟩
  | tup xs => obtain ⟨z, its, r, ob, e, c⟩ := x; exact ⟨z, its, r, ob, k _ _ (.inl rfl) e, c⟩
  | dK kvs => obtain ⟨z, y, vs, r, ob, es, ep, e, c⟩ := x; exact ⟨z, y, vs, r, ob, es, ep, k _ _ (.inl rfl) e, c⟩
  | dT kvs =>
    obtain ⟨z, y, xs, r, ob, es, ep, e, c⟩ := x
    exact ⟨z, y, xs, Paired.mapP r fun p q z => ⟨z.1, ht _ _ z.2.1, z.2.2⟩, ob, es, ep, k _ _ (.inl rfl) e, c⟩
  | set S n => obtain ⟨ob, es, ep, t, e, c⟩ := x; exact ⟨ob, es, ep, t, k _ _ (.inl rfl) e, c⟩
  | ins C dx fs =>
    obtain ⟨d, z, ne, e, mA, ⟨od, es, ep, e2, c⟩, r⟩ := x
    exact ⟨ho _ d, z, ne, k _ _ (.inl rfl) e, mA, ⟨od, es, ep, k _ _ (.inr d) e2, c⟩, r⟩
  | own y => obtain ⟨ob, e⟩ := x; exact ⟨ob, k _ _ (.inl rfl) e⟩
  | xd fs => obtain ⟨mA, ⟨od, es, ep, e, c⟩, r⟩ := x; exact ⟨mA, ⟨od, es, ep, k _ _ (.inl rfl) e, c⟩, r⟩
  | rng lo hi => obtain ⟨t, u, v, e⟩ := x; exact ⟨t, u, v, k _ _ (.inl rfl) e⟩
  | frz ob u ih => obtain ⟨e, q⟩ := x; exact ⟨k _ _ (.inl rfl) e, ih q⟩
  | tbl ps =>
    have e : h.get? a = some { cls := .none, data := .fields ps } := x
    show h'.get? a = some { cls := .none, data := .fields ps }
    exact k a _ (.inl rfl) e
  | met f y =>
    have e : h.get? a = some (PySem.W.methodObj (.ref f) (.ref y)) := x
    show h'.get? a = some (PySem.W.methodObj (.ref f) (.ref y))
    exact k a _ (.inl rfl) e
  | ext φ => obtain ⟨p, ⟨o, e⟩, st⟩ := x; exact ⟨st _ _ p fun o q => k _ _ (.inl rfl) q, ⟨o, k _ _ (.inl rfl) e⟩, st⟩
theorem HOk.lt (x : HOk P w H h) (e : H a = some o) : a < h.objs.size := (x a o e).lt
theorem HOk.fresh (x : HOk P w H h) (e : h.objs.size ≤ a) : H a = none := by
  cases q : H a with
  | none => rfl
  | some u => exact absurd (Nat.lt_of_lt_of_le (x.lt q) e) (Nat.lt_irrefl _)
theorem HOk.kept (x : HOk P w H h) (k : ∀ b u, h.get? b = some u → h'.get? b = some u) : HOk P w H h' := fun a o e =>
  (x a o e).stay (fun b u _ q => k b u q) (fun _ q => q) fun _ _ q => q
theorem HOk.laid (x : HOk P w H h) (k : ∀ b u, h.get? b = some u → h'.get? b = some u) (hp : h.objs.size ≤ a) (new : ObjOk P w (upd H a o) h' a o) : HOk P w (upd H a o) h' := fun b u e => by
  have hn := x.fresh hp
  by_cases hb : b = a
  · subst hb; rw [upd_same] at e; cases e; exact new
  · rw [upd_ne hb] at e
    exact (x b u e).stay (fun c v _ q => k c v q) (fun c q => by rw [upd_ne (ne_of_none q hn)]; exact q) fun c xs q => by rw [upd_ne (ne_of_none q hn)]; exact q
end
noncomputable def Rd (H : Hp) (a : Addr) (u : HO) : Prop := H a = some u ∨ ∃ o, H a = some (.frz o u)
theorem Rd.ok {P : Program} {w : World} {H : Hp} {h : Heap} {a : Addr} {u : HO} (r : Rd H a u) (x : HOk P w H h) : ObjOk P w H h a u := by
  rcases r with r | ⟨o, r⟩
  · exact x a u r
  · obtain ⟨_, q⟩ := x a _ r
    exact q
noncomputable def Mut : Option HO → Prop
  | some (.lst _) => True
  | some (.dK _) => True
  | some (.dT _) => True
  | some (.set _ _) => True
  | some (.ins _ _ _) => True
  | some (.ext _) => True
  | _ => False
section
variable {P : Program} {w : World} {H : Hp} {h h' : Heap} {x e : Addr} {o' : HO}
theorem HOk.write (ok : HOk P w H h) (mu : Mut (H x)) (he : e = x ∨ H e = some (.own x)) (k : ∀ b u, b ≠ e → h.get? b = some u → h'.get? b = some u) (heo : ∃ u, h'.get? e = some u)
    (new : ObjOk P w (upd H x o') h' x o') : HOk P w (upd H x o') h' := fun b u q => by
  have nown : ∀ c y, H c = some (.own y) → c ≠ x := fun c y r z => by subst z; rw [r] at mu; exact mu
  have ntup : ∀ c xs, H c = some (.tup xs) → c ≠ x := fun c xs r z => by subst z; rw [r] at mu; exact mu
  by_cases hb : b = x
  · subst hb; rw [upd_same] at q; cases q; exact new
  · rw [upd_ne hb] at q
    by_cases hbe : b = e
    · have q' : H b = some (.own x) := by
        rcases he with z | z
        · exact absurd (hbe.trans z) hb
        · rw [hbe]; exact z
      rw [q] at q'; cases q'
      obtain ⟨v, hv⟩ := heo
      exact ⟨v, by rw [hbe]; exact hv⟩
    · refine (ok b u q).stay (fun c v hc r => k c v ?_ r) (fun c r => by rw [upd_ne (nown c b r)]; exact r) fun c xs r => by rw [upd_ne (ntup c xs r)]; exact r
      rcases hc with rfl | hc
      · exact hbe
      · rintro rfl
        rcases he with z | z
        · exact nown c b hc z
        · rw [hc] at z; cases z; exact hb rfl
end
structure Un (fs ex : List Addr) (H H' : Hp) (h h' : Heap) : Prop where
  keep : ∀ b o, h.get? b = some o → H b = none → b ∉ fs → b ∉ ex → h'.get? b = some o
  slot : ∀ b o, h.get? b = some o → H b = none → b ∈ fs → b ∉ ex → ∃ sl, h'.get? b = some { o with slots := sl }
  free : ∀ b o, h.get? b = some o → H b = none → b ∉ ex → H' b = none
  there : ∀ b o, h.get? b = some o → b ∉ ex → ∃ o', h'.get? b = some o'
  tups : ∀ b xs, H b = some (.tup xs) → H' b = some (.tup xs)
  frzs : ∀ b o u, H b = some (.frz o u) → H' b = some (.frz o u)
  tbls : ∀ b ps, H b = some (.tbl ps) → ∃ more, H' b = some (.tbl (ps ++ more))
section
variable {fs fs' ex ex' : List Addr} {H H1 H2 : Hp} {h h1 h2 h' : Heap} {a x e : Addr} {o : HO}
theorem Un.any (u : Un fs ex H H1 h h1) {b : Addr} {ob : Obj} (q : h.get? b = some ob) (n : H b = none) (hx : b ∉ ex) : ∃ sl, h1.get? b = some { ob with slots := sl } := by
  by_cases hb : b ∈ fs
  · exact u.slot b ob q n hb hx
  · exact ⟨ob.slots, u.keep b ob q n hb hx⟩
theorem Un.kept (k : ∀ b u, h.get? b = some u → h'.get? b = some u) : Un fs ex H H h h' :=
  ⟨fun b ob q _ _ _ => k b ob q, fun b ob q _ _ _ => ⟨ob.slots, k b ob q⟩, fun _ _ _ n _ => n, fun b ob q _ => ⟨ob, k b ob q⟩, fun _ _ q => q, fun _ _ _ q => q, fun _ ps q => ⟨#[], by rw [q]; simp⟩⟩
theorem Un.refl : Un fs ex H H h h := Un.kept fun _ _ q => q
theorem Un.laid (k : ∀ b u, h.get? b = some u → h'.get? b = some u) (hp : h.objs.size ≤ a) (hn : H a = none) : Un fs ex H (upd H a o) h h' where
  keep := fun b u q _ _ _ => k b u q
  slot := fun b u q _ _ _ => ⟨u.slots, k b u q⟩
  free := fun b u q n _ => by rw [upd_ne (Nat.ne_of_lt (Nat.lt_of_lt_of_le (Heap.lt_size q) hp))]; exact n
  there := fun b u q _ => ⟨u, k b u q⟩
  tups := fun b xs q => by rw [upd_ne (ne_of_none q hn)]; exact q
  frzs := fun b u xs q => by rw [upd_ne (ne_of_none q hn)]; exact q
  tbls := fun b ps q => ⟨#[], by rw [upd_ne (ne_of_none q hn), q]; simp⟩
theorem Un.write (mu : Mut (H x)) (he : e = x ∨ H e = some (.own x)) (k : ∀ b u, b ≠ e → h.get? b = some u → h'.get? b = some u) (heo : ∃ u, h'.get? e = some u) : Un fs ex H (upd H x o) h h' := by
  have hx : ∀ b, H b = none → b ≠ x := fun b n z => by subst z; rw [n] at mu; exact mu
  have hb : ∀ b, H b = none → b ≠ e := fun b n z => by
    subst z
    rcases he with r | r
    · exact hx b n r
    · rw [n] at r; cases r
  have hm : ∀ b u, H b = some u → ¬ Mut (some u) → b ≠ x := fun b u q nm z => by subst z; rw [q] at mu; exact nm mu
  refine ⟨fun b u q n _ _ => k b u (hb b n) q, fun b u q n _ _ => ⟨u.slots, k b u (hb b n) q⟩, fun b u q n _ => by rw [upd_ne (hx b n)]; exact n, fun b u q _ => ?_,
    fun b xs q => by rw [upd_ne (hm b _ q fun z => z)]; exact q, fun b u xs q => by rw [upd_ne (hm b _ q fun z => z)]; exact q, fun b ps q => ⟨#[], by rw [upd_ne (hm b _ q fun z => z), q]; simp⟩⟩
  by_cases hbe : b = e
  · subst hbe; exact heo
  · exact ⟨u, k b u hbe q⟩
end
noncomputable def trk (h : Heap) (H : Hp) : List Addr := (List.range h.objs.size).filter fun a => (H a).isSome
noncomputable def hidT (h : Heap) (H : Hp) : Heap := PySem.W.hideAll h (trk h H)
theorem hidT_size (h : Heap) (H : Hp) : (hidT h H).objs.size = h.objs.size := PySem.W.hideAll_size _ _
theorem hidT_get {h : Heap} {H : Hp} {b : Addr} {o : Obj} (e : h.get? b = some o) (n : H b = none) : (hidT h H).get? b = some o :=
  PySem.W.hideAll_get _ e fun hm => by
    have q : (H b).isSome = true := (List.mem_filter.mp hm).2
    rw [n] at q; simp at q
theorem of_hidT {h : Heap} {H : Hp} {b : Addr} {o : Obj} (e : (hidT h H).get? b = some o) : h.get? b = some o ∧ H b = none := by
  have e' : h.get? b = some o := PySem.W.of_hideAll (trk h H) e
  refine ⟨e', ?_⟩
  cases q : H b with
  | none => rfl
  | some x =>
    have hm : b ∈ trk h H := List.mem_filter.mpr ⟨List.mem_range.mpr (Heap.lt_size e'), by simp [q]⟩
    have z : (hidT h H).get? b = none := PySem.W.hideAll_none (trk h H) hm
    rw [z] at e; cases e
noncomputable def allNews (g h : Heap) (L : Addr) : List (Addr × Obj) := (List.range h.objs.size).filterMap fun a => if a = L ∨ (g.get? a).isSome = true then none else (h.get? a).map fun o => (a, o)
noncomputable def rest (g h : Heap) (L d : Addr) : List (Addr × Obj) := (allNews g h L).filter fun p => decide (p.1 ≠ d)
end L2
namespace L2
open PySem PySem.Spec PyProof.Rows
structure Mod (K : PySem.W.Frag) (mg : Str → Option Value) (base : Heap) : Prop where
  kin : K.In base
  glob : base.Ns mainGlobals mg
  blt : ∃ mb, base.Ns builtinsNs mb ∧ ∀ x : Str, x ≠ "__name__" → mb x = bootBuiltins x
  nolimit : base.NoLimit
structure Cx where
  prog : Program
  w : World
  K : PySem.W.Frag
  mg : Str → Option Value
  base : Heap
  A : Around
  N : List Str
  s₀ : Shared
  H₀ : Hp
  env : Env
  outer : List Env
  stack : List Env
  ex : List Addr
  fn : Str → Bool
  calm : Bool
  pn : List (Addr × Obj)
  xe : Value → Shared → Prop
noncomputable def frs (l : List Env) : List Addr := l.filterMap (·.frame)
noncomputable abbrev Cx.fs (X : Cx) : List Addr := frs X.outer
noncomputable def Vis (sc : Scope) (x : Str) : Prop := sc.names.lookup x = some .local ∨ sc.names.lookup x = some .cell ∨ sc.names.lookup x = some .free
noncomputable def Loc (sc : Scope) (x : Str) : Prop := sc.names.lookup x = some .local ∨ sc.names.lookup x = some .cell
noncomputable def Look (env : Env) (h : Heap) (m : Str → Option Value) (x : Str) (u : Value) : Prop :=
  (env.kindOf x = some .local ∧ m x = some u) ∨ ((env.kindOf x = some .cell ∨ env.kindOf x = some .free) ∧ ∃ c, env.cells.lookup x = some c ∧ h.IsCell c (some u))
structure Cx.Ok (X : Cx) : Prop where
  mod : Mod X.K X.mg X.base
  kind : X.env.scope.kind = .function
  glob : X.env.globals = mainGlobals
  blt : X.env.builtins = builtinsNs
  above : X.s₀.heap.objs.size ≤ X.env.locals
  inj : ∀ x y c, X.env.cells.lookup x = some c → X.env.cells.lookup y = some c → x = y
  has : ∀ x, (X.env.kindOf x = some .cell ∨ X.env.kindOf x = some .free) → ∃ c, X.env.cells.lookup x = some c
  cab : ∀ x c, X.fn x = true → X.env.cells.lookup x = some c → X.s₀.heap.objs.size ≤ c
  hd : X.calm = true → X.A.handled = none
  frames : X.A.frames = some X.stack
  stk : X.stack = X.outer ∨ (X.stack = X.env :: X.outer ∧ X.env.frame = some X.env.locals)
  exf : ∀ b ∈ X.ex, b ≠ X.env.locals ∧ ∀ x c, X.env.cells.lookup x = some c → c ≠ b
  bs : ∀ b o, X.base.get? b = some o → X.s₀.heap.get? b = some o ∧ X.H₀ b = none
  bsz : X.base.objs.size ≤ X.s₀.heap.objs.size
  noex : ∀ b o, X.base.get? b = some o → b ∉ X.ex
  exfs : ∀ b ∈ X.ex, b ∉ X.fs
  funs : X.s₀.heap.FunFrames X.base X.outer
  frf : ∀ b ∈ X.fs, X.H₀ b = none
structure Inv (X : Cx) (pins : List (Addr × Obj)) (σ : List (Option V)) (H : Hp) (s : Shared) : Prop where
  ok : X.Ok
  os : s.os = X.s₀.os
  bare : AllBare s.gens
  base : Un X.fs X.ex X.H₀ H X.s₀.heap s.heap
  loc : ∃ m, s.heap.Ns X.env.locals m ∧ ∀ (i : Nat) (x : Str) (v : V), X.N[i]? = some x → σ[i]? = some (some v) → Vis X.env.scope x → ∃ u, RelV v u ∧ Look X.env s.heap m x u
  cell : ∀ x c, X.env.cells.lookup x = some c → ∃ v, s.heap.IsCell c v
  free : H X.env.locals = none
  freeC : ∀ x c, X.env.cells.lookup x = some c → H c = none
  pin : ∀ p ∈ X.pn ++ pins, s.heap.get? p.1 = some p.2 ∧ H p.1 = none ∧ p.1 ≠ X.env.locals ∧ p.1 ∉ X.fs ∧ ∀ v, p.2.data ≠ .cell v
  hok : HOk X.prog X.w H s.heap
  len : σ.length = X.N.length
section
variable {X : Cx} {pins : List (Addr × Obj)} {σ : List (Option V)} {H H' : Hp} {s : Shared} {h' : Heap}
theorem Cx.Ok.nofr (ok : X.Ok) {b : Addr} {o : Obj} (e : X.base.get? b = some o) : b ∉ X.fs := fun hb => by
  have := (ok.funs.mem hb).1
  rw [e] at this; cases this
theorem Inv.bs (I : Inv X pins σ H s) : ∀ b o, X.base.get? b = some o → s.heap.get? b = some o ∧ H b = none := fun b o e =>
  ⟨I.base.keep b o (I.ok.bs b o e).1 (I.ok.bs b o e).2 (I.ok.nofr e) (I.ok.noex b o e), I.base.free b o (I.ok.bs b o e).1 (I.ok.bs b o e).2 (I.ok.noex b o e)⟩
theorem Inv.bk (I : Inv X pins σ H s) : ∀ b o, X.base.get? b = some o → s.heap.get? b = some o := fun b o e => (I.bs b o e).1
theorem Inv.mod (I : Inv X pins σ H s) : Mod X.K X.mg X.base := I.ok.mod
theorem Inv.kIn (I : Inv X pins σ H s) : X.K.In s.heap := I.ok.mod.kin.keeps I.bk
theorem Inv.fr (I : Inv X pins σ H s) : ∃ m, Fr X.base X.env.locals s.heap m :=
  let ⟨m, hn, _⟩ := I.loc
  ⟨m, hn, I.bk, Nat.le_trans I.ok.bsz I.ok.above⟩
theorem Inv.lt (I : Inv X pins σ H s) : X.env.locals < s.heap.objs.size := let ⟨_, hn, _⟩ := I.loc; hn.lt
theorem Inv.sz (I : Inv X pins σ H s) : X.s₀.heap.objs.size ≤ s.heap.objs.size := Nat.le_trans I.ok.above (Nat.le_of_lt I.lt)
theorem Inv.nofs (I : Inv X pins σ H s) {a : Addr} (h : s.heap.objs.size ≤ a) : a ∉ X.fs := fun hb => by
  obtain ⟨_, o, ho, _⟩ := I.ok.funs.mem hb
  exact absurd (Nat.lt_of_lt_of_le (Heap.lt_size ho) (Nat.le_trans I.sz h)) (Nat.lt_irrefl _)
theorem Inv.cne (I : Inv X pins σ H s) : ∀ x c, X.env.cells.lookup x = some c → c ≠ X.env.locals := fun x c e z => by
  obtain ⟨v, o, ho, hd⟩ := I.cell x c e
  obtain ⟨m, ⟨o', es, ep, ho', hd', _⟩, _⟩ := I.loc
  rw [z, ho'] at ho; cases ho; rw [hd'] at hd; cases hd
theorem Inv.funs (I : Inv X pins σ H s) : s.heap.FunFrames X.base X.outer := by
  have all : ∀ (l : List Env), (∀ b ∈ frs l, b ∈ X.fs) → X.s₀.heap.FunFrames X.base l → s.heap.FunFrames X.base l := by
    intro l
    induction l with
    | nil => intro _ _; trivial
    | cons env r ih =>
      intro hs hl
      obtain ⟨hk, ⟨L, o, hf, hn, ho, hd⟩, hr⟩ := hl
      have hL : L ∈ X.fs := hs L (by unfold frs; rw [List.filterMap_cons, hf]; exact List.mem_cons_self)
      obtain ⟨sl, e⟩ := I.base.slot L o ho (I.ok.frf L hL) hL fun z => I.ok.exfs L z hL
      exact ⟨hk, ⟨L, _, hf, hn, e, hd⟩, ih (fun b hb => hs b (by unfold frs; rw [List.filterMap_cons, hf]; exact List.mem_cons_of_mem _ hb)) hr⟩
  exact all X.outer (fun _ hb => hb) I.ok.funs
theorem Inv.stack (I : Inv X pins σ H s) : s.heap.FunFrames X.base X.stack := by
  rcases I.ok.stk with e | ⟨e, hf⟩
  · rw [e]; exact I.funs
  · rw [e]
    obtain ⟨m, hn, _⟩ := I.loc
    refine .cons (by rw [I.ok.kind]; decide) hf hn ?_ I.funs
    exact Heap.get?_none_of_le (Nat.le_trans I.ok.bsz I.ok.above)
theorem Inv.stkSub (I : Inv X pins σ H s) : ∀ b ∈ frs X.stack, b ∈ X.env.locals :: X.fs := fun b hb => by
  rcases I.ok.stk with e | ⟨e, hf⟩
  · rw [e] at hb; exact List.mem_cons_of_mem _ hb
  · rw [e] at hb
    unfold frs at hb
    rw [List.filterMap_cons, hf] at hb
    exact hb
theorem Inv.stkFree (I : Inv X pins σ H s) : ∀ b ∈ frs X.stack, H b = none := fun b hb => by
  rcases List.mem_cons.mp (I.stkSub b hb) with e | hb
  · rw [e]; exact I.free
  · obtain ⟨_, o, ho, _⟩ := I.ok.funs.mem hb
    exact I.base.free b o ho (I.ok.frf b hb) fun z => I.ok.exfs b z hb
theorem Inv.step {g' : Array GenState} {t' : Nat} {d' : Drawn} {ch : List Addr} (I : Inv X pins σ H s)
    (hch : ∀ b ∈ ch, (b ∈ X.ex ∨ X.s₀.heap.objs.size ≤ b) ∧ b ≠ X.env.locals ∧ (∀ x c, X.env.cells.lookup x = some c → c ≠ b) ∧ ∀ p ∈ X.pn ++ pins, p.1 ≠ b)
    (keep : ∀ b o, b ≠ X.env.locals → b ∉ X.fs → b ∉ ch → s.heap.get? b = some o → H b = none → h'.get? b = some o)
    (slot : ∀ b o, b ≠ X.env.locals → b ∈ X.fs → b ∉ ch → s.heap.get? b = some o → H b = none → ∃ sl, h'.get? b = some { o with slots := sl }) (free : ∀ b o, b ∉ ch → s.heap.get? b = some o → H b = none → H' b = none)
    (there : ∀ b o, b ∉ ch → s.heap.get? b = some o → ∃ o', h'.get? b = some o')
    (tups : ∀ b xs, H b = some (.tup xs) → H' b = some (.tup xs)) (frzs : ∀ b o u, H b = some (.frz o u) → H' b = some (.frz o u)) (tbls : ∀ b ps, H b = some (.tbl ps) → ∃ more, H' b = some (.tbl (ps ++ more)))
    (ns : ∀ m, s.heap.Ns X.env.locals m → h'.Ns X.env.locals m) (hok : HOk X.prog X.w H' h') (hg : AllBare g') :
    Inv X pins σ H' { s with heap := h', gens := g', drawn := d', toks := t' } := by
  have neL : ∀ b o, X.s₀.heap.get? b = some o → b ≠ X.env.locals := fun b o e => Nat.ne_of_lt (Nat.lt_of_lt_of_le (Heap.lt_size e) I.ok.above)
  have neC : ∀ b o, X.s₀.heap.get? b = some o → b ∉ X.ex → b ∉ ch := fun b o e hx hb => by
    rcases (hch b hb).1 with z | z
    · exact hx z
    · exact absurd (Nat.lt_of_lt_of_le (Heap.lt_size e) z) (Nat.lt_irrefl _)
  have cellK : ∀ x c, X.env.cells.lookup x = some c → ∀ v, s.heap.IsCell c v → h'.IsCell c v := fun x c e v ⟨o, ho, hd⟩ => by
    have nch : c ∉ ch := fun z => (hch c z).2.2.1 x c e rfl
    by_cases hc : c ∈ X.fs
    · obtain ⟨sl, q⟩ := slot c o (I.cne x c e) hc nch ho (I.freeC x c e)
      exact ⟨_, q, hd⟩
    · exact ⟨o, keep c o (I.cne x c e) hc nch ho (I.freeC x c e), hd⟩
  refine ⟨I.ok, I.os, hg, ⟨fun b o e n hb hx => ?_, fun b o e n hb hx => ?_, fun b o e n hx => ?_, fun b o e hx => ?_, fun b xs e => tups b xs (I.base.tups b xs e), fun b o xs e => frzs b o xs (I.base.frzs b o xs e), fun b ps e => ?_⟩, ?_, fun x c e => ?_, ?_, fun x c e => ?_, fun p hp => ?_, hok, I.len⟩
  · exact keep b o (neL b o e) hb (neC b o e hx) (I.base.keep b o e n hb hx) (I.base.free b o e n hx)
  · obtain ⟨sl, e1⟩ := I.base.slot b o e n hb hx
    obtain ⟨sl', e2⟩ := slot b _ (neL b o e) hb (neC b o e hx) e1 (I.base.free b o e n hx)
    exact ⟨sl', e2⟩
  · obtain ⟨o', e1⟩ := I.base.there b o e hx
    exact free b o' (neC b o e hx) e1 (I.base.free b o e n hx)
  · obtain ⟨o', e1⟩ := I.base.there b o e hx
    exact there b o' (neC b o e hx) e1
  · obtain ⟨m1, e1⟩ := I.base.tbls b ps e
    obtain ⟨m2, e2⟩ := tbls b _ e1
    exact ⟨m1 ++ m2, by rw [e2, Array.append_assoc]⟩
  · obtain ⟨m, hn, hl⟩ := I.loc
    refine ⟨m, ns m hn, fun i x v e1 e2 e3 => ?_⟩
    obtain ⟨u, r, l⟩ := hl i x v e1 e2 e3
    refine ⟨u, r, ?_⟩
    rcases l with l | ⟨k, c, e, z⟩
    · exact .inl l
    · exact .inr ⟨k, c, e, cellK x c e _ z⟩
  · obtain ⟨v, z⟩ := I.cell x c e
    exact ⟨v, cellK x c e v z⟩
  · obtain ⟨m, ⟨o, _, _, ho, _⟩, _⟩ := I.loc
    exact free _ o (fun z => (hch _ z).2.1 rfl) ho I.free
  · obtain ⟨v, o, ho, hd⟩ := I.cell x c e
    exact free c o (fun z => (hch c z).2.2.1 x c e rfl) ho (I.freeC x c e)
  · obtain ⟨e, n, ne, nf, d⟩ := I.pin p hp
    have nch : p.1 ∉ ch := fun z => (hch p.1 z).2.2.2 p hp rfl
    exact ⟨keep p.1 p.2 ne nf nch e n, free p.1 p.2 nch e n, ne, nf, d⟩
theorem Inv.un {t' : Nat} (I : Inv X pins σ H s) (u : Un X.fs [] H H' s.heap h') (hok : HOk X.prog X.w H' h') : Inv X pins σ H' { s with heap := h', toks := t' } := by
  obtain ⟨m, ⟨o, es, ep, ho, r⟩, _⟩ := id I.loc
  obtain ⟨sl, hL⟩ := u.any ho I.free (by simp)
  exact I.step (g' := s.gens) (d' := s.drawn) (ch := []) (fun _ z => nomatch z) (fun b o _ hb _ e n => u.keep b o e n hb (by simp)) (fun b o _ hb _ e n => u.slot b o e n hb (by simp)) (fun b o _ e n => u.free b o e n (by simp)) (fun b o _ e => u.there b o e (by simp)) u.tups u.frzs u.tbls (fun m' hm => by
    obtain ⟨o', es', ep', ho', r'⟩ := hm
    rw [ho] at ho'; cases ho'
    exact ⟨_, es', ep', hL, r'⟩) hok I.bare
theorem Inv.call {g' : Array GenState} {t' : Nat} {d' : Drawn} {ch : List Addr} (I : Inv X pins σ H s) (u : Un (frs X.stack) ch H H' s.heap h') (hok : HOk X.prog X.w H' h') (hg : AllBare g')
    (hch : ∀ b ∈ ch, (b ∈ X.ex ∨ X.s₀.heap.objs.size ≤ b) ∧ b ≠ X.env.locals ∧ (∀ x c, X.env.cells.lookup x = some c → c ≠ b) ∧ ∀ p ∈ X.pn ++ pins, p.1 ≠ b) :
    Inv X pins σ H' { s with heap := h', gens := g', drawn := d', toks := t' } := by
  obtain ⟨m, ⟨o, es, ep, ho, r⟩, _⟩ := id I.loc
  obtain ⟨sl, hL⟩ := u.any ho I.free fun z => (hch _ z).2.1 rfl
  exact I.step (ch := ch) hch (fun b o hL hb hc e n => u.keep b o e n (fun z => (List.mem_cons.mp (I.stkSub b z)).elim hL hb) hc) (fun b o _ _ hc e n => u.any e n hc) (fun b o hc e n => u.free b o e n hc) (fun b o hc e => u.there b o e hc) u.tups u.frzs u.tbls (fun m' hm => by
    obtain ⟨o', es', ep', ho', r'⟩ := hm
    rw [ho] at ho'; cases ho'
    exact ⟨_, es', ep', hL, r'⟩) hok hg
theorem Inv.turned {t' : Nat} {it : Addr} (I : Inv X pins σ H s) (k : ∀ b o, b ≠ it → s.heap.get? b = some o → h'.get? b = some o) (hn : H it = none) (hL : it ≠ X.env.locals)
    (h1 : it ∈ X.ex ∨ X.s₀.heap.objs.size ≤ it) (h2 : ∀ x c, X.env.cells.lookup x = some c → c ≠ it) (h3 : ∀ p ∈ X.pn ++ pins, p.1 ≠ it) : Inv X pins σ H { s with heap := h', toks := t' } := by
  have nit : ∀ b u, H b = some u → b ≠ it := fun b u e z => by rw [z, hn] at e; cases e
  refine I.step (g' := s.gens) (d' := s.drawn) (ch := [it]) (fun b hb => ?_) (fun b o _ _ hc e _ => k b o (fun z => hc (by simp [z])) e) (fun b o _ _ hc e _ => ⟨o.slots, k b o (fun z => hc (by simp [z])) e⟩) (fun _ _ _ _ n => n)
    (fun b o hc e => ⟨o, k b o (fun z => hc (by simp [z])) e⟩) (fun _ _ e => e) (fun _ _ _ e => e) (fun b ps e => ⟨#[], by rw [e]; simp⟩) (fun m hm => ?_) (fun b u e => ?_) I.bare
  · have e : b = it := by simpa using hb
    subst e
    exact ⟨h1, hL, h2, h3⟩
  · obtain ⟨o, es, ep, ho, r⟩ := hm
    exact ⟨o, es, ep, k _ o (Ne.symm hL) ho, r⟩
  · refine (I.hok b u e).stay (fun c v hc q => k c v ?_ q) (fun _ q => q) fun _ _ q => q
    rcases hc with z | z
    · rw [z]; exact nit b u e
    · exact nit c _ z
theorem Inv.tok (I : Inv X pins σ H s) (t : Nat) : Inv X pins σ H { s with toks := t } := I.un (h' := s.heap) (t' := t) Un.refl I.hok
theorem Inv.kept {t' : Nat} (I : Inv X pins σ H s) (k : ∀ b u, s.heap.get? b = some u → h'.get? b = some u) : Inv X pins σ H { s with heap := h', toks := t' } := I.un (Un.kept k) (I.hok.kept k)
theorem Inv.laid {a : Addr} {o : HO} {t' : Nat} (I : Inv X pins σ H s) (k : ∀ b u, s.heap.get? b = some u → h'.get? b = some u) (hp : s.heap.objs.size ≤ a) (new : ObjOk X.prog X.w (upd H a o) h' a o) :
    Inv X pins σ (upd H a o) { s with heap := h', toks := t' } := I.un (Un.laid k hp (I.hok.fresh hp)) (I.hok.laid k hp new)
theorem Inv.write {x e : Addr} {o : HO} {t' : Nat} (I : Inv X pins σ H s) (mu : Mut (H x)) (he : e = x ∨ H e = some (.own x)) (k : ∀ b u, b ≠ e → s.heap.get? b = some u → h'.get? b = some u) (heo : ∃ u, h'.get? e = some u)
    (new : ObjOk X.prog X.w (upd H x o) h' x o) : Inv X pins σ (upd H x o) { s with heap := h', toks := t' } := I.un (Un.write mu he k heo) (I.hok.write mu he k heo new)
theorem Inv.weak {σ' : List (Option V)} (I : Inv X pins σ H s) (hl : σ'.length = σ.length) (w : ∀ (i : Nat) v, σ'[i]? = some (some v) → σ[i]? = some (some v)) : Inv X pins σ' H s :=
  ⟨I.ok, I.os, I.bare, I.base, let ⟨m, hn, hl'⟩ := I.loc; ⟨m, hn, fun i x v e1 e2 e3 => hl' i x v e1 (w i v e2) e3⟩, I.cell, I.free, I.freeC, I.pin, I.hok, hl.trans I.len⟩
theorem Inv.pins_of {pins' : List (Addr × Obj)} (I : Inv X pins σ H s) (h : ∀ p ∈ pins', s.heap.get? p.1 = some p.2 ∧ H p.1 = none ∧ p.1 ≠ X.env.locals ∧ p.1 ∉ X.fs ∧ ∀ v, p.2.data ≠ .cell v) : Inv X pins' σ H s :=
  ⟨I.ok, I.os, I.bare, I.base, I.loc, I.cell, I.free, I.freeC, fun p hp => (List.mem_append.mp hp).elim (fun z => I.pin p (List.mem_append_left _ z)) (h p), I.hok, I.len⟩
theorem nodup_ix {N : List Str} (hN : N.Nodup) {i j : Nat} {x : Str} (a : N[i]? = some x) (b : N[j]? = some x) : i = j := by
  obtain ⟨h1, e1⟩ := List.getElem?_eq_some_iff.mp a
  obtain ⟨h2, e2⟩ := List.getElem?_eq_some_iff.mp b
  exact (List.getElem_inj hN).mp (e1.trans e2.symm)
theorem store_ok2 {M : Model} {A : Around} {E : Value → Shared → Prop} {i : Nat} {x : Str} {v : V} {u : Value} {Q : Unit → Shared → Prop} (I : Inv X pins σ H s) (hN : X.N.Nodup) (hi : X.N[i]? = some x) (hx : Loc X.env.scope x) (r : RelV v u)
    (h : ∀ s', Inv X pins (σ.set i (some v)) H s' → (∃ a, Heap.SameBut a s.heap s'.heap ∧ (a = X.env.locals ∨ X.env.cells.lookup x = some a)) → Q () s') (hf : X.fn x = true ∨ X.env.scope.names.lookup x = some .local := by first | exact .inl rfl | exact .inr rfl | assumption) : wpAny M A (storeName X.env x u) Q E s := by
  obtain ⟨m, hn, hl⟩ := id I.loc
  have hcls : (X.env.scope.kind == .class || (X.env.scope.kind == .module && X.env.locals != X.env.globals)) = false := by rw [I.ok.kind]; rfl
  have hiσ : i < σ.length := by rw [I.len]; exact (List.getElem?_eq_some_iff.mp hi).1
  have cne := I.cne
  have tracked : ∀ {a : Addr} {h' : Heap}, (∃ o, s.heap.get? a = some o ∧ H a = none) → Heap.SameBut a s.heap h' → HOk X.prog X.w H h' := fun {a h'} ha hs b ob e => by
    obtain ⟨_, _, hfree⟩ := ha
    refine (I.hok b ob e).stay (fun c w' hc q => (hs.2 c ?_).trans q) (fun _ q => q) fun _ _ q => q
    rintro rfl
    rcases hc with rfl | hc
    · rw [hfree] at e; cases e
    · rw [hfree] at hc; cases hc
  rcases hx with hk | hk
  · refine wpAny_storeName_local hk hn (fun h' hn' hs => ?_) hcls
    obtain ⟨oL, _, _, hoL, _⟩ := id hn
    refine h _ ⟨I.ok, I.os, I.bare, ⟨fun b o e n hb hx => ?_, fun b o e n hb hx => ?_, I.base.free, fun b o e hx => ?_, I.base.tups, I.base.frzs, I.base.tbls⟩, ⟨_, hn', fun j y v' e1 e2 e3 => ?_⟩, fun y c e => ?_, I.free, I.freeC, fun p hp => ?_, tracked ⟨oL, hoL, I.free⟩ hs, by simpa using I.len⟩ ⟨_, hs, .inl rfl⟩
    · exact (hs.2 b (Nat.ne_of_lt (Nat.lt_of_lt_of_le (Heap.lt_size e) I.ok.above))).trans (I.base.keep b o e n hb hx)
    · obtain ⟨sl, e1⟩ := I.base.slot b o e n hb hx
      exact ⟨sl, (hs.2 b (Nat.ne_of_lt (Nat.lt_of_lt_of_le (Heap.lt_size e) I.ok.above))).trans e1⟩
    · obtain ⟨o', e1⟩ := I.base.there b o e hx
      exact ⟨o', (hs.2 b (Nat.ne_of_lt (Nat.lt_of_lt_of_le (Heap.lt_size e) I.ok.above))).trans e1⟩
    · by_cases hj : j = i
      · subst hj
        rw [hi] at e1; cases e1
        rw [List.getElem?_set_self hiσ] at e2
        cases e2
        exact ⟨u, r, .inl ⟨hk, by simp⟩⟩
      · rw [List.getElem?_set_ne (Ne.symm hj)] at e2
        obtain ⟨u', r', q⟩ := hl j y v' e1 e2 e3
        refine ⟨u', r', ?_⟩
        rcases q with ⟨k, e⟩ | ⟨k, c, e, z⟩
        · refine .inl ⟨k, ?_⟩
          have : y ≠ x := fun e => hj (nodup_ix hN e1 (e ▸ hi))
          simp [this, e]
        · exact .inr ⟨k, c, e, z.sameBut hs (cne y c e)⟩
    · obtain ⟨w', z⟩ := I.cell y c e
      exact ⟨w', z.sameBut hs (cne y c e)⟩
    · obtain ⟨e, n, ne, nf, d⟩ := I.pin p hp
      exact ⟨(hs.2 p.1 ne).trans e, n, ne, nf, d⟩
  · have hfn : X.fn x = true := by
      rcases hf with z | z
      · exact z
      · rw [z] at hk; cases hk
    obtain ⟨c, hc⟩ := I.ok.has x (.inl hk)
    obtain ⟨w', z⟩ := I.cell x c hc
    refine wpAny_storeName_cell I.ok.kind hk hc z (fun h' hc' hs => ?_)
    obtain ⟨oc, hoc, hocd⟩ := id z
    refine h { s with heap := h' } ⟨I.ok, I.os, I.bare, ⟨fun b o e n hb hx => ?_, fun b o e n hb hx => ?_, I.base.free, fun b o e hx => ?_, I.base.tups, I.base.frzs, I.base.tbls⟩, ⟨m, hn.sameBut hs (Ne.symm (cne x c hc)), fun j y v' e1 e2 e3 => ?_⟩, fun y c' e => ?_, I.free, I.freeC, fun p hp => ?_, tracked ⟨oc, hoc, I.freeC x c hc⟩ hs, by simpa using I.len⟩ ⟨c, hs, .inr hc⟩
    · exact (hs.2 b (Nat.ne_of_lt (Nat.lt_of_lt_of_le (Heap.lt_size e) (I.ok.cab x c hfn hc)))).trans (I.base.keep b o e n hb hx)
    · obtain ⟨sl, e1⟩ := I.base.slot b o e n hb hx
      exact ⟨sl, (hs.2 b (Nat.ne_of_lt (Nat.lt_of_lt_of_le (Heap.lt_size e) (I.ok.cab x c hfn hc)))).trans e1⟩
    · obtain ⟨o', e1⟩ := I.base.there b o e hx
      exact ⟨o', (hs.2 b (Nat.ne_of_lt (Nat.lt_of_lt_of_le (Heap.lt_size e) (I.ok.cab x c hfn hc)))).trans e1⟩
    · by_cases hj : j = i
      · subst hj
        rw [hi] at e1; cases e1
        rw [List.getElem?_set_self hiσ] at e2
        cases e2
        exact ⟨u, r, .inr ⟨.inl hk, c, hc, hc'⟩⟩
      · rw [List.getElem?_set_ne (Ne.symm hj)] at e2
        obtain ⟨u', r', q⟩ := hl j y v' e1 e2 e3
        refine ⟨u', r', ?_⟩
        rcases q with q | ⟨k, c', e, z'⟩
        · exact .inl q
        · refine .inr ⟨k, c', e, z'.sameBut hs ?_⟩
          rintro rfl
          exact hj (nodup_ix hN e1 (I.ok.inj _ _ _ e hc ▸ hi))
    · by_cases hcc : c' = c
      · subst hcc; exact ⟨_, hc'⟩
      · obtain ⟨w2, z2⟩ := I.cell y c' e
        exact ⟨w2, z2.sameBut hs hcc⟩
    · obtain ⟨e, n, ne, nf, d⟩ := I.pin p hp
      refine ⟨(hs.2 p.1 ?_).trans e, n, ne, nf, d⟩
      intro q
      rw [q, hoc] at e
      have q' : oc = p.2 := Option.some.inj e
      exact d w' (by rw [← q']; exact hocd)
theorem store_ok {M : Model} {A : Around} {E : Value → Shared → Prop} {i : Nat} {x : Str} {v : V} {u : Value} {Q : Unit → Shared → Prop} (I : Inv X pins σ H s) (hN : X.N.Nodup) (hi : X.N[i]? = some x) (hx : Loc X.env.scope x) (r : RelV v u)
    (h : ∀ s', Inv X pins (σ.set i (some v)) H s' → Q () s') (hf : X.fn x = true ∨ X.env.scope.names.lookup x = some .local := by first | exact .inl rfl | exact .inr rfl | assumption) : wpAny M A (storeName X.env x u) Q E s :=
  store_ok2 I hN hi hx r (fun s' I' _ => h s' I') hf
end
noncomputable abbrev XK := Value → Option Addr → Hp → Prop
noncomputable abbrev St := List (Option V)
noncomputable abbrev VK := V → Hp → Prop
noncomputable abbrev TE := St → Hp → VK → Prop
noncomputable abbrev TT := St → Hp → (Bool → Hp → Prop) → Prop
noncomputable abbrev TA := St → Hp → (List V → Hp → Prop) → Prop
structure Ends where
  nx : St → Hp → Prop
  rt : VK
  bk : St → Hp → Prop := fun _ _ => False
  ct : St → Hp → Prop := fun _ _ => False
noncomputable abbrev TS := Ends → St → Hp → Prop
noncomputable def EP (X : Cx) (pins : List (Addr × Obj)) (σ : St) (Q : VK) (u : Value) (s' : Shared) : Prop := ∃ v H', Inv X pins σ H' s' ∧ RelV v u ∧ Q v H'
noncomputable def TP (X : Cx) (pins : List (Addr × Obj)) (σ : St) (Q : Bool → Hp → Prop) (b : Bool) (s' : Shared) : Prop := ∃ H', Inv X pins σ H' s' ∧ Q b H'
noncomputable def AP (X : Cx) (pins : List (Addr × Obj)) (σ : St) (Q : List V → Hp → Prop) (us : List Value) (s' : Shared) : Prop := ∃ vs H', Inv X pins σ H' s' ∧ Vals vs us ∧ Q vs H'
noncomputable def SP (X : Cx) (pins : List (Addr × Obj)) (D : Ends) (f : Flow) (s' : Shared) : Prop :=
  match f with
  | .next => ∃ σ' H', Inv X pins σ' H' s' ∧ D.nx σ' H'
  | .brk => ∃ σ' H', Inv X pins σ' H' s' ∧ D.bk σ' H'
  | .cont => ∃ σ' H', Inv X pins σ' H' s' ∧ D.ct σ' H'
  | .ret u => ∃ v σ' H', Inv X pins σ' H' s' ∧ RelV v u ∧ D.rt v H'
noncomputable def PE (X : Cx) (e : Expr) (t : TE) : Prop :=
  ∀ (pins : List (Addr × Obj)) (s : Shared) (σ : St) (H : Hp) (Q : VK), Inv X pins σ H s → t σ H Q → wpAny (model X.prog X.w) X.A (eval e X.env) (EP X pins σ Q) X.xe s
noncomputable def PT (X : Cx) (e : Expr) (t : TT) : Prop :=
  ∀ (pins : List (Addr × Obj)) (s : Shared) (σ : St) (H : Hp) (Q : Bool → Hp → Prop), Inv X pins σ H s → t σ H Q → wpAny (model X.prog X.w) X.A (isTrue e X.env (eval e X.env)) (TP X pins σ Q) X.xe s
noncomputable def PW (X : Cx) (e : Expr) (t : TT) : Prop :=
  ∀ (whole : Sem Value) (pins : List (Addr × Obj)) (s : Shared) (σ : St) (H : Hp) (Q : Bool → Hp → Prop), Inv X pins σ H s → t σ H Q → wpAny (model X.prog X.w) X.A (isTrue e X.env whole) (TP X pins σ Q) X.xe s
noncomputable def PA (X : Cx) (es : List Expr) (t : TA) : Prop :=
  ∀ (pos : Pos) (pins : List (Addr × Obj)) (s : Shared) (σ : St) (H : Hp) (Q : List V → Hp → Prop), Inv X pins σ H s → t σ H Q → wpAny (model X.prog X.w) X.A (spliced (backTo pos (starEach es X.env))) (AP X pins σ Q) X.xe s
noncomputable def PS (X : Cx) (st : Stmt) (t : TS) : Prop :=
  ∀ (pins : List (Addr × Obj)) (s : Shared) (σ : St) (H : Hp) (D : Ends), Inv X pins σ H s → t D σ H → wpAny (model X.prog X.w) X.A (exec st X.env) (SP X pins D) X.xe s
noncomputable def PSs (X : Cx) (st : List Stmt) (t : TS) : Prop :=
  ∀ (pins : List (Addr × Obj)) (s : Shared) (σ : St) (H : Hp) (D : Ends), Inv X pins σ H s → t D σ H → wpAny (model X.prog X.w) X.A (execs st X.env) (SP X pins D) X.xe s
theorem thn {α : Type} {t : Sem α} {Q Q' : α → Shared → Prop} {M : Model} {A : Around} {E : Value → Shared → Prop} {s : Shared} (h : wpAny M A t Q E s) (hQ : ∀ a s, Q a s → Q' a s) : wpAny M A t Q' E s := wpAny_mono h hQ fun _ _ x => x
end L2
namespace L2
open PySem PySem.Spec PyProof.Rows
section
variable {X : Cx}
noncomputable def tVar (i : Nat) : TE := fun σ H Q => ∃ v, σ[i]? = some (some v) ∧ Q v H
noncomputable def tC (v : V) : TE := fun _ H Q => Q v H
theorem pe_var {i : Nat} {x : Str} {pos : Pos} (hN : X.N[i]? = some x) (hv : Vis X.env.scope x) (hd : (x == ("__debug__" : Str)) = false := by decide) (hcd : (x == ("__classdict__" : Str)) = false := by decide) : PE X (.Name x pos) (tVar i) := by
  intro pins s σ H Q I h
  obtain ⟨v, e, h⟩ := h
  obtain ⟨m, hn, hl⟩ := I.loc
  obtain ⟨u, r, l⟩ := hl i x v hN e hv
  have fin : EP X pins σ Q u s := ⟨v, H, I, r, h⟩
  rcases l with ⟨hk, hm⟩ | ⟨hk, c, hc, hcell⟩
  · exact wpAny_Name (wpAny_loadName_local I.ok.kind hk hn hm fin) hd
  · rcases hk with hk | hk
    · exact wpAny_Name (wpAny_loadName_cell I.ok.kind hk hc hcell fin) hd
    · exact wpAny_Name (wpAny_loadName_free I.ok.kind hk hc hcell fin hcd) hd
theorem pe_int {i j pos} : PE X (.Constant (.int i) j pos) (tC (.int i)) := fun _ _ _ H _ I h => wpAny_Constant_int ⟨.int i, H, I.tok _, ⟨_, rfl⟩, h⟩
theorem pe_bl {b j pos} : PE X (.Constant (.bool b) j pos) (tC (.bl b)) := fun _ _ _ H _ I h => Constant_bool ⟨.bl b, H, I, rfl, h⟩
theorem pe_str {x j pos} : PE X (.Constant (.str x) j pos) (tC (.str x)) := fun _ _ _ H _ I h => Calls.Constant_str ⟨.str x, H, I.tok _, ⟨_, rfl⟩, h⟩
noncomputable def Gl (X : Cx) (x : Str) : Prop := X.env.kindOf x = some .globalImplicit
theorem ld_glob {E : Value → Shared → Prop} {pins : List (Addr × Obj)} {s : Shared} {σ : St} {H : Hp} {x : Str} {u : Value} {pos : Pos} {Q : Value → Shared → Prop} (I : Inv X pins σ H s) (hg : Gl X x) (hm : X.mg x = some u) (h : Q u s)
    (hd : (x == ("__debug__" : Str)) = false := by decide) : wpAny (model X.prog X.w) X.A (eval (.Name x pos) X.env) Q E s :=
  Calls.Name_function_global I.ok.kind hg (Calls.loadGlobal_global (by rw [I.ok.glob]; exact I.mod.glob.keeps I.bk) hm h) hd
theorem ld_blt {E : Value → Shared → Prop} {pins : List (Addr × Obj)} {s : Shared} {σ : St} {H : Hp} {x : Str} {u : Value} {pos : Pos} {Q : Value → Shared → Prop} (I : Inv X pins σ H s) (hg : Gl X x) (hm : X.mg x = none) (hv : bootBuiltins x = some u) (h : Q u s)
    (hn : x ≠ "__name__" := by decide) (hd : (x == ("__debug__" : Str)) = false := by decide) : wpAny (model X.prog X.w) X.A (eval (.Name x pos) X.env) Q E s := by
  obtain ⟨mb, h1, h2⟩ := I.mod.blt
  exact Calls.Name_function_global I.ok.kind hg (Calls.loadGlobal_builtin (by rw [I.ok.glob]; exact I.mod.glob.keeps I.bk) hm (by rw [I.ok.blt]; exact h1.keeps I.bk) ((h2 x hn).trans hv) h) hd
theorem pe_glob {x : Str} {v : V} {u : Value} {pos : Pos} (hg : Gl X x) (hm : X.mg x = some u) (r : RelV v u) (hd : (x == ("__debug__" : Str)) = false := by decide) : PE X (.Name x pos) (tC v) :=
  fun _ _ _ H _ I h => ld_glob I hg hm ⟨v, H, I, r, h⟩ hd
theorem pe_bltn {x : Str} {v : V} {u : Value} {pos : Pos} (hg : Gl X x) (hm : X.mg x = none) (hv : bootBuiltins x = some u) (r : RelV v u) (hn : x ≠ "__name__" := by decide) (hd : (x == ("__debug__" : Str)) = false := by decide) : PE X (.Name x pos) (tC v) :=
  fun _ _ _ H _ I h => ld_blt I hg hm hv ⟨v, H, I, r, h⟩ hn hd
variable {a b : Expr} {ta tb : TE} {pos : Pos}
theorem nobehind (b : Expr) {op : CmpOp} (h : op ≠ .In) (h2 : op ≠ .NotIn) : behindInMarks op b = false := by
  have e1 : (op == CmpOp.In) = false := by cases op <;> first | rfl | exact absurd rfl h
  have e2 : (op == CmpOp.NotIn) = false := by cases op <;> first | rfl | exact absurd rfl h2
  cases b <;> simp [behindInMarks, e1, e2]
noncomputable def tB (t : TE) : TT := fun σ H Q => t σ H fun x H1 => ∃ c, x = .bl c ∧ Q c H1
theorem pt_val {e : Expr} {t : TE} (h : PE X e t) (he : ∀ whole, isTrue e X.env whole = (do let v ← whole; standAt e.pos; holding [v] (truthy v)) := by intro _; rfl) : PT X e (tB t) := by
  intro pins s σ H Q I hw
  refine isTrue_plain (thn (h pins s σ H _ I hw) fun v s1 ⟨x, H1, I1, r1, q1⟩ => ?_) (he _)
  obtain ⟨d, rfl, q⟩ := q1
  cases r1
  exact wpAny_truthy_bool ⟨H1, I1, q⟩
variable {tA tB' : TT} {rest : List Expr}
noncomputable def tAnd (t u : TT) : TT := fun σ H Q => t σ H fun c H1 => if c = true then u σ H1 Q else Q false H1
noncomputable def tOr (t u : TT) : TT := fun σ H Q => t σ H fun c H1 => if c = true then Q true H1 else u σ H1 Q
noncomputable def tNot (t : TT) : TT := fun σ H Q => t σ H fun c H1 => Q (!c) H1
theorem pw_and1 (ha : PT X a tA) : PW X (.BoolOp .And [a] pos) tA := by
  intro wh pins s σ H Q I h
  refine isTrue_and (thn (ha pins s σ H Q I h) fun c s1 e => ?_)
  cases c with
  | true => exact isTrue_and_nil e
  | false => exact e
theorem pw_or1 (ha : PT X a tA) : PW X (.BoolOp .Or [a] pos) tA := by
  intro wh pins s σ H Q I h
  refine isTrue_or (thn (ha pins s σ H Q I h) fun c s1 e => ?_)
  cases c with
  | false => exact isTrue_or_nil e
  | true => exact e
theorem pw_and (ha : PT X a tA) (hb : PW X (.BoolOp .And (b :: rest) pos) tB') : PW X (.BoolOp .And (a :: b :: rest) pos) (tAnd tA tB') := by
  intro wh pins s σ H Q I h
  refine isTrue_and (thn (ha pins s σ H _ I h) fun c s1 ⟨H1, I1, q1⟩ => ?_)
  cases c with
  | true => exact hb wh pins s1 σ H1 Q I1 q1
  | false => exact ⟨H1, I1, q1⟩
theorem pw_or (ha : PT X a tA) (hb : PW X (.BoolOp .Or (b :: rest) pos) tB') : PW X (.BoolOp .Or (a :: b :: rest) pos) (tOr tA tB') := by
  intro wh pins s σ H Q I h
  refine isTrue_or (thn (ha pins s σ H _ I h) fun c s1 ⟨H1, I1, q1⟩ => ?_)
  cases c with
  | true => exact ⟨H1, I1, q1⟩
  | false => exact hb wh pins s1 σ H1 Q I1 q1
theorem pt_not (ha : PT X a tA) : PT X (.UnaryOp .Not a pos) (tNot tA) := by
  intro pins s σ H Q I h
  exact isTrue_not (ha pins s σ H (fun c H1 => Q (!c) H1) I h)
noncomputable def tAndV (ta tb : TE) : TE := fun σ H Q => ta σ H fun x H1 => ∃ c, x = .bl c ∧ if c = true then tb σ H1 Q else Q (.bl false) H1
noncomputable def tNotV (ta : TE) : TE := fun σ H Q => ta σ H fun x H1 => ∃ c, x = .bl c ∧ Q (.bl (!c)) H1
theorem pe_one {op} {t : TE} (h : PE X a t) : PE X (.BoolOp op [a] pos) t := fun pins s σ H Q I hw => BoolOp_one (h pins s σ H Q I hw)
theorem pe_and (ha : PE X a ta) (hb : PE X (.BoolOp .And (b :: rest) pos) tb) : PE X (.BoolOp .And (a :: b :: rest) pos) (tAndV ta tb) := by
  intro pins s σ H Q I h
  refine BoolOp_and (thn (ha pins s σ H _ I h) fun v s1 ⟨x, H1, I1, r1, q1⟩ => ?_)
  obtain ⟨c, rfl, q1⟩ := q1
  cases r1
  refine wpAny_truthy_bool ?_
  cases c with
  | true => exact hb pins s1 σ H1 Q I1 q1
  | false => exact ⟨.bl false, H1, I1, rfl, q1⟩
theorem pe_not (ha : PE X a ta) : PE X (.UnaryOp .Not a pos) (tNotV ta) := by
  intro pins s σ H Q I h
  refine UnaryOp_ (thn (ha pins s σ H _ I h) fun v s1 ⟨x, H1, I1, r1, q1⟩ => ?_)
  obtain ⟨c, rfl, q1⟩ := q1
  cases r1
  exact not_of (wpAny_truthy_bool ⟨.bl (!c), H1, I1, rfl, q1⟩)
end
end L2
namespace L2
open PySem PySem.Spec PyProof.Rows
noncomputable def SqL (K : PySem.W.Frag) (H : Hp) (a : Addr) (xs : List V) : Prop :=
  Rd H a (.lst xs) ∨
    ∃ (o : Obj) (its : Array Value) (n : Nat), K.lookup a = some o ∧ o.cls = .type "list" ∧ o.dict = none ∧ o.data = .seq its n ∧ its.size ≤ sizeLine ∧ Vals xs its.toList
noncomputable def SqT (K : PySem.W.Frag) (H : Hp) (a : Addr) (xs : List V) : Prop :=
  Rd H a (.tup xs) ∨
    ∃ (o : Obj) (its : Array Value) (n : Nat), K.lookup a = some o ∧ o.cls = .type "tuple" ∧ o.data = .seq its n ∧ its.size ≤ sizeLine ∧ Vals xs its.toList
noncomputable def absV : Value → Option V
  | .none => some .non
  | .bool b => some (.bl b)
  | .int i _ => some (.int i)
  | .str x _ => some (.str x)
  | .bytes b _ => some (.byt b)
  | .float b _ => some (.flt b)
  | .ref a => some (.ref a)
  | .type n => some (.ty n)
  | _ => none
theorem RelV.abs {x : V} {u : Value} (r : RelV x u) : absV u = some x := by
  cases x with
  | non => cases r; rfl
  | bl _ => cases r; rfl
  | int _ => obtain ⟨t, rfl⟩ := r; rfl
  | str _ => obtain ⟨t, rfl⟩ := r; rfl
  | byt _ => obtain ⟨t, rfl⟩ := r; rfl
  | flt _ => obtain ⟨t, rfl⟩ := r; rfl
  | ref _ => cases r; rfl
  | ty _ => cases r; rfl
theorem RelV.inj {x y : V} {u : Value} (r : RelV x u) (q : RelV y u) : x = y := Option.some.inj (r.abs.symm.trans q.abs)
theorem Vals.inj {xs ys : List V} {us : List Value} (h : Vals xs us) : Vals ys us → xs = ys := by
  induction h generalizing ys with
  | nil => intro h; cases h; rfl
  | cons r _ ih =>
    intro h
    cases h with
    | cons r' t' => rw [r.inj r', ih t']
section
variable {X : Cx} {pins : List (Addr × Obj)} {σ : St} {H : Hp} {s : Shared} {a : Addr} {xs ys : List V}
theorem SqL.of {K : PySem.W.Frag} (h : H a = some (.lst xs)) : SqL K H a xs := .inl (.inl h)
theorem SqT.of {K : PySem.W.Frag} (h : H a = some (.tup xs)) : SqT K H a xs := .inl (.inl h)
theorem Inv.list (I : Inv X pins σ H s) (h : SqL X.K H a xs) : ∃ its : List Value, Vals xs its ∧ PlainL s.heap a its.toArray ∧ xs.length ≤ sizeLine := by
  rcases h with h | ⟨o, its, n, hk, hc, hd, hs, hz, r⟩
  · obtain ⟨z, its, n, r, e⟩ := h.ok I.hok
    exact ⟨its, r, ⟨_, n, e, rfl, rfl, rfl⟩, z⟩
  · refine ⟨its.toList, r, ⟨o, n, I.kIn a o hk, hc, hd, by simpa using hs⟩, ?_⟩
    have e := r.length
    simp only [Array.length_toList] at e
    omega
theorem Inv.tuple (I : Inv X pins σ H s) (h : SqT X.K H a xs) : ∃ its : List Value, Vals xs its ∧ IsTup s.heap a its.toArray ∧ xs.length ≤ sizeLine := by
  rcases h with h | ⟨o, its, n, hk, hc, hs, hz, r⟩
  · obtain ⟨z, its, r, p⟩ := h.ok I.hok
    exact ⟨its, r, p, z⟩
  · refine ⟨its.toList, r, ⟨o, I.kIn a o hk, hc, n, by simpa using hs⟩, ?_⟩
    have e := r.length
    simp only [Array.length_toList] at e
    omega
theorem Inv.list_inj (I : Inv X pins σ H s) (h : SqL X.K H a xs) (h' : SqL X.K H a ys) : xs = ys := by
  obtain ⟨its, r, ⟨o, n, e, _, _, d⟩, _⟩ := I.list h
  obtain ⟨its', r', ⟨o', n', e', _, _, d'⟩, _⟩ := I.list h'
  rw [e] at e'; cases e'
  rw [d] at d'
  injection d' with d1 _
  have : its = its' := by simpa using congrArg Array.toList d1
  subst this
  exact r.inj r'
theorem Inv.tuple_inj (I : Inv X pins σ H s) (h : SqT X.K H a xs) (h' : SqT X.K H a ys) : xs = ys := by
  obtain ⟨its, r, ⟨o, e, _, n, d⟩, _⟩ := I.tuple h
  obtain ⟨its', r', ⟨o', e', _, n', d'⟩, _⟩ := I.tuple h'
  rw [e] at e'; cases e'
  rw [d] at d'
  injection d' with d1 _
  have : its = its' := by simpa using congrArg Array.toList d1
  subst this
  exact r.inj r'
end
noncomputable abbrev Cx.wish (X : Cx) (E : Value → Shared → Prop) : Cx := { X with xe := E }
noncomputable abbrev Cx.nox (X : Cx) : Cx := X.wish fun _ _ => False
theorem Cx.Ok.wish {X : Cx} (ok : X.Ok) (E : Value → Shared → Prop) : (X.wish E).Ok :=
  ⟨ok.mod, ok.kind, ok.glob, ok.blt, ok.above, ok.inj, ok.has, ok.cab, ok.hd, ok.frames, ok.stk, ok.exf, ok.bs, ok.bsz, ok.noex, ok.exfs, ok.funs, ok.frf⟩
theorem Cx.Ok.unwish {X : Cx} {E : Value → Shared → Prop} (ok : (X.wish E).Ok) : X.Ok :=
  ⟨ok.mod, ok.kind, ok.glob, ok.blt, ok.above, ok.inj, ok.has, ok.cab, ok.hd, ok.frames, ok.stk, ok.exf, ok.bs, ok.bsz, ok.noex, ok.exfs, ok.funs, ok.frf⟩
section
variable {X : Cx} {pins : List (Addr × Obj)} {σ : St} {H : Hp} {s : Shared} {E : Value → Shared → Prop}
theorem Inv.wish (I : Inv X pins σ H s) (E : Value → Shared → Prop) : Inv (X.wish E) pins σ H s := ⟨I.ok.wish E, I.os, I.bare, I.base, I.loc, I.cell, I.free, I.freeC, I.pin, I.hok, I.len⟩
theorem Inv.unwish (I : Inv (X.wish E) pins σ H s) : Inv X pins σ H s := ⟨I.ok.unwish, I.os, I.bare, I.base, I.loc, I.cell, I.free, I.freeC, I.pin, I.hok, I.len⟩
theorem SP.unwish {D : Ends} {f : Flow} {s' : Shared} (h : SP (X.wish E) pins D f s') : SP X pins D f s' := by
  cases f with
  | next => obtain ⟨σ', H', I, q⟩ := h; exact ⟨σ', H', I.unwish, q⟩
  | brk => obtain ⟨σ', H', I, q⟩ := h; exact ⟨σ', H', I.unwish, q⟩
  | cont => obtain ⟨σ', H', I, q⟩ := h; exact ⟨σ', H', I.unwish, q⟩
  | ret u => obtain ⟨v, σ', H', I, r, q⟩ := h; exact ⟨v, σ', H', I.unwish, r, q⟩
theorem PSs.nox {st : List Stmt} {t : TS} (h : PSs X.nox st t) : PSs X st t := fun pins s σ H D I hw =>
  wpAny_mono (h pins s σ H D (I.wish _) hw) (fun _ _ q => q.unwish) fun _ _ z => False.elim z
end
section
variable {X : Cx} {st : Stmt} {rest : List Stmt} {t u : TS} {e : Expr} {te : TE} {pos : Pos}
noncomputable def tNext : TS := fun D σ H => D.nx σ H
noncomputable def tSeq (t u : TS) : TS := fun D σ H => t { D with nx := u D } σ H
theorem pss_nil : PSs X [] tNext := fun _ _ σ H _ I h => wpAny_execs_nil ⟨σ, H, I, h⟩
theorem pss_cons (h1 : PS X st t) (h2 : PSs X rest u) : PSs X (st :: rest) (tSeq t u) := by
  intro pins s σ H D I h
  refine wpAny_execs_cons (thn (h1 pins s σ H { D with nx := u D } I h) fun f s1 q => ?_)
  cases f with
  | next =>
    obtain ⟨σ', H', I', q⟩ := q
    exact h2 pins s1 σ' H' D I' q
  | ret v => exact q
  | brk => exact q
  | cont => exact q
theorem pss_one (h1 : PS X st t) : PSs X [st] t := by
  intro pins s σ H D I h
  refine wpAny_execs_cons (thn (h1 pins s σ H D I h) fun f s1 q => ?_)
  cases f with
  | next => exact wpAny_execs_nil q
  | ret v => exact q
  | brk => exact q
  | cont => exact q
theorem Inv.quiet {pins : List (Addr × Obj)} {σ : St} {H : Hp} {s : Shared} (I : Inv X pins σ H s) : interactive X.env = false := by simp [interactive, I.ok.kind]
noncomputable def tDrop (te : TE) : TS := fun D σ H => te σ H fun _ H1 => D.nx σ H1
theorem ps_expr (he : PE X e te) (hs : swapsWith e none pos.line X.env = pure false := by rfl) : PS X (.Expr e pos) (tDrop te) := by
  intro pins s σ H D I h
  exact wpAny_Expr_any (thn (he pins s σ H _ I h) fun v s1 ⟨x, H1, I1, r1, q1⟩ => ⟨σ, H1, I1, q1⟩) I.quiet hs
noncomputable def tRet (te : TE) : TS := fun D σ H => te σ H D.rt
theorem ps_ret (he : PE X e te) : PS X (.Return (some e) pos) (tRet te) := by
  intro pins s σ H D I h
  exact wpAny_Return_some (thn (he pins s σ H _ I h) fun v s1 ⟨x, H1, I1, r1, q1⟩ => ⟨x, σ, H1, I1, r1, q1⟩)
noncomputable def tIfS (c : TT) (t u : TS) : TS := fun D σ H => c σ H fun b H1 => if b = true then t D σ H1 else u D σ H1
theorem ps_if {c : Expr} {a b : List Stmt} {tc : TT} (hc : PT X c tc) (ha : PSs X a t) (hb : PSs X b u) : PS X (.If c a b pos) (tIfS tc t u) := by
  intro pins s σ H D I h
  refine wpAny_If (thn (hc pins s σ H _ I h) fun d s1 ⟨H1, I1, q1⟩ => ?_)
  cases d with
  | true => exact ha pins s1 σ H1 D I1 q1
  | false => exact hb pins s1 σ H1 D I1 q1
noncomputable def tNever : TS := fun _ _ _ => False
theorem ps_never : PS X st tNever := fun _ _ _ _ _ _ h => h.elim
end
noncomputable abbrev TG := V → St → Hp → (St → Hp → Prop) → Prop
noncomputable def PG (X : Cx) (target : Expr) (t : TG) : Prop :=
  ∀ (pins : List (Addr × Obj)) (s : Shared) (σ : St) (H : Hp) (v : V) (u : Value) (Q : St → Hp → Prop), Inv X pins σ H s → RelV v u → t v σ H Q →
    wpAny (model X.prog X.w) X.A (assign target X.env u) (fun _ s' => ∃ σ' H', Inv X pins σ' H' s' ∧ Q σ' H') X.xe s
noncomputable abbrev TSet := V → V → V → Hp → (Hp → Prop) → Prop
noncomputable def PSet (X : Cx) (t : TSet) : Prop :=
  ∀ (pins : List (Addr × Obj)) (s : Shared) (σ : St) (H : Hp) (o i v : V) (ov iv u : Value) (Q : Hp → Prop), Inv X pins σ H s → RelV o ov → RelV i iv → RelV v u → t o i v H Q →
    wpAny (model X.prog X.w) X.A (setItem ov iv u) (fun _ s' => ∃ H', Inv X pins σ H' s' ∧ Q H') X.xe s
section
variable {X : Cx} {pos : Pos}
noncomputable def gName (i : Nat) : TG := fun v σ H Q => Q (σ.set i (some v)) H
theorem pg_name {i : Nat} {x : Str} (hN : X.N.Nodup) (hi : X.N[i]? = some x) (hx : Loc X.env.scope x) (hf : X.fn x = true ∨ X.env.scope.names.lookup x = some .local := by first | exact .inl rfl | exact .inr rfl | assumption) : PG X (.Name x pos) (gName i) := by
  intro pins s σ H v u Q I r h
  exact wpAny_assign_Name (store_ok I hN hi hx r (fun s' I' => ⟨_, H, I', h⟩) hf)
noncomputable def gSub (to ti : TE) (t : TSet) : TG := fun v σ H Q => to σ H fun o H1 => ti σ H1 fun i H2 => t o i v H2 fun H3 => Q σ H3
theorem pg_sub {o i : Expr} {to ti : TE} {t : TSet} (ho : PE X o to) (hi : PE X i ti) (hs : PSet X t)
    (ha : ∀ v, assign (.Subscript o i pos) X.env v = (do
      let ov ← holding [v] (eval o X.env)
      let iv ← holding [v, ov] (eval i X.env)
      standAt pos
      holding [v, ov, iv] (setItem ov iv v)
      release [v, ov, iv] []) := by intro _; rfl) : PG X (.Subscript o i pos) (gSub to ti t) := by
  intro pins s σ H v u Q I r h
  rw [ha]
  refine wpAny_bind (wpAny_holding (thn (ho pins s σ H _ I h) fun ov s1 ⟨x, H1, I1, r1, q1⟩ => ?_))
  refine wpAny_bind (wpAny_holding (thn (hi pins s1 σ H1 _ I1 q1) fun iv s2 ⟨y, H2, I2, r2, q2⟩ => ?_))
  refine wpAny_bind (wpAny_standAt (wpAny_bind (wpAny_holding (thn (hs pins s2 σ H2 x y v ov iv u _ I2 r1 r2 r q2) fun _ s3 ⟨H3, I3, q3⟩ => ?_))))
  exact wpAny_release ⟨σ, H3, I3, q3⟩
noncomputable def tAsg (te : TE) (g : TG) : TS := fun D σ H => te σ H fun x H1 => g x σ H1 D.nx
theorem ps_asg {tg e : Expr} {te : TE} {g : TG} (he : PE X e te) (hg : PG X tg g) (hs : swapsWithSole [tg] e pos.line X.env = pure false := by rfl) (hw : swappedStores [tg] e X.env = pure none := by rfl)
    (h1 : (assignEach [tg] X.env).map (·.2) = [assign tg X.env] := by rfl) : PS X (.Assign [tg] e pos) (tAsg te g) := by
  intro pins s σ H D I h
  refine wpAny_Assign_stores (thn (he pins s σ H _ I h) fun v s1 ⟨x, H1, I1, r1, q1⟩ => ?_) hs hw
  rw [h1]
  exact thn (hg pins s1 σ H1 x v _ I1 r1 q1) fun _ s2 q => q
theorem ps_set {i : Nat} {x : Str} {e : Expr} {te : TE} {pos' : Pos} (hN : X.N.Nodup) (hi : X.N[i]? = some x) (hx : Loc X.env.scope x) (he : PE X e te) (hs : swapsWith e (some (.Name x pos')) pos.line X.env = pure false := by rfl) (hf : X.fn x = true ∨ X.env.scope.names.lookup x = some .local := by first | exact .inl rfl | exact .inr rfl | assumption) :
    PS X (.Assign [.Name x pos'] e pos) (tAsg te (gName i)) := by
  intro pins s σ H D I h
  refine wpAny_Assign_Name (thn (he pins s σ H _ I h) fun v s1 ⟨y, H1, I1, r1, q1⟩ => ?_) hs
  exact store_ok I1 hN hi hx r1 (fun s2 I2 => ⟨_, H1, I2, q1⟩) hf
end
section
variable {X : Cx} {pos : Pos}
end
structure It where
  go : Nat → Hp → Prop
  yld : Nat → Hp → V → Hp → Prop
  stop : Nat → Hp → Prop
noncomputable def FpOk (X : Cx) (pins : List (Addr × Obj)) (H : Hp) (b : Addr) : Prop :=
  H b = none ∧ b ≠ X.env.locals ∧ b ∉ X.fs ∧ (b ∈ X.ex ∨ X.s₀.heap.objs.size ≤ b) ∧ (∀ x c, X.env.cells.lookup x = some c → c ≠ b) ∧ ∀ p ∈ X.pn ++ pins, p.1 ≠ b
theorem Inv.fpOk {X : Cx} {pins : List (Addr × Obj)} {σ : St} {H H' : Hp} {s : Shared} {b : Addr} (I : Inv X pins σ H s) (hb : s.heap.objs.size ≤ b) (hn : H' b = none) : FpOk X pins H' b := by
  refine ⟨hn, Nat.ne_of_gt (Nat.lt_of_lt_of_le I.lt hb), I.nofs hb, .inr (Nat.le_trans I.sz hb), fun x c e z => ?_, fun p hp z => ?_⟩
  · obtain ⟨v, q⟩ := I.cell x c e
    exact absurd (Nat.lt_of_lt_of_le q.lt (by rw [z]; exact hb)) (Nat.lt_irrefl _)
  · exact absurd (Nat.lt_of_lt_of_le (Heap.lt_size (I.pin p hp).1) (by rw [z]; exact hb)) (Nat.lt_irrefl _)
structure Turn (P : Program) (w : World) (K : PySem.W.Frag) (tg : Expr) (J : It) (fp : List Addr) (it : Addr) (tn : Nat → Heap → Prop) : Prop where
  mem : it ∈ fp
  obj : ∀ i h, tn i h → ∀ b ∈ fp, ∃ o, h.get? b = some o ∧ ∀ v, o.data ≠ .cell v
  keep : ∀ i h h', tn i h → (∀ b ∈ fp, ∀ o, h.get? b = some o → h'.get? b = some o) → tn i h'
  item : ∀ (X : Cx), X.prog = P → X.w = w → X.K = K → X.calm = true → ∀ (i : Nat) (pins : List (Addr × Obj)) (s : Shared) (σ : St) (H : Hp) (E : Value → Shared → Prop), Inv X pins σ H s → (∀ b ∈ fp, FpOk X pins H b) → tn i s.heap → J.go i H →
    wpAny (model P w) X.A (pyNext (.ref it)) (fun r s1 => ∃ u, r = some u ∧
      wpAny (model P w) X.A (letOwnedTupleGo tg (.ref it) u) (fun _ s2 => ∃ x H', Inv X pins σ H' s2 ∧ RelV x u ∧ J.yld i H x H' ∧ tn (i + 1) s2.heap ∧ ∀ b ∈ fp, H' b = none) E s1) E s
  done : ∀ (X : Cx), X.prog = P → X.w = w → X.K = K → X.calm = true → ∀ (i : Nat) (pins : List (Addr × Obj)) (s : Shared) (σ : St) (H : Hp) (E : Value → Shared → Prop), Inv X pins σ H s → (∀ b ∈ fp, FpOk X pins H b) → tn i s.heap → J.stop i H →
    wpAny (model P w) X.A (pyNext (.ref it)) (fun r s1 => r = none ∧ Inv X pins σ H s1) E s
  self : ∀ (A : Around) (i : Nat) (s : Shared) (Q : Value → Shared → Prop) (E : Value → Shared → Prop), tn i s.heap → Q (.ref it) s → wpAny (model P w) A (pyIter (.ref it)) Q E s
noncomputable abbrev TI := St → Hp → (It → Hp → Prop) → Prop
noncomputable def PIE (X : Cx) (pins : List (Addr × Obj)) (σ : St) (tg : Expr) (R : It → Hp → Prop) (itv : Value) (s2 : Shared) : Prop :=
  ∃ (it : Addr) (fp : List Addr) (tn : Nat → Heap → Prop) (J : It) (H' : Hp), itv = .ref it ∧ Inv X pins σ H' s2 ∧ Turn X.prog X.w X.K tg J fp it tn ∧ tn 0 s2.heap ∧ (∀ b ∈ fp, FpOk X pins H' b) ∧ R J H'
noncomputable def PI (X : Cx) (tg iter : Expr) (wi : TI) : Prop :=
  ∀ (pins : List (Addr × Obj)) (s : Shared) (σ : St) (H : Hp) (R : It → Hp → Prop), Inv X pins σ H s → wi σ H R →
    wpAny (model X.prog X.w) X.A (eval iter X.env) (fun v s1 => wpAny (model X.prog X.w) X.A (pyIter v) (PIE X pins σ tg R) X.xe s1) X.xe s
theorem go_of {M : Model} {A : Around} {E : Value → Shared → Prop} {s : Shared} {tg : Expr} {it : Addr} {u : Value} {o : Obj} {n : String} {vs : Array Value} {Q : Unit → Shared → Prop} (ho : s.heap.get? it = some o) (hc : o.cls = .type n) (hd : o.data = .fields vs)
    (hn : ["enumerate", "zip", "dict_itemiterator", "dict_reverseitemiterator", "odict_iterator", "itertools.zip_longest", "itertools.pairwise"].contains n = false) (hQ : Q () s) : wpAny M A (letOwnedTupleGo tg (.ref it) u) Q E s := by
  unfold letOwnedTupleGo
  cases tg <;> first
    | exact wpAny_pure hQ
    | (cases u <;> first
        | exact wpAny_pure hQ
        | (refine wpAny_bind (wpAny_load ho ?_)
           rw [hc, hd]
           show wpAny M A (if (["enumerate", "zip", "dict_itemiterator", "dict_reverseitemiterator", "odict_iterator", "itertools.zip_longest", "itertools.pairwise"].contains n && vs[0]? == some (rawInt _)) = true then _ else _) Q E s
           rw [if_neg (by intro h; rw [hn, Bool.false_and] at h; cases h)]
           exact wpAny_pure hQ))
noncomputable def Itl (K : PySem.W.Frag) (a : Addr) : It :=
  ⟨fun i H => ∃ xs x, SqL K H a xs ∧ xs[i]? = some x, fun i H x H' => H' = H ∧ ∀ xs, SqL K H a xs → xs[i]? = some x, fun i H => ∃ xs, SqL K H a xs ∧ xs.length ≤ i⟩
noncomputable def Itt (K : PySem.W.Frag) (a : Addr) : It :=
  ⟨fun i H => ∃ xs x, SqT K H a xs ∧ xs[i]? = some x, fun i H x H' => H' = H ∧ ∀ xs, SqT K H a xs → xs[i]? = some x, fun i H => ∃ xs, SqT K H a xs ∧ xs.length ≤ i⟩
noncomputable def Itr (lo : Int) (n : Nat) : It := ⟨fun i _ => i < n, fun i H x H' => H' = H ∧ x = .int (lo + i), fun i _ => n ≤ i⟩
theorem turn_list {P : Program} {w : World} {K : PySem.W.Frag} {tg : Expr} (a it : Addr) : Turn P w K tg (Itl K a) [it] it (fun i h => h.IsListIter it a i) where
  mem := by simp
  obj := fun i h st b hb => by
    have e : b = it := by simpa using hb
    subst e
    obtain ⟨o, e, c, d⟩ := st
    exact ⟨o, e, fun v z => by rw [d] at z; cases z⟩
  keep := fun i h h' st k => st.at fun o e => k it (by simp) o e
  item := by
    intro X hP hw hK hc i pins s σ H E I hf st hg
    subst hP hw hK
    obtain ⟨xs, x, hq, hx⟩ := hg
    obtain ⟨its, rv, p, hz⟩ := I.list hq
    obtain ⟨u, hu, ru⟩ := rv.get hx
    obtain ⟨f0, f1, f2, f3, f4, f5⟩ := hf it (by simp)
    refine wpAny_pyNext_list_item st p.isList (x := u) (by simpa using hu) fun h' st' sb => ?_
    have I1 : Inv X pins σ H { s with heap := h' } := I.turned (t' := s.toks) (fun b o hb e => (sb.2 b hb).trans e) f0 f1 f3 f4 f5
    obtain ⟨o, e, c, d⟩ := id st'
    exact ⟨u, rfl, go_of (s := { s with heap := h' }) e c d (by decide) ⟨x, H, I1, ru, ⟨rfl, fun ys hy => by rw [I.list_inj hy hq]; exact hx⟩, st', fun b hb => (hf b hb).1⟩⟩
  done := by
    intro X hP hw hK hc i pins s σ H E I hf st hg
    subst hP hw hK
    obtain ⟨xs, hq, hx⟩ := hg
    obtain ⟨its, rv, p, hz⟩ := I.list hq
    obtain ⟨f0, f1, f2, f3, f4, f5⟩ := hf it (by simp)
    have hl := rv.length
    exact wpAny_pyNext_list_end (I.ok.hd hc) st p.isList (by simp; omega) fun h' eb => ⟨rfl, I.turned (t' := s.toks) (fun b o hb e => eb b o hb e) f0 f1 f3 f4 f5⟩
  self := fun _ _ _ _ _ st h => wpAny_pyIter_listiter st h
theorem turn_tuple {P : Program} {w : World} {K : PySem.W.Frag} {tg : Expr} (a it : Addr) : Turn P w K tg (Itt K a) [it] it (fun i h => h.IsTupleIter it a i) where
  mem := by simp
  obj := fun i h st b hb => by
    have e : b = it := by simpa using hb
    subst e
    obtain ⟨o, e, c, d⟩ := st
    exact ⟨o, e, fun v z => by rw [d] at z; cases z⟩
  keep := fun i h h' st k => st.at fun o e => k it (by simp) o e
  item := by
    intro X hP hw hK hc i pins s σ H E I hf st hg
    subst hP hw hK
    obtain ⟨xs, x, hq, hx⟩ := hg
    obtain ⟨its, rv, p, hz⟩ := I.tuple hq
    obtain ⟨u, hu, ru⟩ := rv.get hx
    obtain ⟨f0, f1, f2, f3, f4, f5⟩ := hf it (by simp)
    refine wpAny_pyNext_tuple_item st (show s.heap.IsTuple a its.toArray from p) (x := u) (by simpa using hu) fun h' st' sb => ?_
    have I1 : Inv X pins σ H { s with heap := h' } := I.turned (t' := s.toks) (fun b o hb e => (sb.2 b hb).trans e) f0 f1 f3 f4 f5
    obtain ⟨o, e, c, d⟩ := id st'
    exact ⟨u, rfl, go_of (s := { s with heap := h' }) e c d (by decide) ⟨x, H, I1, ru, ⟨rfl, fun ys hy => by rw [I.tuple_inj hy hq]; exact hx⟩, st', fun b hb => (hf b hb).1⟩⟩
  done := by
    intro X hP hw hK hc i pins s σ H E I hf st hg
    subst hP hw hK
    obtain ⟨xs, hq, hx⟩ := hg
    obtain ⟨its, rv, p, hz⟩ := I.tuple hq
    obtain ⟨f0, f1, f2, f3, f4, f5⟩ := hf it (by simp)
    have hl := rv.length
    exact wpAny_pyNext_tuple_end (I.ok.hd hc) st (show s.heap.IsTuple a its.toArray from p) (by simp; omega) fun h' eb => ⟨rfl, I.turned (t' := s.toks) (fun b o hb e => eb b o hb e) f0 f1 f3 f4 f5⟩
  self := fun _ _ _ _ _ st h => wpAny_pyIter_tupleiter st h
theorem turn_range {P : Program} {w : World} {K : PySem.W.Frag} {tg : Expr} (it : Addr) (lo : Int) (n : Nat) : Turn P w K tg (Itr lo n) [it] it (fun i h => IsRangeIter h it (lo + (i : Nat) * 1) ((n : Int) - (i : Nat)) 1) where
  mem := by simp
  obj := fun i h st b hb => by
    have e : b = it := by simpa using hb
    subst e
    exact ⟨_, st, fun v z => by
      have z' : Data.fields _ = Data.cell v := z
      cases z'⟩
  keep := fun i h h' st k => k it (by simp) _ st
  item := by
    intro X hP hw hK hc i pins s σ H E I hf st hg
    subst hP hw hK
    obtain ⟨f0, f1, f2, f3, f4, f5⟩ := hf it (by simp)
    have W := Walks.range (prog := X.prog) (w := X.w) (I.ok.hd hc) it lo 1 n
    refine W.item i s _ _ hg st fun v h' tk hv st' kk => ?_
    obtain ⟨t, rfl⟩ := hv
    have I1 : Inv X pins σ H { s with heap := h', toks := tk } := I.turned (fun b o hb e => kk b o (by simpa using hb) e) f0 f1 f3 f4 f5
    refine ⟨_, rfl, go_of (s := { s with heap := h', toks := tk }) (n := "range_iterator") st' rfl rfl (by decide) ⟨.int (lo + i), H, I1, ⟨t, ?_⟩, ⟨rfl, rfl⟩, st', fun b hb => (hf b hb).1⟩⟩
    rw [Int.mul_one]
  done := by
    intro X hP hw hK hc i pins s σ H E I hf st hg
    subst hP hw hK
    obtain ⟨f0, f1, f2, f3, f4, f5⟩ := hf it (by simp)
    exact wpAny_pyNext_range_end (I.ok.hd hc) st (by have : n ≤ i := hg; omega) fun h' eb => ⟨rfl, I.turned (t' := s.toks) (fun b o hb e => eb b o hb e) f0 f1 f3 f4 f5⟩
  self := fun _ _ _ _ _ st h => wpAny_pyIter_rangeiter st h
end L2
namespace L2
open PySem PySem.Spec PyProof.Rows
section
variable {X : Cx} {tg : Expr}
noncomputable def iList (K : PySem.W.Frag) (tl : TE) : TI := fun σ H R => tl σ H fun x H1 => ∃ a, x = .ref a ∧ (∃ xs, SqL K H1 a xs) ∧ R (Itl K a) H1
noncomputable def iTup (K : PySem.W.Frag) (tl : TE) : TI := fun σ H R => tl σ H fun x H1 => ∃ a, x = .ref a ∧ (∃ xs, SqT K H1 a xs) ∧ R (Itt K a) H1
theorem pi_list {l : Expr} {tl : TE} (hl : PE X l tl) : PI X tg l (iList X.K tl) := by
  intro pins s σ H R I h
  refine thn (hl pins s σ H _ I h) fun v s1 ⟨x, H1, I1, r1, q1⟩ => ?_
  obtain ⟨a, e, ⟨xs, hq⟩, q⟩ := q1
  subst e
  cases r1
  obtain ⟨its, rv, p, hz⟩ := I1.list hq
  refine wpAny_pyIter_list p.isList ?_
  refine ⟨s1.heap.objs.size, [s1.heap.objs.size], _, _, H1, rfl, I1.kept (t' := s1.toks) fun b o e => Heap.get?_push_of_some _ e, turn_list a _, ⟨_, Heap.get?_push_size _ rfl, rfl, rfl⟩, fun b hb => ?_, q⟩
  have e : b = s1.heap.objs.size := by simpa using hb
  subst e
  exact I1.fpOk (Nat.le_refl _) (I1.hok.fresh (Nat.le_refl _))
theorem pi_tup {l : Expr} {tl : TE} (hl : PE X l tl) : PI X tg l (iTup X.K tl) := by
  intro pins s σ H R I h
  refine thn (hl pins s σ H _ I h) fun v s1 ⟨x, H1, I1, r1, q1⟩ => ?_
  obtain ⟨a, e, ⟨xs, hq⟩, q⟩ := q1
  subst e
  cases r1
  obtain ⟨its, rv, p, hz⟩ := I1.tuple hq
  refine wpAny_pyIter_tuple (show s1.heap.IsTuple a its.toArray from p) ?_
  refine ⟨s1.heap.objs.size, [s1.heap.objs.size], _, _, H1, rfl, I1.kept (t' := s1.toks) fun b o e => Heap.get?_push_of_some _ e, turn_tuple a _, ⟨_, Heap.get?_push_size _ rfl, rfl, rfl⟩, fun b hb => ?_, q⟩
  have e : b = s1.heap.objs.size := by simpa using hb
  subst e
  exact I1.fpOk (Nat.le_refl _) (I1.hok.fresh (Nat.le_refl _))
theorem range_it {pins : List (Addr × Obj)} {σ : St} {H : Hp} {s : Shared} {R : It → Hp → Prop} {E : Value → Shared → Prop} {lo hi : Int} {t u v : Tok} {tk : Nat} (I : Inv X pins σ H s) (h1 : -(2 ^ 62) ≤ lo) (h2 : lo < 2 ^ 62) (h3 : -(2 ^ 62) ≤ hi) (h4 : hi < 2 ^ 62)
    (q : R (Itr lo (hi - lo).toNat) H) : wpAny (model X.prog X.w) X.A (pyIter (.ref s.heap.objs.size)) (PIE X pins σ tg R) E { s with heap := s.heap.push { cls := .type "range", data := .fields #[.int lo t, .int hi u, .int 1 v] }, toks := tk } := by
  refine wpAny_pyIter_range (IsRange.new ..) (small_one h1 h2 h3 h4) ?_
  have I1 : Inv X pins σ H { s with heap := s.heap.push { cls := .type "range", data := .fields #[.int lo t, .int hi u, .int 1 v] }, toks := tk } := I.kept fun b o e => Heap.get?_push_of_some _ e
  refine ⟨(s.heap.push { cls := .type "range", data := .fields #[.int lo t, .int hi u, .int 1 v] }).objs.size, [(s.heap.push { cls := .type "range", data := .fields #[.int lo t, .int hi u, .int 1 v] }).objs.size], _, _, H, rfl,
    I1.kept (t' := tk) fun b o e => Heap.get?_push_of_some _ e, turn_range _ lo (hi - lo).toNat, ?_, fun b hb => ?_, q⟩
  · have e1 : lo + ((0 : Nat) : Int) * 1 = lo := by simp
    have e2 : (((hi - lo).toNat : Nat) : Int) - ((0 : Nat) : Int) = Builtin.Range.rangeSize lo hi 1 := by rw [rangeSize_one]; split <;> omega
    show IsRangeIter _ _ (lo + ((0 : Nat) : Int) * 1) ((((hi - lo).toNat : Nat) : Int) - ((0 : Nat) : Int)) 1
    rw [e1, e2]
    exact Heap.get?_push_size _ rfl
  · have e : b = (s.heap.push { cls := .type "range", data := .fields #[.int lo t, .int hi u, .int 1 v] }).objs.size := by simpa using hb
    subst e
    exact I1.fpOk (Nat.le_refl _) (I1.hok.fresh (Nat.le_refl _))
noncomputable def iRng1 (ta : TA) : TI := fun σ H R => ta σ H fun vs H1 => ∃ j : Int, vs = [.int j] ∧ -(2 ^ 62) ≤ j ∧ j < 2 ^ 62 ∧ R (Itr 0 j.toNat) H1
theorem pi_range1 {a : Expr} {ta : TA} {p pos : Pos} (hg : Gl X "range") (hm : X.mg "range" = none) (ha : PA X [a] ta) (hs : starEach [a] X.env = [(false, eval a X.env)] := by rfl) : PI X tg (.Call (.Name "range" p) [a] [] pos) (iRng1 ta) := by
  intro pins s σ H R I h
  refine Call_ (ld_blt I hg hm boot_range (PyProof.Rows.callWith_type1 (thn (ha pos pins s σ H _ I h) fun us s1 ⟨vs, H1, I1, r1, q1⟩ => ?_) hs rfl))
  obtain ⟨j, e, q1, q2, q⟩ := q1
  subst e
  cases r1 with
  | cons r rr =>
    cases rr
    obtain ⟨t, rfl⟩ := r
    exact call_range_1 (range_it I1 (by omega) (by omega) q1 q2 (by simpa using q))
noncomputable def tFor (wi : TI) (g : TG) (tb : TS) : TS := fun D σ H => wi σ H fun J H1 => ∃ W : Nat → Nat → St → Hp → Prop, (∃ m, W 0 m σ H1) ∧ ∀ i m σ H, W i m σ H →
  (J.stop i H ∧ D.nx σ H) ∨ (J.go i H ∧ ∃ N : St → Hp → Prop, (∀ σ' H', N σ' H' → ∃ m', m' < m ∧ W (i + 1) m' σ' H') ∧ ∀ x H', J.yld i H x H' → g x σ H' fun σ2 H2 => tb { D with nx := N, ct := N, bk := D.nx } σ2 H2)
noncomputable def pinsAt (fp : List Addr) (h : Heap) : List (Addr × Obj) := fp.filterMap fun b => (h.get? b).map fun o => (b, o)
theorem mem_pinsAt {fp : List Addr} {h : Heap} {b : Addr} {o : Obj} (hb : b ∈ fp) (e : h.get? b = some o) : (b, o) ∈ pinsAt fp h := List.mem_filterMap.mpr ⟨b, hb, by rw [e]; rfl⟩
theorem of_pinsAt {fp : List Addr} {h : Heap} {p : Addr × Obj} (hp : p ∈ pinsAt fp h) : p.1 ∈ fp ∧ h.get? p.1 = some p.2 := by
  obtain ⟨b, hb, e⟩ := List.mem_filterMap.mp hp
  cases q : h.get? b with
  | none => rw [q] at e; cases e
  | some o =>
    rw [q] at e
    have e' : (b, o) = p := Option.some.inj e
    subst e'
    exact ⟨hb, q⟩
theorem Inv.pinned {pins : List (Addr × Obj)} {σ : St} {H : Hp} {s : Shared} {fp : List Addr} (I : Inv X pins σ H s) (hf : ∀ b ∈ fp, FpOk X pins H b) (ho : ∀ b ∈ fp, ∃ o, s.heap.get? b = some o ∧ ∀ v, o.data ≠ .cell v) : Inv X (pins ++ pinsAt fp s.heap) σ H s :=
  I.pins_of fun p hp => (List.mem_append.mp hp).elim (fun z => I.pin p (List.mem_append_right _ z)) fun z => by
    obtain ⟨hb, e⟩ := of_pinsAt z
    obtain ⟨f0, f1, f2, _⟩ := hf p.1 hb
    obtain ⟨o, e', d⟩ := ho p.1 hb
    rw [e] at e'; cases e'
    exact ⟨e, f0, f1, f2, d⟩
theorem Inv.unpinned {pins pl : List (Addr × Obj)} {σ : St} {H : Hp} {s : Shared} (I : Inv X (pins ++ pl) σ H s) : Inv X pins σ H s := I.pins_of fun p hp => I.pin p (List.mem_append_right _ (List.mem_append_left _ hp))
theorem ps_for {iter : Expr} {body : List Stmt} {wi : TI} {g : TG} {tb : TS} {pos : Pos} (hp : PassesOwn (model X.prog X.w) X.A X.env X.xe) (hc : X.calm = true) (hi : PI X tg iter wi) (hg : PG X tg g) (hb : PSs X body tb)
    (hs : ∀ x, foldedSetIterable iter X.env x = pure x := by intro _; rfl) : PS X (.For tg iter body [] pos) (tFor wi g tb) := by
  intro pins s σ H D I h
  refine wpAny_For (thn (hi pins s σ H _ I h) fun v s1 h1 => thn h1 fun itv s2 h2 => ?_) hs
  obtain ⟨it, fp, tn, J, H2, e, I2, T, st2, f2, W, ⟨m0, w0⟩, turn⟩ := h2
  subst e
  have stat : ∀ {H' : Hp}, (∀ b ∈ fp, H' b = none) → ∀ b ∈ fp, FpOk X pins H' b := fun hn b hb => ⟨hn b hb, (f2 b hb).2⟩
  refine codeAny_forLoop_any (fun n s' => ∃ i σ' H', Inv X pins σ' H' s' ∧ tn i s'.heap ∧ (∀ b ∈ fp, H' b = none) ∧ W i n σ' H') ?_ m0 ⟨0, σ, H2, I2, st2, fun b hb => (f2 b hb).1, w0⟩
  rintro n s3 ⟨i, σ3, H3, I3, st3, fr3, w3⟩
  rcases turn i n σ3 H3 w3 with ⟨stop, qn⟩ | ⟨go, N, hN, step⟩
  · refine wpAny_passesOwn hp (thn (T.done X rfl rfl rfl hc i pins s3 σ3 H3 X.xe I3 (stat fr3) st3 stop) fun r s4 ⟨hr, I4⟩ => ?_)
    subst hr
    exact wpAny_execs_nil ⟨σ3, H3, I4, qn⟩
  · refine wpAny_passesOwn hp (thn (T.item X rfl rfl rfl hc i pins s3 σ3 H3 X.xe I3 (stat fr3) st3 go) fun r s4 ⟨u, hr, h4⟩ => ?_)
    subst hr
    refine wpAny_passesOwn hp (thn h4 fun _ s5 ⟨x, H5, I5, r5, y5, st5, fr5⟩ => ?_)
    have I5' := I5.pinned (stat fr5) (T.obj _ _ st5)
    refine wpAny_passesOwn hp (thn (hg _ s5 σ3 H5 x u _ I5' r5 (step x H5 y5)) fun _ s6 ⟨σ6, H6, I6, q6⟩ => ?_)
    refine wpAny_passesOwn hp (thn (hb _ s6 σ6 H6 _ I6 q6) fun f s7 q7 => ?_)
    have again : ∀ {σ7 : St} {H7 : Hp}, Inv X (pins ++ pinsAt fp s5.heap) σ7 H7 s7 → N σ7 H7 → ∃ m, m < n ∧ ∃ i σ' H', Inv X pins σ' H' s7 ∧ tn i s7.heap ∧ (∀ b ∈ fp, H' b = none) ∧ W i m σ' H' := fun {σ7 H7} I7 n7 => by
      obtain ⟨m', hm, w7⟩ := hN σ7 H7 n7
      refine ⟨m', hm, i + 1, σ7, H7, I7.unpinned, T.keep _ _ _ st5 fun b hb o e => (I7.pin (b, o) (List.mem_append_right _ (List.mem_append_right _ (mem_pinsAt hb e)))).1, fun b hb => ?_, w7⟩
      obtain ⟨o, e, d⟩ := T.obj _ _ st5 b hb
      exact (I7.pin (b, o) (List.mem_append_right _ (List.mem_append_right _ (mem_pinsAt hb e)))).2.1
    cases f with
    | next => obtain ⟨σ7, H7, I7, n7⟩ := q7; exact again I7 n7
    | cont => obtain ⟨σ7, H7, I7, n7⟩ := q7; exact again I7 n7
    | brk => obtain ⟨σ7, H7, I7, q7⟩ := q7; exact ⟨σ7, H7, I7.unpinned, q7⟩
    | ret v => obtain ⟨x7, σ7, H7, I7, r7, q7⟩ := q7; exact ⟨x7, σ7, H7, I7.unpinned, r7, q7⟩
end
end L2
namespace L2
open PySem PySem.Spec PyProof.Rows
noncomputable abbrev R2 := V → V → Hp → VK → Prop
noncomputable def OpR (X : Cx) (f : Value → Value → Sem Value) (r : R2) : Prop :=
  ∀ (pins : List (Addr × Obj)) (s : Shared) (σ : St) (H : Hp) (x y : V) (v u : Value) (Q : VK), Inv X pins σ H s → RelV x v → RelV y u → r x y H Q →
    wpAny (model X.prog X.w) X.A (f v u) (EP X pins σ Q) X.xe s
noncomputable def CallR (X : Cx) (f : Value) (r : List V → Hp → VK → Prop) : Prop :=
  ∀ (pins : List (Addr × Obj)) (s : Shared) (σ : St) (H : Hp) (xs : List V) (us : List Value) (Q : VK), Inv X pins σ H s → Vals xs us → r xs H Q →
    wpAny (model X.prog X.w) X.A (call f us) (EP X pins σ Q) X.xe s
noncomputable def tOp (r : R2) (ta tb : TE) : TE := fun σ H Q => ta σ H fun x H1 => tb σ H1 fun y H2 => r x y H2 Q
noncomputable def rI (C : Int → Int → Prop) (g : Int → Int → V) : R2 := fun x y H Q => ∃ i j, x = .int i ∧ y = .int j ∧ C i j ∧ Q (g i j) H
noncomputable def rI0 (g : Int → Int → V) : R2 := fun x y H Q => ∃ i j, x = .int i ∧ y = .int j ∧ Q (g i j) H
section
variable {X : Cx} {a b c : Expr} {ta tb tc : TE} {pos : Pos}
theorem binT (ha : PE X a ta) (hb : PE X b tb) {pins : List (Addr × Obj)} {s : Shared} {σ : St} {H : Hp} {R : V → V → Hp → Prop} (I : Inv X pins σ H s)
    (h : ta σ H fun x H1 => tb σ H1 fun y H2 => R x y H2) {Q : Value → Shared → Prop} {f : Value → Value → Sem Value}
    (hf : ∀ v u s2 x y H2, Inv X pins σ H2 s2 → RelV x v → RelV y u → R x y H2 → wpAny (model X.prog X.w) X.A (f v u) Q X.xe s2) :
    wpAny (model X.prog X.w) X.A (eval a X.env) (fun v s₁ => wpAny (model X.prog X.w) X.A (eval b X.env) (fun u s₂ => wpAny (model X.prog X.w) X.A (f v u) Q X.xe s₂) X.xe s₁) X.xe s := by
  refine thn (ha pins s σ H _ I h) fun v s1 ⟨x, H1, I1, r1, q1⟩ => ?_
  refine thn (hb pins s1 σ H1 _ I1 q1) fun u s2 ⟨y, H2, I2, r2, q2⟩ => ?_
  exact hf v u s2 x y H2 I2 r1 r2 q2
theorem pe_op {op : Operator} {r : R2} (ho : OpR X (binaryOp op) r) (ha : PE X a ta) (hb : PE X b tb) : PE X (.BinOp a op b pos) (tOp r ta tb) := by
  intro pins s σ H Q I h
  exact wpAny_BinOp (binT ha hb I h fun v u s2 x y H2 I2 rx ry q => ho pins s2 σ H2 x y v u Q I2 rx ry q)
theorem opI {f : Value → Value → Sem Value} {C : Int → Int → Prop} {g : Int → Int → Int}
    (rule : ∀ (i j : Int) (t u : Tok) (s : Shared) (Q : Value → Shared → Prop) (E : Value → Shared → Prop), C i j → Q (.int (g i j) s.toks) { s with toks := s.toks + 1 } → wpAny (model X.prog X.w) X.A (f (.int i t) (.int j u)) Q E s) :
    OpR X f (rI C fun i j => .int (g i j)) := by
  intro pins s σ H x y v u Q I rx ry h
  obtain ⟨i, j, rfl, rfl, hc, q⟩ := h
  obtain ⟨t, rfl⟩ := rx
  obtain ⟨t', rfl⟩ := ry
  exact rule i j t t' s _ _ hc ⟨.int (g i j), H, I.tok _, ⟨_, rfl⟩, q⟩
theorem opB0 {f : Value → Value → Sem Value} {g : Int → Int → Bool}
    (rule : ∀ (i j : Int) (t u : Tok) (s : Shared) (Q : Value → Shared → Prop) (E : Value → Shared → Prop), Q (.bool (g i j)) s → wpAny (model X.prog X.w) X.A (f (.int i t) (.int j u)) Q E s) :
    OpR X f (rI0 fun i j => .bl (g i j)) := by
  intro pins s σ H x y v u Q I rx ry h
  obtain ⟨i, j, rfl, rfl, q⟩ := h
  obtain ⟨t, rfl⟩ := rx
  obtain ⟨t', rfl⟩ := ry
  exact rule i j t t' s _ _ ⟨.bl (g i j), H, I, rfl, q⟩
theorem op_mod : OpR X (binaryOp .Mod) (rI (fun _ j => 0 < j) fun i j => .int (i % j)) := opI fun i j _ _ _ _ _ hc q => by
  have h1 : (0 : Int) < j := hc
  exact mod_int' (by omega) (by rw [Int.fmod_eq_emod_of_nonneg i (by omega)]; exact q)
end
section
variable {X : Cx} {a b c : Expr} {ta tb tc : TE} {pos : Pos}
theorem fin_bl {pins : List (Addr × Obj)} {σ : St} {H : Hp} {s : Shared} {Q : VK} {k k' : Bool} (I : Inv X pins σ H s) (q : Q (.bl k) H) (e : k = k') : EP X pins σ Q (.bool k') s := by
  subst e
  exact ⟨.bl k, H, I, rfl, q⟩
theorem op_lt : OpR X (compareOp .Lt) (rI0 fun i j => .bl (decide (i < j))) := opB0 fun _ _ _ _ _ _ _ q => lt_int q
theorem op_le : OpR X (compareOp .LtE) (rI0 fun i j => .bl (decide (i ≤ j))) := opB0 fun _ _ _ _ _ _ _ q => le_int q
theorem op_gt : OpR X (compareOp .Gt) (rI0 fun i j => .bl (decide (j < i))) := opB0 fun _ _ _ _ _ _ _ q => gt_int q
theorem op_notin_str : OpR X (compareOp .NotIn) (fun x y H Q => ∃ i j, x = .str i ∧ y = .str j ∧ Q (.bl (!(!(Builtin.Str.occurrences j i 0 j.length 1).isEmpty))) H) := by
  intro pins s σ H x y v u Q I rx ry h
  obtain ⟨i, j, rfl, rfl, q⟩ := h
  obtain ⟨t, rfl⟩ := rx
  obtain ⟨t', rfl⟩ := ry
  exact notIn_str (fin_bl I q rfl)
theorem pe_cmpR {op : CmpOp} {r : R2} (ho : OpR X (compareOp op) r) (ha : PE X a ta) (hb : PE X b tb) (hm : behindInMarks op b = false) : PE X (.Compare a [op] [b] pos) (tOp r ta tb) := by
  intro pins s σ H Q I h
  exact wpAny_Compare1 (binT ha hb I h fun v u s2 x y H2 I2 rx ry q => ho pins s2 σ H2 x y v u Q I2 rx ry q) hm
noncomputable def tTest (t : TE) : TT := fun σ H Q => t σ H fun x H' => ∃ k, x = .bl k ∧ Q k H'
theorem pt_cmpR {op : CmpOp} {r : R2} (ho : OpR X (compareOp op) r) (ha : PE X a ta) (hb : PE X b tb) (hm : behindInMarks op b = false) : PT X (.Compare a [op] [b] pos) (tTest (tOp r ta tb)) := by
  intro pins s σ H Q I h
  refine wpAny_isTrue_Compare1 (thn (ha pins s σ H _ I h) fun v s1 ⟨x, H1, I1, r1, q1⟩ => thn (hb pins s1 σ H1 _ I1 q1) fun u s2 ⟨y, H2, I2, r2, q2⟩ =>
    thn (ho pins s2 σ H2 x y v u _ I2 r1 r2 q2) fun c s3 ⟨z, H3, I3, r3, k, e, q3⟩ => ?_) hm
  subst e
  cases r3
  exact wpAny_truthy_bool ⟨H3, I3, q3⟩
noncomputable def tChain (r r' : R2) (ta tb tc : TE) : TE := fun σ H Q => ta σ H fun x H1 => tb σ H1 fun y H2 => r x y H2 fun z H3 => ∃ k, z = .bl k ∧
  (if k = true then tc σ H3 fun w' H4 => r' y w' H4 Q else Q (.bl false) H3)
theorem pe_chain {op op' : CmpOp} {r r' : R2} (ho : OpR X (compareOp op) r) (ho' : OpR X (compareOp op') r') (ha : PE X a ta) (hb : PE X b tb) (hc : PE X c tc)
    (hm : lastMarks [op, op'] [b, c] = false := by with_unfolding_all rfl) : PE X (.Compare a [op, op'] [b, c] pos) (tChain r r' ta tb tc) := by
  intro pins s σ H Q I h
  refine Compare_chain (thn (ha pins s σ H _ I h) fun v s1 ⟨x, H1, I1, r1, q1⟩ => chain_link (thn (hb pins s1 σ H1 _ I1 q1) fun u s2 ⟨y, H2, I2, r2, q2⟩ =>
    thn (ho pins s2 σ H2 x y v u _ I2 r1 r2 q2) fun d s3 ⟨z, H3, I3, r3, k, e, q3⟩ => ?_)) hm
  subst e
  cases r3
  refine wpAny_truthy_bool ?_
  cases k with
  | false => exact ite_ff ⟨.bl false, H3, I3, rfl, q3⟩
  | true => exact ite_tt (chain_last (thn (hc pins s3 σ H3 _ I3 q3) fun w' s4 ⟨z', H4, I4, r4, q4⟩ => ho' pins s4 σ H4 y z' u w' Q I4 r2 r4 q4))
theorem line63 : (sizeLine : Nat) < 2 ^ 63 := by rw [sizeLine_eq]; decide
theorem vals1 {x : V} {us : List Value} (r : Vals [x] us) : ∃ u, us = [u] ∧ RelV x u := by
  cases r with
  | cons r1 r2 => cases r2; exact ⟨_, rfl, r1⟩
theorem call_str_int : CallR X (.type "str") (fun xs H Q => ∃ i, xs = [.int i] ∧ i.natAbs.log2 < 1920 ∧ Q (.str (toString i)) H) := by
  intro pins s σ H xs us Q I r h
  obtain ⟨i, rfl, hz, q⟩ := h
  obtain ⟨u, rfl, t, rfl⟩ := vals1 r
  exact PySem.P.str_of_int hz ⟨.str _, H, I.tok _, ⟨_, rfl⟩, q⟩
end
end L2
namespace L2
open PySem PySem.Spec PyProof.Rows
structure ObjM (h : Heap) (x dx C : Addr) (mA : Str → Option Value) : Prop where
  obj : h.get? x = some (PySem.W.instObj C dx)
  ns : h.Ns1 dx mA
  ne : dx ≠ x
theorem lookIn_ns {h : Heap} {dx : Addr} {mA : Str → Option Value} (n : h.Ns1 dx mA) : ∃ od, h.get? dx = some od ∧ ∀ name, PySem.W.lookIn name od = some (mA name) := by
  obtain ⟨o, es, ep, ho, hd, hk, _, hm⟩ := n
  refine ⟨o, ho, fun name => ?_⟩
  have e := hm name
  unfold nsFind findBy at e
  rw [← Array.find?_toList] at e
  unfold PySem.W.lookIn
  rw [hd]
  dsimp only
  split
  · rename_i y q
    rw [q] at e
    exact congrArg some e
  · rename_i q
    rw [q] at e
    have a : es.toList.any (·.refKey) = false := by
      rw [List.any_eq_false]
      intro y hy
      obtain ⟨z, t, hkey⟩ := hk y (Array.mem_toList_iff.mp hy)
      simp [DictEntry.refKey, hkey]
    have a' : ¬ es.toList.any (·.refKey) = true := by rw [a]; exact Bool.false_ne_true
    rw [if_neg a']
    exact congrArg some e
theorem ObjM.look {h : Heap} {x dx C : Addr} {mA : Str → Option Value} (I : ObjM h x dx C mA) : ∃ od, PySem.W.InstAt h x (PySem.W.instObj C dx) C (some od) ∧ ∀ name, PySem.W.lookIn name od = some (mA name) :=
  let ⟨od, ho, hl⟩ := lookIn_ns I.ns
  ⟨od, ⟨I.obj, rfl, rfl, ho⟩, hl⟩
section
variable {prog : Program} {w : World} {A : Around} {E : Value → Shared → Prop} {s : Shared} {K : PySem.W.Frag} {x dx C f : Addr} {mA : Str → Option Value} {name : Str} {v : Value}
end
section
variable {P : Program} {w : World} {H H' : Hp} {h h' : Heap} {a C dx : Addr} {fs fs' : List (Str × V)}
theorem ins_get (hok : HOk P w H h) (e : H a = some (.ins C dx fs)) : ∃ mA, ObjM h a dx C mA ∧ (∀ f, RelO (fs.lookup f) (mA f)) ∧ PySem.Within mA (fs.map (·.1)) ∧ fs.length ≤ 1000 ∧ H dx = some (.own a) := by
  obtain ⟨d, z, ne, ob, mA, n, r, q⟩ := (show ObjOk P w H h a (.ins C dx fs) from hok a _ e)
  exact ⟨mA, ⟨ob, n, ne⟩, r, q, z, d⟩
end
structure Cls (K : PySem.W.Frag) (C : Addr) : Prop where
  pg : PySem.W.plainGet K C Str.empty = true
  hd : PySem.W.hasDictIn K C = true
  po : PySem.W.plainOver K C = true
  sa : PySem.W.findIn K (.ref C) "__setattr__" = some (some (.builtin "object.__setattr__"))
theorem Cls.get {K : PySem.W.Frag} {C : Addr} (c : Cls K C) (f : Str) : PySem.W.plainGet K C f = true := c.pg
structure Con (K : PySem.W.Frag) (C : Addr) (f : Str) (v : V) (u : Value) : Prop where
  at_ : PySem.W.findIn K (.ref C) f = some (some u)
  rel : RelV v u
  get : PySem.W.specialIn K u "__get__" = some none
  cp : PySem.W.copiedNames.contains f = false
structure Meth (K : PySem.W.Frag) (C : Addr) (m : Str) (f : Addr) : Prop where
  at_ : PySem.W.findIn K (.ref C) m = some (some (.ref f))
  fn : PySem.W.isFn K (.ref f) = true
  kp : PySem.W.keepIn K (.ref f) = true
section
variable {X : Cx} {pins : List (Addr × Obj)} {σ : St} {H : Hp} {s : Shared} {a C dx : Addr} {fs : List (Str × V)} {f : Str} {v : V} {A : Around} {E : Value → Shared → Prop}
end
section
variable {X : Cx} {o e value : Expr} {f : Str} {pos pos' tpos : Pos} {ta tv : TE}
end
section
variable {X : Cx} {pins : List (Addr × Obj)} {σ : St} {H : Hp} {s : Shared} {A : Around} {E : Value → Shared → Prop} {Q : Value → Shared → Prop} {c : Value} {b : Bool}
inductive TyOf (K : PySem.W.Frag) (H : Hp) : V → Value → Prop where
  | non : TyOf K H .non (.type "NoneType")
  | bl (x : Bool) : TyOf K H (.bl x) (.type "bool")
  | int (i : Int) : TyOf K H (.int i) (.type "int")
  | str (x : Str) : TyOf K H (.str x) (.type "str")
  | flt (x : UInt64) : TyOf K H (.flt x) (.type "float")
  | lst {a : Addr} {xs : List V} (e : H a = some (.lst xs)) : TyOf K H (.ref a) (.type "list")
  | frz {a : Addr} {o : Obj} {xs : List V} (e : H a = some (.frz o (.lst xs))) : TyOf K H (.ref a) (.type "list")
  | tup {a : Addr} {xs : List V} (e : H a = some (.tup xs)) : TyOf K H (.ref a) (.type "tuple")
  | dK {a : Addr} {kvs : List (Key × V)} (e : H a = some (.dK kvs)) : TyOf K H (.ref a) (.type "dict")
  | dT {a : Addr} {kvs : List (List Key × V)} (e : H a = some (.dT kvs)) : TyOf K H (.ref a) (.type "dict")
  | ins {a C dx : Addr} {fs : List (Str × V)} (e : H a = some (.ins C dx fs)) (cl : Cls K C) (ha : PySem.W.findIn K (.ref C) "__class__" = some (some (.builtin "object.__class__")))
      (hn : PySem.W.specialIn K (.builtin "object.__class__") "__get__" = some (some (.builtin "getset_descriptor.__get__"))) (htk : PySem.W.takesIn K (.builtin "object.__class__") = some true)
      (hm : PySem.W.mroIn K C (.type "object") = some true) : TyOf K H (.ref a) (.ref C)
theorem isinst_ok {x : V} {u t : Value} (I : Inv X pins σ H s) (rx : RelV x u) (ty : TyOf X.K H x t) (e : PySem.W.kitOne X.K t c = some b) (h : ∀ tk, Q (.bool b) { s with toks := tk }) :
    wpAny (model X.prog X.w) A (call (.builtin "isinstance") [u, c]) Q E s := by
  cases ty with
  | non => cases (show u = Value.none from rx); exact PySem.W.kia_one PySem.W.kitx_none I.kIn True.intro e (fun z => nomatch z) h
  | bl y => cases (show u = Value.bool y from rx); exact PySem.W.kia_one PySem.W.kitx_bool I.kIn True.intro e (fun z => nomatch z) h
  | int i => obtain ⟨t, q⟩ := (show ∃ t, u = Value.int i t from rx); cases q; exact PySem.W.kia_one PySem.W.kitx_int I.kIn True.intro e (fun z => nomatch z) h
  | str y => obtain ⟨t, q⟩ := (show ∃ t, u = Value.str y t from rx); cases q; exact PySem.W.kia_one PySem.W.kitx_str I.kIn True.intro e (fun z => nomatch z) h
  | flt y => obtain ⟨t, q⟩ := (show ∃ t, u = Value.float y t from rx); cases q; exact PySem.W.kia_one PySem.W.kitx_float I.kIn True.intro e (fun z => nomatch z) h
  | @lst a xs ea =>
    cases (show u = Value.ref a from rx)
    obtain ⟨_, _, n, _, h1⟩ := (show ObjOk X.prog X.w H s.heap a (.lst xs) from I.hok a _ ea)
    exact PySem.W.kia_one PySem.W.kitx_list I.kIn ⟨_, h1, rfl⟩ e (fun z => nomatch z) h
  | @frz a ob xs ea =>
    cases (show u = Value.ref a from rx)
    obtain ⟨_, _, _, n, _, h1⟩ := (show ObjOk X.prog X.w H s.heap a (.frz ob (.lst xs)) from I.hok a _ ea)
    exact PySem.W.kia_one PySem.W.kitx_list I.kIn ⟨_, h1, rfl⟩ e (fun z => nomatch z) h
  | @tup a xs ea =>
    cases (show u = Value.ref a from rx)
    obtain ⟨_, _, _, p⟩ := (show ObjOk X.prog X.w H s.heap a (.tup xs) from I.hok a _ ea)
    obtain ⟨o, h1, h2, _⟩ := p
    exact PySem.W.kia_one PySem.W.kitx_tuple I.kIn ⟨o, h1, h2⟩ e (fun z => nomatch z) h
  | @dK a kvs ea =>
    cases (show u = Value.ref a from rx)
    obtain ⟨_, _, vs, _, p⟩ := (show ObjOk X.prog X.w H s.heap a (.dK kvs) from I.hok a _ ea)
    obtain ⟨o, es, ep, h1, h2, _⟩ := p
    exact PySem.W.kia_one PySem.W.kitx_dict I.kIn ⟨o, h1, h2.1⟩ e (fun z => nomatch z) h
  | @dT a kvs ea =>
    cases (show u = Value.ref a from rx)
    obtain ⟨_, _, xs, _, o, es, ep, h1, h2, _⟩ := (show ObjOk X.prog X.w H s.heap a (.dT kvs) from I.hok a _ ea)
    exact PySem.W.kia_one PySem.W.kitx_dict I.kIn ⟨o, h1, h2.1⟩ e (fun z => nomatch z) h
  | @ins a C dx fs ea cl ha hn htk hm =>
    cases (show u = Value.ref a from rx)
    obtain ⟨mA, O, _⟩ := ins_get I.hok ea
    obtain ⟨od, J, _⟩ := O.look
    exact PySem.W.kia_one (PySem.W.kitx_own (cl.get _) cl.hd ha hn htk hm) I.kIn J e (fun z => nomatch z) h
end
end L2
namespace L2
open PySem PySem.Spec PyProof.Rows
structure Room (k : Nat) (A : Around) : Prop where
  hd : A.handled = none
  dp : A.depth + 3 * k + 5 < recursionLimit
  un : A.units + 16 * k + 200 < cLine
  gd : A.guards = some []
theorem Room.mono {j k : Nat} {A : Around} (r : Room k A) (h : j ≤ k) : Room j A := ⟨r.hd, by have := r.dp; omega, by have := r.un; omega, r.gd⟩
theorem Room.deeper {k : Nat} {A : Around} (r : Room (k + 1) A) (env : Env) : Room k (A.deeper env) :=
  ⟨r.hd, by have := r.dp; show A.depth + 1 + 3 * k + 5 < _; omega, by have := r.un; show A.units + 3 + 16 * k + 200 < _; omega, r.gd⟩
theorem Room.depth {k : Nat} {A : Around} (r : Room k A) : A.depth < recursionLimit := by have := r.dp; omega
theorem Room.units {k : Nat} {A : Around} (r : Room k A) : A.units + 64 < cLine := by have := r.un; omega
noncomputable def tNil : TA := fun _ H Q => Q [] H
noncomputable def tCons (ta : TE) (tr : TA) : TA := fun σ H Q => ta σ H fun x H1 => tr σ H1 fun xs H2 => Q (x :: xs) H2
section
variable {X : Cx} {e : Expr} {es : List Expr} {te : TE} {t : TA} {pos : Pos}
theorem pa_nil : PA X [] tNil := fun _ _ _ _ H Q I h => Calls.spliced_nil ⟨[], H, I, .nil, h⟩
theorem pa_cons (ha : PE X e te) (hr : PA X es t) (hs : starEach (e :: es) X.env = (false, eval e X.env) :: starEach es X.env := by rfl) : PA X (e :: es) (tCons te t) := by
  intro pos pins s σ H Q I h
  rw [hs]
  show wpAny _ _ (spliced ((false, eval e X.env) :: backTo pos (starEach es X.env))) _ _ s
  refine Calls.spliced_cons (thn (ha pins s σ H _ I h) fun u s1 ⟨x, H1, I1, r1, q1⟩ => ?_)
  exact thn (hr pos pins s1 σ H1 _ I1 q1) fun us s2 ⟨xs, H2, I2, r2, q2⟩ => ⟨x :: xs, H2, I2, .cons r1 r2, q2⟩
noncomputable def tTup (t : TA) : TE := fun σ H Q => t σ H fun xs H1 => xs.length ≤ sizeLine ∧ ∀ p, H1 p = none → Q (.ref p) (upd H1 p (.tup xs))
noncomputable def tLst (t : TA) : TE := fun σ H Q => t σ H fun xs H1 => xs.length ≤ sizeLine ∧ ∀ p, H1 p = none → Q (.ref p) (upd H1 p (.lst xs))
theorem pe_tup {x1} (h : PA X es t) : PE X (.Tuple es x1 pos) (tTup t) := by
  intro pins s σ H Q I hq
  refine wpAny_Tuple_spliced (thn (h pos pins s σ H _ I hq) fun us s1 ⟨xs, H1, I1, r, z, q⟩ => ⟨by rw [← r.length]; exact z, ?_⟩)
  have hf : H1 s1.heap.objs.size = none := I1.hok.fresh (Nat.le_refl _)
  refine ⟨.ref s1.heap.objs.size, upd H1 s1.heap.objs.size (.tup xs), I1.laid (t' := s1.toks) (fun b u e => Heap.get?_push_of_some _ e) (Nat.le_refl _) ?_, rfl, q _ hf⟩
  exact ⟨z, us, r, ⟨_, Heap.get?_push_size _ rfl, rfl, _, rfl⟩⟩
theorem pe_lst (h : PA X es t) : PE X (.List es pos) (tLst t) := by
  intro pins s σ H Q I hq
  refine wpAny_List_spliced (thn (h pos pins s σ H _ I hq) fun us s1 ⟨xs, H1, I1, r, z, q⟩ => ⟨by rw [← r.length]; exact z, ?_⟩)
  have hf : H1 s1.heap.objs.size = none := I1.hok.fresh (Nat.le_refl _)
  refine ⟨.ref s1.heap.objs.size, upd H1 s1.heap.objs.size (.lst xs), I1.laid (t' := s1.toks) (fun b u e => Heap.get?_push_of_some _ e) (Nat.le_refl _) ?_, rfl, q _ hf⟩
  exact ⟨z, us, 0, r, Heap.get?_push_size _ rfl⟩
end
noncomputable abbrev Sp := List V → Hp → VK → XK → Prop
noncomputable abbrev CXT := List Env → Hp → Shared → XK → Value → Shared → Prop
structure Env0 (P : Program) (w : World) (K : PySem.W.Frag) (mg : Str → Option Value) (base : Heap) (A : Around) (outer : List Env) (s : Shared) (H : Hp) : Prop where
  frames : A.frames = some outer
  mod : Mod K mg base
  bs : ∀ b o, base.get? b = some o → s.heap.get? b = some o ∧ H b = none
  bsz : base.objs.size ≤ s.heap.objs.size
  funs : s.heap.FunFrames base outer
  frf : ∀ b ∈ frs outer, H b = none
  hok : HOk P w H s.heap
  bare : AllBare s.gens
noncomputable def CE (outer : List Env) (P : Program) (w : World) (H : Hp) (s : Shared) (Q : VK) (u : Value) (s' : Shared) : Prop :=
  ∃ v H', s'.os = s.os ∧ AllBare s'.gens ∧ Un (frs outer) [] H H' s.heap s'.heap ∧ HOk P w H' s'.heap ∧ RelV v u ∧ Q v H'
noncomputable def CR (CX : CXT) (outer : List Env) (P : Program) (w : World) (H : Hp) (s : Shared) (Q : VK) (E : XK) (r : Result) (s' : Shared) : Prop :=
  match r with
  | .ok (.ret u) => CE outer P w H s Q u s'
  | .ok _ => False
  | .error e => CX outer H s E e s'
structure FnOk (P : Program) (w : World) (K : PySem.W.Frag) (mg : Str → Option Value) (base : Heap) (CX : CXT) (k : Nat) (f : Addr) (fd : FuncData) (ps : List Str) (sp : Sp) : Prop where
  len : ∀ vs H Q E, sp vs H Q E → vs.length = ps.length
  run : ∀ (A : Around) (outer : List Env) (s : Shared) (H : Hp) (args : Args) (us : List Value) (vs : List V) (Q : VK) (E : XK), Room k A → Env0 P w K mg base A outer s H → BindsTo s fd args (ps.zip us) → Vals vs us → sp vs H Q E →
    codeAny (model P w) A (.call (.ref f) args) (CR CX outer P w H s Q E) s
section
variable {X : Cx} {pins : List (Addr × Obj)} {σ : St} {H : Hp} {s s' : Shared}
theorem Inv.env0 (I : Inv X pins σ H s) : Env0 X.prog X.w X.K X.mg X.base X.A X.stack s H :=
  ⟨I.ok.frames, I.ok.mod, I.bs, Nat.le_trans I.ok.bsz I.sz, I.stack, I.stkFree, I.hok, I.bare⟩
theorem Inv.after {Q : VK} {u : Value} (I : Inv X pins σ H s) (h : CE X.stack X.prog X.w H s Q u s') : EP X pins σ Q u s' := by
  obtain ⟨v, H', os, bare, un, hok, r, q⟩ := h
  obtain ⟨hh, g, d, t, os'⟩ := s'
  obtain rfl : os' = s.os := os
  exact ⟨v, H', I.call (h' := hh) (g' := g) (d' := d) (t' := t) (ch := []) un hok bare (fun b z => absurd z (by simp)), r, q⟩
end
noncomputable def tCall (sp : Sp) (dvs : List V) (E : XK) (t : TA) : TE := fun σ H Q => t σ H fun vs H1 => sp (vs ++ dvs) H1 Q E
noncomputable def Binds (K : PySem.W.Frag) (fd : FuncData) (ps : List Str) (ds : List Value) : Prop :=
  ∀ (s : Shared) (us : List Value), K.In s.heap → (us ++ ds).length = ps.length → BindsTo s fd ⟨us, []⟩ (ps.zip (us ++ ds))
theorem Binds.all {K : PySem.W.Frag} {fd : FuncData} {ps : List Str} (h : ∀ us : List Value, us.length = ps.length → bindArgs fd ⟨us, []⟩ = pure (ps.zip us)) : Binds K fd ps [] := fun s us _ hl => by
  rw [List.append_nil] at hl ⊢
  exact .of_eq (h us hl)
noncomputable def Passes (CX : CXT) (X : Cx) (E : XK) : Prop := ∀ (pins : List (Addr × Obj)) (σ : St) (H : Hp) (s : Shared) (e : Value) (s' : Shared), Inv X pins σ H s → CX X.stack H s E e s' → X.xe e s'
section
variable {X : Cx} {CX : CXT} {k : Nat} {f C : Addr} {fd : FuncData} {ps : List Str} {sp : Sp} {dvs : List V} {ds : List Value} {E : XK} {x m : Str} {p pos apos : Pos} {e o : Expr} {es : List Expr} {ta : TE} {t : TA}
theorem run_fn {pins : List (Addr × Obj)} {σ : St} {H : Hp} {s : Shared} {Q : VK} {us : List Value} {vs : List V} (F : FnOk X.prog X.w X.K X.mg X.base CX k f fd ps sp) (hr : Room k X.A) (hb : Binds X.K fd ps ds) (hd : Vals dvs ds) (hx : Passes CX X E)
    (I : Inv X pins σ H s) (r : Vals vs us) (h : sp (vs ++ dvs) H Q E) : wpAny (model X.prog X.w) X.A (call (.ref f) us) (EP X pins σ Q) X.xe s := by
  have r2 : Vals (vs ++ dvs) (us ++ ds) := r.append hd
  have hl : (us ++ ds).length = ps.length := by rw [← r2.length]; exact F.len _ _ _ _ h
  refine wpAny_call (codeAny_mono (F.run X.A X.stack s H ⟨us, []⟩ (us ++ ds) (vs ++ dvs) Q E hr I.env0 (hb s us I.kIn hl) r2 h) fun r s' hq => ?_)
  cases r with
  | error e => exact hx pins σ H s e s' I hq
  | ok fl =>
    cases fl with
    | ret u => exact I.after hq
    | next => exact False.elim hq
    | brk => exact False.elim hq
    | cont => exact False.elim hq
theorem pe_call (F : FnOk X.prog X.w X.K X.mg X.base CX k f fd ps sp) (hr : Room k X.A) (hg : Gl X x) (hm : X.mg x = some (.ref f)) (hk : PySem.W.keepIn X.K (.ref f) = true) (hb : Binds X.K fd ps ds) (hd : Vals dvs ds) (hx : Passes CX X E)
    (ha : PA X (e :: es) t) (hdb : (x == ("__debug__" : Str)) = false := by decide) (he : starEach (e :: es) X.env = (false, eval e X.env) :: starEach es X.env := by rfl) (hpl : (backTo pos (starEach es X.env)).any (·.1) = false := by rfl) :
    PE X (.Call (.Name x p) (e :: es) [] pos) (tCall sp dvs E t) := by
  intro pins s σ H Q I h
  refine wpAny_Call_Name_kw (ld_glob I hg hm ?_ hdb)
  refine PySem.W.callWith_K (h₀ := X.base) I.ok.mod.kin hk (thn (ha pos pins s σ H _ I h) fun us s1 ⟨vs, H1, I1, r, q⟩ => ⟨I1.kIn, ?_⟩) he hpl
  exact run_fn F hr hb hd hx I1 r q
structure Mk (K : PySem.W.Frag) (C f : Addr) : Prop where
  makes : PySem.W.makesIn K C = true
  init : PySem.W.findIn K (.ref C) "__init__" = some (some (.ref f))
  fn : PySem.W.isFn K (.ref f) = true
  kp : PySem.W.keepIn K (.ref C) = true
end
section
variable {X : Cx} {CX : CXT} {k : Nat} {f C : Addr} {fd : FuncData} {ps ks : List Str} {sp : Sp} {E : XK} {x m : Str} {p pos apos kpos : Pos} {e o : Expr} {es : List Expr} {kws : List Keyword} {te ta : TE} {t tk : TA} {nm : Option Str}
structure KBinds (K : PySem.W.Frag) (fd : FuncData) (ps ks : List Str) (g : List Value → List Value → List Value) (gV : List V → List V → List V) : Prop where
  to : ∀ (s : Shared) (us ws : List Value), K.In s.heap → (g us ws).length = ps.length → BindsTo s fd ⟨us, ks.zip ws⟩ (ps.zip (g us ws))
  rel : ∀ {vs : List V} {us : List Value} {zs : List V} {ws : List Value}, Vals vs us → Vals zs ws → Vals (gV vs zs) (g us ws)
variable {g : List Value → List Value → List Value} {gV : List V → List V → List V}
end
structure FnScope (N P : List Str) (sc : Scope) : Prop where
  kind : sc.kind = .function
  co : sc.isCoroutine = false
  gen : sc.isGenerator = false
  nd : N.Nodup
  pre : N.take P.length = P
  par : ∀ x ∈ P, sc.names.lookup x = some .local ∨ sc.names.lookup x = some .cell
  nofree : ∀ y ∈ sc.names, y.2 ≠ .free
theorem bindL_out {kindOf : Str → Option NameKind} {x : Str} : ∀ {binds : List (Str × Value)} {m : Str → Option Value}, (∀ v, (x, v) ∉ binds) → bindL kindOf binds m x = m x
  | [], _, _ => rfl
  | (n, v) :: r, m, h => by
    unfold bindL
    rw [bindL_out fun w hw => h w (List.mem_cons_of_mem _ hw)]
    split
    · have : x ≠ n := by rintro rfl; exact h v List.mem_cons_self
      simp [this]
    · rfl
theorem bindC_out {kindOf : Str → Option NameKind} {x : Str} : ∀ {binds : List (Str × Value)} {m : Str → Option Value}, (∀ v, (x, v) ∉ binds) → bindC kindOf binds m x = m x
  | [], _, _ => rfl
  | (n, v) :: r, m, h => by
    unfold bindC
    rw [bindC_out fun w hw => h w (List.mem_cons_of_mem _ hw)]
    split
    · rfl
    · have : x ≠ n := by rintro rfl; exact h v List.mem_cons_self
      simp [this]
theorem bindL_get {kindOf : Str → Option NameKind} {x : Str} {v : Value} : ∀ {P : List Str} {vs : List Value} {i : Nat} {m : Str → Option Value}, P.Nodup → P[i]? = some x → vs[i]? = some v → kindOf x = some .local →
    bindL kindOf (P.zip vs) m x = some v
  | [], _, _, _, _, h, _, _ => by simp at h
  | _ :: _, [], _, _, _, _, h, _ => by simp at h
  | p :: P, w :: vs, 0, m, nd, h1, h2, hk => by
    simp at h1 h2; subst h1; subst h2
    show bindL kindOf ((p, w) :: P.zip vs) m p = _
    unfold bindL
    rw [bindL_out fun v hv => (List.nodup_cons.mp nd).1 (List.of_mem_zip hv).1, if_pos hk]
    simp
  | p :: P, w :: vs, i + 1, m, nd, h1, h2, hk => by
    show bindL kindOf ((p, w) :: P.zip vs) m x = _
    unfold bindL
    exact bindL_get (i := i) (List.nodup_cons.mp nd).2 (by simpa using h1) (by simpa using h2) hk
theorem bindC_get {kindOf : Str → Option NameKind} {x : Str} {v : Value} : ∀ {P : List Str} {vs : List Value} {i : Nat} {m : Str → Option Value}, P.Nodup → P[i]? = some x → vs[i]? = some v → kindOf x ≠ some .local →
    bindC kindOf (P.zip vs) m x = some v
  | [], _, _, _, _, h, _, _ => by simp at h
  | _ :: _, [], _, _, _, _, h, _ => by simp at h
  | p :: P, w :: vs, 0, m, nd, h1, h2, hk => by
    simp at h1 h2; subst h1; subst h2
    show bindC kindOf ((p, w) :: P.zip vs) m p = _
    unfold bindC
    rw [bindC_out fun v hv => (List.nodup_cons.mp nd).1 (List.of_mem_zip hv).1, if_neg hk]
    simp
  | p :: P, w :: vs, i + 1, m, nd, h1, h2, hk => by
    show bindC kindOf ((p, w) :: P.zip vs) m x = _
    unfold bindC
    exact bindC_get (i := i) (List.nodup_cons.mp nd).2 (by simpa using h1) (by simpa using h2) hk
noncomputable def start (N : List Str) (vs : List V) : St := vs.map some ++ List.replicate (N.length - vs.length) none
noncomputable def cxOf (CX : CXT) (P : Program) (w : World) (K : PySem.W.Frag) (mg : Str → Option Value) (base : Heap) (N : List Str) (qual : Str) (scope : Scope) (f : Addr) (cd : Value) (A : Around) (outer : List Env) (s : Shared) (H : Hp) (E : XK) : Cx where
  prog := P
  w := w
  K := K
  mg := mg
  base := base
  A := A.deeper (envOfC qual scope s.heap.objs.size f cd)
  N := N
  s₀ := s
  H₀ := H
  env := envOfC qual scope s.heap.objs.size f cd
  outer := outer
  stack := envOfC qual scope s.heap.objs.size f cd :: outer
  ex := []
  calm := true
  fn := fun _ => true
  pn := []
  xe := fun e s' => wpAny (model P w) (A.deeper (envOfC qual scope s.heap.objs.size f cd)) (leaving (envOfC qual scope s.heap.objs.size f cd) e) (fun _ s'' => CX outer H s E e s'') (fun e' s'' => CX outer H s E e' s'') s'
theorem cell_has {sc : Scope} {n : Nat} {x : Str} (h : sc.names.lookup x = some .cell) : ∃ c, (cellsFrom n sc.names []).lookup x = some c := by
  have q := PySem.W.cellsFrom_some sc.names n [] (.inl h)
  exact Option.isSome_iff_exists.mp q
theorem inv_start {CX : CXT} {P : Program} {w : World} {K : PySem.W.Frag} {mg : Str → Option Value} {base : Heap} {N ps : List Str} {qual : Str} {scope : Scope} {f : Addr} {cd : Value} {A : Around} {outer : List Env} {s s1 : Shared} {H : Hp} {E : XK} {us : List Value} {vs : List V}
    (S : FnScope N ps scope) (hd : A.handled = none) (e0 : Env0 P w K mg base A outer s H) (hl : vs.length = ps.length) (r : Vals vs us)
    (x : InCallC s s.heap.objs.size (bindL (envOfC qual scope s.heap.objs.size f cd).kindOf (ps.zip us) fun _ => none) (cellsFrom (s.heap.objs.size + 1) scope.names []) (bindC (envOfC qual scope s.heap.objs.size f cd).kindOf (ps.zip us) fun _ => none) s1) :
    Inv (cxOf CX P w K mg base N qual scope f cd A outer s H E) [] (start N vs) H s1 := by
  have hpl : ps.length ≤ N.length := by have := congrArg List.length S.pre; rw [List.length_take] at this; omega
  obtain ⟨h1, tk, rfl, hk⟩ := x.done
  have noA : ∀ b : Addr, b ∉ (cxOf CX P w K mg base N qual scope f cd A outer s H E).ex := fun b z => absurd (show b ∈ ([] : List Addr) from z) (by simp)
  refine ⟨⟨e0.mod, S.kind, rfl, rfl, Nat.le_refl _, fun y z c h1 h2 => ?_, fun y hy => ?_, fun y c _ h => ?_, fun _ => hd, Around.frames_deeper e0.frames, .inr ⟨rfl, rfl⟩, fun b z => absurd z (noA b), e0.bs, e0.bsz, fun b _ _ => noA b, fun b z => absurd z (noA b), e0.funs, e0.frf⟩,
    rfl, e0.bare, Un.kept hk, ⟨_, x.toInCall.ns, fun i y v h1 h2 h3 => ?_⟩, fun y c h => ⟨_, x.cell y c h⟩, e0.hok.fresh (Nat.le_refl _), fun y c h => ?_, fun p hp => absurd (show p ∈ ([] : List (Addr × Obj)) from hp) (by simp), e0.hok.kept hk, ?_⟩
  · exact name_of_addr x.apart (PySem.mem_of_lookup h1) (PySem.mem_of_lookup h2)
  · have hy : scope.names.lookup y = some .cell ∨ scope.names.lookup y = some .free := hy
    rcases hy with hy | hy
    · exact cell_has hy
    · exact absurd rfl (S.nofree _ (PySem.mem_of_lookup hy))
  · exact Nat.le_of_lt (x.above y c (PySem.mem_of_lookup h))
  · have hi : i < vs.length := by
      unfold start at h2
      by_cases hi : i < vs.length
      · exact hi
      · rw [List.getElem?_append_right (by simpa using hi)] at h2
        rw [List.getElem?_replicate] at h2
        split at h2 <;> cases h2
    have ha : vs[i]? = some v := by
      unfold start at h2
      rw [List.getElem?_append_left (by simpa using hi), List.getElem?_map] at h2
      cases e : vs[i]? with
      | none => rw [e] at h2; cases h2
      | some a => rw [e] at h2; cases h2; rfl
    obtain ⟨u, hu, rv⟩ := r.get ha
    have hp : ps[i]? = some y := by
      rw [← S.pre, List.getElem?_take_of_lt (by omega)]; exact h1
    have ndP : ps.Nodup := by rw [← S.pre]; exact S.nd.sublist (List.take_sublist _ _)
    refine ⟨u, rv, ?_⟩
    rcases S.par y (List.mem_of_getElem? hp) with k | k
    · exact .inl ⟨k, bindL_get ndP hp hu k⟩
    · obtain ⟨c, e⟩ := cell_has (n := s.heap.objs.size + 1) k
      refine .inr ⟨.inl k, c, e, ?_⟩
      have q := x.cell y c e
      rw [bindC_get ndP hp hu (by show scope.names.lookup y ≠ _; rw [k]; decide)] at q
      exact q
  · exact e0.hok.fresh (Nat.le_of_lt (x.above y c (PySem.mem_of_lookup h)))
  · unfold start
    show _ = N.length
    rw [List.length_append, List.length_map, List.length_replicate]
    omega
theorem fn_of {CX : CXT} {P : Program} {w : World} {K : PySem.W.Frag} {mg : Str → Option Value} {base : Heap} {k : Nat} {f : Addr} {name qual : Str} {params : Arguments} {body : List Stmt} {scope : Scope} {dV kV doc pm cdv ct oc : Value} {an od : Option Addr}
    {osl : Array (Option Value)} {N ps : List Str} {sp : Sp} (lk : K.lookup f = some ⟨oc, od, .func (PySem.W.fnOf name qual params body scope dV kV doc pm an cdv ct), osl⟩) (hcd : PySem.W.codeIn K cdv qual = true) (S : FnScope N ps scope)
    (len : ∀ vs H Q E, sp vs H Q E → vs.length = ps.length)
    (hbody : ∀ (A : Around) (outer : List Env) (s : Shared) (H : Hp) (vs : List V) (Q : VK) (E : XK), Room k (A.deeper (envOfC qual scope s.heap.objs.size f cdv)) → sp vs H Q E →
      ∃ t, PSs (cxOf CX P w K mg base N qual scope f cdv A outer s H E) body t ∧ t { nx := fun _ H' => Q .non H', rt := Q } (start N vs) H) :
    FnOk P w K mg base CX (k + 1) f (PySem.W.fnOf name qual params body scope dV kV doc pm an cdv ct) ps sp := by
  refine ⟨len, fun A outer s H args us vs Q E hr e0 hb r hsp => ?_⟩
  have hl := len _ _ _ _ hsp
  have KX : K.In s.heap := e0.mod.kin.keeps fun b o e => (e0.bs b o e).1
  have lim : s.heap.NoLimit := e0.mod.nolimit.keeps fun b o e => (e0.bs b o e).1
  have hkind : ∀ y ∈ ps.zip us, scope.names.lookup y.1 = some .local ∨ (scope.names.lookup y.1 = some .cell ∧ ((cellsFrom (s.heap.objs.size + 1) scope.names []).lookup y.1).isSome = true) := fun ⟨n, v⟩ hy => by
    rcases S.par n (List.of_mem_zip hy).1 with q | q
    · exact .inl q
    · exact .inr ⟨q, PySem.W.cellsFrom_some _ _ _ (.inl q)⟩
  refine codeAny_call_function hr.depth (KX _ _ lk) rfl S.co S.gen rfl (PySem.W.codeRec_of KX hcd) (hb _ _ _ _ ?_)
  refine wpAny_newFunctionEnv_cells S.kind hkind fun env he s1 x => ?_
  subst he
  refine ⟨lim.keeps x.toInCall.keep, codeAny_func ?_⟩
  obtain ⟨t, ht, hq⟩ := hbody A outer s H vs Q E (hr.deeper _) hsp
  have I : Inv (cxOf CX P w K mg base N qual scope f cdv A outer s H E) [] (start N vs) H s1 := inv_start S hr.hd e0 hl r x
  refine wpAny_mono (ht [] s1 (start N vs) H _ I hq) (fun fl s' hs => ?_) fun e s' hs => hs
  have fin : ∀ {σ' : St} {H' : Hp} {v : V} {u : Value}, Inv (cxOf CX P w K mg base N qual scope f cdv A outer s H E) [] σ' H' s' → RelV v u → Q v H' → CE outer P w H s Q u s' :=
    fun {σ' H' v u} J rv q => ⟨v, H', J.os, J.bare, J.base, J.hok, rv, q⟩
  cases fl with
  | ret u =>
    obtain ⟨v, σ', H', J, rv, q⟩ := hs
    exact fin J rv q
  | next =>
    obtain ⟨σ', H', J, q⟩ := hs
    exact fin (v := V.non) (u := Value.none) J rfl q
  | brk =>
    obtain ⟨_, _, _, q⟩ := hs
    exact False.elim q
  | cont =>
    obtain ⟨_, _, _, q⟩ := hs
    exact False.elim q
end L2
namespace L2
open PySem PySem.Spec PyProof.Rows
section
variable {X : Cx} {x : Str} {p pos : Pos} {e : Expr} {es : List Expr} {t : TA} {id T : String} {r : List V → Hp → VK → Prop}
noncomputable def tCB (r : List V → Hp → VK → Prop) (t : TA) : TE := fun σ H Q => t σ H fun vs H1 => r vs H1 Q
theorem pe_callB (hc : CallR X (.builtin id) r) (hg : Gl X x) (hm : X.mg x = none) (hv : bootBuiltins x = some (.builtin id)) (ha : PA X (e :: es) t) (hn : x ≠ "__name__" := by decide) (hdb : (x == ("__debug__" : Str)) = false := by decide)
    (he : starEach (e :: es) X.env = (false, eval e X.env) :: starEach es X.env := by rfl) (hpl : (backTo pos (starEach es X.env)).any (·.1) = false := by rfl) : PE X (.Call (.Name x p) (e :: es) [] pos) (tCB r t) := by
  intro pins s σ H Q I h
  refine wpAny_Call_Name_kw (ld_blt I hg hm hv ?_ hn hdb)
  exact PyProof.Rows.callWith_builtin1 (thn (ha pos pins s σ H _ I h) fun us s1 ⟨vs, H1, I1, r1, q1⟩ => hc pins s1 σ H1 vs us Q I1 r1 q1) he hpl
theorem pe_callTy (hc : CallR X (.type T) r) (hg : Gl X x) (hm : X.mg x = none) (hv : bootBuiltins x = some (.type T)) (ha : PA X (e :: es) t) (hn : x ≠ "__name__" := by decide) (hdb : (x == ("__debug__" : Str)) = false := by decide)
    (he : starEach (e :: es) X.env = (false, eval e X.env) :: starEach es X.env := by rfl) (hpl : (backTo pos (starEach es X.env)).any (·.1) = false := by rfl) : PE X (.Call (.Name x p) (e :: es) [] pos) (tCB r t) := by
  intro pins s σ H Q I h
  refine wpAny_Call_Name_kw (ld_blt I hg hm hv ?_ hn hdb)
  exact PyProof.Rows.callWith_type1 (thn (ha pos pins s σ H _ I h) fun us s1 ⟨vs, H1, I1, r1, q1⟩ => hc pins s1 σ H1 vs us Q I1 r1 q1) he hpl
end
end L2
namespace HT
open PySem PyProof.Rows
section
open PySem.SeqAt
open PySem.AutoSeq1 (wpAny_loadPart')
open PySem.MeetsSeq PySem.MeetsSeq2 PySem.MeetsSeq3
end
section
variable {prog : Program} {w : World} {A : Around} {E : Value → Shared → Prop} {s : Shared}
theorem cat_tup {t b : Addr} {vs ws : List Value} {Q : Value → Shared → Prop} (ht : IsTup s.heap t vs.toArray) (hb : IsTup s.heap b ws.toArray) (hv : vs ≠ [])
    (h1 : ws = [] → Q (.ref t) s) (h2 : ws ≠ [] → Q (.ref s.heap.objs.size) { s with heap := s.heap.push { cls := .type "tuple", data := .seq (vs ++ ws).toArray } })
    (hsz : vs.length + ws.length ≤ sizeLine) : wpAny (model prog w) A (binaryOp .Add (.ref t) (.ref b)) Q E s := by
  obtain ⟨⟨cls, dd, data, sl⟩, ho, hc, n, hd⟩ := id ht
  obtain ⟨⟨cls2, dd2, data2, sl2⟩, ho2, hc2, n2, hd2⟩ := id hb
  simp only at hc hd hc2 hd2
  subst hc hd hc2 hd2
  have e : vs.toArray ++ ws.toArray = (vs ++ ws).toArray := by simp
  by_cases hw : ws = []
  · exact concat_meets ⟨_, ho, rfl⟩ ⟨_, ho2, rfl⟩ noFill_tuple_add seq_tuple_add PySem.F.slot_tuple_add PySem.F.entry_tuple_add (PySem.F.args_tuple_add_2 _ _)
      (tuple_addW1 t b vs.toArray ws.toArray n n2 dd dd2 sl sl2 (by simpa using hv) (by simp [hw])) ⟨ho, ho2, h1 hw⟩
  · refine concat_meets ⟨_, ho, rfl⟩ ⟨_, ho2, rfl⟩ noFill_tuple_add seq_tuple_add PySem.F.slot_tuple_add PySem.F.entry_tuple_add (PySem.F.args_tuple_add_2 _ _)
      (tuple_addW2 t b vs.toArray ws.toArray n n2 dd dd2 sl sl2 (by simpa using hv) (by simpa using hw) (by rw [List.size_toArray, List.size_toArray]; exact hsz)) ⟨ho, ho2, ?_⟩
    rw [e]
    exact h2 hw
noncomputable def sIx (n d : Nat) : Option Int → Nat
  | none => d
  | some v => if v < 0 then (v + (n : Int)).toNat else min v.toNat n
theorem sIx_none (n d : Nat) : sIx n d none = d := rfl
theorem sIx_nat (n d k : Nat) : sIx n d (some (k : Int)) = min k n := by
  show (if (k : Int) < 0 then ((k : Int) + (n : Int)).toNat else min (k : Int).toNat n) = min k n
  rw [if_neg (by omega), Int.toNat_natCast]
theorem sIx_le (n d : Nat) (hd : d ≤ n) (o : Option Int) : sIx n d o ≤ n := by
  cases o with
  | none => exact hd
  | some v =>
    show (if v < 0 then (v + (n : Int)).toNat else min v.toNat n) ≤ n
    by_cases hv : v < 0
    · rw [if_pos hv]; omega
    · rw [if_neg hv]; exact Nat.min_le_right _ _
theorem clip_eq (v : Int) (n d : Nat) : (if v < 0 then max (v + (n : Int)) 0 else min v (n : Int)) = ((sIx n d (some v) : Nat) : Int) := by
  show (if v < 0 then max (v + (n : Int)) 0 else min v (n : Int)) = (((if v < 0 then (v + (n : Int)).toNat else min v.toNat n) : Nat) : Int)
  by_cases hv : v < 0
  · simp only [if_pos hv]; omega
  · simp only [if_neg hv]; omega
theorem adjust_gen (lo hi : Option Int) (n : Nat) : Builtin.Slice.sliceAdjust lo hi 1 (n : Int) = (((sIx n 0 lo : Nat) : Int), ((sIx n n hi : Nat) : Int)) := by
  have h1 : ¬ ((1 : Int) < 0) := by omega
  unfold Builtin.Slice.sliceAdjust
  simp only [h1, if_false]
  refine Prod.ext ?_ ?_
  · cases lo with
    | none => rfl
    | some v => exact clip_eq v n 0
  · cases hi with
    | none => rfl
    | some v => exact clip_eq v n n
theorem places_gen (i j : Nat) : Builtin.Slice.slicePlaces (i : Int) (j : Int) 1 = j - i := by
  unfold Builtin.Slice.slicePlaces
  have h1 : (1 : Int) > 0 := by omega
  simp only [h1, if_true, Int.ediv_one]
  split <;> omega
theorem slicePart_ {v : Value} {o : Option Int} {Q : Option Int → Shared → Prop} (p : IsPart v o) (h : Q o s) : wpAny (model prog w) A (Builtin.Slice.slicePartIndex v) Q E s := by
  cases p with
  | none => exact slicePart_none h
  | int i t => exact slicePart_int h
theorem sliceApplied_gen {sl : Addr} {vl vu : Value} {lo hi : Option Int} {n : Nat} {Q : Int × Int × Nat → Shared → Prop} (hs : s.heap.IsSliceOf sl vl vu .none) (pl : IsPart vl lo) (pu : IsPart vu hi)
    (h : Q (((sIx n 0 lo : Nat) : Int), 1, sIx n n hi - sIx n 0 lo) s) : wpAny (model prog w) A (Builtin.Slice.sliceApplied (.ref sl) (pure (n : Int))) Q E s := by
  obtain ⟨os, hos, hcs, hds⟩ := id hs
  unfold Builtin.Slice.sliceApplied Builtin.Slice.sliceFields
  refine wpAny_bind (wpAny_bind (wpAny_field hos hds (x := vl) rfl (wpAny_bind (wpAny_field hos hds (x := vu) rfl (wpAny_bind (wpAny_field hos hds (x := .none) rfl (wpAny_pure ?_)))))))
  refine wpAny_bind (slicePart_none ?_)
  show wpAny _ _ (if ((1 : Int) == 0) = true then _ else _) _ _ s
  rw [if_neg (by decide)]
  refine wpAny_bind (slicePart_ pl (wpAny_bind (slicePart_ pu (wpAny_bind (wpAny_pure ?_)))))
  show wpAny _ _ (match Builtin.Slice.sliceAdjust lo hi 1 (n : Int) with | (lo, hi) => pure (lo, (1 : Int), Builtin.Slice.slicePlaces lo hi 1)) _ _ s
  rw [adjust_gen lo hi n]
  show wpAny _ _ (pure (((sIx n 0 lo : Nat) : Int), (1 : Int), Builtin.Slice.slicePlaces ((sIx n 0 lo : Nat) : Int) ((sIx n n hi : Nat) : Int) 1)) _ _ s
  rw [places_gen]
  exact wpAny_pure h
theorem pick_gen (xs : Array Value) (i k : Nat) : ((List.range k).filterMap fun (m : Nat) => xs[((i : Int) + (m : Int) * 1).toNat]?).toArray = ((xs.toList.drop i).take k).toArray := by
  have e : (fun (m : Nat) => xs[((i : Int) + (m : Int) * 1).toNat]?) = fun m => xs[i + m]? := by
    funext m
    have : ((i : Int) + (m : Int) * 1).toNat = i + m := by omega
    rw [this]
  rw [e]
  have := pick_run xs i k
  rw [List.filterMap_map] at this
  have e2 : ((fun x => xs[x]?) ∘ fun x => i + x) = fun m => xs[i + m]? := rfl
  rw [e2] at this
  rw [this]
theorem getItem_tuple_cut {t sl : Addr} {items : Array Value} {vl vu : Value} {lo hi : Option Int} {Q : Value → Shared → Prop} (ht : IsTup s.heap t items) (hs : s.heap.IsSliceOf sl vl vu .none) (pl : IsPart vl lo) (pu : IsPart vu hi)
    (hw : ¬ (sIx items.size 0 lo = 0 ∧ sIx items.size items.size hi = items.size))
    (h : Q (.ref s.heap.objs.size) { s with heap := s.heap.push { cls := .type "tuple", data := .seq ((items.toList.drop (sIx items.size 0 lo)).take (sIx items.size items.size hi - sIx items.size 0 lo)).toArray } })
    (hsz : items.size ≤ sizeLine) : wpAny (model prog w) A (getItem (.ref t) (.ref sl)) Q E s := by
  have htake : sizeOk (.seq ((items.toList.drop (sIx items.size 0 lo)).take (sIx items.size items.size hi - sIx items.size 0 lo)).toArray) := by
    show ((items.toList.drop (sIx items.size 0 lo)).take (sIx items.size items.size hi - sIx items.size 0 lo)).toArray.size ≤ sizeLine
    rw [List.size_toArray, List.length_take, List.length_drop, Array.length_toList]
    omega
  have hj : sIx items.size items.size hi ≤ items.size := sIx_le _ _ (Nat.le_refl _) hi
  obtain ⟨os, hos, hcs, hds⟩ := id hs
  have hTs : s.TypeIs (.ref sl) "slice" := ⟨os, hos, hcs⟩
  unfold getItem
  try with_reducible refine wpAny_holding ?_
  first | refine wpAny_bind (wpAny_pure ?_) | skip
  refine wpAny_bind (wpAny_sequenceKey ht.typeIs (by decide) ?_)
  refine wpAny_bind (wpAny_callSpecial?_slot (name := Str.ofString "__getitem__") ht.typeIs PyProof.Rows.slot_tuple_getitem
    (wpAny_call_entry PyProof.Rows.slot_tuple_getitem ht.typeIs entry_tuple_getitem ?_ (args_tuple_getitem _ _)))
  show wpAny _ _ (Builtin.Tuple.tupleItemsOf (.ref t) >>= _) _ _ s
  refine wpAny_bind (tupleItemsOf_ ht ?_)
  refine wpAny_bind (wpAny_typeOf hTs ?_)
  rw [if_pos (by decide)]
  refine wpAny_bind (sliceApplied_gen hs pl pu ?_)
  have hno : ¬ ((((sIx items.size 0 lo : Nat) : Int) == 0 && (1 : Int) == 1 && (sIx items.size items.size hi - sIx items.size 0 lo) == items.size) = true) := by
    intro q
    rw [Bool.and_eq_true, Bool.and_eq_true] at q
    have q1 : ((sIx items.size 0 lo : Nat) : Int) = 0 := eq_of_beq q.1.1
    have q2 : sIx items.size items.size hi - sIx items.size 0 lo = items.size := eq_of_beq q.2
    exact hw ⟨by omega, by omega⟩
  show wpAny _ _ (if (((sIx items.size 0 lo : Nat) : Int) == 0 && (1 : Int) == 1 && (sIx items.size items.size hi - sIx items.size 0 lo) == items.size) = true then _ else _) _ _ s
  rw [if_neg hno, pick_gen]
  first
    | exact wpAny_bind (m := Builtin.Tuple.tupleExact _) (wpAny_newObj_type (wpAny_pure ⟨_, rfl, wpAny_pure h⟩) htake)
    | exact wpAny_bind (m := Builtin.Tuple.tupleExact _) (wpAny_newObj_type (wpAny_bind (wpAny_pure (wpAny_pure ⟨_, rfl, wpAny_pure h⟩))) htake)
    | exact wpAny_bind (wpAny_bind (m := Builtin.Tuple.tupleExact _) (wpAny_newObj_type (wpAny_pure (wpAny_pure ⟨_, rfl, wpAny_pure h⟩)) htake))
    | exact wpAny_bind (wpAny_bind (m := Builtin.Tuple.tupleExact _) (wpAny_newObj_type (wpAny_pure ⟨_, rfl, wpAny_pure h⟩) htake))
end
end HT
namespace L2
open PySem PySem.Spec PyProof.Rows
noncomputable abbrev TO := St → Hp → (Option Int → Hp → Prop) → Prop
noncomputable def PO (X : Cx) (e : Option Expr) (t : TO) : Prop :=
  ∀ (pins : List (Addr × Obj)) (s : Shared) (σ : St) (H : Hp) (Q : Option Int → Hp → Prop), Inv X pins σ H s → t σ H Q →
    wpAny (model X.prog X.w) X.A (evalPart e X.env) (fun u s' => ∃ o H', Inv X pins σ H' s' ∧ IsPart u o ∧ Q o H') X.xe s
noncomputable def tNoPart : TO := fun _ H Q => Q none H
noncomputable def tPart (t : TE) : TO := fun σ H Q => t σ H fun x H1 => ∃ i, x = .int i ∧ Q (some i) H1
section
variable {X : Cx} {e : Expr} {te : TE} {lo hi : Option Expr} {tl th : TO} {pos p2 : Pos}
theorem po_none : PO X none tNoPart := by
  intro pins s σ H Q I h
  rw [evalPart_none]
  exact wpAny_pure ⟨none, H, I, .none, h⟩
theorem po_some (h : PE X e te) : PO X (some e) (tPart te) := by
  intro pins s σ H Q I hw
  rw [evalPart_some]
  refine thn (h pins s σ H _ I hw) fun u s1 ⟨x, H1, I1, r1, q1⟩ => ?_
  obtain ⟨i, rfl, q⟩ := q1
  obtain ⟨t, rfl⟩ := r1
  exact ⟨some i, H1, I1, .int i t, q⟩
noncomputable def SlR (X : Cx) (r : V → Option Int → Option Int → Hp → VK → Prop) : Prop :=
  ∀ (pins : List (Addr × Obj)) (s : Shared) (σ : St) (H : Hp) (x : V) (v vl vu : Value) (lo hi : Option Int) (sl : Addr) (Q : VK), Inv X pins σ H s → RelV x v → s.heap.IsSliceOf sl vl vu .none → IsPart vl lo → IsPart vu hi → r x lo hi H Q →
    ∃ T id, typeLookup (.type T) "__getitem__" = pure (some (.builtin id)) ∧ s.TypeIs v T ∧ wpAny (model X.prog X.w) X.A (getItem v (.ref sl)) (EP X pins σ Q) X.xe s
theorem SlR.or {r r' : V → Option Int → Option Int → Hp → VK → Prop} (h : SlR X r) (h' : SlR X r') : SlR X (fun x lo hi H Q => r x lo hi H Q ∨ r' x lo hi H Q) := by
  intro pins s σ H x v vl vu lo hi sl Q I rx hs pl pu q
  rcases q with q | q
  · exact h pins s σ H x v vl vu lo hi sl Q I rx hs pl pu q
  · exact h' pins s σ H x v vl vu lo hi sl Q I rx hs pl pu q
noncomputable def tSl (r : V → Option Int → Option Int → Hp → VK → Prop) (te : TE) (tl th : TO) : TE := fun σ H Q => te σ H fun x H1 => tl σ H1 fun l H2 => th σ H2 fun u H3 => r x l u H3 Q
theorem pe_slice {r : V → Option Int → Option Int → Hp → VK → Prop} (hr : SlR X r) (he : PE X e te) (hl : PO X lo tl) (hu : PO X hi th) : PE X (.Subscript e (.Slice lo hi none p2) pos) (tSl r te tl th) := by
  intro pins s σ H Q I h
  refine Subscript_ (thn (he pins s σ H _ I h) fun v s1 ⟨x, H1, I1, r1, q1⟩ => ?_)
  refine wpAny_Slice (thn (hl pins s1 σ H1 _ I1 q1) fun vl s2 ⟨l, H2, I2, pl, q2⟩ => thn (hu pins s2 σ H2 _ I2 q2) fun vu s3 ⟨u, H3, I3, pu, q3⟩ => ?_)
  rw [evalPart_none]
  refine wpAny_pure ?_
  have I4 : Inv X pins σ H3 { s3 with heap := s3.heap.push { cls := .type "slice", data := .fields #[vl, vu, .none] } } := I3.kept (t' := s3.toks) fun b ob q => Heap.get?_push_of_some _ q
  obtain ⟨T, id, hT, ht, hg⟩ := hr pins { s3 with heap := s3.heap.push { cls := .type "slice", data := .fields #[vl, vu, .none] } } σ H3 x v vl vu l u s3.heap.objs.size Q I4 r1 (Heap.IsSliceOf.new ..) pl pu q3
  show wpAny (model X.prog X.w) X.A (subscriptTail e (.Slice lo hi none p2) v (.ref s3.heap.objs.size)) (EP X pins σ Q) X.xe { s3 with heap := s3.heap.push { cls := .type "slice", data := .fields #[vl, vu, .none] } }
  exact tail_any (ops := [.ref s3.heap.objs.size, v]) ht hT hg (by with_unfolding_all rfl)
noncomputable def cutV (xs : List V) (lo hi : Option Int) : List V := (xs.drop (HT.sIx xs.length 0 lo)).take (HT.sIx xs.length xs.length hi - HT.sIx xs.length 0 lo)
theorem cutV_length (xs : List V) (lo hi : Option Int) : (cutV xs lo hi).length ≤ xs.length := by
  unfold cutV
  rw [List.length_take, List.length_drop]
  omega
noncomputable def rSlT (K : PySem.W.Frag) : V → Option Int → Option Int → Hp → VK → Prop := fun x lo hi H Q => ∃ a xs, x = .ref a ∧ SqT K H a xs ∧
  ¬ (HT.sIx xs.length 0 lo = 0 ∧ HT.sIx xs.length xs.length hi = xs.length) ∧ ∀ p, H p = none → Q (.ref p) (upd H p (.tup (cutV xs lo hi)))
theorem sl_tup : SlR X (rSlT X.K) := by
  intro pins s σ H x v vl vu lo hi sl Q I rx hs pl pu h
  obtain ⟨a, xs, rfl, hx, hw, q⟩ := h
  cases rx
  obtain ⟨its, r, ht, hz⟩ := I.tuple hx
  have hlen : its.toArray.size = xs.length := by rw [List.size_toArray]; exact r.length.symm
  refine ⟨"tuple", _, PyProof.Rows.slot_tuple_getitem.lookup, ht.typeIs, ?_⟩
  refine HT.getItem_tuple_cut ht hs pl pu (by rw [hlen]; exact hw) ?_ (by rw [hlen]; exact hz)
  rw [hlen]
  refine ⟨.ref s.heap.objs.size, _, I.laid (t' := s.toks) (o := .tup (cutV xs lo hi)) (fun b ob q => Heap.get?_push_of_some _ q) (Nat.le_refl _) ?_, rfl, q _ (I.hok.fresh (Nat.le_refl _))⟩
  exact ⟨Nat.le_trans (cutV_length xs lo hi) hz, _, (r.drop (HT.sIx xs.length 0 lo)).take (HT.sIx xs.length xs.length hi - HT.sIx xs.length 0 lo), IsTup.new _ _⟩
noncomputable def rCatT (K : PySem.W.Frag) : R2 := fun x y H Q => ∃ a b xs ys, x = .ref a ∧ y = .ref b ∧ SqT K H a xs ∧ SqT K H b ys ∧ xs ≠ [] ∧ xs.length + ys.length ≤ sizeLine ∧
  (ys = [] → Q (.ref a) H) ∧ (ys ≠ [] → ∀ p, H p = none → Q (.ref p) (upd H p (.tup (xs ++ ys))))
theorem Vals.nil_iff {xs : List V} {us : List Value} (r : Vals xs us) : us = [] ↔ xs = [] := by
  cases r with
  | nil => simp
  | cons _ _ => simp
theorem op_catT : OpR X (binaryOp .Add) (rCatT X.K) := by
  intro pins s σ H x y v u Q I rx ry h
  obtain ⟨a, b, xs, ys, rfl, rfl, ha, hb, hx, hz, q1, q2⟩ := h
  cases rx
  cases ry
  obtain ⟨its, r1, p1, _⟩ := I.tuple ha
  obtain ⟨its2, r2, p2, _⟩ := I.tuple hb
  refine HT.cat_tup p1 p2 (fun z => hx (r1.nil_iff.mp z)) (fun z => ⟨.ref a, H, I, rfl, q1 (r2.nil_iff.mp z)⟩) (fun z => ?_) (by rw [← r1.length, ← r2.length]; exact hz)
  refine ⟨.ref s.heap.objs.size, _, I.laid (t' := s.toks) (o := .tup (xs ++ ys)) (fun b ob q => Heap.get?_push_of_some _ q) (Nat.le_refl _) ?_, rfl, q2 (fun w => z (r2.nil_iff.mpr w)) _ (I.hok.fresh (Nat.le_refl _))⟩
  exact ⟨by rw [List.length_append]; exact hz, _, r1.append r2, IsTup.new _ _⟩
end
end L2
namespace L2
open PySem PySem.Spec PyProof.Rows
noncomputable def ixN (n : Nat) (i : Int) : Option Nat := if 0 ≤ i then (if i < n then some i.toNat else none) else if -(n : Int) ≤ i then some (i + n).toNat else none
noncomputable def atI {α : Type} (xs : List α) (i : Int) : Option α := (ixN xs.length i).bind fun j => xs[j]?
theorem ixN_seq {n : Nat} {i : Int} {j : Nat} (h : ixN n i = some j) : seqIndex? i n = some j ∧ j < n ∧ -(n : Int) ≤ i ∧ i < n := by
  unfold ixN at h
  by_cases h0 : 0 ≤ i
  · rw [if_pos h0] at h
    by_cases h1 : i < n
    · rw [if_pos h1] at h
      have e : i.toNat = j := Option.some.inj h
      exact ⟨by rw [seqIndex_of h0 h1, e], by omega, by omega, h1⟩
    · rw [if_neg h1] at h; cases h
  · rw [if_neg h0] at h
    by_cases h1 : -(n : Int) ≤ i
    · rw [if_pos h1] at h
      have e : (i + n).toNat = j := Option.some.inj h
      exact ⟨by rw [seqIndex_neg (by omega) h1, e], by omega, h1, by omega⟩
    · rw [if_neg h1] at h; cases h
theorem atI_get {α : Type} {xs : List α} {i : Int} {v : α} (h : atI xs i = some v) : ∃ j, seqIndex? i xs.length = some j ∧ xs[j]? = some v ∧ j < xs.length ∧ -(xs.length : Int) ≤ i ∧ i < xs.length := by
  unfold atI at h
  cases e : ixN xs.length i with
  | none => rw [e] at h; cases h
  | some j =>
    rw [e] at h
    obtain ⟨h1, h2, h3, h4⟩ := ixN_seq e
    exact ⟨j, h1, h, h2, h3, h4⟩
theorem atI_nat {α : Type} {xs : List α} {j : Nat} {v : α} (h : xs[j]? = some v) : atI xs (j : Int) = some v := by
  have hj : j < xs.length := (List.getElem?_eq_some_iff.mp h).1
  have e : ixN xs.length (j : Int) = some j := by
    unfold ixN
    rw [if_pos (by omega), if_pos (by omega)]; simp
  unfold atI; rw [e]; exact h
noncomputable def PlainIx (b : Expr) : Prop := ∀ o i, subscripted b false o i = operate [o, i] (getItem o i)
noncomputable def IxR (X : Cx) (r : R2) : Prop :=
  ∀ (value slice : Expr) (pins : List (Addr × Obj)) (s : Shared) (σ : St) (H : Hp) (x y : V) (v u : Value) (Q : VK), Inv X pins σ H s → RelV x v → RelV y u → r x y H Q →
    subscripted slice false v u = operate [v, u] (getItem v u) → wpAny (model X.prog X.w) X.A (subscriptTail value slice v u) (EP X pins σ Q) X.xe s
noncomputable def MtR (X : Cx) (id : String) (r : V → List V → Hp → VK → Prop) : Prop :=
  ∀ (pins : List (Addr × Obj)) (s : Shared) (σ : St) (H : Hp) (x : V) (xs : List V) (v : Value) (us : List Value) (Q : VK), Inv X pins σ H s → RelV x v → Vals xs us → r x xs H Q →
    wpAny (model X.prog X.w) X.A (call (.builtin id) (v :: us)) (EP X pins σ Q) X.xe s
section
variable {X : Cx} {a b : Expr} {ta tb : TE} {pos : Pos}
theorem IxR.or {r r' : R2} (h : IxR X r) (h' : IxR X r') : IxR X (fun x y H Q => r x y H Q ∨ r' x y H Q) := by
  intro value slice pins s σ H x y v u Q I rx ry q hs
  rcases q with q | q
  · exact h value slice pins s σ H x y v u Q I rx ry q hs
  · exact h' value slice pins s σ H x y v u Q I rx ry q hs
theorem pe_ix {r : R2} (hr : IxR X r) (ha : PE X a ta) (hb : PE X b tb) (hs : PlainIx b) : PE X (.Subscript a b pos) (tOp r ta tb) := by
  intro pins s σ H Q I h
  exact Subscript_ (binT ha hb I h fun v u s2 x y H2 I2 rx ry q => hr a b pins s2 σ H2 x y v u Q I2 rx ry q (hs _ _))
noncomputable def rIxL (K : PySem.W.Frag) : R2 := fun x y H Q => ∃ p xs i v, x = .ref p ∧ y = .int i ∧ SqL K H p xs ∧ atI xs i = some v ∧ Q v H
noncomputable def rIxT (K : PySem.W.Frag) : R2 := fun x y H Q => ∃ p xs i v, x = .ref p ∧ y = .int i ∧ SqT K H p xs ∧ atI xs i = some v ∧ Q v H
noncomputable def rIxS : R2 := fun x y H Q => ∃ z i c, x = .str z ∧ y = .int i ∧ z.length ≤ sizeLine ∧ atI z.cps.toList i = some c ∧ Q (.str ⟨#[c]⟩) H
theorem ix_list : IxR X (rIxL X.K) := by
  intro value slice pins s σ H x y v u Q I rx ry h hs
  obtain ⟨p, xs, i, z, rfl, rfl, hq, he, q⟩ := h
  cases rx
  obtain ⟨t, rfl⟩ := ry
  obtain ⟨its, r, pl, hz⟩ := I.list hq
  obtain ⟨j, h1, h2, h3, h4, h5⟩ := atI_get he
  obtain ⟨w, ew, rw'⟩ := r.get h2
  have hl := r.length
  have hn := line63
  have fin : EP X pins σ Q w s := ⟨z, H, I, rw', q⟩
  by_cases h0 : 0 ≤ i
  · have hj : i.toNat = j := by
      rw [seqIndex_of h0 h5] at h1
      exact Option.some.inj h1
    exact item_listR pl.isList h0 (by omega) (by rw [hj]; simpa using ew) fin hs
  · have hj : (i + (its.toArray.size : Int)).toNat = j := by
      rw [seqIndex_neg (by omega) h4] at h1
      rw [List.size_toArray, ← hl]
      exact Option.some.inj h1
    exact subscriptTail_builtinR (x := w) pl.isList.typeIs slot_list_getitem.lookup
      (wpAny_getItem_list_neg (Q := fun r s' => r = w ∧ EP X pins σ Q r s') pl.isList (by omega) (by rw [List.size_toArray] <;> omega) (by omega) (by rw [hj]; simpa using ew) ⟨rfl, fin⟩) hs
theorem ix_tup : IxR X (rIxT X.K) := by
  intro value slice pins s σ H x y v u Q I rx ry h hs
  obtain ⟨p, xs, i, z, rfl, rfl, hq, he, q⟩ := h
  cases rx
  obtain ⟨t, rfl⟩ := ry
  obtain ⟨its, r, pl, hz⟩ := I.tuple hq
  obtain ⟨j, h1, h2, h3, h4, h5⟩ := atI_get he
  obtain ⟨w, ew, rw'⟩ := r.get h2
  have hl := r.length
  have hn := line63
  have fin : EP X pins σ Q w s := ⟨z, H, I, rw', q⟩
  exact subscriptTail_builtinR (x := w) pl.typeIs slot_tuple_getitem.lookup
    (getItem_tuple (j := j) (Q := fun r s' => r = w ∧ EP X pins σ Q r s') pl (by omega) (by omega) (by rw [List.size_toArray, ← hl]; exact h1) (by simpa using ew) ⟨rfl, fin⟩) hs
theorem ix_str : IxR X rIxS := by
  intro value slice pins s σ H x y v u Q I rx ry h hs
  obtain ⟨z, i, c, rfl, rfl, hz, he, q⟩ := h
  obtain ⟨t, rfl⟩ := rx
  obtain ⟨t', rfl⟩ := ry
  obtain ⟨j, h1, h2, h3, h4, h5⟩ := atI_get he
  have hl : z.cps.toList.length = z.length := by simp [Str.length]
  rw [hl] at h1 h4 h5
  have hn := line63
  exact tail_any (typeIs_str s z t) slot_str_getitem.lookup (getItem_str (c := c) (by
    have e1 : decide (i < -(2 ^ 63 : Int)) = false := decide_eq_false (by omega)
    have e2 : decide (i ≥ 2 ^ 63) = false := decide_eq_false (by omega)
    rw [e1, e2, Bool.or_false]) (by rw [h1]; simpa using h2) ⟨.str ⟨#[c]⟩, H, I.tok _, ⟨_, rfl⟩, q⟩) hs
noncomputable def rIx (K : PySem.W.Frag) : R2 := fun x y H Q => rIxL K x y H Q ∨ rIxT K x y H Q ∨ rIxS x y H Q
theorem ix_seq : IxR X (rIx X.K) := ix_list.or (ix_tup.or ix_str)
theorem mapSeq_set (its : List Value) (n j : Nat) (u : Value) : Obj.mapSeq (·.setIfInBounds j u) { cls := .type "list", data := .seq its.toArray n } = { cls := .type "list", data := .seq (its.set j u).toArray n } := by
  simp [Obj.mapSeq]
theorem Inv.lst {pins : List (Addr × Obj)} {σ : St} {H : Hp} {s : Shared} {p : Addr} {xs : List V} (I : Inv X pins σ H s) (h : H p = some (.lst xs)) :
    ∃ (its : List Value) (n : Nat), Vals xs its ∧ s.heap.get? p = some { cls := .type "list", data := .seq its.toArray n } ∧ xs.length ≤ sizeLine := by
  obtain ⟨z, its, n, r, e⟩ := I.hok p _ h
  exact ⟨its, n, r, e, z⟩
theorem Inv.lstUpd {pins : List (Addr × Obj)} {σ : St} {H : Hp} {s : Shared} {p : Addr} {xs ys : List V} {its its' : List Value} {n n' : Nat} {f : Obj → Obj} (I : Inv X pins σ H s) (h : H p = some (.lst xs))
    (ho : s.heap.get? p = some { cls := .type "list", data := .seq its.toArray n }) (hf : f { cls := .type "list", data := .seq its.toArray n } = { cls := .type "list", data := .seq its'.toArray n' }) (r : Vals ys its') (hz : ys.length ≤ sizeLine) (t : Nat) :
    Inv X pins σ (upd H p (.lst ys)) { s with heap := s.heap.update p f, toks := t } := by
  have e : (s.heap.update p f).get? p = some { cls := .type "list", data := .seq its'.toArray n' } := by
    rw [Heap.get?_update_self f ho (by rw [hf] <;> rfl), hf]
  refine I.write (x := p) (e := p) (by rw [h]; trivial) (.inl rfl) (fun b u hb q => (Heap.get?_update_other _ _ (Ne.symm hb)).trans q) ⟨_, e⟩ ?_
  exact ⟨hz, its', n', r, e⟩
noncomputable def rSetL : V → V → V → Hp → (Hp → Prop) → Prop := fun o i v H Q => ∃ p xs k j, o = .ref p ∧ i = .int k ∧ H p = some (.lst xs) ∧ ixN xs.length k = some j ∧ Q (upd H p (.lst (xs.set j v)))
theorem set_list : PSet X rSetL := by
  intro pins s σ H o i v ov iv u Q I ro ri rv h
  obtain ⟨p, xs, k, j, rfl, rfl, hp, hj, q⟩ := h
  cases ro
  obtain ⟨t, rfl⟩ := ri
  obtain ⟨its, n, r, ho, hz⟩ := I.lst hp
  obtain ⟨h1, h2, h3, h4⟩ := ixN_seq hj
  have hl := r.length
  have hn := line63
  have I' : Inv X pins σ (upd H p (.lst (xs.set j v))) { s with heap := s.heap.update p (Obj.mapSeq (·.setIfInBounds j u)) } :=
    I.lstUpd hp ho (mapSeq_set its n j u) (r.set rv j) (by rw [List.length_set]; exact hz) s.toks
  by_cases h0 : 0 ≤ k
  · have hk : k.toNat = j := by
      rw [seqIndex_of h0 h4] at h1
      exact Option.some.inj h1
    exact PySem.W.ki_setAt ho h0 (by omega) (by rw [List.size_toArray, ← hl]; exact h4) (by rw [hk]; exact ⟨_, I', q⟩)
  · have hk : (k + (its.toArray.size : Int)).toNat = j := by
      rw [seqIndex_neg (by omega) h3] at h1
      rw [List.size_toArray, ← hl]
      exact Option.some.inj h1
    exact PySem.W.ki_setBack ho (by omega) (by rw [List.size_toArray, ← hl]; exact h3) (by omega) (by rw [hk]; exact ⟨_, I', q⟩)
theorem slice_bounds (lo hi : Option Int) (n : Nat) : (sliceBounds lo hi none n).1 = ((HT.sIx n 0 lo : Nat) : Int) ∧ (sliceBounds lo hi none n).2.1 = ((HT.sIx n n hi : Nat) : Int) ∧ (sliceBounds lo hi none n).2.2 = 1 := by
  refine ⟨?_, ?_, rfl⟩
  · cases lo with
    | none => simp [sliceBounds, HT.sIx]
    | some i =>
      simp only [sliceBounds, HT.sIx, Option.getD_none, show (1 : Int) > 0 by decide, if_true]
      by_cases h : i < 0
      · simp only [h, if_true] <;> omega
      · simp only [h, if_false] <;> omega
  · cases hi with
    | none => simp [sliceBounds, HT.sIx]
    | some i =>
      simp only [sliceBounds, HT.sIx, Option.getD_none, show (1 : Int) > 0 by decide, if_true]
      by_cases h : i < 0
      · simp only [h, if_true] <;> omega
      · simp only [h, if_false] <;> omega
theorem slicePick_cut (its : List Value) (lo hi : Option Int) : slicePick its.toArray lo hi none = ((its.drop (HT.sIx its.length 0 lo)).take (HT.sIx its.length its.length hi - HT.sIx its.length 0 lo)).toArray := by
  obtain ⟨h1, h2, h3⟩ := slice_bounds lo hi its.toArray.size
  unfold slicePick
  rw [h1, h2, h3]
  simp only [sliceRange_one, pick_run, List.size_toArray] <;> rfl
noncomputable def rSlL (K : PySem.W.Frag) : V → Option Int → Option Int → Hp → VK → Prop := fun x lo hi H Q => ∃ a xs, x = .ref a ∧ SqL K H a xs ∧ ∀ p, H p = none → Q (.ref p) (upd H p (.lst (cutV xs lo hi)))
theorem sl_list : SlR X (rSlL X.K) := by
  intro pins s σ H x v vl vu lo hi sl Q I rx hs pl pu h
  obtain ⟨a, xs, rfl, hx, q⟩ := h
  cases rx
  obtain ⟨its, r, ht, hz⟩ := I.list hx
  have hlen := r.length
  refine ⟨"list", _, slot_list_getitem.lookup, ht.isList.typeIs, ?_⟩
  refine wpAny_getItem_list_slice ht.isList hs pl pu .none (by simp) ?_ (by rw [List.size_toArray] <;> omega)
  rw [slicePick_cut, ← hlen]
  refine ⟨.ref s.heap.objs.size, _, I.laid (t' := s.toks) (o := .lst (cutV xs lo hi)) (fun b ob q => Heap.get?_push_of_some _ q) (Nat.le_refl _) ?_, rfl, q _ (I.hok.fresh (Nat.le_refl _))⟩
  exact ⟨Nat.le_trans (cutV_length xs lo hi) hz, _, 0, (r.drop (HT.sIx xs.length 0 lo)).take (HT.sIx xs.length xs.length hi - HT.sIx xs.length 0 lo), Heap.get?_push_size _ rfl⟩
theorem call_len_seq : CallR X (.builtin "len") (fun xs H Q => ∃ p ys, xs = [.ref p] ∧ (SqL X.K H p ys ∨ SqT X.K H p ys) ∧ Q (.int ys.length) H) := by
  intro pins s σ H xs us Q I r h
  obtain ⟨p, ys, rfl, hq, q⟩ := h
  obtain ⟨u, rfl, rx⟩ := vals1 r
  cases rx
  have hn := line63
  rcases hq with hq | hq
  · obtain ⟨its, r', pl, hz⟩ := I.list hq
    have hlen := r'.length
    exact Calls.call_len_list pl.isList (by simp only [List.size_toArray] <;> omega) ⟨.int ys.length, H, I.tok _, ⟨s.toks + 1, by rw [List.size_toArray, hlen]⟩, q⟩
  · obtain ⟨its, r', pl, hz⟩ := I.tuple hq
    have hlen := r'.length
    exact len_tuple pl (by simp only [List.size_toArray] <;> omega) ⟨.int ys.length, H, I.tok _, ⟨s.toks + 1, by rw [List.size_toArray, hlen]⟩, q⟩
theorem call_len_str : CallR X (.builtin "len") (fun xs H Q => ∃ z, xs = [.str z] ∧ z.length ≤ sizeLine ∧ Q (.int z.length) H) := by
  intro pins s σ H xs us Q I r h
  obtain ⟨z, rfl, hz, q⟩ := h
  obtain ⟨u, rfl, t, rfl⟩ := vals1 r
  have hn := line63
  exact len_str (by omega) ⟨.int z.length, H, I.tok _, ⟨_, rfl⟩, q⟩
theorem call_list_of : CallR X (.type "list") (fun xs H Q => ∃ p ys, xs = [.ref p] ∧ (SqL X.K H p ys ∨ SqT X.K H p ys) ∧ ∀ l, H l = none → Q (.ref l) (upd H l (.lst ys))) := by
  intro pins s σ H xs us Q I r h
  obtain ⟨p, ys, rfl, hq, q⟩ := h
  obtain ⟨u, rfl, rx⟩ := vals1 r
  cases rx
  have fin : ∀ (its : List Value), Vals ys its → ys.length ≤ sizeLine → ∀ (h' : Heap) (c' : Nat), (∀ b o', s.heap.get? b = some o' → h'.get? b = some o') →
      h'.get? s.heap.objs.size = some { cls := .type "list", dict := none, data := .seq its.toArray c', slots := #[] } → EP X pins σ Q (.ref s.heap.objs.size) { s with heap := h' } := fun its r' hz h' c' kp e =>
    ⟨.ref s.heap.objs.size, _, I.laid (t' := s.toks) kp (Nat.le_refl _) (show ObjOk X.prog X.w _ h' _ (.lst ys) from ⟨hz, its, c', r', e⟩), rfl, q _ (I.hok.fresh (Nat.le_refl _))⟩
  rcases hq with hq | hq
  · obtain ⟨its, r', pl, hz⟩ := I.list hq
    have hlen := r'.length
    obtain ⟨o, ho, hc, n, hd⟩ := pl.isList
    exact call_list_seq p (.inl rfl) ho hc hd (fun h' c' kp e => fin its r' hz h' c' kp e) (by simp only [List.size_toArray] <;> omega)
  · obtain ⟨its, r', pl, hz⟩ := I.tuple hq
    have hlen := r'.length
    obtain ⟨o, ho, hc, n, hd⟩ := pl
    exact call_list_seq p (.inr rfl) ho hc hd (fun h' c' kp e => fin its r' hz h' c' kp e) (by simp only [List.size_toArray] <;> omega)
theorem call_tuple_of : CallR X (.type "tuple") (fun xs H Q => ∃ p ys, xs = [.ref p] ∧ ((SqL X.K H p ys ∧ ∀ l, H l = none → Q (.ref l) (upd H l (.tup ys))) ∨ (SqT X.K H p ys ∧ Q (.ref p) H))) := by
  intro pins s σ H xs us Q I r h
  obtain ⟨p, ys, rfl, h⟩ := h
  obtain ⟨u, rfl, rx⟩ := vals1 r
  cases rx
  rcases h with ⟨hq, q⟩ | ⟨hq, q⟩
  · obtain ⟨its, r', pl, hz⟩ := I.list hq
    have hlen := r'.length
    refine call_tuple_list pl.isList (fun h' kp => ?_) (by simp only [List.size_toArray] <;> omega)
    have I1 : Inv X pins σ H { s with heap := h' } := I.kept (t' := s.toks) kp
    have I2 : Inv X pins σ (upd H h'.objs.size (.tup ys)) { s with heap := h'.push { cls := .type "tuple", data := .seq its.toArray } } :=
      I1.laid (t' := s.toks) (fun b o e => Heap.get?_push_of_some _ e) (Nat.le_refl _) (show ObjOk X.prog X.w _ _ _ (.tup ys) from ⟨hz, its, r', IsTup.new _ _⟩)
    exact ⟨.ref h'.objs.size, _, I2, rfl, q _ (I1.hok.fresh (Nat.le_refl _))⟩
  · obtain ⟨its, r', pl, hz⟩ := I.tuple hq
    exact call_tuple_same pl ⟨.ref p, H, I, rfl, q⟩
noncomputable def tyV (K : PySem.W.Frag) (T : String) (x : V) (H : Hp) : Prop := match x with
  | .str _ => T = "str"
  | .int _ => T = "int"
  | .ref p => (T = "list" ∧ ∃ xs, SqL K H p xs) ∨ (T = "tuple" ∧ ∃ o, K.lookup p = some o ∧ o.cls = .type "tuple" ∧ o.dict = none) ∨
      (T = "dict" ∧ ((∃ kvs, H p = some (.dK kvs)) ∨ ∃ kvs, H p = some (.dT kvs))) ∨ (T = "set" ∧ ∃ S n, H p = some (.set S n))
  | _ => False
theorem tyV_is {pins : List (Addr × Obj)} {σ : St} {H : Hp} {s : Shared} {T : String} {x : V} {v : Value} (I : Inv X pins σ H s) (r : RelV x v) (ty : tyV X.K T x H) :
    s.TypeIs v T ∧ ∀ a, v = .ref a → ∃ ob, s.heap.get? a = some ob ∧ ob.dict = none := by
  cases x with
  | str z =>
    obtain ⟨t, rfl⟩ := r
    cases (show T = "str" from ty)
    exact ⟨typeIs_str s z t, fun _ e => nomatch e⟩
  | int i =>
    obtain ⟨t, rfl⟩ := r
    cases (show T = "int" from ty)
    exact ⟨typeIs_int s i t, fun _ e => nomatch e⟩
  | ref p =>
    cases r
    rcases ty with ⟨rfl, xs, hq⟩ | ⟨rfl, o, hk, hc, hd⟩ | ⟨rfl, hk⟩ | ⟨rfl, S, n, hk⟩
    · obtain ⟨its, _, pl, _⟩ := I.list hq
      refine ⟨pl.isList.typeIs, fun a e => ?_⟩
      cases e
      obtain ⟨o, n, e, c, hd, _⟩ := pl
      exact ⟨o, e, hd⟩
    · refine ⟨⟨o, I.kIn p o hk, hc⟩, fun a e => ?_⟩
      cases e
      exact ⟨o, I.kIn _ o hk, hd⟩
    · have z : ∃ o, s.heap.get? p = some o ∧ o.ExactDict := by
        rcases hk with ⟨kvs, hk⟩ | ⟨kvs, hk⟩
        · obtain ⟨_, _, _, _, o, _, _, e, ex, _⟩ := I.hok p _ hk
          exact ⟨o, e, ex⟩
        · obtain ⟨_, _, _, _, o, _, _, e, ex, _⟩ := I.hok p _ hk
          exact ⟨o, e, ex⟩
      obtain ⟨o, e, ex⟩ := z
      refine ⟨⟨o, e, ex.1⟩, fun a e2 => ?_⟩
      cases e2
      exact ⟨o, e, ex.2.1⟩
    · obtain ⟨o, _, _, _, e, ex, _⟩ := I.hok p _ hk
      refine ⟨⟨o, e, ex.1⟩, fun a e2 => ?_⟩
      cases e2
      exact ⟨o, e, ex.2.1⟩
  | _ => exact False.elim ty
noncomputable def tBM (K : PySem.W.Frag) (T : String) (r : V → List V → Hp → VK → Prop) (to : TE) (t : TA) : TE := fun σ H Q => to σ H fun x H1 => tyV K T x H1 ∧ t σ H1 fun xs H2 => r x xs H2 Q
variable {o e : Expr} {es : List Expr} {to : TE} {t : TA} {name : Str} {apos cpos : Pos} {T id : String} {r : V → List V → Hp → VK → Prop}
theorem pe_bm (pa : PlainAttrs T) (slot : Slot T name id) (hty : typeOf (.builtin id) = pure (.type "method_descriptor")) (hm : MtR X id r) (ho : PE X o to) (ha : PA X (e :: es) t)
    (hbase : attributeBase o name X.env (eval o X.env) = eval o X.env := by rfl)
    (hfew : ((backTo cpos (starEach (e :: es) X.env)).all (fun x => !x.1) && (backToKw cpos (keywordEach [] X.env)).all (fun x => x.1.isSome)
      && decide ((e :: es).length + ([] : List Keyword).length + (if ([] : List Keyword).isEmpty then 0 else 1) < 30)) = true := by rfl)
    (hline : (apos.endLine == cpos.line) = true := by rfl) (hs : starEach (e :: es) X.env = (false, eval e X.env) :: starEach es X.env := by rfl) (hplain : (backTo cpos (starEach es X.env)).any (·.1) = false := by rfl) :
    PE X (.Call (.Attribute o name apos) (e :: es) [] cpos) (tBM X.K T r to t) := by
  intro pins s σ H Q I h
  refine wpAny_Call_method_late hbase hfew hline rfl (thn (ho pins s σ H _ I h) fun v s1 ⟨x, H1, I1, r1, ty, q1⟩ => ?_)
  obtain ⟨h1, h2⟩ := tyV_is I1 r1 ty
  refine ⟨T, id, pa, slot, hty, h1, h2, ?_⟩
  have hA := ha cpos pins s1 σ H1 _ I1 q1
  rw [hs] at hA ⊢
  refine Calls.callWith_builtin (by show (false || (backTo cpos (starEach es X.env)).any (·.1)) = false; rw [hplain] <;> rfl) (Calls.evalArgs_plain ?_)
  exact thn hA fun us s2 ⟨vs, H2, I2, r2, q2⟩ => hm pins s2 σ H2 x vs v us Q I2 r1 r2 q2
end
end L2
namespace L2
open PySem PySem.Spec PyProof.Rows
noncomputable def MtM (X : Cx) (id : String) (r : V → List V → Hp → VK → Prop) : Prop :=
  ∀ (pins : List (Addr × Obj)) (s : Shared) (σ : St) (H : Hp) (x : V) (xs : List V) (v : Value) (us : List Value) (Q : VK), Inv X pins σ H s → RelV x v → Vals xs us → r x xs H Q →
    wpAny (model X.prog X.w) X.A (call (.builtin id) (v :: us)) (EP X pins σ Q) X.xe s
theorem Vals.uncons {x : V} {xs : List V} {us : List Value} (h : Vals (x :: xs) us) : ∃ u ws, us = u :: ws ∧ RelV x u ∧ Vals xs ws := by
  cases h with
  | cons r t => exact ⟨_, _, rfl, r, t⟩
theorem Vals.unnil {us : List Value} (h : Vals [] us) : us = [] := by
  cases h
  rfl
theorem Vals.one {x : V} {us : List Value} (h : Vals [x] us) : ∃ u, us = [u] ∧ RelV x u := by
  obtain ⟨u, ws, e, r, t⟩ := h.uncons
  exact ⟨u, by rw [e, t.unnil], r⟩
theorem Vals.rep {xs : List V} {us : List Value} (h : Vals xs us) : ∀ k : Nat, Vals (List.replicate k xs).flatten (List.replicate k us).flatten
  | 0 => .nil
  | k + 1 => by
    rw [List.replicate_succ, List.replicate_succ, List.flatten_cons, List.flatten_cons]
    exact Vals.append h (Vals.rep h k)
theorem foldl_rep (its : List Value) : ∀ (k : Nat) (acc : List Value),
    List.foldl (fun x1 x2 => x1 ++ x2) acc.toArray (List.replicate k its.toArray) = (acc ++ (List.replicate k its).flatten).toArray
  | 0, acc => by simp
  | k + 1, acc => by
    have e : acc.toArray ++ its.toArray = (acc ++ its).toArray := by simp
    have e2 : (acc ++ its) ++ (List.replicate k its).flatten = acc ++ (List.replicate (k + 1) its).flatten := by
      rw [List.replicate_succ, List.flatten_cons, List.append_assoc]
    rw [← e2, ← foldl_rep its k (acc ++ its), ← e, List.replicate_succ, List.foldl_cons]
section
variable {X : Cx} {pins : List (Addr × Obj)} {σ : St} {H : Hp} {s : Shared} {l b : Addr} {xs ys zs : List V}
theorem Inv.lset {its its' : List Value} {n : Nat} {f : Array Value → Array Value} {t' : Nat} (I : Inv X pins σ H s) (hH : H l = some (.lst xs))
    (e : s.heap.get? l = some { cls := .type "list", data := .seq its.toArray n }) (hf : f its.toArray = its'.toArray) (hv : Vals ys its') (hz : ys.length ≤ sizeLine) :
    Inv X pins σ (upd H l (.lst ys)) { s with heap := s.heap.update l (Obj.mapSeq f), toks := t' } := by
  have q := PySem.IsL.update e f
  rw [hf] at q
  refine I.write (x := l) (e := l) (by rw [hH]; exact trivial) (.inl rfl) (fun b' u hb hu => (Heap.get?_update_other s.heap (Obj.mapSeq f) (Ne.symm hb)).trans hu) ⟨_, q⟩ ?_
  exact ⟨hz, its', _, hv, q⟩
theorem Inv.lnew {its : List Value} {t' : Nat} (I : Inv X pins σ H s) (hv : Vals ys its) (hz : ys.length ≤ sizeLine) :
    Inv X pins σ (upd H s.heap.objs.size (.lst ys)) { s with heap := s.heap.push { cls := .type "list", data := .seq its.toArray }, toks := t' } :=
  I.laid (fun _ _ q => Heap.get?_push_of_some _ q) (Nat.le_refl _) ⟨hz, its, 0, hv, Heap.get?_push_size _ rfl⟩
theorem Inv.fresh (I : Inv X pins σ H s) : H s.heap.objs.size = none := I.hok.fresh (Nat.le_refl _)
theorem Inv.lstM (I : Inv X pins σ H s) (hH : H l = some (.lst xs)) : xs.length ≤ sizeLine ∧ ∃ (its : List Value) (n : Nat), Vals xs its ∧ xs.length = its.length ∧ s.heap.get? l = some { cls := .type "list", data := .seq its.toArray n } := by
  obtain ⟨z, its, n, r, e⟩ := I.hok l _ hH
  exact ⟨z, its, n, r, r.length, e⟩
theorem notLongL {n : Nat} (h : n ≤ sizeLine) : Builtin.List.listTooLong n = false := by
  unfold Builtin.List.listTooLong
  exact decide_eq_false (by omega)
end
section
variable {X : Cx}
noncomputable def rAppend : V → List V → Hp → VK → Prop := fun x vs H Q => ∃ l xs y, x = .ref l ∧ vs = [y] ∧ H l = some (.lst xs) ∧ xs.length < sizeLine ∧ Q .non (upd H l (.lst (xs ++ [y])))
theorem mt_append : MtM X "list.append" rAppend := by
  intro pins s σ H x vs v us Q I rx rv h
  obtain ⟨l, xs, y, rfl, rfl, hH, hz, q⟩ := h
  cases rx
  obtain ⟨u, rfl, ru⟩ := rv.one
  obtain ⟨z, its, n, r, hl, e⟩ := I.lstM hH
  refine call_meets F.slot_list_append ⟨_, e, rfl⟩ F.entry_list_append (F.args_list_append_2 _ _) (PySem.list_append l its.toArray n u (by rw [List.size_toArray]; omega)) ⟨e, ?_⟩
  refine ⟨.non, _, I.lset (its' := its ++ [u]) hH e (by simp) (r.append (.cons ru .nil)) ?_, rfl, q⟩
  rw [List.length_append, List.length_singleton]
  omega
noncomputable def rCat : R2 := fun x y H Q => ∃ l b xs zs, x = .ref l ∧ y = .ref b ∧ H l = some (.lst xs) ∧ H b = some (.lst zs) ∧ xs.length + zs.length ≤ sizeLine ∧ ∀ p, H p = none → Q (.ref p) (upd H p (.lst (xs ++ zs)))
theorem op_cat : OpR X (binaryOp .Add) rCat := by
  intro pins s σ H x y v u Q I rx ry h
  obtain ⟨l, b, xs, zs, rfl, rfl, hH, hB, hz, q⟩ := h
  cases rx
  cases ry
  obtain ⟨z, its, n, r, hl, e⟩ := I.lstM hH
  obtain ⟨z2, its2, n2, r2, hl2, e2⟩ := I.lstM hB
  refine PySem.P.add_list e e2 ?_ (by rw [List.size_toArray, List.size_toArray]; omega)
  have ea : its.toArray ++ its2.toArray = (its ++ its2).toArray := by simp
  rw [ea]
  exact ⟨.ref _, _, I.lnew (t' := s.toks) (r.append r2) (by rw [List.length_append]; omega), rfl, q _ I.fresh⟩
noncomputable def rRep : R2 := fun x y H Q => ∃ l k xs, x = .ref l ∧ y = .int k ∧ H l = some (.lst xs) ∧ -(2 ^ 63) ≤ k ∧ k < 2 ^ 63 ∧ xs.length * k.toNat ≤ sizeLine ∧
  ∀ p, H p = none → Q (.ref p) (upd H p (.lst (List.replicate k.toNat xs).flatten))
theorem len_rep {α : Type} (xs : List α) (k : Nat) : (List.replicate k xs).flatten.length = k * xs.length := by
  induction k with
  | zero => simp
  | succ k ih => rw [List.replicate_succ, List.flatten_cons, List.length_append, ih, Nat.succ_mul, Nat.add_comm]
theorem op_rep : OpR X (binaryOp .Mult) rRep := by
  intro pins s σ H x y v u Q I rx ry h
  obtain ⟨l, k, xs, rfl, rfl, hH, h1, h2, hz, q⟩ := h
  cases rx
  obtain ⟨t, rfl⟩ := ry
  obtain ⟨z, its, n, r, hl, e⟩ := I.lstM hH
  have hlen : its.toArray.size * k.toNat ≤ sizeLine := by rw [List.size_toArray, ← hl]; exact hz
  have hcap : ¬ its.toArray.size * k.toNat > (2 ^ 63 - 1) / 8 := by
    have : (sizeLine : Nat) ≤ (2 ^ 63 - 1) / 8 := by decide
    omega
  have hfit : ¬ (!Builtin.List.listFitsIndex k) = true := by
    rw [fitsIndex_both h1 h2]
    exact Bool.false_ne_true
  have hlong : ¬ Builtin.List.listTooLong (its.toArray.size * k.toNat) = true := by
    rw [notLongL hlen]
    exact Bool.false_ne_true
  have hnew : List.foldl (fun x1 x2 => x1 ++ x2) #[] (List.replicate (if its.toArray.isEmpty = true then 0 else k.toNat) its.toArray) = (List.replicate k.toNat its).flatten.toArray := by
    have f0 : ∀ m : Nat, List.foldl (fun x1 x2 => x1 ++ x2) #[] (List.replicate m its.toArray) = (List.replicate m its).flatten.toArray := fun m => by
      have := foldl_rep its m []
      rw [List.nil_append] at this
      exact this
    rw [f0]
    cases its with
    | nil => simp
    | cons a r' => rw [if_neg (by simp)]
  refine wpAny_binaryOp_repeat_ref (T := "list") (U := "int") (by decide) ⟨_, e, rfl⟩ (fun s' => typeIs_int s' k t) noFill_list_mul F.fills_int_mul F.slot_int_rmul repeat_list F.slot_int_index.lookup
    (call_meets F.slot_int_rmul (typeIs_int s k t) F.entry_int_rmul (F.args_int_rmul_2 _ _) (int___rmul___int_list k t l its.toArray n)
      ⟨e, rfl, ⟨_, e, rfl⟩, call_meets F.slot_list_mul ⟨_, e, rfl⟩ F.entry_list_mul (F.args_list_mul_2 _ _) (AutoListH.list___mul___list_int_3 l its.toArray n k t hfit hcap hlong) ⟨e, ?_⟩⟩)
  rw [hnew]
  exact ⟨.ref _, _, I.lnew (t' := s.toks) (r.rep k.toNat) (by rw [len_rep, Nat.mul_comm]; exact hz), rfl, q _ I.fresh⟩
end
section
variable {prog : Program} {w : World} {A : Around} {E : Value → Shared → Prop} {s : Shared}
end
section
variable {X : Cx}
end
end L2
namespace Att
open PySem PySem.W PySem.Calls PyProof.Rows
theorem ints_of_wellAll {P : Params} {h : Heap} : ∀ (ns : List Int) (vs : List Value), WellAll P h vs (ns.map WData.int) → IntsAre vs ns := by
  intro ns
  induction ns with
  | nil =>
    intro vs w
    rw [List.map_nil] at w
    cases w
    exact .nil
  | cons n ns ih =>
    intro vs w
    rw [List.map_cons] at w
    cases w with
    | cons a b =>
      cases a
      exact .cons _ _ (ih _ b)
theorem script_of {l : OpenLaw} {n : Nat} (hn : l.most = some n) {P : Params} {h : Heap} {args : List WData} {vals : List Value}
    (hpre : l.row.toRowW.claim.pre args = true) (hwl : WellAll P h vals args) :
    ∃ a vs ns, vals = [Value.ref a] ∧ args = [WData.list (ns.map WData.int)] ∧ h.get? a = some { cls := .type "list", data := .seq vs.toArray } ∧ IntsAre vs ns ∧ ns.length ≤ n := by
  have hsh : WShape.hasAll [] args [.list .int] = true := (pre_splitW hpre).1
  have hc : l.pre.holds [] { args := args } = true := (pre_splitW hpre).2
  obtain ⟨d, r, rfl, h1, h2⟩ := hasAllW_cons hsh
  obtain rfl := hasAllW_nil h2
  obtain ⟨xs, rfl, h3⟩ := hasW_list h1
  obtain ⟨ns, rfl⟩ := items_int h3
  have hlen : ns.length ≤ n := by
    unfold OpenLaw.pre at hc
    have h4 : (WTm.not (.lt (.lit (.int (n : Int))) (.len (.arg 0)))).holds [] { args := [.list (ns.map .int)] } = true := by
      have h4 := (holds_andW hc).1
      rw [hn] at h4
      exact h4
    have h5 := condW_of h4 (w_not (w_lt w_lit (w_len_list (w_arg rfl))))
    rw [List.length_map] at h5
    refine Nat.le_of_not_lt fun q => ?_
    have q' : (n : Int) < ((ns.length : Nat) : Int) := by omega
    first
      | (rw [decide_eq_true q'] at h5; exact absurd h5 (by decide))
      | (simp at h5; omega)
  cases hwl with
  | cons w1 w2 =>
    cases w2
    cases w1 with
    | list ho hall => exact ⟨_, _, ns, rfl, rfl, ho, ints_of_wellAll ns _ hall, hlen⟩
theorem post_true (l : OpenLaw) (args : List WData) : l.row.toRowW.claim.post args (.bool true) args = true :=
  postW_of (r := l.row.toRowW) (X := (true == true))
    (show WShape.has [] (.bool true) .bool = true by first | rfl | decide | simp [WShape.has, WShape.arms, WShape.armsAll])
    (show (WTm.eq .res (.lit (.bool true))).value [] { args := args, res := some (.bool true), after := args } = some (.bool (true == true)) from w_eq_bool (w_res rfl) w_lit) rfl
theorem attach_call {l : OpenLaw} {n : Nat} {q : Program} {loose : List Str} {XP : (Str → Option Value) → Heap → Prop} {YP : World → Heap → Prop} {d : DefRec}
    (hn : l.most = some n) (hdf : d.params.defaults = [])
    (call : ∀ (w : World) (s₀ s₁ : Shared) (mg mb : Str → Option Value) (fa : Addr) (o : Obj) (pm cd doc : Value) (a : Addr) (vs : List Value) (ns : List Int),
      Ground q loose [] XP w s₀ mg mb s₁.heap → YP w s₁.heap →
      s₁.heap.get? fa = some o → o.data = .func (docDef d.name d.params d.body d.scope pm cd doc) → s₁.heap.CodeRec cd d.name → mg d.name = some (.ref fa) →
      s₁.heap.get? a = some { cls := .type "list", data := .seq vs.toArray } → IntsAre vs ns → ns.length ≤ n → s₁.gens = #[] →
      codeAny (model l.prog w) callerA (.call (.ref fa) ⟨[.ref a], []⟩) (fun r s' => r = .ok (.ret (.bool true)) ∧ OldK s₁.heap s'.heap ∧ s'.os = s₁.os ∧ AllBare s'.gens) s₁) :
    WalkO q loose XP YP l.row.toRowW d [] (fun f vs => PySem.call f vs) := by
  intro w s₀ s₁ mg mb G Y fa o pm cd doc dV kV ho hd hcd hD hmg hg args vals as hpre hlay hrd hwl hlo
  obtain rfl : dV = .none := Dflts.none hD hdf
  obtain rfl : kV = .none := Dflts.noKw hD
  obtain ⟨a, vs, ns, rfl, rfl, hobj, hints, hlen⟩ := script_of hn hpre hwl
  refine enter_call (codeAny_mono (call w s₀ s₁ mg mb fa o pm cd doc a vs ns G Y ho (fd_plain hd) hcd hmg hobj hints hlen hg) fun r s' hq => ?_)
  obtain ⟨rfl, h2, h3, h4⟩ := hq
  exact ⟨.inl ⟨.bool true, .bool true, [], rfl, fun _ => rfl, .bool true, post_true l _, fun _ => ⟨List.Pairwise.nil, fun _ hm => (nomatch hm)⟩⟩, h2, h3, h4⟩
section
variable {prog : Program} {w : World} {A : Around} {E : Value → Shared → Prop} {s : Shared} {K : Frag}
end
end Att
namespace L2
open PySem PySem.Spec PyProof.Rows
theorem vals_ints : ∀ {vs : List Value} {ns : List Int}, IntsAre vs ns → Vals (ns.map V.int) vs
  | _, _, .nil => .nil
  | _, _, .cons n t h => .cons ⟨t, rfl⟩ (vals_ints h)
noncomputable def Only (H : Hp) : Prop := ∀ b, H b = none ∨ ∃ o xs, H b = some (.frz o (.lst xs))
theorem law_call {P : Program} {w : World} {K : PySem.W.Frag} {mg mb : Str → Option Value} {CX : CXT} {k : Nat} {fa a : Addr} {fd : FuncData} {x : Str} {sp : Sp} {s₁ : Shared} {vs : List Value} {ns : List Int}
    (KX : K.In s₁.heap) (hns : s₁.heap.Ns mainGlobals mg) (hb : s₁.heap.Ns builtinsNs mb) (hbb : ∀ x : Str, x ≠ "__name__" → mb x = bootBuiltins x) (hlim : s₁.heap.NoLimit) (hg : s₁.gens = #[])
    (ha : s₁.heap.get? a = some { cls := .type "list", data := .seq vs.toArray }) (hi : IntsAre vs ns) (hl : ns.length ≤ sizeLine) (hr : Room k callerA)
    (F : ∀ base : Heap, K.In base → base.Ns mainGlobals mg → FnOk P w K mg base CX k fa fd [x] sp) (hbind : ∀ (s : Shared) (u : Value), BindsTo s fd ⟨[u], []⟩ [(x, u)])
    (hsp : ∀ H : Hp, Only H → SqL K H a (ns.map V.int) → sp [.ref a] H (fun v _ => v = .bl true) fun _ _ _ => False)
    (hCX : ∀ H e s', CX [] H s₁ (fun _ _ _ => False) e s' → False) :
    codeAny (model P w) callerA (.call (.ref fa) ⟨[.ref a], []⟩) (fun r s' => r = .ok (.ret (.bool true)) ∧ OldK s₁.heap s'.heap ∧ s'.os = s₁.os ∧ AllBare s'.gens) s₁ := by
  have rv := vals_ints hi
  have lenV := hi.length
  have core : ∀ H : Hp, Only H → SqL K H a (ns.map V.int) → HOk P w H s₁.heap → (∀ b, H b ≠ none → b = a) → (H a ≠ none → K.lookup a = none) →
      codeAny (model P w) callerA (.call (.ref fa) ⟨[.ref a], []⟩) (fun r s' => r = .ok (.ret (.bool true)) ∧ OldK s₁.heap s'.heap ∧ s'.os = s₁.os ∧ AllBare s'.gens) s₁ := by
    intro H hO hS hok hA hK
    have base_of : ∀ {b : Addr} {o : Obj}, s₁.heap.get? b = some o → H b = none → (hidT s₁.heap H).get? b = some o := fun e n => hidT_get e n
    have noA : ∀ {b : Addr} {o : Obj} {es : Array DictEntry} {ep : Nat}, s₁.heap.get? b = some o → o.data = .dict es ep → H b = none := fun {b o es ep} e d => by
      cases q : H b with
      | none => rfl
      | some u =>
        have e' : b = a := hA b (by rw [q]; simp)
        subst e'
        rw [ha] at e; cases e
        have d' : Data.seq vs.toArray _ = Data.dict es ep := d
        cases d'
    have nsK : ∀ {b : Addr} {m : Str → Option Value}, s₁.heap.Ns b m → (hidT s₁.heap H).Ns b m := fun {b m} ⟨o, es, ep, e, d, r⟩ => ⟨o, es, ep, base_of e (noA e d), d, r⟩
    have hKb : K.In (hidT s₁.heap H) := fun b o e => base_of (KX b o e) (by
      cases q : H b with
      | none => rfl
      | some u =>
        have e' : b = a := hA b (by rw [q]; simp)
        subst e'
        rw [hK (by rw [q]; simp)] at e; cases e)
    have hM : Mod K mg (hidT s₁.heap H) := ⟨hKb, nsK hns, ⟨mb, nsK hb, hbb⟩, let ⟨mc, h1, h2⟩ := hlim; ⟨mc, nsK h1, h2⟩⟩
    have e0 : Env0 P w K mg (hidT s₁.heap H) callerA [] s₁ H := ⟨rfl, hM, fun b o e => of_hidT e, Nat.le_of_eq (hidT_size _ _), trivial, fun b hb => absurd (show b ∈ ([] : List Addr) from hb) (by simp), hok, .of_eq hg⟩
    refine codeAny_mono ((F _ hKb (nsK hns)).run callerA [] s₁ H ⟨[.ref a], []⟩ [.ref a] [.ref a] _ _ hr e0 (hbind s₁ (.ref a)) (.cons rfl .nil) (hsp H hO hS)) fun r s' h => ?_
    cases r with
    | error e => exact (hCX H e s' h).elim
    | ok fl =>
      cases fl with
      | next => exact False.elim h
      | brk => exact False.elim h
      | cont => exact False.elim h
      | ret u =>
        obtain ⟨v, H', os, bare, un, hok', r', q⟩ := h
        have q' : v = .bl true := q
        subst q'
        obtain rfl : u = Value.bool true := r'
        refine ⟨rfl, OldK.of_keep fun b o e => ?_, os, bare⟩
        cases q : H b with
        | none => exact un.keep b o e q (by intro z; exact absurd (show b ∈ ([] : List Addr) from z) (by simp)) (by simp)
        | some u =>
          rcases hO b with z | ⟨ob, xs, z⟩
          · rw [q] at z; cases z
          · have z2 := un.frzs b ob _ z
            obtain ⟨e1, _⟩ := hok b _ z
            obtain ⟨e2, _⟩ := hok' b _ z2
            rw [e] at e1; cases e1
            exact e2
  cases hk : K.lookup a with
  | some o =>
    have e := KX a o hk
    rw [ha] at e
    cases e
    refine core (fun _ => none) (fun _ => .inl rfl) (.inr ⟨_, vs.toArray, _, hk, rfl, rfl, rfl, by rw [List.size_toArray, lenV]; exact hl, by simpa using rv⟩) (fun b u z => by have z' : (none : Option HO) = some u := z; cases z') (fun b z => absurd rfl z) fun z => absurd rfl z
  | none =>
    refine core (fun b => if b = a then some (.frz { cls := .type "list", data := .seq vs.toArray } (.lst (ns.map V.int))) else none) (fun b => ?_) (.inl (.inr ⟨{ cls := .type "list", data := .seq vs.toArray }, if_pos rfl⟩)) (fun b u z => ?_) (fun b z => ?_) fun _ => hk
    · by_cases hb : b = a
      · exact .inr ⟨_, _, if_pos hb⟩
      · exact .inl (if_neg hb)
    · by_cases hb : b = a
      · have z' := (if_pos hb).symm.trans z
        cases z'
        subst hb
        exact ⟨ha, by rw [List.length_map]; exact hl, vs, _, rv, ha⟩
      · have z' := (if_neg hb).symm.trans z
        cases z'
    · by_cases hb : b = a
      · exact hb
      · exact absurd (if_neg hb) z
end L2
namespace L2
open PySem PySem.Spec PyProof.Rows
theorem walk_of {l : PySem.W.OpenLaw} {n k : Nat} {q : Program} {loose : List Str} {XP : (Str → Option Value) → Heap → Prop} {YP : World → Heap → Prop} {d : DefRec} {K : Params → PySem.W.Frag} {CX : World → CXT} {sp : World → Sp} {x : Str}
    (hn : l.most = some n) (hn2 : n ≤ sizeLine) (hdf : d.params.defaults = []) (hr : Room k callerA)
    (hY : ∀ (w : World) (h : Heap), YP w h → (K w.params).In h)
    (F : ∀ (w : World) (mg : Str → Option Value) (fa : Addr) (h : Heap), (K w.params).In h → h.Ns mainGlobals mg → mg d.name = some (.ref fa) →
      ∃ fd : FuncData, (∀ (s : Shared) (u : Value), BindsTo s fd ⟨[u], []⟩ [(x, u)]) ∧
        ∀ base : Heap, (K w.params).In base → base.Ns mainGlobals mg → FnOk l.prog w (K w.params) mg base (CX w) k fa fd [x] (sp w))
    (hsp : ∀ (w : World) (H : Hp) (a : Addr) (ns : List Int), ns.length ≤ n → Only H → SqL (K w.params) H a (ns.map V.int) → sp w [.ref a] H (fun v _ => v = .bl true) fun _ _ _ => False)
    (hCX : ∀ (w : World) (H : Hp) (s : Shared) (e : Value) (s' : Shared), CX w [] H s (fun _ _ _ => False) e s' → False) :
    PySem.W.WalkO q loose XP YP l.row.toRowW d [] (fun f vs => PySem.call f vs) := by
  refine Att.attach_call hn hdf fun w s₀ s₁ mg mb fa o pm cd doc a vs ns G Y ho hd hcd hmg hobj hints hlen hg => ?_
  have KX := hY w _ Y
  obtain ⟨fd, hb, hF⟩ := F w mg fa _ KX G.T.g hmg
  exact law_call KX G.T.g G.T.b G.T.builtins G.T.nolimit hg hobj hints (Nat.le_trans hlen hn2) hr hF hb (fun H hO hS => hsp w H a ns hlen hO hS) fun H e s' => hCX w H s₁ e s'
end L2
namespace L2
open PySem PySem.Spec PyProof.Rows
noncomputable def defArgs (s : Stmt) : Arguments := match s with
  | .FunctionDef _ a _ _ _ _ _ _ _ _ => a
  | _ => { posonlyargs := [], args := [], vararg := none, kwonlyargs := [], kw_defaults := [], kwarg := none, defaults := [] }
noncomputable def defBody (s : Stmt) : List Stmt := match s with
  | .FunctionDef _ _ b _ _ _ _ _ _ _ => b
  | _ => []
noncomputable def defScope (s : Stmt) : Scope := match s with
  | .FunctionDef _ _ _ _ _ _ sc _ _ _ => sc
  | _ => { kind := .function, names := [], isGenerator := false, isCoroutine := false }
noncomputable abbrev CX0 : CXT := fun _ _ _ _ _ _ => False
noncomputable abbrev E0 : XK := fun _ _ _ => False
theorem pass0 {X : Cx} : Passes CX0 X E0 := fun _ _ _ _ _ _ _ h => h.elim
structure Fun (K : PySem.W.Frag) (x qual : Str) (st : Stmt) (f : Addr) (fd : FuncData) : Prop where
  ex : ∃ (oc : Value) (od : Option Addr) (kV doc pm : Value) (an : Option Addr) (cdv ct : Value) (osl : Array (Option Value)),
    fd = PySem.W.fnOf x qual (defArgs st) (defBody st) (defScope st) .none kV doc pm an cdv ct ∧ K.lookup f = some ⟨oc, od, .func fd, osl⟩ ∧ PySem.W.codeIn K cdv qual = true
  kp : PySem.W.keepIn K (.ref f) = true
section
variable {P : Program} {w : World} {K : PySem.W.Frag} {mg : Str → Option Value} {base : Heap}
theorem Fun.ok {x qual : Str} {st : Stmt} {f : Addr} {fd : FuncData} {N ps : List Str} {k : Nat} {sp : Sp} (F : Fun K x qual st f fd) (S : FnScope N ps (defScope st)) (len : ∀ vs H Q E, sp vs H Q E → vs.length = ps.length)
    (hbody : ∀ (cdv : Value) (A : Around) (outer : List Env) (s : Shared) (H : Hp) (vs : List V) (Q : VK) (E : XK), Room k (A.deeper (envOfC qual (defScope st) s.heap.objs.size f cdv)) → sp vs H Q E →
      ∃ t, PSs (cxOf CX0 P w K mg base N qual (defScope st) f cdv A outer s H E).nox (defBody st) t ∧ t { nx := fun _ H' => Q .non H', rt := Q } (start N vs) H) : FnOk P w K mg base CX0 (k + 1) f fd ps sp := by
  obtain ⟨oc, od, kV, doc, pm, an, cdv, ct, osl, rfl, lk, hcd⟩ := F.ex
  refine fn_of lk hcd S len fun A outer s H vs Q E hr hsp => ?_
  obtain ⟨t, h, q⟩ := hbody cdv A outer s H vs Q E hr hsp
  exact ⟨t, h.nox, q⟩
theorem Fun.binds {x qual : Str} {st : Stmt} {f : Addr} {fd : FuncData} {ps : List Str} (F : Fun K x qual st f fd)
    (h : ∀ (kV doc pm : Value) (an : Option Addr) (cdv ct : Value) (us : List Value), us.length = ps.length → bindArgs (PySem.W.fnOf x qual (defArgs st) (defBody st) (defScope st) .none kV doc pm an cdv ct) ⟨us, []⟩ = pure (ps.zip us)) : Binds K fd ps [] := by
  obtain ⟨oc, od, kV, doc, pm, an, cdv, ct, osl, rfl, lk, hcd⟩ := F.ex
  exact .all (h kV doc pm an cdv ct)
theorem fun_mk {x qual : Str} {st : Stmt} {f : Addr} {oc : Value} {od an : Option Addr} {osl : Array (Option Value)} {kV doc pm cdv ct : Value} (l : K.lookup f = some ⟨oc, od, .func (PySem.W.fnOf x qual (defArgs st) (defBody st) (defScope st) .none kV doc pm an cdv ct), osl⟩)
    (c : PySem.W.codeIn K cdv qual = true) (k : PySem.W.keepIn K (.ref f) = true) : Fun K x qual st f (PySem.W.fnOf x qual (defArgs st) (defBody st) (defScope st) .none kV doc pm an cdv ct) := ⟨⟨oc, od, kV, doc, pm, an, cdv, ct, osl, rfl, l, c⟩, k⟩
end
theorem small1000 {n : Nat} (h : n ≤ 1000) : n < sizeLine := Nat.lt_of_le_of_lt h (by decide)
section
variable {X : Cx}
end
theorem iteF {A B : Prop} (h : B) : if false = true then A else B := by
  rw [if_neg Bool.false_ne_true]
  exact h
theorem iteT {A B : Prop} (h : A) : if true = true then A else B := by
  rw [if_pos rfl]
  exact h
end L2
namespace L2
open PySem PySem.Spec PyProof.Rows
noncomputable def Trc (B h : Heap) (e : Addr) (x : Value) : Prop := x = .none ∨ ∃ T oT ts y, x = .ref T ∧ B.get? T = none ∧ T ≠ e ∧ h.get? T = some oT ∧ oT.data = .fields ts ∧ ts[3]? = some y
structure Fly (B : Heap) (l : List Env) (e : Addr) (cls : Value) (dx : Option Addr) (h : Heap) : Prop where
  st : B.StaysIn h
  new : B.get? e = none
  ff : h.FunFrames B l
  ob : ∃ oe vs x, h.get? e = some oe ∧ oe.cls = cls ∧ oe.dict = dx ∧ oe.data = .fields vs ∧ vs[1]? = some x ∧ Trc B h e x
section
variable {M : Model} {A : Around} {E : Value → Shared → Prop} {s : Shared} {B : Heap} {l outer : List Env} {env : Env} {e L : Addr} {cls : Value} {dx : Option Addr} {Q : Unit → Shared → Prop}
end
end L2
namespace L2
open PySem PySem.Spec PyProof.Rows
structure Cov (outer : List Env) (H' : Hp) (h B : Heap) : Prop where
  tr : ∀ b o, H' b = some o → ∃ u, B.get? b = some u
  old : ∀ b o, h.get? b = some o → b ∉ frs outer → ∃ u, B.get? b = some u
structure FlyX (P : Program) (w : World) (outer : List Env) (H : Hp) (s : Shared) (C : Value) (dx : Option Addr) (H' : Hp) (e : Value) (s' : Shared) : Prop where
  os : s'.os = s.os
  bare : AllBare s'.gens
  un : Un (frs outer) [] H H' s.heap s'.heap
  hok : HOk P w H' s'.heap
  fly : ∃ a B, e = .ref a ∧ Fly B outer a C dx s'.heap ∧ Cov outer H' s.heap B
section
variable {P : Program} {w : World} {outer : List Env} {H H' : Hp} {h0 h h' B base : Heap}
end
section
variable {X : Cx} {pins : List (Addr × Obj)} {σ : St} {H H' : Hp} {s s' : Shared} {C : Value} {a : Addr} {dx : Option Addr}
end
noncomputable def wishX (X : Cx) (C : Value) (dx : Option Addr) (H' : Hp) : Prop := ∀ pins σ H s e s', Inv X pins σ H s → FlyX X.prog X.w X.stack H s C dx H' e s' → X.xe e s'
section
variable {P : Program} {w : World} {K : PySem.W.Frag} {mg : Str → Option Value} {base : Heap} {N : List Str} {qual : Str} {scope : Scope} {f : Addr} {cd : Value} {A : Around} {outer : List Env} {s : Shared} {H H' : Hp} {E : XK} {C : Value} {dx : Option Addr}
end
end L2
namespace M
open PySem PySem.Spec PyProof.Rows L2
inductive D where
  | non | bl (b : Bool) | int (i : Int) | str (x : Str) | ty (n : String)
    | tup (ds : List D)
    | fz (ds : List D)
    | loc (n : Nat)
    | own (c : Str)
inductive LObj where
  | lst (ds : List D)
    | dct (kvs : List (Int × D))
    | dcf (kvs : List (Int × D))
    | exc (c : Str) (fs : List (Str × D))
noncomputable abbrev Mem := List LObj
noncomputable def ExcAt (a C : Addr) (dx : Option Addr) : Heap → Prop := fun h => ∃ o vs, h.get? a = some o ∧ o.cls = .ref C ∧ o.dict = dx ∧ o.data = .fields vs
noncomputable abbrev Loc := List (Option D)
section
variable (K : PySem.W.Frag)
noncomputable def FzL (H : Hp) (a : Addr) (vs : List V) : Prop :=
  (∃ o, H a = some (.frz o (.lst vs))) ∨ ∃ (o : Obj) (its : Array Value) (n : Nat), K.lookup a = some o ∧ o.cls = .type "list" ∧ o.dict = none ∧ o.data = .seq its n ∧ its.size ≤ sizeLine ∧ Vals vs its.toList
mutual
noncomputable def RepV (ρ : List Addr) (H : Hp) : D → V → Prop
  | .non, v => v = .non
  | .bl b, v => v = .bl b
  | .int i, v => v = .int i
  | .str x, v => v = .str x
  | .ty n, v => v = .ty n
  | .tup ds, v => ∃ a vs, v = .ref a ∧ H a = some (.tup vs) ∧ RepVs ρ H ds vs
  | .fz ds, v => ∃ a vs, v = .ref a ∧ FzL K H a vs ∧ RepVs ρ H ds vs
  | .loc n, v => ∃ a, v = .ref a ∧ ρ[n]? = some a
  | .own c, v => ∃ a, v = .ref a ∧ PySem.W.nsIn K mainGlobals c = some (some (.ref a))
noncomputable def RepVs (ρ : List Addr) (H : Hp) : List D → List V → Prop
  | [], vs => vs = []
  | d :: ds, vs => ∃ v r, vs = v :: r ∧ RepV ρ H d v ∧ RepVs ρ H ds r
end
noncomputable def RepX (ρ : List Addr) (H : Hp) (fs : List (Str × D)) (dx : Option Addr) : Prop := (fs = [] ∧ dx = none) ∨ ∃ p vs, dx = some p ∧ H p = some (.xd vs) ∧ vs.map (·.1) = fs.map (·.1) ∧ RepVs K ρ H (fs.map (·.2)) (vs.map (·.2))
noncomputable def RepO (ρ : List Addr) (H : Hp) (a : Addr) : LObj → Prop
  | .lst ds => ∃ vs, H a = some (.lst vs) ∧ RepVs K ρ H ds vs
  | .dct kvs => ∃ vs, H a = some (.dK vs) ∧ vs.map (·.1) = kvs.map (fun p => Sum.inl p.1) ∧ RepVs K ρ H (kvs.map (·.2)) (vs.map (·.2))
  | .dcf kvs => ∃ o vs, H a = some (.frz o (.dK vs)) ∧ vs.map (·.1) = kvs.map (fun p => Sum.inl p.1) ∧ RepVs K ρ H (kvs.map (·.2)) (vs.map (·.2))
  | .exc c fs => ∃ C dx, PySem.W.nsIn K mainGlobals c = some (some (.ref C)) ∧ H a = some (.ext (ExcAt a C dx)) ∧ RepX K ρ H fs dx
structure RepH (ρ : List Addr) (H : Hp) (μ : Mem) : Prop where
  nd : ρ.Nodup
  len : ρ.length = μ.length
  at_ : ∀ (n : Nat) a o, ρ[n]? = some a → μ[n]? = some o → RepO K ρ H a o
structure Ext (ρ : List Addr) (H : Hp) (ρ' : List Addr) (H' : Hp) : Prop where
  pre : ∃ more, ρ' = ρ ++ more
  tup : ∀ a vs, H a = some (.tup vs) → H' a = some (.tup vs)
  frz : ∀ a o u, H a = some (.frz o u) → H' a = some (.frz o u)
  xd : ∀ a fs, H a = some (.xd fs) → H' a = some (.xd fs)
noncomputable def RepSt (ρ : List Addr) (H : Hp) (σ : L2.St) (δ : Loc) : Prop := ∀ (i : Nat) d, δ[i]? = some (some d) → ∃ v, σ[i]? = some (some v) ∧ RepV K ρ H d v
end
section
variable {K : PySem.W.Frag} {ρ ρ' ρ'' : List Addr} {H H' H'' : Hp} {μ : Mem} {σ : L2.St} {δ : Loc}
theorem Ext.refl : Ext ρ H ρ H := ⟨⟨[], by simp⟩, fun _ _ h => h, fun _ _ _ h => h, fun _ _ h => h⟩
theorem Ext.trans (a : Ext ρ H ρ' H') (b : Ext ρ' H' ρ'' H'') : Ext ρ H ρ'' H'' := by
  obtain ⟨m, e⟩ := a.pre
  obtain ⟨m', e'⟩ := b.pre
  exact ⟨⟨m ++ m', by rw [e', e, List.append_assoc]⟩, fun _ _ h => b.tup _ _ (a.tup _ _ h), fun _ _ _ h => b.frz _ _ _ (a.frz _ _ _ h), fun _ _ h => b.xd _ _ (a.xd _ _ h)⟩
theorem Ext.get (e : Ext ρ H ρ' H') {n : Nat} {a : Addr} (h : ρ[n]? = some a) : ρ'[n]? = some a := by
  obtain ⟨m, e⟩ := e.pre
  rw [e, List.getElem?_append_left (List.getElem?_eq_some_iff.mp h).1]
  exact h
theorem Ext.fz (e : Ext ρ H ρ' H') {a : Addr} {vs : List V} (h : FzL K H a vs) : FzL K H' a vs := by
  rcases h with ⟨o, h⟩ | h
  · exact .inl ⟨o, e.frz _ _ _ h⟩
  · exact .inr h
mutual
theorem RepV.ext (e : Ext ρ H ρ' H') : ∀ {d : D} {v : V}, RepV K ρ H d v → RepV K ρ' H' d v
  | .non, _, h => by unfold RepV at h ⊢; exact h
  | .bl _, _, h => by unfold RepV at h ⊢; exact h
  | .int _, _, h => by unfold RepV at h ⊢; exact h
  | .str _, _, h => by unfold RepV at h ⊢; exact h
  | .ty _, _, h => by unfold RepV at h ⊢; exact h
  | .tup ds, _, h => by
    unfold RepV at h ⊢
    obtain ⟨a, vs, e1, e2, r⟩ := h
    exact ⟨a, vs, e1, e.tup _ _ e2, RepVs.ext e r⟩
  | .fz ds, _, h => by
    unfold RepV at h ⊢
    obtain ⟨a, vs, e1, e2, r⟩ := h
    exact ⟨a, vs, e1, e.fz e2, RepVs.ext e r⟩
  | .loc n, _, h => by
    unfold RepV at h ⊢
    obtain ⟨a, e1, e2⟩ := h
    exact ⟨a, e1, e.get e2⟩
  | .own c, _, h => by unfold RepV at h ⊢; exact h
theorem RepVs.ext (e : Ext ρ H ρ' H') : ∀ {ds : List D} {vs : List V}, RepVs K ρ H ds vs → RepVs K ρ' H' ds vs
  | [], _, h => by unfold RepVs at h ⊢; exact h
  | d :: ds, _, h => by
    unfold RepVs at h ⊢
    obtain ⟨v, r, e1, h1, h2⟩ := h
    exact ⟨v, r, e1, RepV.ext e h1, RepVs.ext e h2⟩
end
theorem RepSt.ext (e : Ext ρ H ρ' H') (h : RepSt K ρ H σ δ) : RepSt K ρ' H' σ δ := fun i d q =>
  let ⟨v, e1, r⟩ := h i d q
  ⟨v, e1, r.ext e⟩
theorem RepVs.length : ∀ {ds : List D} {vs : List V}, RepVs K ρ H ds vs → ds.length = vs.length
  | [], _, h => by unfold RepVs at h; subst h; rfl
  | d :: ds, _, h => by
    unfold RepVs at h
    obtain ⟨v, r, e1, _, h2⟩ := h
    subst e1
    have := RepVs.length h2
    simp [this]
theorem RepVs.get : ∀ {ds : List D} {vs : List V} {i : Nat} {d : D}, RepVs K ρ H ds vs → ds[i]? = some d → ∃ v, vs[i]? = some v ∧ RepV K ρ H d v
  | [], _, _, _, _, q => by simp at q
  | d :: ds, _, 0, d', h, q => by
    unfold RepVs at h
    obtain ⟨v, r, e1, h1, _⟩ := h
    subst e1
    simp at q
    subst q
    exact ⟨v, by simp, h1⟩
  | d :: ds, _, i + 1, d', h, q => by
    unfold RepVs at h
    obtain ⟨v, r, e1, _, h2⟩ := h
    subst e1
    obtain ⟨w, e2, h3⟩ := RepVs.get (i := i) h2 (by simpa using q)
    exact ⟨w, by simpa using e2, h3⟩
theorem RepVs.cons {d : D} {v : V} {ds : List D} {vs : List V} (h1 : RepV K ρ H d v) (h2 : RepVs K ρ H ds vs) : RepVs K ρ H (d :: ds) (v :: vs) := by
  unfold RepVs
  exact ⟨v, vs, rfl, h1, h2⟩
theorem RepVs.nil : RepVs K ρ H [] [] := by unfold RepVs; rfl
theorem RepVs.cons_inv {d : D} {ds : List D} {vs : List V} (h : RepVs K ρ H (d :: ds) vs) : ∃ v r, vs = v :: r ∧ RepV K ρ H d v ∧ RepVs K ρ H ds r := by
  unfold RepVs at h
  exact h
theorem RepVs.nil_inv {vs : List V} (h : RepVs K ρ H [] vs) : vs = [] := by unfold RepVs at h; exact h
theorem RepVs.append : ∀ {ds es : List D} {vs us : List V}, RepVs K ρ H ds vs → RepVs K ρ H es us → RepVs K ρ H (ds ++ es) (vs ++ us)
  | [], _, _, _, h, q => by rw [h.nil_inv]; exact q
  | d :: ds, _, _, _, h, q => by
    obtain ⟨v, r, rfl, h1, h2⟩ := h.cons_inv
    exact .cons h1 (RepVs.append h2 q)
theorem RepVs.take : ∀ {ds : List D} {vs : List V} (n : Nat), RepVs K ρ H ds vs → RepVs K ρ H (ds.take n) (vs.take n)
  | [], _, n, h => by rw [h.nil_inv]; simp [RepVs.nil]
  | d :: ds, _, 0, h => by simp [RepVs.nil]
  | d :: ds, _, n + 1, h => by
    obtain ⟨v, r, rfl, h1, h2⟩ := h.cons_inv
    simpa using RepVs.cons h1 (RepVs.take n h2)
theorem RepVs.drop : ∀ {ds : List D} {vs : List V} (n : Nat), RepVs K ρ H ds vs → RepVs K ρ H (ds.drop n) (vs.drop n)
  | [], _, n, h => by rw [h.nil_inv]; simp [RepVs.nil]
  | d :: ds, _, 0, h => by simpa using h
  | d :: ds, _, n + 1, h => by
    obtain ⟨v, r, rfl, h1, h2⟩ := h.cons_inv
    simpa using RepVs.drop n h2
theorem RepVs.set : ∀ {ds : List D} {vs : List V} {d : D} {v : V} (n : Nat), RepV K ρ H d v → RepVs K ρ H ds vs → RepVs K ρ H (ds.set n d) (vs.set n v)
  | [], _, _, _, n, _, h => by rw [h.nil_inv]; simp [RepVs.nil]
  | d :: ds, _, _, _, 0, q, h => by
    obtain ⟨v, r, rfl, h1, h2⟩ := h.cons_inv
    simpa using RepVs.cons q h2
  | d :: ds, _, _, _, n + 1, q, h => by
    obtain ⟨v, r, rfl, h1, h2⟩ := h.cons_inv
    simpa using RepVs.cons h1 (RepVs.set n q h2)
theorem RepV.int_inv {i : Int} {v : V} (h : RepV K ρ H (.int i) v) : v = .int i := by unfold RepV at h; exact h
theorem RepV.bl_inv {i : Bool} {v : V} (h : RepV K ρ H (.bl i) v) : v = .bl i := by unfold RepV at h; exact h
theorem RepV.non_inv {v : V} (h : RepV K ρ H .non v) : v = .non := by unfold RepV at h; exact h
theorem RepV.str_inv {x : Str} {v : V} (h : RepV K ρ H (.str x) v) : v = .str x := by unfold RepV at h; exact h
theorem RepV.ty_inv {x : String} {v : V} (h : RepV K ρ H (.ty x) v) : v = .ty x := by unfold RepV at h; exact h
theorem RepV.tup_inv {ds : List D} {v : V} (h : RepV K ρ H (.tup ds) v) : ∃ a vs, v = .ref a ∧ H a = some (.tup vs) ∧ RepVs K ρ H ds vs := by unfold RepV at h; exact h
theorem RepV.fz_inv {ds : List D} {v : V} (h : RepV K ρ H (.fz ds) v) : ∃ a vs, v = .ref a ∧ FzL K H a vs ∧ RepVs K ρ H ds vs := by unfold RepV at h; exact h
theorem RepV.loc_inv {n : Nat} {v : V} (h : RepV K ρ H (.loc n) v) : ∃ a, v = .ref a ∧ ρ[n]? = some a := by unfold RepV at h; exact h
theorem RepV.int {i : Int} : RepV K ρ H (.int i) (.int i) := by unfold RepV; rfl
theorem RepV.bl {i : Bool} : RepV K ρ H (.bl i) (.bl i) := by unfold RepV; rfl
theorem RepV.non : RepV K ρ H .non .non := by unfold RepV; rfl
theorem RepV.str {x : Str} : RepV K ρ H (.str x) (.str x) := by unfold RepV; rfl
theorem RepV.ty {x : String} : RepV K ρ H (.ty x) (.ty x) := by unfold RepV; rfl
theorem RepV.tup {ds : List D} {a : Addr} {vs : List V} (e : H a = some (.tup vs)) (h : RepVs K ρ H ds vs) : RepV K ρ H (.tup ds) (.ref a) := by unfold RepV; exact ⟨a, vs, rfl, e, h⟩
theorem RepV.fz {ds : List D} {a : Addr} {vs : List V} (e : FzL K H a vs) (h : RepVs K ρ H ds vs) : RepV K ρ H (.fz ds) (.ref a) := by unfold RepV; exact ⟨a, vs, rfl, e, h⟩
theorem RepV.loc {n : Nat} {a : Addr} (e : ρ[n]? = some a) : RepV K ρ H (.loc n) (.ref a) := by unfold RepV; exact ⟨a, rfl, e⟩
theorem FzL.sq {a : Addr} {vs : List V} (h : FzL K H a vs) : SqL K H a vs := by
  rcases h with h | h
  · exact .inl (.inr h)
  · exact .inr h
theorem RepO.some {a : Addr} {o : LObj} (h : RepO K ρ H a o) : ∃ u, H a = some u := by
  cases o with
  | lst ds => obtain ⟨vs, e, _⟩ := h; exact ⟨_, e⟩
  | dct kvs => obtain ⟨vs, e, _⟩ := h; exact ⟨_, e⟩
  | dcf kvs => obtain ⟨o, vs, e, _⟩ := h; exact ⟨_, e⟩
  | exc c fs => obtain ⟨C, dx, _, e, _⟩ := h; exact ⟨_, e⟩
theorem RepH.mem_some (R : RepH K ρ H μ) {a : Addr} (h : a ∈ ρ) : ∃ u, H a = some u := by
  obtain ⟨n, h1, e⟩ := List.mem_iff_getElem.mp h
  have h2 : n < μ.length := by rw [← R.len]; exact h1
  exact (R.at_ n a μ[n] (by rw [List.getElem?_eq_getElem h1, e]) (by simp [h2])).some
theorem RepX.ext {fs : List (Str × D)} {dx : Option Addr} (e : Ext ρ H ρ' H') (h : RepX K ρ H fs dx) : RepX K ρ' H' fs dx := by
  rcases h with h | ⟨p, vs, e1, e2, e3, r⟩
  · exact .inl h
  · exact .inr ⟨p, vs, e1, e.xd _ _ e2, e3, r.ext e⟩
theorem RepO.ext {a : Addr} {o : LObj} (e : Ext ρ H ρ' H') (h : RepO K ρ H a o) (s : H' a = H a) : RepO K ρ' H' a o := by
  cases o with
  | lst ds => obtain ⟨vs, q, r⟩ := h; exact ⟨vs, s.trans q, r.ext e⟩
  | dct kvs => obtain ⟨vs, q, q2, r⟩ := h; exact ⟨vs, s.trans q, q2, r.ext e⟩
  | dcf kvs => obtain ⟨o, vs, q, q2, r⟩ := h; exact ⟨o, vs, s.trans q, q2, r.ext e⟩
  | exc c fs => obtain ⟨C, dx, n, q, r⟩ := h; exact ⟨C, dx, n, s.trans q, r.ext e⟩
theorem Ext.new {p : Addr} {o : HO} (hp : H p = none) : Ext ρ H ρ (upd H p o) :=
  ⟨⟨[], by simp⟩, fun a vs e => by rw [upd_ne (ne_of_none e hp)]; exact e, fun a o u e => by rw [upd_ne (ne_of_none e hp)]; exact e, fun a fs e => by rw [upd_ne (ne_of_none e hp)]; exact e⟩
theorem RepH.other (R : RepH K ρ H μ) (e : Ext ρ H ρ H') (s : ∀ a ∈ ρ, H' a = H a) : RepH K ρ H' μ :=
  ⟨R.nd, R.len, fun n a o h1 h2 => (R.at_ n a o h1 h2).ext e (s a (List.mem_of_getElem? h1))⟩
theorem RepH.newTup (R : RepH K ρ H μ) {p : Addr} {o : HO} (hp : H p = none) : RepH K ρ (upd H p o) μ :=
  R.other (Ext.new hp) fun a ha => by
    obtain ⟨u, e⟩ := R.mem_some ha
    exact upd_ne (ne_of_none e hp)
theorem Ext.push {p : Addr} {o : HO} (hp : H p = none) : Ext ρ H (ρ ++ [p]) (upd H p o) :=
  ⟨⟨[p], rfl⟩, (Ext.new (ρ := ρ) hp).tup, (Ext.new (ρ := ρ) hp).frz, (Ext.new (ρ := ρ) hp).xd⟩
theorem RepH.push (R : RepH K ρ H μ) {p : Addr} {o : HO} {lo : LObj} (hp : H p = none) (h : RepO K (ρ ++ [p]) (upd H p o) p lo) : RepH K (ρ ++ [p]) (upd H p o) (μ ++ [lo]) := by
  refine ⟨?_, by simp [R.len], fun n a u h1 h2 => ?_⟩
  · rw [List.nodup_append]
    refine ⟨R.nd, by simp, fun a ha b hb => ?_⟩
    simp at hb
    subst hb
    obtain ⟨u, e⟩ := R.mem_some ha
    exact ne_of_none e hp
  · by_cases hn : n < ρ.length
    · rw [List.getElem?_append_left hn] at h1
      rw [List.getElem?_append_left (by rw [← R.len]; exact hn)] at h2
      have q := R.at_ n a u h1 h2
      obtain ⟨z, e⟩ := q.some
      exact q.ext (Ext.push hp) (upd_ne (ne_of_none e hp))
    · have hl : n < (ρ ++ [p]).length := (List.getElem?_eq_some_iff.mp h1).1
      have e : n = ρ.length := by simp at hl; omega
      subst e
      rw [List.getElem?_append_right (Nat.le_refl _)] at h1
      rw [R.len, List.getElem?_append_right (Nat.le_refl _)] at h2
      simp at h1 h2
      subst h1 h2
      exact h
theorem push_get {p : Addr} (R : RepH K ρ H μ) : (ρ ++ [p])[μ.length]? = some p := by
  rw [← R.len]; simp
theorem Ext.wr {p : Addr} {o : HO} (hm : Mut (H p)) : Ext ρ H ρ (upd H p o) :=
  ⟨⟨[], by simp⟩, fun a vs e => by rw [upd_ne (by rintro rfl; rw [e] at hm; exact hm)]; exact e, fun a o u e => by rw [upd_ne (by rintro rfl; rw [e] at hm; exact hm)]; exact e, fun a fs e => by rw [upd_ne (by rintro rfl; rw [e] at hm; exact hm)]; exact e⟩
theorem RepH.wr (R : RepH K ρ H μ) {n : Nat} {p : Addr} {o : HO} {lo : LObj} (hm : Mut (H p)) (hn : ρ[n]? = some p) (h : RepO K ρ (upd H p o) p lo) : RepH K ρ (upd H p o) (μ.set n lo) := by
  have hlt := (List.getElem?_eq_some_iff.mp hn).1
  refine ⟨R.nd, by simp [R.len], fun m a u h1 h2 => ?_⟩
  by_cases hmn : m = n
  · subst hmn
    rw [hn] at h1
    cases h1
    rw [List.getElem?_set_self (by rw [← R.len]; exact hlt)] at h2
    cases h2
    exact h
  · rw [List.getElem?_set_ne (Ne.symm hmn)] at h2
    have hap : a ≠ p := by
      rintro rfl
      obtain ⟨x1, y1⟩ := List.getElem?_eq_some_iff.mp h1
      obtain ⟨x2, y2⟩ := List.getElem?_eq_some_iff.mp hn
      exact hmn ((List.getElem_inj R.nd).mp (y1.trans y2.symm))
    exact (R.at_ m a u h1 h2).ext (Ext.wr hm) (upd_ne hap)
end
noncomputable abbrev FE := Loc → Mem → Option (D × Mem)
noncomputable abbrev FT := Loc → Mem → Option (Bool × Mem)
noncomputable abbrev FA := Loc → Mem → Option (List D × Mem)
inductive Out where
  | next (δ : Loc) (μ : Mem) | ret (d : D) (μ : Mem) | brk (δ : Loc) (μ : Mem) | cont (δ : Loc) (μ : Mem)
    | exc (c : Str) (fs : List (Str × D)) (μ : Mem)
noncomputable abbrev FS := Loc → Mem → Option Out
section
variable (K : PySem.W.Frag)
structure At (ρ : List Addr) (H : Hp) (σ : L2.St) (δ : Loc) (μ : Mem) : Prop where
  st : RepSt K ρ H σ δ
  hp : RepH K ρ H μ
  len : σ.length = δ.length
noncomputable def tM (φ : FE) : TE := fun σ H Q => ∃ ρ δ μ d μ', At K ρ H σ δ μ ∧ φ δ μ = some (d, μ') ∧ ∀ ρ' H' v, Ext ρ H ρ' H' → RepH K ρ' H' μ' → RepV K ρ' H' d v → Q v H'
noncomputable def tMT (φ : FT) : TT := fun σ H Q => ∃ ρ δ μ b μ', At K ρ H σ δ μ ∧ φ δ μ = some (b, μ') ∧ ∀ ρ' H', Ext ρ H ρ' H' → RepH K ρ' H' μ' → Q b H'
noncomputable def tMA (φ : FA) : TA := fun σ H Q => ∃ ρ δ μ ds μ', At K ρ H σ δ μ ∧ φ δ μ = some (ds, μ') ∧ ∀ ρ' H' vs, Ext ρ H ρ' H' → RepH K ρ' H' μ' → RepVs K ρ' H' ds vs → Q vs H'
noncomputable def OutOk (W : XK) (ρ : List Addr) (H : Hp) (E : Ends) : Out → Prop
  | .next δ' μ' => ∀ ρ' σ' H', Ext ρ H ρ' H' → At K ρ' H' σ' δ' μ' → E.nx σ' H'
  | .brk δ' μ' => ∀ ρ' σ' H', Ext ρ H ρ' H' → At K ρ' H' σ' δ' μ' → E.bk σ' H'
  | .cont δ' μ' => ∀ ρ' σ' H', Ext ρ H ρ' H' → At K ρ' H' σ' δ' μ' → E.ct σ' H'
  | .ret d μ' => ∀ ρ' v H', Ext ρ H ρ' H' → RepH K ρ' H' μ' → RepV K ρ' H' d v → E.rt v H'
  | .exc c fs μ' => ∀ ρ' H' C dx, PySem.W.nsIn K mainGlobals c = some (some (.ref C)) → Ext ρ H ρ' H' → RepH K ρ' H' μ' → RepX K ρ' H' fs dx → W (.ref C) dx H'
noncomputable def tMS (W : XK) (ψ : FS) : TS := fun E σ H => ∃ ρ δ μ o, At K ρ H σ δ μ ∧ ψ δ μ = some o ∧ OutOk K W ρ H E o
end
noncomputable def ME (X : Cx) (e : Expr) (φ : FE) : Prop := PE X e (tM X.K φ)
noncomputable def MT (X : Cx) (e : Expr) (φ : FT) : Prop := PT X e (tMT X.K φ)
noncomputable def MW (X : Cx) (e : Expr) (φ : FT) : Prop := PW X e (tMT X.K φ)
noncomputable def MA (X : Cx) (es : List Expr) (φ : FA) : Prop := PA X es (tMA X.K φ)
noncomputable def MS (X : Cx) (st : Stmt) (ψ : FS) : Prop := PS X st (tMS X.K (wishX X) ψ)
noncomputable def MSs (X : Cx) (st : List Stmt) (ψ : FS) : Prop := PSs X st (tMS X.K (wishX X) ψ)
noncomputable abbrev FF := List D → Mem → Option (D × Mem)
noncomputable def spM (K : PySem.W.Frag) (n : Nat) (F : FF) : Sp := fun vs H Q _ => vs.length = n ∧ ∃ ρ ds μ d μ', RepVs K ρ H ds vs ∧ RepH K ρ H μ ∧ F ds μ = some (d, μ') ∧ ∀ ρ' H' v, Ext ρ H ρ' H' → RepH K ρ' H' μ' → RepV K ρ' H' d v → Q v H'
theorem At.ext {K : PySem.W.Frag} {ρ ρ' : List Addr} {H H' : Hp} {σ : L2.St} {δ : Loc} {μ μ' : Mem} (a : At K ρ H σ δ μ) (e : Ext ρ H ρ' H') (R : RepH K ρ' H' μ') : At K ρ' H' σ δ μ' := ⟨a.st.ext e, R, a.len⟩
theorem me_of {X : Cx} {e : Expr} {t : TE} {φ : FE} (h : PE X e t) (w : ∀ ρ δ μ σ H d μ' Q, At X.K ρ H σ δ μ → φ δ μ = some (d, μ') → (∀ ρ' H' v, Ext ρ H ρ' H' → RepH X.K ρ' H' μ' → RepV X.K ρ' H' d v → Q v H') → t σ H Q) : ME X e φ :=
  by intro pins s σ H Q I hh; obtain ⟨ρ, δ, μ, d, μ', a, e, k⟩ := hh; exact h pins s σ H Q I (w ρ δ μ σ H d μ' Q a e k)
theorem mt_of {X : Cx} {e : Expr} {t : TT} {φ : FT} (h : PT X e t) (w : ∀ ρ δ μ σ H b μ' Q, At X.K ρ H σ δ μ → φ δ μ = some (b, μ') → (∀ ρ' H', Ext ρ H ρ' H' → RepH X.K ρ' H' μ' → Q b H') → t σ H Q) : MT X e φ :=
  by intro pins s σ H Q I hh; obtain ⟨ρ, δ, μ, d, μ', a, e, k⟩ := hh; exact h pins s σ H Q I (w ρ δ μ σ H d μ' Q a e k)
theorem mw_of {X : Cx} {e : Expr} {t : TT} {φ : FT} (h : PW X e t) (w : ∀ ρ δ μ σ H b μ' Q, At X.K ρ H σ δ μ → φ δ μ = some (b, μ') → (∀ ρ' H', Ext ρ H ρ' H' → RepH X.K ρ' H' μ' → Q b H') → t σ H Q) : MW X e φ :=
  fun wh pins s σ H Q I ⟨ρ, δ, μ, d, μ', a, e, k⟩ => h wh pins s σ H Q I (w ρ δ μ σ H d μ' Q a e k)
theorem ma_of {X : Cx} {e : List Expr} {t : TA} {φ : FA} (h : PA X e t) (w : ∀ ρ δ μ σ H ds μ' Q, At X.K ρ H σ δ μ → φ δ μ = some (ds, μ') → (∀ ρ' H' vs, Ext ρ H ρ' H' → RepH X.K ρ' H' μ' → RepVs X.K ρ' H' ds vs → Q vs H') → t σ H Q) : MA X e φ :=
  fun pos pins s σ H Q I ⟨ρ, δ, μ, d, μ', a, e, k⟩ => h pos pins s σ H Q I (w ρ δ μ σ H d μ' Q a e k)
theorem ms_of {X : Cx} {e : Stmt} {t : TS} {ψ : FS} (h : PS X e t) (w : ∀ ρ δ μ σ H o E, At X.K ρ H σ δ μ → ψ δ μ = some o → OutOk X.K (wishX X) ρ H E o → t E σ H) : MS X e ψ :=
  by intro pins s σ H E I hh; obtain ⟨ρ, δ, μ, o, a, e, k⟩ := hh; exact h pins s σ H E I (w ρ δ μ σ H o E a e k)
theorem mss_of {X : Cx} {e : List Stmt} {t : TS} {ψ : FS} (h : PSs X e t) (w : ∀ ρ δ μ σ H o E, At X.K ρ H σ δ μ → ψ δ μ = some o → OutOk X.K (wishX X) ρ H E o → t E σ H) : MSs X e ψ :=
  by intro pins s σ H E I hh; obtain ⟨ρ, δ, μ, o, a, e, k⟩ := hh; exact h pins s σ H E I (w ρ δ μ σ H o E a e k)
end M
namespace M
open PySem PySem.Spec PyProof.Rows L2
theorem bind_inv {α β : Type} {o : Option α} {f : α → Option β} {b : β} (h : o.bind f = some b) : ∃ a, o = some a ∧ f a = some b := by
  cases o with
  | none => cases h
  | some a => exact ⟨a, rfl, h⟩
section
variable {X : Cx} {a b c e : Expr} {es : List Expr} {φ ψ χ : FE} {pos : Pos}
@[simp] noncomputable def fVar (i : Nat) : FE := fun δ μ => match δ[i]? with
  | some (some d) => some (d, μ)
  | _ => none
@[simp] noncomputable def fC (d : D) : FE := fun _ μ => some (d, μ)
theorem me_var {i : Nat} {x : Str} (h : PE X (.Name x pos) (tVar i)) : ME X (.Name x pos) (fVar i) :=
  me_of h fun ρ δ μ σ H d μ' Q A e k => by
    unfold fVar at e
    split at e
    · rename_i d' hd
      cases e
      obtain ⟨v, hv, r⟩ := A.st i _ hd
      exact ⟨v, hv, k ρ H v Ext.refl A.hp r⟩
    · cases e
theorem me_c {v : V} {d : D} (h : PE X e (tC v)) (r : ∀ ρ H, RepV X.K ρ H d v) : ME X e (fC d) :=
  me_of h fun ρ δ μ σ H d' μ' Q A e k => by
    cases e
    exact k ρ H v Ext.refl A.hp (r ρ H)
theorem me_int {i j} : ME X (.Constant (.int i) j pos) (fC (.int i)) := me_c pe_int fun _ _ => .int
theorem me_bl {i j} : ME X (.Constant (.bool i) j pos) (fC (.bl i)) := me_c pe_bl fun _ _ => .bl
theorem me_str {x j} : ME X (.Constant (.str x) j pos) (fC (.str x)) := me_c pe_str fun _ _ => .str
theorem mv (i : Nat) {x : Str} (hN : X.N[i]? = some x := by rfl) (hv : Vis X.env.scope x := by first | exact Or.inl rfl | exact Or.inr (Or.inl rfl) | exact Or.inr (Or.inr rfl)) (hd : (x == ("__debug__" : Str)) = false := by decide)
    (hcd : (x == ("__classdict__" : Str)) = false := by decide) : ME X (.Name x pos) (fVar i) := me_var (pe_var hN hv hd hcd)
theorem me_gint {x : Str} {i : Int} (hm : ∃ t, X.mg x = some (.int i t)) (hg : Gl X x := by rfl) (hd : (x == ("__debug__" : Str)) = false := by decide) : ME X (.Name x pos) (fC (.int i)) :=
  let ⟨t, ht⟩ := hm
  me_c (pe_glob (v := V.int i) hg ht ⟨t, rfl⟩ hd) fun _ _ => .int
theorem me_gty {x : Str} {T : String} (hm : X.mg x = none) (hb : bootBuiltins x = some (.type T)) (hg : Gl X x := by rfl) (hn : x ≠ "__name__" := by decide) (hd : (x == ("__debug__" : Str)) = false := by decide) : ME X (.Name x pos) (fC (.ty T)) :=
  me_c (pe_bltn (v := V.ty T) hg hm hb (show L2.RelV (V.ty T) (Value.type T) from rfl) hn hd) fun _ _ => .ty
noncomputable abbrev G2 := D → D → Mem → Option (D × Mem)
noncomputable def rM (K : PySem.W.Frag) (g : G2) : R2 := fun x y H Q => ∃ ρ dx dy μ d μ', RepV K ρ H dx x ∧ RepV K ρ H dy y ∧ RepH K ρ H μ ∧ g dx dy μ = some (d, μ') ∧ ∀ ρ' H' v, Ext ρ H ρ' H' → RepH K ρ' H' μ' → RepV K ρ' H' d v → Q v H'
noncomputable def OpM (X : Cx) (f : Value → Value → Sem Value) (g : G2) : Prop := OpR X f (rM X.K g)
theorem OpM.of {X : Cx} {f : Value → Value → Sem Value} {g : G2} (h : ∀ (pins : List (Addr × Obj)) (s : Shared) (σ : L2.St) (H : Hp) (x y : V) (v u : Value) (Q : VK), Inv X pins σ H s → RelV x v → RelV y u → ∀ (ρ : List Addr) (dx dy : D) (μ : Mem) (d : D) (μ' : Mem), RepV X.K ρ H dx x → RepV X.K ρ H dy y → RepH X.K ρ H μ → g dx dy μ = some (d, μ') → (∀ ρ' H' v, Ext ρ H ρ' H' → RepH X.K ρ' H' μ' → RepV X.K ρ' H' d v → Q v H') → wpAny (model X.prog X.w) X.A (f v u) (EP X pins σ Q) X.xe s) : OpM X f g := by
  intro pins s σ H x y v u Q I rx ry hh
  obtain ⟨ρ, dx, dy, μ, d, μ', r1, r2, R, e, k⟩ := hh
  exact h pins s σ H x y v u Q I rx ry ρ dx dy μ d μ' r1 r2 R e k
@[simp] noncomputable def fBin (g : G2) (φ ψ : FE) : FE := fun δ μ => (φ δ μ).bind fun p => (ψ δ p.2).bind fun q => g p.1 q.1 q.2
theorem bin_w {g : G2} {ρ : List Addr} {δ : Loc} {μ : Mem} {σ : L2.St} {H : Hp} {d : D} {μ' : Mem} {Q : VK} (A : At X.K ρ H σ δ μ) (e : fBin g φ ψ δ μ = some (d, μ'))
    (k : ∀ ρ' H' v, Ext ρ H ρ' H' → RepH X.K ρ' H' μ' → RepV X.K ρ' H' d v → Q v H') : tOp (rM X.K g) (tM X.K φ) (tM X.K ψ) σ H Q := by
  obtain ⟨⟨x, μ1⟩, e1, e⟩ := bind_inv e
  obtain ⟨⟨y, μ2⟩, e2, e⟩ := bind_inv e
  refine ⟨ρ, δ, μ, x, μ1, A, e1, fun ρ1 H1 v x1 R1 r1 => ?_⟩
  refine ⟨ρ1, δ, μ1, y, μ2, A.ext x1 R1, e2, fun ρ2 H2 u x2 R2 r2 => ?_⟩
  exact ⟨ρ2, x, y, μ2, d, μ', r1.ext x2, r2, R2, e, fun ρ3 H3 w x3 R3 r3 => k ρ3 H3 w (x1.trans (x2.trans x3)) R3 r3⟩
theorem me_op {op : Operator} {g : G2} (ho : OpM X (binaryOp op) g) (ha : ME X a φ) (hb : ME X b ψ) : ME X (.BinOp a op b pos) (fBin g φ ψ) :=
  me_of (pe_op ho ha hb) fun _ _ _ _ _ _ _ _ A e k => bin_w A e k
theorem me_cmp {op : CmpOp} {g : G2} (ho : OpM X (compareOp op) g) (ha : ME X a φ) (hb : ME X b ψ) (hm : behindInMarks op b = false := by first | exact nobehind _ (by decide) (by decide) | rfl | with_unfolding_all rfl) : ME X (.Compare a [op] [b] pos) (fBin g φ ψ) :=
  me_of (pe_cmpR ho ha hb hm) fun _ _ _ _ _ _ _ _ A e k => bin_w A e k
@[simp] noncomputable def fTest (φ : FE) : FT := fun δ μ => (φ δ μ).bind fun p => match p.1 with
  | .bl b => some (b, p.2)
  | _ => none
theorem test_inv {δ : Loc} {μ μ' : Mem} {b : Bool} (h : fTest φ δ μ = some (b, μ')) : φ δ μ = some (.bl b, μ') := by
  obtain ⟨⟨x, μ1⟩, e1, e⟩ := bind_inv h
  dsimp only at e
  split at e
  · cases e
    exact e1
  · cases e
theorem mt_cmp {op : CmpOp} {g : G2} (ho : OpM X (compareOp op) g) (ha : ME X a φ) (hb : ME X b ψ) (hm : behindInMarks op b = false := by first | exact nobehind _ (by decide) (by decide) | rfl | with_unfolding_all rfl) : MT X (.Compare a [op] [b] pos) (fTest (fBin g φ ψ)) :=
  mt_of (pt_cmpR ho ha hb hm) fun ρ δ μ σ H b μ' Q A e k => bin_w (Q := fun x H' => ∃ k, x = .bl k ∧ Q k H') A (test_inv e) fun ρ' H' v x R r => ⟨b, r.bl_inv, k ρ' H' x R⟩
@[simp] noncomputable def gAdd : G2 := fun x y μ => match x, y with
  | .int i, .int j => some (.int (i + j), μ)
  | .tup as, .tup bs => bif decide (as.length + bs.length ≤ 1000000) then some (.tup (as ++ bs), μ) else none
  | .loc l, .loc m => match μ[l]?, μ[m]? with
    | some (.lst as), some (.lst bs) => bif decide (as.length + bs.length ≤ 1000000) then some (.loc μ.length, μ ++ [.lst (as ++ bs)]) else none
    | _, _ => none
  | _, _ => none
@[simp] noncomputable def gSub : G2 := fun x y μ => match x, y with
  | .int i, .int j => some (.int (i - j), μ)
  | _, _ => none
noncomputable def mulOk (i j : Int) : Bool := decide (-(2 ^ 64) < i ∧ i < 2 ^ 64) || decide (-(2 ^ 64) < j ∧ j < 2 ^ 64) || (decide (i.natAbs < 2 ^ 1000) && decide (j.natAbs < 2 ^ 1000))
theorem mulOk_ok {i j : Int} (h : mulOk i j = true) : IntMulOk i j := by
  unfold mulOk at h
  rw [Bool.or_eq_true, Bool.or_eq_true, Bool.and_eq_true] at h
  rcases h with (h | h) | ⟨h1, h2⟩
  · have h := of_decide_eq_true h
    exact .of_left (intBits_le_64 h.1 h.2)
  · have h := of_decide_eq_true h
    exact .of_right (intBits_le_64 h.1 h.2)
  · exact .of_le (m := 1000) (n := 1000) (intBits_le (of_decide_eq_true h1)) (intBits_le (of_decide_eq_true h2)) (by decide)
noncomputable def gMul : G2 := fun x y μ => match x, y with
  | .int i, .int j => bif mulOk i j then some (.int (i * j), μ) else none
  | .tup ds, .int n => bif decide (2 ≤ n ∧ n ≤ 1000 ∧ 0 < ds.length ∧ ds.length ≤ 1000) then some (.tup (List.replicate n.toNat ds).flatten, μ) else none
  | .loc l, .int n => match μ[l]? with
    | some (.lst ds) => bif decide (n ≤ 1000 ∧ -(2 ^ 62) ≤ n ∧ ds.length ≤ 1000) then some (.loc μ.length, μ ++ [.lst (List.replicate n.toNat ds).flatten]) else none
    | _ => none
  | _, _ => none
@[simp] noncomputable def gMod : G2 := fun x y μ => match x, y with
  | .int i, .int j => bif decide (0 < j) then some (.int (i % j), μ) else none
  | _, _ => none
@[simp] noncomputable def gDiv : G2 := fun x y μ => match x, y with
  | .int i, .int j => bif decide (0 < j ∧ j < 1606938044258990275541962092341162602522202993782792835301376) then some (.int (i / j), μ) else none
  | _, _ => none
noncomputable def gPow : G2 := fun x y μ => match x, y with
  | .int i, .int j => bif decide (0 ≤ j ∧ j ≤ 100000 ∧ i.natAbs < 1606938044258990275541962092341162602522202993782792835301376) then some (.int (i ^ j.toNat), μ) else none
  | _, _ => none
theorem bif_inv {α : Type} {c : Bool} {o : Option α} {x : α} (h : (bif c then o else none) = some x) : c = true ∧ o = some x := by
  cases c with
  | true => exact ⟨rfl, h⟩
  | false => cases h
theorem opM_int {f : Value → Value → Sem Value} {g : G2} {C : Int → Int → Prop} {h : Int → Int → Int} (o : OpR X f (rI C fun i j => .int (h i j)))
    (w : ∀ x y μ d μ', g x y μ = some (d, μ') → ∃ i j, x = .int i ∧ y = .int j ∧ C i j ∧ d = .int (h i j) ∧ μ' = μ) : OpM X f g := by
  refine OpM.of fun pins s σ H x y v u Q I rx ry ρ dx dy μ d μ' r1 r2 R e k => ?_
  obtain ⟨i, j, rfl, rfl, hc, rfl, rfl⟩ := w _ _ _ _ _ e
  refine o pins s σ H x y v u Q I rx ry ⟨i, j, r1.int_inv, r2.int_inv, hc, ?_⟩
  exact k ρ H _ Ext.refl R .int
theorem opM_sub : OpM X (binaryOp .Sub) gSub := opM_int (C := fun _ _ => True) (h := fun i j => i - j) (opI fun _ _ _ _ _ _ _ _ q => sub_int q) fun x y μ d μ' e => by
  unfold gSub at e
  split at e
  · cases e; exact ⟨_, _, rfl, rfl, trivial, rfl, rfl⟩
  · cases e
theorem opM_mod : OpM X (binaryOp .Mod) gMod := opM_int (h := fun i j => i % j) op_mod fun x y μ d μ' e => by
  unfold gMod at e
  split at e
  · obtain ⟨h1, e⟩ := bif_inv e
    cases e; have h2 := of_decide_eq_true h1; exact ⟨_, _, rfl, rfl, h2, rfl, rfl⟩
  · cases e
noncomputable def CDivB (i j : Int) : Prop := 0 < j ∧ j < 1606938044258990275541962092341162602522202993782792835301376
theorem op_fdivB : OpR X (binaryOp .FloorDiv) (rI CDivB fun i j => .int (i / j)) := opI fun i j _ _ _ _ _ hc q => by
  have h1 : (0 : Int) < j := hc.1
  have h2 : j < 1606938044258990275541962092341162602522202993782792835301376 := hc.2
  refine floordiv_int (by omega) (by rw [Int.fdiv_eq_ediv_of_nonneg i (by omega)]; exact q) (.inl (PyProof.noPylong_of_log2 ?_))
  have : j.natAbs.log2 < 200 := (Nat.log2_lt (by omega)).mpr (by rw [show 2 ^ 200 = 1606938044258990275541962092341162602522202993782792835301376 from rfl]; omega)
  omega
theorem opM_div : OpM X (binaryOp .FloorDiv) gDiv := opM_int (C := CDivB) (h := fun i j => i / j) op_fdivB fun x y μ d μ' e => by
  unfold gDiv at e
  split at e
  · obtain ⟨h1, e⟩ := bif_inv e
    cases e; have h2 := of_decide_eq_true h1; exact ⟨_, _, rfl, rfl, h2, rfl, rfl⟩
  · cases e
@[simp] noncomputable def gCmp (p : Int → Int → Bool) : G2 := fun x y μ => match x, y with
  | .int i, .int j => some (.bl (p i j), μ)
  | _, _ => none
theorem opM_cmp {f : Value → Value → Sem Value} {p : Int → Int → Bool} (o : OpR X f (rI0 fun i j => .bl (p i j))) : OpM X f (gCmp p) := by
  refine OpM.of fun pins s σ H x y v u Q I rx ry ρ dx dy μ d μ' r1 r2 R e k => ?_
  unfold gCmp at e
  split at e
  · cases e
    exact o pins s σ H x y v u Q I rx ry ⟨_, _, r1.int_inv, r2.int_inv, k ρ H _ Ext.refl R .bl⟩
  · cases e
theorem opM_lt : OpM X (compareOp .Lt) (gCmp fun i j => decide (i < j)) := opM_cmp op_lt
theorem opM_le : OpM X (compareOp .LtE) (gCmp fun i j => decide (i ≤ j)) := opM_cmp op_le
theorem opM_gt : OpM X (compareOp .Gt) (gCmp fun i j => decide (j < i)) := opM_cmp op_gt
@[simp] noncomputable def fChain (g g' : G2) (φ ψ χ : FE) : FE := fun δ μ => (φ δ μ).bind fun p => (ψ δ p.2).bind fun q => (g p.1 q.1 q.2).bind fun r => match r.1 with
  | .bl true => (χ δ r.2).bind fun t => g' q.1 t.1 t.2
  | .bl false => some (.bl false, r.2)
  | _ => none
theorem me_chain {op op' : CmpOp} {g g' : G2} (ho : OpM X (compareOp op) g) (ho' : OpM X (compareOp op') g') (ha : ME X a φ) (hb : ME X b ψ) (hc : ME X c χ)
    (hm : lastMarks [op, op'] [b, c] = false := by with_unfolding_all rfl) : ME X (.Compare a [op, op'] [b, c] pos) (fChain g g' φ ψ χ) :=
  me_of (pe_chain ho ho' ha hb hc hm) fun ρ δ μ σ H d μ' Q A e k => by
    obtain ⟨⟨x, μ1⟩, e1, e⟩ := bind_inv e
    obtain ⟨⟨y, μ2⟩, e2, e⟩ := bind_inv e
    obtain ⟨⟨z, μ3⟩, e3, e⟩ := bind_inv e
    refine ⟨ρ, δ, μ, x, μ1, A, e1, fun ρ1 H1 v x1 R1 r1 => ?_⟩
    refine ⟨ρ1, δ, μ1, y, μ2, A.ext x1 R1, e2, fun ρ2 H2 u x2 R2 r2 => ?_⟩
    refine ⟨ρ2, x, y, μ2, z, μ3, r1.ext x2, r2, R2, e3, fun ρ3 H3 w x3 R3 r3 => ?_⟩
    dsimp only at e
    split at e
    · rename_i hz
      refine ⟨true, r3.bl_inv, iteT ?_⟩
      obtain ⟨⟨t, μ4⟩, e4, e⟩ := bind_inv e
      refine ⟨ρ3, δ, μ3, t, μ4, A.ext (x1.trans (x2.trans x3)) R3, e4, fun ρ4 H4 w' x4 R4 r4 => ?_⟩
      exact ⟨ρ4, y, t, μ4, d, μ', r2.ext (x3.trans x4), r4, R4, e, fun ρ5 H5 w5 x5 R5 r5 => k ρ5 H5 w5 (x1.trans (x2.trans (x3.trans (x4.trans x5)))) R5 r5⟩
    · cases e
      exact ⟨false, r3.bl_inv, iteF (k ρ3 H3 _ (x1.trans (x2.trans x3)) R3 .bl)⟩
    · cases e
@[simp] noncomputable def fAnd (φ ψ : FE) : FE := fun δ μ => (φ δ μ).bind fun p => match p.1 with
  | .bl true => ψ δ p.2
  | .bl false => some (.bl false, p.2)
  | _ => none
@[simp] noncomputable def fOr (φ ψ : FE) : FE := fun δ μ => (φ δ μ).bind fun p => match p.1 with
  | .bl false => ψ δ p.2
  | .bl true => some (.bl true, p.2)
  | _ => none
@[simp] noncomputable def fNot (φ : FE) : FE := fun δ μ => (φ δ μ).bind fun p => match p.1 with
  | .bl b => some (.bl (!b), p.2)
  | _ => none
theorem me_one {op} (h : ME X a φ) : ME X (.BoolOp op [a] pos) φ := pe_one h
theorem me_and {rest : List Expr} (ha : ME X a φ) (hb : ME X (.BoolOp .And (b :: rest) pos) ψ) : ME X (.BoolOp .And (a :: b :: rest) pos) (fAnd φ ψ) :=
  me_of (pe_and ha hb) fun ρ δ μ σ H d μ' Q A e k => by
    obtain ⟨⟨x, μ1⟩, e1, e⟩ := bind_inv e
    refine ⟨ρ, δ, μ, x, μ1, A, e1, fun ρ1 H1 v x1 R1 r1 => ?_⟩
    dsimp only at e
    split at e
    · exact ⟨true, r1.bl_inv, iteT ⟨ρ1, δ, μ1, d, μ', A.ext x1 R1, e, fun ρ2 H2 w x2 R2 r2 => k ρ2 H2 w (x1.trans x2) R2 r2⟩⟩
    · cases e
      exact ⟨false, r1.bl_inv, iteF (k ρ1 H1 _ x1 R1 .bl)⟩
    · cases e
theorem me_not (ha : ME X a φ) : ME X (.UnaryOp .Not a pos) (fNot φ) :=
  me_of (pe_not ha) fun ρ δ μ σ H d μ' Q A e k => by
    obtain ⟨⟨x, μ1⟩, e1, e⟩ := bind_inv e
    refine ⟨ρ, δ, μ, x, μ1, A, e1, fun ρ1 H1 v x1 R1 r1 => ?_⟩
    dsimp only at e
    split at e
    · rename_i q
      cases e
      exact ⟨q, r1.bl_inv, k ρ1 H1 _ x1 R1 .bl⟩
    · cases e
@[simp] noncomputable def tAndT (φ ψ : FT) : FT := fun δ μ => (φ δ μ).bind fun p => bif p.1 then ψ δ p.2 else some (false, p.2)
@[simp] noncomputable def tOrT (φ ψ : FT) : FT := fun δ μ => (φ δ μ).bind fun p => bif p.1 then some (true, p.2) else ψ δ p.2
@[simp] noncomputable def tNotT (φ : FT) : FT := fun δ μ => (φ δ μ).bind fun p => some (!p.1, p.2)
theorem mt_val {φ : FE} (h : ME X a φ) (he : ∀ whole, isTrue a X.env whole = (do let v ← whole; standAt a.pos; holding [v] (truthy v)) := by intro _; rfl) : MT X a (fTest φ) :=
  mt_of (pt_val h he) fun ρ δ μ σ H b μ' Q A e k => ⟨ρ, δ, μ, .bl b, μ', A, test_inv e, fun ρ' H' v x R r => ⟨b, r.bl_inv, k ρ' H' x R⟩⟩
theorem MW.mt {φ : FT} (h : MW X a φ) : MT X a φ := h _
theorem mw_and1 {φ : FT} (h : MT X a φ) : MW X (.BoolOp .And [a] pos) φ := pw_and1 h
theorem mw_or1 {φ : FT} (h : MT X a φ) : MW X (.BoolOp .Or [a] pos) φ := pw_or1 h
theorem mw_and {φ ψ : FT} {rest : List Expr} (ha : MT X a φ) (hb : MW X (.BoolOp .And (b :: rest) pos) ψ) : MW X (.BoolOp .And (a :: b :: rest) pos) (tAndT φ ψ) :=
  mw_of (pw_and ha hb) fun ρ δ μ σ H b μ' Q A e k => by
    obtain ⟨⟨x, μ1⟩, e1, e⟩ := bind_inv e
    refine ⟨ρ, δ, μ, x, μ1, A, e1, fun ρ1 H1 x1 R1 => ?_⟩
    cases x with
    | true => exact iteT ⟨ρ1, δ, μ1, b, μ', A.ext x1 R1, e, fun ρ2 H2 x2 R2 => k ρ2 H2 (x1.trans x2) R2⟩
    | false =>
      cases e
      exact iteF (k ρ1 H1 x1 R1)
theorem mw_or {φ ψ : FT} {rest : List Expr} (ha : MT X a φ) (hb : MW X (.BoolOp .Or (b :: rest) pos) ψ) : MW X (.BoolOp .Or (a :: b :: rest) pos) (tOrT φ ψ) :=
  mw_of (pw_or ha hb) fun ρ δ μ σ H b μ' Q A e k => by
    obtain ⟨⟨x, μ1⟩, e1, e⟩ := bind_inv e
    refine ⟨ρ, δ, μ, x, μ1, A, e1, fun ρ1 H1 x1 R1 => ?_⟩
    cases x with
    | false => exact iteF ⟨ρ1, δ, μ1, b, μ', A.ext x1 R1, e, fun ρ2 H2 x2 R2 => k ρ2 H2 (x1.trans x2) R2⟩
    | true =>
      cases e
      exact iteT (k ρ1 H1 x1 R1)
theorem mt_not {φ : FT} (ha : MT X a φ) : MT X (.UnaryOp .Not a pos) (tNotT φ) :=
  mt_of (pt_not ha) fun ρ δ μ σ H b μ' Q A e k => by
    obtain ⟨⟨x, μ1⟩, e1, e⟩ := bind_inv e
    cases e
    exact ⟨ρ, δ, μ, x, μ1, A, e1, fun ρ1 H1 x1 R1 => k ρ1 H1 x1 R1⟩
structure MAn (X : Cx) (es : List Expr) (φ : FA) : Prop where
  ma : MA X es φ
  len : ∀ δ μ ds μ', φ δ μ = some (ds, μ') → ds.length = es.length
@[simp] noncomputable def aNil : FA := fun _ μ => some ([], μ)
@[simp] noncomputable def aCons (φ : FE) (ψ : FA) : FA := fun δ μ => (φ δ μ).bind fun p => (ψ δ p.2).bind fun q => some (p.1 :: q.1, q.2)
theorem man_nil : MAn X [] aNil := ⟨ma_of pa_nil fun ρ δ μ σ H ds μ' Q A e k => by
    cases e
    exact k ρ H [] Ext.refl A.hp .nil, fun _ _ _ _ e => by cases e; rfl⟩
noncomputable def noStar : Expr → Bool
  | .Starred .. => false
  | _ => true
theorem star_ok {e : Expr} {es : List Expr} {env : Env} (h : noStar e = true) : starEach (e :: es) env = (false, eval e env) :: starEach es env := by
  cases e <;> first | rfl | cases h
theorem man_cons {φ : FE} {ψ : FA} (ha : ME X e φ) (hr : MAn X es ψ) (hs : starEach (e :: es) X.env = (false, eval e X.env) :: starEach es X.env := by exact star_ok rfl) : MAn X (e :: es) (aCons φ ψ) :=
  ⟨ma_of (pa_cons ha hr.ma hs) fun ρ δ μ σ H ds μ' Q A e k => by
    obtain ⟨⟨x, μ1⟩, e1, e⟩ := bind_inv e
    obtain ⟨⟨y, μ2⟩, e2, e⟩ := bind_inv e
    cases e
    refine ⟨ρ, δ, μ, x, μ1, A, e1, fun ρ1 H1 v x1 R1 r1 => ?_⟩
    refine ⟨ρ1, δ, μ1, y, μ2, A.ext x1 R1, e2, fun ρ2 H2 u x2 R2 r2 => ?_⟩
    exact k ρ2 H2 _ (x1.trans x2) R2 (.cons (r1.ext x2) r2), fun δ μ ds μ' e => by
    obtain ⟨⟨x, μ1⟩, e1, e⟩ := bind_inv e
    obtain ⟨⟨y, μ2⟩, e2, e⟩ := bind_inv e
    cases e
    have := hr.len _ _ _ _ e2
    simp [this]⟩
@[simp] noncomputable def fTup (φ : FA) : FE := fun δ μ => (φ δ μ).bind fun p => some (.tup p.1, p.2)
@[simp] noncomputable def fLst (φ : FA) : FE := fun δ μ => (φ δ μ).bind fun p => some (.loc p.2.length, p.2 ++ [.lst p.1])
theorem me_tup {x1} {φ : FA} (h : MAn X es φ) (hn : es.length ≤ 1000 := by decide) : ME X (.Tuple es x1 pos) (fTup φ) :=
  me_of (pe_tup h.ma) fun ρ δ μ σ H d μ' Q A e k => by
    obtain ⟨⟨x, μ1⟩, e1, e⟩ := bind_inv e
    cases e
    refine ⟨ρ, δ, μ, x, μ1, A, e1, fun ρ1 H1 vs x1 R1 r1 => ⟨?_, fun p hp => ?_⟩⟩
    · rw [← r1.length, h.len _ _ _ _ e1]
      exact Nat.le_of_lt (small1000 hn)
    · exact k ρ1 _ _ (x1.trans (Ext.new hp)) (R1.newTup hp) (.tup upd_same (r1.ext (Ext.new hp)))
theorem me_lst {φ : FA} (h : MAn X es φ) (hn : es.length ≤ 1000 := by decide) : ME X (.List es pos) (fLst φ) :=
  me_of (pe_lst h.ma) fun ρ δ μ σ H d μ' Q A e k => by
    obtain ⟨⟨x, μ1⟩, e1, e⟩ := bind_inv e
    cases e
    refine ⟨ρ, δ, μ, x, μ1, A, e1, fun ρ1 H1 vs x1 R1 r1 => ⟨?_, fun p hp => ?_⟩⟩
    · rw [← r1.length, h.len _ _ _ _ e1]
      exact Nat.le_of_lt (small1000 hn)
    · exact k _ _ _ (x1.trans (Ext.push hp)) (R1.push hp ⟨vs, upd_same, r1.ext (Ext.push hp)⟩) (.loc (push_get R1))
@[simp] noncomputable def fCall (F : FF) (φ : FA) : FE := fun δ μ => (φ δ μ).bind fun p => F p.1 p.2
theorem me_call {k n : Nat} {f : Addr} {fd : FuncData} {ps : List Str} {F : FF} {x : Str} {p : Pos} {φ : FA} (G : FnOk X.prog X.w X.K X.mg X.base CX0 k f fd ps (spM X.K n F)) (hr : Room k X.A) (hm : X.mg x = some (.ref f)) (hk : PySem.W.keepIn X.K (.ref f) = true) (hb : Binds X.K fd ps [])
    (ha : MAn X (e :: es) φ) (hn : (e :: es).length = n := by rfl) (hg : Gl X x := by rfl) (hdb : (x == ("__debug__" : Str)) = false := by decide) (he : starEach (e :: es) X.env = (false, eval e X.env) :: starEach es X.env := by exact star_ok rfl) (hpl : (backTo pos (starEach es X.env)).any (·.1) = false := by rfl) :
    ME X (.Call (.Name x p) (e :: es) [] pos) (fCall F φ) :=
  me_of (pe_call G hr hg hm hk hb .nil pass0 ha.ma hdb he hpl) fun ρ δ μ σ H d μ' Q A e k => by
    obtain ⟨⟨x, μ1⟩, e1, e⟩ := bind_inv e
    refine ⟨ρ, δ, μ, x, μ1, A, e1, fun ρ1 H1 vs x1 R1 r1 => ?_⟩
    show spM X.K n F (vs ++ []) H1 Q E0
    rw [List.append_nil]
    exact ⟨by rw [← r1.length, ha.len _ _ _ _ e1]; exact hn, ρ1, x, μ1, d, μ', r1, R1, e, fun ρ2 H2 v x2 R2 r2 => k ρ2 H2 v (x1.trans x2) R2 r2⟩
noncomputable abbrev GL := List D → Mem → Option (D × Mem)
noncomputable def rCM (K : PySem.W.Frag) (g : GL) : List V → Hp → VK → Prop := fun vs H Q => ∃ ρ ds μ d μ', RepVs K ρ H ds vs ∧ RepH K ρ H μ ∧ g ds μ = some (d, μ') ∧ ∀ ρ' H' v, Ext ρ H ρ' H' → RepH K ρ' H' μ' → RepV K ρ' H' d v → Q v H'
noncomputable def CallM (X : Cx) (f : Value) (g : GL) : Prop := CallR X f (rCM X.K g)
theorem CallM.of {X : Cx} {f : Value} {g : GL} (h : ∀ (pins : List (Addr × Obj)) (s : Shared) (σ : L2.St) (H : Hp) (xs : List V) (us : List Value) (Q : VK), Inv X pins σ H s → Vals xs us → ∀ (ρ : List Addr) (ds : List D) (μ : Mem) (d : D) (μ' : Mem), RepVs X.K ρ H ds xs → RepH X.K ρ H μ → g ds μ = some (d, μ') → (∀ ρ' H' v, Ext ρ H ρ' H' → RepH X.K ρ' H' μ' → RepV X.K ρ' H' d v → Q v H') → wpAny (model X.prog X.w) X.A (call f us) (EP X pins σ Q) X.xe s) : CallM X f g := by
  intro pins s σ H xs us Q I r hh
  obtain ⟨ρ, ds, μ, d, μ', r1, R, e, k⟩ := hh
  exact h pins s σ H xs us Q I r ρ ds μ d μ' r1 R e k
theorem cb_w {g : GL} {φ : FA} {ρ : List Addr} {δ : Loc} {μ : Mem} {σ : L2.St} {H : Hp} {d : D} {μ' : Mem} {Q : VK} (A : At X.K ρ H σ δ μ) (e : fCall g φ δ μ = some (d, μ'))
    (k : ∀ ρ' H' v, Ext ρ H ρ' H' → RepH X.K ρ' H' μ' → RepV X.K ρ' H' d v → Q v H') : tCB (rCM X.K g) (tMA X.K φ) σ H Q := by
  obtain ⟨⟨x, μ1⟩, e1, e⟩ := bind_inv e
  exact ⟨ρ, δ, μ, x, μ1, A, e1, fun ρ1 H1 vs x1 R1 r1 => ⟨ρ1, x, μ1, d, μ', r1, R1, e, fun ρ2 H2 v x2 R2 r2 => k ρ2 H2 v (x1.trans x2) R2 r2⟩⟩
theorem me_callB {g : GL} {id : String} {x : Str} {p : Pos} {φ : FA} (hc : CallM X (.builtin id) g) (hm : X.mg x = none) (hv : bootBuiltins x = some (.builtin id)) (ha : MAn X (e :: es) φ) (hg : Gl X x := by rfl) (hn : x ≠ "__name__" := by decide) (hdb : (x == ("__debug__" : Str)) = false := by decide)
    (he : starEach (e :: es) X.env = (false, eval e X.env) :: starEach es X.env := by exact star_ok rfl) (hpl : (backTo pos (starEach es X.env)).any (·.1) = false := by rfl) : ME X (.Call (.Name x p) (e :: es) [] pos) (fCall g φ) :=
  me_of (pe_callB hc hg hm hv ha.ma hn hdb he hpl) fun _ _ _ _ _ _ _ _ A e k => cb_w A e k
theorem me_callT {g : GL} {T : String} {x : Str} {p : Pos} {φ : FA} (hc : CallM X (.type T) g) (hm : X.mg x = none) (hv : bootBuiltins x = some (.type T)) (ha : MAn X (e :: es) φ) (hg : Gl X x := by rfl) (hn : x ≠ "__name__" := by decide) (hdb : (x == ("__debug__" : Str)) = false := by decide)
    (he : starEach (e :: es) X.env = (false, eval e X.env) :: starEach es X.env := by exact star_ok rfl) (hpl : (backTo pos (starEach es X.env)).any (·.1) = false := by rfl) : ME X (.Call (.Name x p) (e :: es) [] pos) (fCall g φ) :=
  me_of (pe_callTy hc hg hm hv ha.ma hn hdb he hpl) fun _ _ _ _ _ _ _ _ A e k => cb_w A e k
end
section
variable {K : PySem.W.Frag} {ρ : List Addr} {H : Hp} {μ : Mem}
@[simp] noncomputable def items (μ : Mem) : D → Option (List D)
  | .tup ds => some ds
  | .fz ds => some ds
  | .loc n => match μ[n]? with
    | some (.lst ds) => some ds
    | _ => none
  | _ => none
theorem items_seq {d : D} {v : V} {ds : List D} (R : RepH K ρ H μ) (r : RepV K ρ H d v) (e : items μ d = some ds) : ∃ p vs, v = .ref p ∧ (SqL K H p vs ∨ SqT K H p vs) ∧ RepVs K ρ H ds vs := by
  unfold items at e
  split at e
  · cases e
    obtain ⟨a, vs, e1, e2, q⟩ := r.tup_inv
    exact ⟨a, vs, e1, .inr (SqT.of e2), q⟩
  · cases e
    obtain ⟨a, vs, e1, e2, q⟩ := r.fz_inv
    exact ⟨a, vs, e1, .inl e2.sq, q⟩
  · split at e
    · rename_i h
      cases e
      obtain ⟨a, e1, e2⟩ := r.loc_inv
      obtain ⟨vs, e3, q⟩ := R.at_ _ _ _ e2 h
      exact ⟨a, vs, e1, .inl (SqL.of e3), q⟩
    · cases e
  · cases e
end
section
variable {X : Cx} {a b c e : Expr} {es : List Expr} {φ ψ χ : FE} {pos : Pos}
@[simp] noncomputable def gIx : G2 := fun x y μ => match y with
  | .int i => (items μ x).bind fun ds => (atI ds i).bind fun d => some (d, μ)
  | _ => none
theorem atI_rep {K : PySem.W.Frag} {ρ : List Addr} {H : Hp} {ds : List D} {vs : List V} {i : Int} {d : D} (r : RepVs K ρ H ds vs) (e : atI ds i = some d) : ∃ v, atI vs i = some v ∧ RepV K ρ H d v := by
  unfold atI at e ⊢
  rw [r.length] at e
  obtain ⟨j, e1, e2⟩ := bind_inv e
  obtain ⟨v, e3, q⟩ := r.get e2
  exact ⟨v, by rw [e1]; exact e3, q⟩
theorem ixM : IxR X (rM X.K gIx) := by
  intro value slice pins s σ H x y v u Q I rx ry ⟨ρ, dx, dy, μ, d, μ', r1, r2, R, e, k⟩ hs
  unfold gIx at e
  split at e
  · obtain ⟨ds, e1, e⟩ := bind_inv e
    obtain ⟨d', e2, e⟩ := bind_inv e
    cases e
    obtain ⟨p, vs, rfl, hq, rr⟩ := items_seq R r1 e1
    obtain ⟨w, e3, q⟩ := atI_rep rr e2
    rcases hq with hq | hq
    · exact ix_seq value slice pins s σ H _ y v u Q I rx ry (.inl ⟨p, vs, _, w, rfl, r2.int_inv, hq, e3, k ρ H w Ext.refl R q⟩) hs
    · exact ix_seq value slice pins s σ H _ y v u Q I rx ry (.inr (.inl ⟨p, vs, _, w, rfl, r2.int_inv, hq, e3, k ρ H w Ext.refl R q⟩)) hs
  · cases e
theorem me_ix (ha : ME X a φ) (hb : ME X b ψ) (hs : PlainIx b := by exact fun _ _ => rfl) : ME X (.Subscript a b pos) (fBin gIx φ ψ) :=
  me_of (pe_ix ixM ha hb hs) fun _ _ _ _ _ _ _ _ A e k => bin_w A e k
@[simp] noncomputable def gLen : GL := fun ds μ => match ds with
  | [d] => (items μ d).bind fun xs => some (.int xs.length, μ)
  | _ => none
theorem callM_len : CallM X (.builtin "len") gLen := by
  refine CallM.of fun pins s σ H xs us Q I r ρ ds μ d μ' r1 R e k => ?_
  unfold gLen at e
  split at e
  · obtain ⟨ds, e1, e⟩ := bind_inv e
    cases e
    obtain ⟨v, rr, rfl, q1, q2⟩ := r1.cons_inv
    have q2 := q2.nil_inv
    subst q2
    obtain ⟨p, vs, rfl, hq, rr⟩ := items_seq R q1 e1
    exact call_len_seq pins s σ H _ us Q I r ⟨p, vs, rfl, hq, k ρ H _ Ext.refl R (by rw [rr.length]; exact .int)⟩
  · cases e
@[simp] noncomputable def gList : GL := fun ds μ => match ds with
  | [d] => (items μ d).bind fun xs => some (.loc μ.length, μ ++ [.lst xs])
  | _ => none
theorem callM_list : CallM X (.type "list") gList := by
  refine CallM.of fun pins s σ H xs us Q I r ρ ds μ d μ' r1 R e k => ?_
  unfold gList at e
  split at e
  · obtain ⟨ds, e1, e⟩ := bind_inv e
    cases e
    obtain ⟨v, rr, rfl, q1, q2⟩ := r1.cons_inv
    have q2 := q2.nil_inv
    subst q2
    obtain ⟨p, vs, rfl, hq, rr⟩ := items_seq R q1 e1
    exact call_list_of pins s σ H _ us Q I r ⟨p, vs, rfl, hq, fun l hl => k _ _ _ (Ext.push hl) (R.push hl ⟨vs, upd_same, rr.ext (Ext.push hl)⟩) (.loc (push_get R))⟩
  · cases e
@[simp] noncomputable def gTuple : GL := fun ds μ => match ds with
  | [.tup xs] => some (.tup xs, μ)
  | [d] => (items μ d).bind fun xs => some (.tup xs, μ)
  | _ => none
theorem callM_tuple : CallM X (.type "tuple") gTuple := by
  refine CallM.of fun pins s σ H xs us Q I r ρ ds μ d μ' r1 R e k => ?_
  have key : ∃ x ys, ds = [x] ∧ items μ x = some ys ∧ d = .tup ys ∧ μ' = μ := by
    unfold gTuple at e
    split at e
    · cases e; exact ⟨_, _, rfl, rfl, rfl, rfl⟩
    · obtain ⟨ds, e1, e⟩ := bind_inv e
      cases e
      exact ⟨_, _, rfl, e1, rfl, rfl⟩
    · cases e
  obtain ⟨x, ys, rfl, e1, rfl, rfl⟩ := key
  obtain ⟨v, rr, rfl, q1, q2⟩ := r1.cons_inv
  have q2 := q2.nil_inv
  subst q2
  cases x with
  | tup zs =>
    cases e1
    obtain ⟨a, vs, rfl, e2, q⟩ := q1.tup_inv
    exact call_tuple_of pins s σ H _ us Q I r ⟨a, vs, rfl, .inr ⟨SqT.of e2, k ρ H _ Ext.refl R q1⟩⟩
  | fz zs =>
    cases e1
    obtain ⟨a, vs, rfl, e2, q⟩ := q1.fz_inv
    exact call_tuple_of pins s σ H _ us Q I r ⟨a, vs, rfl, .inl ⟨e2.sq, fun l hl => k ρ _ _ (Ext.new hl) (R.newTup hl) (.tup upd_same (q.ext (Ext.new hl)))⟩⟩
  | loc n =>
    unfold items at e1
    dsimp only at e1
    split at e1
    · rename_i h
      cases e1
      obtain ⟨a, rfl, e2⟩ := q1.loc_inv
      obtain ⟨vs, e3, q⟩ := R.at_ _ _ _ e2 h
      exact call_tuple_of pins s σ H _ us Q I r ⟨a, vs, rfl, .inl ⟨SqL.of e3, fun l hl => k ρ _ _ (Ext.new hl) (R.newTup hl) (.tup upd_same (q.ext (Ext.new hl)))⟩⟩
    · cases e1
  | _ => cases e1
end
end M
namespace M
open PySem PySem.Spec PyProof.Rows L2
theorem compLoop_own {prog : Program} {w : World} {A : Around} {R : Result → Shared → Prop} {s : Shared} {elt target iter : Expr} {ifs : List Expr} {scope : Scope} {pos : Pos} {it acc : Value} {env : Env} (I : Nat → Shared → Prop)
    (turn : ∀ n s, I n s → wpAny (model prog w) A (pyNext it) (fun r s₁ => match r with
      | none => R (.ok .next) s₁
      | some v => wpAny (model prog w) A (letOwnedTupleGo target it v) (fun _ s₁' => wpAny (model prog w) A (assign target env v) (fun _ s₂ =>
          wpAny (model prog w) A (forIn ifs true fun c r => if r = true then do let ok ← isTrue c env (eval c env); pure (ForInStep.yield ok) else pure (ForInStep.yield r)) (fun ok s₃ =>
            if ok = true then wpAny (model prog w) A (eval elt env) (fun x s₄ =>
              wpAny (model prog w) A (call (.builtin "list.append") [acc, x]) (fun _ s₅ => ∃ m, m < n ∧ I m s₅) (fun _ _ => False) s₄) (fun _ _ => False) s₃
            else ∃ m, m < n ∧ I m s₃) (fun _ _ => False) s₂) (fun _ _ => False) s₁') (fun _ _ => False) s₁) (fun _ _ => False) s)
    (n : Nat) (h : I n s) :
    codeAny (model prog w) A (.compLoop (.ListComp elt [⟨target, iter, ifs, 0⟩] scope pos) 0 it acc env) R s := by
  refine codeAny_loop rfl I (fun n s hI => ?_) n h
  show wpAny _ A ((compTurn (.ListComp elt [⟨target, iter, ifs, 0⟩] scope pos) 0 it acc env).onRaise (fun x => do noteFrame x env; theTreesLotGoes x)) _ _ s
  refine wpAny_noted ?_
  rw [compTurn_list]
  refine wpAny_bind (wpAny_standAt (wpAny_bind (wpAny_mono (turn n s hI) (fun r s₁ h₁ => ?_) fun _ _ h' => h'.elim)))
  cases r with
  | none => exact wpAny_pure h₁
  | some v =>
    refine wpAny_bind (wpAny_mono h₁ (fun _ s₁' h₁ => ?_) fun _ _ h' => h'.elim)
    refine wpAny_bind (wpAny_mono h₁ (fun _ s₂ h₂ => wpAny_bind (wpAny_mono h₂ (fun ok s₃ h₃ => ?_) fun _ _ h' => h'.elim)) fun _ _ h' => h'.elim)
    cases ok with
    | false => exact wpAny_pure ⟨rfl, h₃⟩
    | true =>
      exact wpAny_bind (wpAny_bind (wpAny_mono h₃ (fun x s₄ h₄ => wpAny_bind (wpAny_mono h₄ (fun _ s₅ h₅ => wpAny_pure (wpAny_pure ⟨rfl, h₅⟩)) fun _ _ h' => h'.elim)) fun _ _ h' => h'.elim))
noncomputable def clFrom (cells : List (Str × Addr)) : List (Str × NameKind) → List (Str × Addr) → List (Str × Addr)
  | [], acc => acc
  | (n, k) :: r, acc => clFrom cells r (if k == .free then (match cells.lookup n with | some c => (n, c) :: acc | none => acc) else acc)
theorem closure_loop {env : Env} : ∀ (names : List (Str × NameKind)) (acc : List (Str × Addr)), (∀ x ∈ names, x.2 = .free → ∃ c, env.cells.lookup x.1 = some c) →
    (forIn names acc fun (x : Str × NameKind) (cs : List (Str × Addr)) => (match x with | (name, kind) => if kind == .free then do let c ← cellOf env name; pure (ForInStep.yield ((name, c) :: cs)) else pure (ForInStep.yield cs) : Sem (ForInStep (List (Str × Addr))))) = (pure (clFrom env.cells names acc) : Sem (List (Str × Addr)))
  | [], acc, _ => rfl
  | (n, k) :: r, acc, h => by
    have ih := fun acc' => closure_loop r acc' fun x hx => h x (List.mem_cons_of_mem _ hx)
    rw [List.forIn_cons]
    by_cases hk : k = .free
    · subst hk
      obtain ⟨c, hc⟩ := h (n, .free) List.mem_cons_self rfl
      have e : cellOf env n = pure c := by unfold cellOf; rw [hc]
      have : clFrom env.cells ((n, NameKind.free) :: r) acc = clFrom env.cells r ((n, c) :: acc) := by
        show clFrom env.cells r (if (NameKind.free == NameKind.free) = true then (match env.cells.lookup n with | some c => (n, c) :: acc | none => acc) else acc) = _
        rw [hc]; rfl
      rw [this, ← ih]
      show ((do let c ← cellOf env n; pure (ForInStep.yield ((n, c) :: acc))) >>= _ : Sem _) = _
      rw [e]
      rfl
    · have hb : (k == NameKind.free) = false := by simpa using hk
      have : clFrom env.cells ((n, k) :: r) acc = clFrom env.cells r acc := by
        show clFrom env.cells r (if (k == NameKind.free) = true then _ else acc) = _
        rw [hb]; rfl
      rw [this, ← ih]
      simp only [hb, Bool.false_eq_true, if_false]
      rfl
theorem closure_eq {scope : Scope} {env : Env} (h : ∀ x ∈ scope.names, x.2 = .free → ∃ c, env.cells.lookup x.1 = some c) : closureFor scope env = pure (clFrom env.cells scope.names []) := by
  have e := closure_loop (env := env) scope.names [] h
  unfold closureFor
  show (forIn scope.names [] _ >>= fun r => pure r : Sem _) = _
  rw [show (forIn scope.names ([] : List (Str × Addr)) fun (x : Str × NameKind) (r : List (Str × Addr)) => (match x with | (name, kind) => if kind == .free then do let c ← cellOf env name; pure (ForInStep.yield ((name, c) :: r)) else pure (ForInStep.yield r) : Sem (ForInStep (List (Str × Addr))))) = pure (clFrom env.cells scope.names []) from e]
  rfl
end M
namespace M
open PySem PySem.Spec PyProof.Rows L2
theorem cl_sound {cells : List (Str × Addr)} {x : Str} {c : Addr} : ∀ (names : List (Str × NameKind)) (acc : List (Str × Addr)), (clFrom cells names acc).lookup x = some c → acc.lookup x = some c ∨ cells.lookup x = some c
  | [], _, h => .inl h
  | (n, k) :: r, acc, h => by
    rcases cl_sound r _ h with q | q
    · by_cases hk : (k == NameKind.free) = true
      · rw [if_pos hk] at q
        cases e : cells.lookup n with
        | none => rw [e] at q; exact .inl q
        | some a =>
          rw [e] at q
          simp only [List.lookup_cons] at q
          by_cases hx : (x == n) = true
          · rw [hx] at q
            have hx' : x = n := by simpa using hx
            subst hx'
            cases q
            exact .inr e
          · have hx' : (x == n) = false := by simpa using hx
            rw [hx'] at q
            exact .inl q
      · rw [if_neg hk] at q
        exact .inl q
    · exact .inr q
theorem cl_some {cells : List (Str × Addr)} {x : Str} : ∀ (names : List (Str × NameKind)) (acc : List (Str × Addr)), (acc.lookup x).isSome = true → ((clFrom cells names acc).lookup x).isSome = true
  | [], _, h => h
  | (n, k) :: r, acc, h => by
    refine cl_some r _ ?_
    by_cases hk : (k == NameKind.free) = true
    · rw [if_pos hk]
      cases e : cells.lookup n with
      | none => exact h
      | some a =>
        simp only [List.lookup_cons]
        by_cases hx : (x == n) = true
        · rw [hx]; rfl
        · have hx' : (x == n) = false := by simpa using hx
          rw [hx']; exact h
    · rw [if_neg hk]; exact h
theorem cl_has {cells : List (Str × Addr)} {x : Str} {c : Addr} (hc : cells.lookup x = some c) : ∀ (names : List (Str × NameKind)) (acc : List (Str × Addr)), (x, NameKind.free) ∈ names → ((clFrom cells names acc).lookup x).isSome = true
  | [], _, h => by cases h
  | (n, k) :: r, acc, h => by
    rcases List.mem_cons.mp h with h | h
    · cases h
      refine cl_some r _ ?_
      rw [if_pos (by rfl), hc]
      simp [List.lookup_cons]
    · exact cl_has hc r _ h
noncomputable def cxC (X : Cx) (own : List Str) (fr : List Nat) (scope : Scope) (cl : List (Str × Addr)) (C : Addr) (s₀ : Shared) (H₀ : Hp) (fp : List Addr) : Cx :=
  { X with N := own ++ fr.map fun i => X.N.getD i Str.empty, s₀ := s₀, H₀ := H₀, env := compEnvC scope cl C X.env, outer := X.stack, ex := fp, fn := fun x => scope.names.lookup x == some .cell, xe := fun _ _ => False }
noncomputable def σC (n : Nat) (fr : List Nat) (σ : L2.St) : L2.St := List.replicate n none ++ fr.map fun i => (σ[i]?).getD none
noncomputable def SubSt (σ σ' : L2.St) : Prop := σ'.length = σ.length ∧ ∀ (i : Nat) v, σ[i]? = some (some v) → σ'[i]? = some (some v)
noncomputable def PF (X : Cx) (ifs : List Expr) (t : TT) : Prop := ∀ (pins : List (Addr × Obj)) (s : Shared) (σ : L2.St) (H : Hp) (Q : Bool → Hp → Prop), Inv X pins σ H s → t σ H Q →
  wpAny (model X.prog X.w) X.A (forIn ifs true fun c r => if r = true then do let ok ← isTrue c X.env (eval c X.env); pure (ForInStep.yield ok) else pure (ForInStep.yield r)) (TP X pins σ Q) X.xe s
theorem pf_nil {X : Cx} : PF X [] (fun σ H Q => Q true H) := fun pins s σ H Q I h => wpAny_tests_nil ⟨H, I, h⟩
theorem pf_one {X : Cx} {c : Expr} {t : TT} (h : PT X c t) : PF X [c] t := fun pins s σ H Q I hw => wpAny_tests_one (h pins s σ H Q I hw)
noncomputable def tLC (n : Nat) (fr : List Nat) (wi : TI) (g : TG) (tc : TT) (te : TE) : TE := fun σ H Q => wi σ H fun J H1 => ∃ W : Nat → Nat → List V → Hp → Prop, (∃ m, W 0 m [] H1) ∧ ∀ i m ys H, W i m ys H →
  (J.stop i H ∧ ∀ p, H p = none → Q (.ref p) (upd H p (.lst ys))) ∨
  (J.go i H ∧ ys.length < sizeLine ∧ ∀ x H', J.yld i H x H' → g x (σC n fr σ) H' fun σ2 H2 => SubSt (σC n fr σ) σ2 ∧ tc σ2 H2 fun b H3 =>
    if b = true then te σ2 H3 fun y H4 => ∃ m', m' < m ∧ W (i + 1) m' (ys ++ [y]) H4 else ∃ m', m' < m ∧ W (i + 1) m' ys H3)
section
variable {X : Cx} {own : List Str} {fr : List Nat} {scope : Scope} {pins : List (Addr × Obj)} {σ : L2.St} {H : Hp} {s : Shared}
theorem lookup_relabel {env : Env} {x : Str} {k : NameKind} : ∀ {names : List (Str × NameKind)}, (names.map fun (n, k) => if (k == NameKind.free && env.scope.kind == .function && env.kindOf n == some .cell) then (n, NameKind.cell) else (n, k)).lookup x = some k →
    (k = .cell ∨ k = .free) → (x, NameKind.free) ∈ names ∨ (x, NameKind.cell) ∈ names
  | [], h, _ => by simp at h
  | (n, k') :: r, h, hk => by
    rw [List.map_cons] at h
    by_cases hx : x = n
    · subst hx
      by_cases hb : (k' == NameKind.free && env.scope.kind == .function && env.kindOf x == some .cell) = true
      · have : k' = .free := by
          simp only [Bool.and_eq_true, beq_iff_eq] at hb
          exact hb.1.1
        subst this
        exact .inl List.mem_cons_self
      · have h2 : ((x, k') :: r.map fun (n, k) => if (k == NameKind.free && env.scope.kind == .function && env.kindOf n == some .cell) then (n, NameKind.cell) else (n, k)).lookup x = some k := by
          have e : (if (k' == NameKind.free && env.scope.kind == .function && env.kindOf x == some .cell) = true then (x, NameKind.cell) else (x, k')) = (x, k') := if_neg hb
          rw [← e]; exact h
        simp only [List.lookup_cons, beq_self_eq_true] at h2
        cases h2
        rcases hk with rfl | rfl
        · exact .inr List.mem_cons_self
        · exact .inl List.mem_cons_self
    · have hx' : (x == n) = false := by simpa using hx
      have h2 : (r.map fun (n, k) => if (k == NameKind.free && env.scope.kind == .function && env.kindOf n == some .cell) then (n, NameKind.cell) else (n, k)).lookup x = some k := by
        by_cases hb : (k' == NameKind.free && env.scope.kind == .function && env.kindOf n == some .cell) = true
        · have e : (if (k' == NameKind.free && env.scope.kind == .function && env.kindOf n == some .cell) = true then (n, NameKind.cell) else (n, k')) = (n, NameKind.cell) := if_pos hb
          have h3 : ((n, NameKind.cell) :: r.map fun (n, k) => if (k == NameKind.free && env.scope.kind == .function && env.kindOf n == some .cell) then (n, NameKind.cell) else (n, k)).lookup x = some k := by rw [← e]; exact h
          simpa only [List.lookup_cons, hx'] using h3
        · have e : (if (k' == NameKind.free && env.scope.kind == .function && env.kindOf n == some .cell) = true then (n, NameKind.cell) else (n, k')) = (n, k') := if_neg hb
          have h3 : ((n, k') :: r.map fun (n, k) => if (k == NameKind.free && env.scope.kind == .function && env.kindOf n == some .cell) then (n, NameKind.cell) else (n, k)).lookup x = some k := by rw [← e]; exact h
          simpa only [List.lookup_cons, hx'] using h3
      rcases lookup_relabel h2 hk with q | q
      · exact .inl (List.mem_cons_of_mem _ q)
      · exact .inr (List.mem_cons_of_mem _ q)
theorem relabel_free {env : Env} {x : Str} : ∀ {names : List (Str × NameKind)}, names.lookup x = some .free →
    (names.map fun (n, k) => if (k == NameKind.free && env.scope.kind == .function && env.kindOf n == some .cell) then (n, NameKind.cell) else (n, k)).lookup x = some .cell ∨
    (names.map fun (n, k) => if (k == NameKind.free && env.scope.kind == .function && env.kindOf n == some .cell) then (n, NameKind.cell) else (n, k)).lookup x = some .free
  | [], h => by simp at h
  | (n, k') :: r, h => by
    rw [List.map_cons]
    by_cases hx : x = n
    · subst hx
      simp only [List.lookup_cons, beq_self_eq_true] at h
      cases h
      by_cases hb : (NameKind.free == NameKind.free && env.scope.kind == .function && env.kindOf x == some .cell) = true
      · have e : (if (NameKind.free == NameKind.free && env.scope.kind == .function && env.kindOf x == some .cell) = true then (x, NameKind.cell) else (x, NameKind.free)) = (x, NameKind.cell) := if_pos hb
        left
        show List.lookup x ((if (NameKind.free == NameKind.free && env.scope.kind == .function && env.kindOf x == some .cell) = true then (x, NameKind.cell) else (x, NameKind.free)) :: _) = _
        rw [e]; simp [List.lookup_cons]
      · have e : (if (NameKind.free == NameKind.free && env.scope.kind == .function && env.kindOf x == some .cell) = true then (x, NameKind.cell) else (x, NameKind.free)) = (x, NameKind.free) := if_neg hb
        right
        show List.lookup x ((if (NameKind.free == NameKind.free && env.scope.kind == .function && env.kindOf x == some .cell) = true then (x, NameKind.cell) else (x, NameKind.free)) :: _) = _
        rw [e]; simp [List.lookup_cons]
    · have hx' : (x == n) = false := by simpa using hx
      simp only [List.lookup_cons, hx'] at h
      have ih := relabel_free (env := env) h
      have step : ∀ k, (r.map fun (n, k) => if (k == NameKind.free && env.scope.kind == .function && env.kindOf n == some .cell) then (n, NameKind.cell) else (n, k)).lookup x = some k →
        List.lookup x ((if (k' == NameKind.free && env.scope.kind == .function && env.kindOf n == some .cell) = true then (n, NameKind.cell) else (n, k')) :: (r.map fun (n, k) => if (k == NameKind.free && env.scope.kind == .function && env.kindOf n == some .cell) then (n, NameKind.cell) else (n, k))) = some k := fun k hk => by
          by_cases hb : (k' == NameKind.free && env.scope.kind == .function && env.kindOf n == some .cell) = true
          · rw [if_pos hb]; simpa only [List.lookup_cons, hx'] using hk
          · rw [if_neg hb]; simpa only [List.lookup_cons, hx'] using hk
      rcases ih with ih | ih
      · exact .inl (step _ ih)
      · exact .inr (step _ ih)
theorem stk_not {b : Addr} (I : Inv X pins σ H s) (h1 : b ≠ X.env.locals) (h2 : b ∉ X.fs) : b ∉ frs X.stack := fun z =>
  (List.mem_cons.mp (I.stkSub b z)).elim h1 h2
theorem σC_get {n : Nat} {i : Nat} {v : V} (h : (σC n fr σ)[i]? = some (some v)) : n ≤ i ∧ ∃ j, fr[i - n]? = some j ∧ σ[j]? = some (some v) := by
  unfold σC at h
  by_cases hi : i < n
  · rw [List.getElem?_append_left (by simpa using hi), List.getElem?_replicate] at h
    split at h <;> cases h
  · have hi : n ≤ i := Nat.le_of_not_lt hi
    rw [List.getElem?_append_right (by simpa using hi), List.length_replicate, List.getElem?_map] at h
    cases e : fr[i - n]? with
    | none => rw [e] at h; cases h
    | some j =>
      rw [e] at h
      refine ⟨hi, j, rfl, ?_⟩
      have h' : (σ[j]?).getD none = some v := Option.some.inj h
      cases e2 : σ[j]? with
      | none => rw [e2] at h'; cases h'
      | some o => rw [e2] at h'; exact congrArg some h'
theorem cf_app : ∀ (names : List (Str × NameKind)) (n : Nat) (acc : List (Str × Addr)), cellsFrom n names acc = cellsFrom n names [] ++ acc
  | [], n, acc => rfl
  | (x, k) :: r, n, acc => by
    unfold cellsFrom
    split
    · rw [cf_app r (n + 1) ((x, n) :: acc), cf_app r (n + 1) [(x, n)]]
      simp
    · exact cf_app r n acc
theorem cf_mem : ∀ (names : List (Str × NameKind)) (n : Nat) (x : Str) (c : Addr), (x, c) ∈ cellsFrom n names [] → n ≤ c ∧ (x, NameKind.cell) ∈ names
  | [], n, x, c, h => by cases h
  | (y, k) :: r, n, x, c, h => by
    unfold cellsFrom at h
    split at h
    · rename_i hk
      rw [cf_app] at h
      rcases List.mem_append.mp h with h | h
      · obtain ⟨h1, h2⟩ := cf_mem r (n + 1) x c h
        exact ⟨Nat.le_of_succ_le h1, List.mem_cons_of_mem _ h2⟩
      · have e : (x, c) = (y, n) := by simpa using h
        cases e
        rw [beq_iff_eq.mp hk]
        exact ⟨Nat.le_refl _, List.mem_cons_self⟩
    · obtain ⟨h1, h2⟩ := cf_mem r n x c h
      exact ⟨h1, List.mem_cons_of_mem _ h2⟩
theorem cf_look {names : List (Str × NameKind)} {n : Nat} {acc : List (Str × Addr)} {x : Str} {c : Addr} (h : (cellsFrom n names acc).lookup x = some c) : (cellsFrom n names []).lookup x = some c ∨ ((cellsFrom n names []).lookup x = none ∧ acc.lookup x = some c) := by
  rw [cf_app, List.lookup_append] at h
  cases e : (cellsFrom n names []).lookup x with
  | none => rw [e] at h; exact .inr ⟨rfl, h⟩
  | some d => rw [e] at h; exact .inl h
theorem cf_none {names : List (Str × NameKind)} {n : Nat} {x : Str} (hn : ∀ y ∈ names, names.lookup y.1 = some y.2) (h : (x, NameKind.free) ∈ names) : (cellsFrom n names []).lookup x = none := by
  cases e : (cellsFrom n names []).lookup x with
  | none => rfl
  | some c =>
    have h1 := hn _ (cf_mem _ _ _ _ (PySem.mem_of_lookup e)).2
    have h2 := hn _ h
    rw [h1] at h2
    cases h2
theorem inv_comp {fp : List Addr} {D C : Addr} {lo : Nat} {h1 : Heap} {t : Nat} {mC : Str → Option Value} {oD : Obj} (I : Inv X pins σ H s) (hf : ∀ b ∈ fp, FpOk X pins H b) (hfl : ∀ b ∈ fp, b < s.heap.objs.size)
    (hk : scope.kind = .function) (hnm : ∀ y ∈ scope.names, scope.names.lookup y.1 = some y.2) (hfree : ∀ x ∈ scope.names, x.2 = .free → (X.env.kindOf x.1 = some .cell ∨ X.env.kindOf x.1 = some .free))
    (hfr : ∀ i ∈ fr, ∃ x, X.N[i]? = some x ∧ scope.names.lookup x = some .free) (hlo : C < lo) (hOC : CellsOk h1 lo (cellsFrom lo scope.names []))
    (old : ∀ b o, s.heap.get? b = some o → h1.get? b = some o) (hD : s.heap.objs.size ≤ D) (hC : s.heap.objs.size ≤ C) (hDC : D ≠ C) (hDlo : D < lo) (eD : h1.get? D = some oD) (dD : ∀ v, oD.data ≠ .cell v) (nC : h1.Ns C mC) :
    Inv (cxC X own fr scope (cellsFrom lo scope.names (clFrom X.env.cells scope.names [])) C s H fp) (pins ++ [(D, oD)]) (σC own.length fr σ) H { s with heap := h1, toks := t } := by
  have cl1 : ∀ x c, (clFrom X.env.cells scope.names []).lookup x = some c → X.env.cells.lookup x = some c := fun x c e => by
    rcases cl_sound _ _ e with q | q
    · cases q
    · exact q
  have clH : ∀ x, (x, NameKind.free) ∈ scope.names → ∃ c, (cellsFrom lo scope.names (clFrom X.env.cells scope.names [])).lookup x = some c ∧ X.env.cells.lookup x = some c := fun x hx => by
    obtain ⟨c, hc⟩ := I.ok.has x (hfree _ hx rfl)
    obtain ⟨c', hc'⟩ := Option.isSome_iff_exists.mp (cl_has hc scope.names [] hx)
    exact ⟨c', by rw [cf_app, List.lookup_append, cf_none hnm hx]; exact hc', cl1 _ _ hc'⟩
  have two : ∀ x c, (cellsFrom lo scope.names (clFrom X.env.cells scope.names [])).lookup x = some c → ((cellsFrom lo scope.names []).lookup x = some c ∧ lo ≤ c) ∨ X.env.cells.lookup x = some c := fun x c e => by
    rcases cf_look e with q | ⟨_, q⟩
    · exact .inl ⟨q, (cf_mem _ _ _ _ (PySem.mem_of_lookup q)).1⟩
    · exact .inr (cl1 _ _ q)
  have oldc : ∀ x c, X.env.cells.lookup x = some c → c < s.heap.objs.size := fun x c e => by
    obtain ⟨v, o, ho, _⟩ := I.cell x c e
    exact Heap.lt_size ho
  have hslo : s.heap.objs.size ≤ lo := Nat.le_trans hC (Nat.le_of_lt hlo)
  refine ⟨⟨I.ok.mod, hk, I.ok.glob, I.ok.blt, hC, fun x y c e1 e2 => ?inj, fun x hx => ?_, fun x c hx e => ?cab, I.ok.hd, I.ok.frames, .inl rfl, fun b hb => ⟨?_, fun x c e => ?exf⟩, I.bs, Nat.le_trans I.ok.bsz I.sz, fun b o e hb => ?_, fun b hb => ?_, I.stack, I.stkFree⟩,
    rfl, I.bare, Un.kept old, ⟨mC, nC, fun i x v h1 h2 h3 => ?_⟩, fun x c e => ?cell, I.hok.fresh hC, fun x c e => ?freeC, fun p hp => ?_, I.hok.kept old, ?_⟩
  case inj =>
    rcases two x c e1 with ⟨q1, l1⟩ | q1
    · rcases two y c e2 with ⟨q2, _⟩ | q2
      · exact name_of_addr hOC.apart (PySem.mem_of_lookup q1) (PySem.mem_of_lookup q2)
      · exact absurd (Nat.lt_of_lt_of_le (oldc y c q2) (Nat.le_trans hslo l1)) (Nat.lt_irrefl _)
    · rcases two y c e2 with ⟨_, l2⟩ | q2
      · exact absurd (Nat.lt_of_lt_of_le (oldc x c q1) (Nat.le_trans hslo l2)) (Nat.lt_irrefl _)
      · exact I.ok.inj x y c q1 q2
  case cab =>
    have hx : (scope.names.lookup x == some .cell) = true := hx
    obtain ⟨d, hd⟩ := Option.isSome_iff_exists.mp (PySem.W.cellsFrom_some scope.names lo [] (.inl (beq_iff_eq.mp hx)))
    rcases cf_look (show (cellsFrom lo scope.names (clFrom X.env.cells scope.names [])).lookup x = some c from e) with q | ⟨q, _⟩
    · exact Nat.le_trans hslo (cf_mem _ _ _ _ (PySem.mem_of_lookup q)).1
    · rw [q] at hd; cases hd
  case exf =>
    rcases two x c e with ⟨_, l⟩ | q
    · exact Nat.ne_of_gt (Nat.lt_of_lt_of_le (hfl b hb) (Nat.le_trans hslo l))
    · exact (hf b hb).2.2.2.2.1 x c q
  case cell =>
    rcases two x c e with ⟨q, _⟩ | q
    · exact ⟨none, (hOC.empty x c (PySem.mem_of_lookup q)).1⟩
    · obtain ⟨v, o, ho, hd⟩ := I.cell x c q
      exact ⟨v, o, old _ _ ho, hd⟩
  case freeC =>
    rcases two x c e with ⟨_, l⟩ | q
    · exact I.hok.fresh (Nat.le_trans hslo l)
    · exact I.freeC x c q
  · have hx' : (relabel scope X.env).names.lookup x = some .cell ∨ (relabel scope X.env).names.lookup x = some .free := hx
    have hm : (x, NameKind.free) ∈ scope.names ∨ (x, NameKind.cell) ∈ scope.names := by
      rcases hx' with h | h
      · exact lookup_relabel (env := X.env) h (.inl rfl)
      · exact lookup_relabel (env := X.env) h (.inr rfl)
    rcases hm with hm | hm
    · obtain ⟨c, e, _⟩ := clH x hm
      exact ⟨c, e⟩
    · exact Option.isSome_iff_exists.mp (PySem.W.cellsFrom_some scope.names lo _ (.inl (hnm _ hm)))
  · exact Nat.ne_of_lt (Nat.lt_of_lt_of_le (hfl b hb) hC)
  · rcases (hf b hb).2.2.2.1 with z | z
    · exact I.ok.noex b o e z
    · exact absurd (Nat.lt_of_lt_of_le (Heap.lt_size e) (Nat.le_trans I.ok.bsz z)) (Nat.lt_irrefl _)
  · exact stk_not I (hf b hb).2.1 (hf b hb).2.2.1
  · obtain ⟨hi, j, e1, e2⟩ := σC_get h2
    have hjm : j ∈ fr := List.mem_of_getElem? e1
    obtain ⟨y, ey, ly⟩ := hfr j hjm
    have hxy : x = y := by
      have h1' : (own ++ fr.map fun i => X.N.getD i Str.empty)[i]? = some x := h1
      rw [List.getElem?_append_right hi, List.getElem?_map, e1] at h1'
      have h1'' : X.N.getD j Str.empty = x := Option.some.inj h1'
      rw [List.getD_eq_getElem?_getD, ey] at h1''
      exact h1''.symm
    subst hxy
    have hm : (x, NameKind.free) ∈ scope.names := PySem.mem_of_lookup ly
    have hv : Vis X.env.scope x := by
      rcases hfree _ hm rfl with q | q
      · exact .inr (.inl q)
      · exact .inr (.inr q)
    obtain ⟨m, hn, hl⟩ := id I.loc
    obtain ⟨u, ru, q⟩ := hl j x v ey e2 hv
    obtain ⟨c, c1, c2⟩ := clH x hm
    refine ⟨u, ru, .inr ⟨relabel_free (env := X.env) ly, c, c1, ?_⟩⟩
    rcases q with ⟨k, _⟩ | ⟨k, c', e', z⟩
    · rcases hfree _ hm rfl with q | q
      · rw [show X.env.kindOf (x, NameKind.free).1 = X.env.kindOf x from rfl, k] at q; cases q
      · rw [show X.env.kindOf (x, NameKind.free).1 = X.env.kindOf x from rfl, k] at q; cases q
    · rw [c2] at e'; cases e'
      obtain ⟨o, ho, hd⟩ := z
      exact ⟨o, old _ _ ho, hd⟩
  · have hp' : p ∈ X.pn ++ (pins ++ [(D, oD)]) := hp
    rw [← List.append_assoc] at hp'
    rcases List.mem_append.mp hp' with hp' | hp'
    · obtain ⟨a1, a2, a3, a4, a5⟩ := I.pin p hp'
      exact ⟨old _ _ a1, a2, Nat.ne_of_lt (Nat.lt_of_lt_of_le (Heap.lt_size a1) hC), stk_not I a3 a4, a5⟩
    · have : p = (D, oD) := by simpa using hp'
      subst this
      refine ⟨eD, I.hok.fresh hD, hDC, fun z => ?_, dD⟩
      rcases List.mem_cons.mp (I.stkSub _ z) with z | z
      · exact absurd (Nat.lt_of_lt_of_le I.lt (z ▸ hD)) (Nat.lt_irrefl _)
      · exact I.nofs hD z
  · show (σC own.length fr σ).length = (own ++ fr.map fun i => X.N.getD i Str.empty).length
    unfold σC
    simp
end
end M
namespace M
open PySem PySem.Spec PyProof.Rows L2
theorem HOk.track {P : Program} {w : World} {H : Hp} {h : Heap} {a : Addr} {o : HO} (x : HOk P w H h) (hn : H a = none) (new : ObjOk P w (upd H a o) h a o) : HOk P w (upd H a o) h := fun b u e => by
  by_cases hb : b = a
  · subst hb; rw [upd_same] at e; cases e; exact new
  · rw [upd_ne hb] at e
    exact (x b u e).stay (fun c v _ q => q) (fun c q => by rw [upd_ne (ne_of_none q hn)]; exact q) fun c xs q => by rw [upd_ne (ne_of_none q hn)]; exact q
theorem newEnvC {M : Model} {A : Around} {E : Value → Shared → Prop} {s : Shared} {scope : Scope} {globals : Addr} {cl : List (Str × Addr)} {qual : Str} {env : Env} {Q : Env → Shared → Prop}
    (hQ : Q (newEnv scope s.heap.objs.size globals (cellsFrom (s.heap.objs.size + 1) scope.names cl) qual none .none (some env) builtinsNs) { s with heap := pushCells (s.heap.push { cls := .type "dict", data := .dict #[] }) scope.names }) :
    wpAny M A (newFunctionEnv scope globals cl [] qual none .none (some env)) Q E s := by
  simp only [newFunctionEnv, Option.isSome_some, if_true]
  refine wpAny_bind (wpAny_alloc ?_)
  refine wpAny_bind (wpAny_layCells _ (fun name kind cells => by cases hkc : kind == NameKind.cell <;> simp [hkc]) _ _ _ _ ?_)
  rw [show ({ s with heap := s.heap.push { cls := .type "dict", data := .dict #[] } } : Shared).heap.objs.size = s.heap.objs.size + 1 from Heap.size_push ..]
  refine wpAny_bind ?_
  rw [List.forIn_nil]
  exact wpAny_pure (wpAny_pure hQ)
section
variable {X : Cx} {own : List Str} {fr : List Nat} {scope : Scope}
structure Walked (X : Cx) (pins : List (Addr × Obj)) (σ : L2.St) (H : Hp) (ys : List V) (D C : Addr) (s : Shared) : Prop where
  inv : Inv X pins σ (upd H D (.lst ys)) s
  free : H D = none
  freeC : upd H D (.lst ys) C = none
  own : ∃ m, s.heap.Ns C m
  notL : C ≠ X.env.locals
  young : X.s₀.heap.objs.size ≤ C
  notCell : ∀ x c, X.env.cells.lookup x = some c → c ≠ C
  notPin : ∀ p ∈ X.pn ++ pins, p.1 ≠ C
theorem lc_core {elt tg iter : Expr} {ifs : List Expr} {pos : Pos} {g : TG} {tc : TT} {te : TE} {pins : List (Addr × Obj)} {σ : L2.St} {s2 : Shared} {Qn : List V → Hp → Prop} {itv : Value} {RR : Value → Addr → Result → Shared → Prop} (own : List Str) (fr : List Nat) (hc : X.calm = true)
    (hg : ∀ cl C s₀ H₀ fp, PG (cxC X own fr scope cl C s₀ H₀ fp) tg g) (hq : ∀ cl C s₀ H₀ fp, PF (cxC X own fr scope cl C s₀ H₀ fp) ifs tc) (he : ∀ cl C s₀ H₀ fp, PE (cxC X own fr scope cl C s₀ H₀ fp) elt te)
    (hk : scope.kind = .function) (hnm : ∀ y ∈ scope.names, scope.names.lookup y.1 = some y.2)
    (hfree : ∀ x ∈ scope.names, x.2 = .free → (X.env.kindOf x.1 = some .cell ∨ X.env.kindOf x.1 = some .free)) (hfr : ∀ i ∈ fr, ∃ x, X.N[i]? = some x ∧ scope.names.lookup x = some .free)
    (h2 : PIE X pins σ tg (fun J H1 => ∃ W : Nat → Nat → List V → Hp → Prop, (∃ m, W 0 m [] H1) ∧ ∀ i m ys H, W i m ys H →
      (J.stop i H ∧ Qn ys H) ∨ (J.go i H ∧ ys.length < sizeLine ∧ ∀ x H', J.yld i H x H' → g x (σC own.length fr σ) H' fun σ2 H2 => SubSt (σC own.length fr σ) σ2 ∧ tc σ2 H2 fun b H3 =>
        if b = true then te σ2 H3 fun y H4 => ∃ m', m' < m ∧ W (i + 1) m' (ys ++ [y]) H4 else ∃ m', m' < m ∧ W (i + 1) m' ys H3)) itv s2)
    (fin : ∀ ys H D C s4, Qn ys H → Walked X pins σ H ys D C s4 → RR (.ref D) C (.ok .next) s4) :
    wpAny (model X.prog X.w) X.A (newList []) (fun acc s₃ => wpAny (model X.prog X.w) X.A (newFunctionEnv scope X.env.globals (clFrom X.env.cells scope.names []) [] X.env.qual none .none (some X.env)) (fun cenv s₄ =>
      codeAny (model X.prog X.w) X.A (.compStart (.ListComp elt [⟨tg, iter, ifs, 0⟩] scope pos) 0 itv acc { cenv with scope := relabel scope X.env }) (RR acc cenv.locals) s₄) X.xe s₃) X.xe s2 := by
  obtain ⟨it, fp, tn, J, H2, e, I2, T, st2, f2, W, ⟨m0, w0⟩, turn⟩ := h2
  subst e
  have hfl : ∀ b ∈ fp, b < s2.heap.objs.size := fun b hb => by
    obtain ⟨o, e, _⟩ := T.obj _ _ st2 b hb
    exact Heap.lt_size e
  refine wpAny_newObj_type (newEnvC ?_)
  dsimp only
  generalize hH2 : s2.heap.push { cls := .type "list", dict := none, data := .seq ([] : List Value).toArray } = G2
  have hC : G2.objs.size = s2.heap.objs.size + 1 := by rw [← hH2, Heap.size_push]
  have hDC : s2.heap.objs.size ≠ G2.objs.size := by rw [hC]; exact Nat.ne_of_lt (Nat.lt_succ_self _)
  have hCle : s2.heap.objs.size ≤ G2.objs.size := by rw [hC]; exact Nat.le_succ _
  have below : ∀ b, b < s2.heap.objs.size → b ≠ G2.objs.size ∧ b ≠ s2.heap.objs.size := fun b hb => ⟨by rw [hC]; exact Nat.ne_of_lt (Nat.lt_succ_of_lt hb), Nat.ne_of_lt hb⟩
  have hns₁ : (pushCells (G2.push { cls := .type "dict", data := .dict #[] }) scope.names).Ns G2.objs.size (fun _ => none) := (Heap.Ns.new G2 (.type "dict")).keeps fun b o e => pushCells_keeps _ _ _ _ e
  have hok₁ : CellsOk (pushCells (G2.push { cls := .type "dict", data := .dict #[] }) scope.names) (G2.objs.size + 1) (cellsFrom (G2.objs.size + 1) scope.names []) := by
    have := cellsFrom_ok scope.names (G2.push { cls := .type "dict", data := .dict #[] }) (G2.objs.size + 1) [] ⟨fun _ _ hm => (nomatch hm), List.Pairwise.nil⟩ (by rw [Heap.size_push]; exact Nat.le_refl _)
    rw [Heap.size_push] at this
    exact this
  have hk₁ : ∀ b o, G2.get? b = some o → (pushCells (G2.push { cls := .type "dict", data := .dict #[] }) scope.names).get? b = some o := fun b o e => pushCells_keeps _ _ _ _ (Heap.get?_push_of_some _ e)
  generalize pushCells (G2.push { cls := .type "dict", data := .dict #[] }) scope.names = h₁ at hns₁ hok₁ hk₁ ⊢
  have old : ∀ b o, s2.heap.get? b = some o → h₁.get? b = some o := fun b o e => hk₁ b o (hH2 ▸ Heap.get?_push_of_some _ e)
  have hacc : h₁.get? s2.heap.objs.size = some { cls := .type "list", data := .seq ([] : List Value).toArray 0 } := hk₁ _ _ (hH2 ▸ Heap.get?_push_size _ rfl)
  generalize hXC : cxC X own fr scope (cellsFrom (G2.objs.size + 1) scope.names (clFrom X.env.cells scope.names [])) G2.objs.size s2 H2 fp = XC
  have eenv : compEnvC scope (cellsFrom (G2.objs.size + 1) scope.names (clFrom X.env.cells scope.names [])) G2.objs.size X.env = XC.env := by rw [← hXC]; rfl
  have eprog : XC.prog = X.prog := by rw [← hXC]; rfl
  have ew : XC.w = X.w := by rw [← hXC]; rfl
  have eA : XC.A = X.A := by rw [← hXC]; rfl
  have eK : XC.K = X.K := by rw [← hXC]; rfl
  have ecalm : XC.calm = true := by rw [← hXC]; exact hc
  have exe : XC.xe = fun _ _ => False := by rw [← hXC]; rfl
  have eloc : XC.env.locals = G2.objs.size := by rw [← hXC]; rfl
  have eex : XC.ex = fp := by rw [← hXC]; rfl
  have efs : XC.fs = frs X.stack := by rw [← hXC]; rfl
  have es0 : XC.s₀ = s2 := by rw [← hXC]; rfl
  have eH0 : XC.H₀ = H2 := by rw [← hXC]; rfl
  have epn : XC.pn = X.pn := by rw [← hXC]; rfl
  have ecells : ∀ x c, XC.env.cells.lookup x = some c → X.env.cells.lookup x = some c ∨ G2.objs.size < c := fun x c e => by
    rw [← hXC] at e
    rcases cf_look (show (cellsFrom (G2.objs.size + 1) scope.names (clFrom X.env.cells scope.names [])).lookup x = some c from e) with q | ⟨_, q⟩
    · exact .inr (cf_mem _ _ _ _ (PySem.mem_of_lookup q)).1
    · rcases cl_sound _ _ q with q | q
      · cases q
      · exact .inl q
  have hg' : PG XC tg g := hXC ▸ hg _ _ _ _ _
  have hq' : PF XC ifs tc := hXC ▸ hq _ _ _ _ _
  have he' : PE XC elt te := hXC ▸ he _ _ _ _ _
  have fpok : ∀ {H' : Hp} {pl : List (Addr × Obj)}, (∀ b ∈ fp, H' b = none) → (∀ p ∈ pl, p.1 = s2.heap.objs.size) → ∀ b ∈ fp, FpOk XC (pins ++ pl) H' b := fun {H' pl} hn hpl b hb => by
    obtain ⟨_, f2, f3, f4, f5, f6⟩ := f2 b hb
    refine ⟨hn b hb, by rw [eloc]; exact (below b (hfl b hb)).1, by rw [efs]; exact stk_not I2 f2 f3, .inl (by rw [eex]; exact hb), fun x c e => ?c5, fun p hp => ?_⟩
    case c5 =>
      rcases ecells x c e with q | q
      · exact f5 x c q
      · exact Nat.ne_of_gt (Nat.lt_of_lt_of_le (hfl b hb) (Nat.le_trans hCle (Nat.le_of_lt q)))
    rw [epn, ← List.append_assoc] at hp
    rcases List.mem_append.mp hp with hp | hp
    · exact f6 p hp
    · rw [hpl p hp]; exact Ne.symm (below b (hfl b hb)).2
  have loop : ∀ s₃ : Shared, s₃ = { s2 with heap := h₁ } →
      codeAny (model X.prog X.w) X.A (.compLoop (.ListComp elt [⟨tg, iter, ifs, 0⟩] scope pos) 0 (.ref it) (.ref s2.heap.objs.size) (compEnvC scope (cellsFrom (G2.objs.size + 1) scope.names (clFrom X.env.cells scope.names [])) G2.objs.size X.env))
        (RR (.ref s2.heap.objs.size) G2.objs.size) s₃ := by
    rintro s₃ rfl
    have I0 := inv_comp (own := own) (fr := fr) (t := s2.toks) (lo := G2.objs.size + 1) I2 f2 hfl hk hnm hfree hfr (Nat.lt_succ_self _) hok₁ old (Nat.le_refl _) hCle hDC (Nat.lt_succ_of_le hCle) hacc (by intro v z; cases z) hns₁
    rw [hXC] at I0
    refine compLoop_own (fun n s' => ∃ (i : Nat) (ys : List V) (its : Array Value) (k : Nat) (H' : Hp), Inv XC (pins ++ [(s2.heap.objs.size, ({ cls := .type "list", data := .seq its k } : Obj))]) (σC own.length fr σ) H' s' ∧ Vals ys its.toList ∧ ys.length ≤ sizeLine ∧ tn i s'.heap ∧ (∀ b ∈ fp, H' b = none) ∧ W i n ys H') ?_ m0
      ⟨0, [], #[], 0, H2, I0, .nil, Nat.zero_le _, T.keep _ _ _ st2 (fun b hb o e => old b o e), fun b hb => (f2 b hb).1, w0⟩
    rintro n s3 ⟨i, ys, its, kk, H3, I3, rv, hz, st3, fr3, w3⟩
    have pl1 : ∀ p ∈ [(s2.heap.objs.size, ({ cls := .type "list", data := .seq its kk } : Obj))], p.1 = s2.heap.objs.size := fun p hp => by
      rw [List.mem_singleton.mp hp]
    rcases turn i n ys H3 w3 with ⟨stop, qn⟩ | ⟨go, hlt, step⟩
    · have td := T.done XC eprog ew eK ecalm i _ s3 _ H3 (fun _ _ => False) I3 (fpok fr3 pl1) st3 stop
      rw [eA] at td
      refine thn td fun r s4 ⟨hr, I4⟩ => ?_
      subst hr
      obtain ⟨m, hn, _⟩ := id I4.loc
      rw [eloc] at hn
      obtain ⟨p1, p2, p3, p4, p5⟩ := I4.pin (s2.heap.objs.size, _) (List.mem_append_right _ (List.mem_append_right _ List.mem_cons_self))
      have hnC : H3 G2.objs.size = none := by have := I4.free; rw [eloc] at this; exact this
      have hokf : HOk X.prog X.w (upd H3 s2.heap.objs.size (.lst ys)) s4.heap := by
        refine HOk.track (by have := I4.hok; rw [eprog, ew] at this; exact this) p2 ⟨hz, its.toList, kk, rv, by simpa using p1⟩
      have u0 : Un (frs X.stack) fp H2 H3 s2.heap s4.heap := by
        have := I4.base
        rw [efs, eex, es0, eH0] at this
        exact this
      have u1 : Un (frs X.stack) fp H2 (upd H3 s2.heap.objs.size (.lst ys)) s2.heap s4.heap := by
        have bd : ∀ b o, s2.heap.get? b = some o → b ≠ s2.heap.objs.size := fun b o e => (below b (Heap.lt_size e)).2
        refine ⟨u0.keep, u0.slot, fun b o e n hx => by rw [upd_ne (bd b o e)]; exact u0.free b o e n hx, u0.there, fun b xs e => ?_, fun b o u e => ?_, fun b ps e => ?_⟩
        · have q := u0.tups b xs e
          rw [upd_ne (ne_of_none q p2)]; exact q
        · have q := u0.frzs b o u e
          rw [upd_ne (ne_of_none q p2)]; exact q
        · obtain ⟨more, q⟩ := u0.tbls b ps e
          exact ⟨more, by rw [upd_ne (ne_of_none q p2)]; exact q⟩
      have os4 : s4.os = s2.os := by have := I4.os; rw [es0] at this; exact this
      have IF : Inv X pins σ (upd H3 s2.heap.objs.size (.lst ys)) { s2 with heap := s4.heap, gens := s4.gens, drawn := s4.drawn, toks := s4.toks } :=
        I2.call (h' := s4.heap) (ch := fp) u1 hokf I4.bare fun b hb => by
          obtain ⟨_, f2, f3, f4, f5, f6⟩ := f2 b hb
          exact ⟨f4, f2, f5, f6⟩
      have es : s4 = { s2 with heap := s4.heap, gens := s4.gens, drawn := s4.drawn, toks := s4.toks } := by
        obtain ⟨a1, a2, a3, a4, a5⟩ := s4
        have : a5 = s2.os := os4
        subst this
        rfl
      rw [← es] at IF
      refine fin ys H3 _ _ s4 qn ⟨IF, p2, by rw [upd_ne (Ne.symm hDC)]; exact hnC, ⟨m, hn⟩, Ne.symm (below _ I2.lt).1, Nat.le_trans I2.sz hCle, fun x c e => ?_, fun p hp => ?_⟩
      · obtain ⟨v, o, ho, _⟩ := I2.cell x c e
        exact (below c (Heap.lt_size ho)).1
      · exact (below p.1 (Heap.lt_size (I2.pin p hp).1)).1
    · have td := T.item XC eprog ew eK ecalm i _ s3 _ H3 (fun _ _ => False) I3 (fpok fr3 pl1) st3 go
      rw [eA] at td
      refine thn td fun r s4 ⟨u, hr, h4⟩ => ?_
      subst hr
      refine thn h4 fun _ s5 ⟨x, H5, I5, r5, y5, st5, fr5⟩ => ?_
      have I5' := I5.pinned (fpok fr5 pl1) (T.obj _ _ st5)
      have hgw := hg' _ s5 _ H5 x u _ I5' r5 (step x H5 y5)
      rw [exe, eprog, ew, eA] at hgw
      rw [eenv]
      refine thn hgw fun _ s6 ⟨σ6, H6, I6, ⟨hsl, hsub⟩, q6⟩ => ?_
      have hqw := hq' _ s6 σ6 H6 _ I6 q6
      rw [exe, eprog, ew, eA] at hqw
      refine thn hqw fun ok s7 ⟨H7, I7, q7⟩ => ?_
      have back : ∀ {H8 : Hp} {s8 : Shared}, Inv XC (pins ++ [(s2.heap.objs.size, ({ cls := .type "list", data := .seq its kk } : Obj))] ++ pinsAt fp s5.heap) σ6 H8 s8 →
          Inv XC (pins ++ [(s2.heap.objs.size, ({ cls := .type "list", data := .seq its kk } : Obj))]) (σC own.length fr σ) H8 s8 ∧ tn (i + 1) s8.heap ∧ ∀ b ∈ fp, H8 b = none := fun {H8 s8} I8 => by
        refine ⟨I8.unpinned.weak hsl.symm hsub, T.keep _ _ _ st5 fun b hb o e => (I8.pin (b, o) (List.mem_append_right _ (List.mem_append_right _ (mem_pinsAt hb e)))).1, fun b hb => ?_⟩
        obtain ⟨o, e, d⟩ := T.obj _ _ st5 b hb
        exact (I8.pin (b, o) (List.mem_append_right _ (List.mem_append_right _ (mem_pinsAt hb e)))).2.1
      cases ok with
      | false =>
        have q7' : ∃ m', m' < n ∧ W (i + 1) m' ys H7 := by simpa using q7
        rw [if_neg Bool.false_ne_true]
        obtain ⟨m', hm, w7⟩ := q7'
        obtain ⟨J1, J2, J3⟩ := back I7
        exact ⟨m', hm, i + 1, ys, its, kk, H7, J1, rv, hz, J2, J3, w7⟩
      | true =>
        rw [if_pos rfl] at q7 ⊢
        have hew := he' _ s7 σ6 H7 _ I7 q7
        rw [exe, eprog, ew, eA] at hew
        refine thn hew fun y s8 ⟨vy, H8, I8, r8, m', hm, w8⟩ => ?_
        obtain ⟨J1, J2, J3⟩ := back I8
        obtain ⟨p1, p2, p3, p4, p5⟩ := J1.pin (s2.heap.objs.size, _) (List.mem_append_right _ (List.mem_append_right _ List.mem_cons_self))
        have hil : its.size = ys.length := by rw [rv.length]; simp
        refine append_at (hsz := by rw [hil]; exact hz) p1 fun h9 sb9 e9 => ?_
        have Df : s2.heap.objs.size ∉ fp := fun z => absurd (hfl _ z) (Nat.lt_irrefl _)
        have J0 : Inv XC pins (σC own.length fr σ) H8 s8 := J1.unpinned
        have J9 : Inv XC pins (σC own.length fr σ) H8 { s8 with heap := h9 } := by
          refine J0.turned (t' := s8.toks) (it := s2.heap.objs.size) (fun b o hb e => (sb9.2 b hb).trans e) p2 p3 (.inr (by rw [es0]; exact Nat.le_refl _)) (fun x c e z => ?_) (fun p hp z => ?_)
          · rcases ecells x c e with q | q
            · obtain ⟨v, o, ho, _⟩ := I2.cell x c q
              exact (below c (Heap.lt_size ho)).2 z
            · exact Nat.ne_of_gt (Nat.lt_of_le_of_lt hCle q) z
          · rw [epn] at hp
            exact (below p.1 (Heap.lt_size (I2.pin p hp).1)).2 z
        refine ⟨m', hm, i + 1, ys ++ [vy], its.push y, kk + 1, H8, J9.pins_of fun p hp => ?_, ?_, by simp; exact hlt, T.keep _ _ _ J2 (fun b hb o e => (sb9.2 b (fun z => Df (z ▸ hb))).trans e), J3, w8⟩
        · rcases List.mem_append.mp hp with hp | hp
          · exact J9.pin p (List.mem_append_right _ hp)
          · have e := List.mem_singleton.mp hp
            subst e
            exact ⟨e9, p2, p3, p4, by intro v z; cases z⟩
        · rw [Array.toList_push]
          exact rv.append (.cons r8 .nil)
  exact codeAny_compStart_list (loop _ rfl) (T.self X.A 0 _ _ _ (T.keep _ _ _ st2 fun b hb o e => old b o e) (loop _ rfl))
theorem Walked.gone {pins : List (Addr × Obj)} {σ : L2.St} {H : Hp} {ys : List V} {D C : Addr} {s : Shared} (w : Walked X pins σ H ys D C s) {h' : Heap} (sb : Heap.SameBut C s.heap h') : Inv X pins σ (upd H D (.lst ys)) { s with heap := h' } :=
  w.inv.turned (t' := s.toks) (fun b o hb e => (sb.2 b hb).trans e) w.freeC (Ne.symm (Ne.symm w.notL)) (.inr w.young) w.notCell w.notPin
theorem pe_lc {elt tg iter : Expr} {ifs : List Expr} {pos : Pos} {wi : TI} {g : TG} {tc : TT} {te : TE} (own : List Str) (fr : List Nat) (hc : X.calm = true) (hi : PI X tg iter wi)
    (hg : ∀ cl C s₀ H₀ fp, PG (cxC X own fr scope cl C s₀ H₀ fp) tg g) (hq : ∀ cl C s₀ H₀ fp, PF (cxC X own fr scope cl C s₀ H₀ fp) ifs tc) (he : ∀ cl C s₀ H₀ fp, PE (cxC X own fr scope cl C s₀ H₀ fp) elt te)
    (hk : scope.kind = .function) (hnm : ∀ y ∈ scope.names, scope.names.lookup y.1 = some y.2)
    (hfree : ∀ x ∈ scope.names, x.2 = .free → (X.env.kindOf x.1 = some .cell ∨ X.env.kindOf x.1 = some .free)) (hfr : ∀ i ∈ fr, ∃ x, X.N[i]? = some x ∧ scope.names.lookup x = some .free)
    (hs : ∀ x, foldedSetIterable iter X.env x = pure x := by intro _; rfl) : PE X (.ListComp elt [⟨tg, iter, ifs, 0⟩] scope pos) (tLC own.length fr wi g tc te) := by
  intro pins s σ H Q I h
  rw [eval_ListComp]
  have hclos : closureFor scope X.env = pure (clFrom X.env.cells scope.names []) := closure_eq fun x hx e => I.ok.has x.1 (hfree x hx e)
  refine wpAny_comprehension_free (use := none) rfl hs hclos hk (fun x hx e => by rw [hnm x hx, e]) ?_
  show wpAny _ _ (eval iter X.env) _ _ s
  refine thn (hi pins s σ H _ I h) fun v s1 h1 => thn h1 fun itv s2 h2 => ?_
  refine lc_core (RR := fun acc C => compPost (model X.prog X.w) X.A X.xe none (EP X pins σ Q) acc C) own fr hc hg hq he hk hnm hfree hfr h2 fun ys H3 D C s4 q w => ?_
  obtain ⟨m, hn⟩ := w.own
  exact ⟨m, hn, fun h' sb => ⟨.ref D, _, w.gone sb, rfl, q D w.free⟩⟩
end
end M
namespace M
open PySem PySem.Spec PyProof.Rows L2
section
variable {K : PySem.W.Frag} {ρ ρ1 : List Addr} {H H1 : Hp}
theorem OutOk.ext {W : XK} {E : Ends} {o : Out} (h : OutOk K W ρ H E o) (x : Ext ρ H ρ1 H1) : OutOk K W ρ1 H1 E o := by
  cases o with
  | next δ μ => exact fun ρ' σ' H' x' A => h ρ' σ' H' (x.trans x') A
  | brk δ μ => exact fun ρ' σ' H' x' A => h ρ' σ' H' (x.trans x') A
  | cont δ μ => exact fun ρ' σ' H' x' A => h ρ' σ' H' (x.trans x') A
  | ret d μ => exact fun ρ' v H' x' R r => h ρ' v H' (x.trans x') R r
  | exc c fs μ => exact fun ρ' H' C dx hc x' R r => h ρ' H' C dx hc (x.trans x') R r
theorem At.set {σ : L2.St} {δ : Loc} {μ : Mem} {d : D} {v : V} (A : At K ρ H σ δ μ) (r : RepV K ρ H d v) (i : Nat) : At K ρ H (σ.set i (some v)) (δ.set i (some d)) μ := by
  refine ⟨fun j d' e => ?_, A.hp, by simp [A.len]⟩
  by_cases hj : j = i
  · subst hj
    have hl : j < δ.length := by
      have := (List.getElem?_eq_some_iff.mp e).1
      simpa using this
    rw [List.getElem?_set_self hl] at e
    cases e
    exact ⟨v, by rw [List.getElem?_set_self (by rw [A.len]; exact hl)], r⟩
  · rw [List.getElem?_set_ne (Ne.symm hj)] at e
    obtain ⟨u, e1, q⟩ := A.st j d' e
    exact ⟨u, by rw [List.getElem?_set_ne (Ne.symm hj)]; exact e1, q⟩
end
section
variable {X : Cx} {a b c e : Expr} {es : List Expr} {φ ψ χ : FE} {pos : Pos} {st : Stmt} {rest : List Stmt}
@[simp] noncomputable def sSkip : FS := fun δ μ => some (.next δ μ)
@[simp] noncomputable def sSeq (p q : FS) : FS := fun δ μ => match p δ μ with
  | some (.next δ' μ') => q δ' μ'
  | o => o
theorem mss_nil : MSs X [] sSkip := mss_of pss_nil fun ρ δ μ σ H o E A e k => by
  cases e
  exact k ρ σ H Ext.refl A
theorem mss_one {p : FS} (h : MS X st p) : MSs X [st] p := pss_one h
theorem mss_cons {p q : FS} (h1 : MS X st p) (h2 : MSs X rest q) : MSs X (st :: rest) (sSeq p q) :=
  mss_of (pss_cons h1 h2) fun ρ δ μ σ H o E A e k => by
    unfold sSeq at e
    show tMS X.K (wishX X) p { E with nx := tMS X.K (wishX X) q E } σ H
    cases ep : p δ μ with
    | none => rw [ep] at e; cases e
    | some op =>
      rw [ep] at e
      refine ⟨ρ, δ, μ, op, A, ep, ?_⟩
      cases op with
      | next δ' μ' => exact fun ρ' σ' H' x' A' => ⟨ρ', δ', μ', o, A', e, k.ext x'⟩
      | brk δ' μ' => cases e; exact k
      | cont δ' μ' => cases e; exact k
      | ret d μ' => cases e; exact k
      | exc C fs μ' => cases e; exact k
@[simp] noncomputable def sRet (φ : FE) : FS := fun δ μ => (φ δ μ).bind fun p => some (.ret p.1 p.2)
theorem ms_ret (h : ME X e φ) : MS X (.Return (some e) pos) (sRet φ) := ms_of (ps_ret h) fun ρ δ μ σ H o E A e k => by
  obtain ⟨⟨x, μ1⟩, e1, e⟩ := bind_inv e
  cases e
  exact ⟨ρ, δ, μ, x, μ1, A, e1, fun ρ' H' v x' R r => k ρ' v H' x' R r⟩
@[simp] noncomputable def sExpr (φ : FE) : FS := fun δ μ => (φ δ μ).bind fun p => some (.next δ p.2)
theorem ms_expr (h : ME X e φ) (hs : swapsWith e none pos.line X.env = pure false := by rfl) : MS X (.Expr e pos) (sExpr φ) := ms_of (ps_expr h hs) fun ρ δ μ σ H o E A e k => by
  obtain ⟨⟨x, μ1⟩, e1, e⟩ := bind_inv e
  cases e
  exact ⟨ρ, δ, μ, x, μ1, A, e1, fun ρ' H' v x' R r => k ρ' σ H' x' (A.ext x' R)⟩
@[simp] noncomputable def sSet (i : Nat) (φ : FE) : FS := fun δ μ => (φ δ μ).bind fun p => some (.next (δ.set i (some p.1)) p.2)
theorem ms_set {x : Str} {pos' : Pos} (i : Nat) (he : ME X e φ) (hN : X.N.Nodup := by first | assumption | decide) (hi : X.N[i]? = some x := by rfl) (hx : L2.Loc X.env.scope x := by first | exact Or.inl rfl | exact Or.inr rfl) (hs : swapsWith e (some (.Name x pos')) pos.line X.env = pure false := by rfl)
    (hf : X.fn x = true ∨ X.env.scope.names.lookup x = some .local := by first | exact .inl rfl | exact .inr rfl | assumption) : MS X (.Assign [.Name x pos'] e pos) (sSet i φ) := ms_of (ps_set hN hi hx he hs hf) fun ρ δ μ σ H o E A e k => by
  obtain ⟨⟨x, μ1⟩, e1, e⟩ := bind_inv e
  cases e
  exact ⟨ρ, δ, μ, x, μ1, A, e1, fun ρ' H' v x' R r => k ρ' _ H' x' ((A.ext x' R).set r i)⟩
@[simp] noncomputable def sIf (c : FT) (p q : FS) : FS := fun δ μ => (c δ μ).bind fun t => bif t.1 then p δ t.2 else q δ t.2
theorem ms_if {s1 s2 : List Stmt} {t : FT} {p q : FS} (hc : MT X c t) (h1 : MSs X s1 p) (h2 : MSs X s2 q) : MS X (.If c s1 s2 pos) (sIf t p q) := ms_of (ps_if hc h1 h2) fun ρ δ μ σ H o E A e k => by
  obtain ⟨⟨x, μ1⟩, e1, e⟩ := bind_inv e
  refine ⟨ρ, δ, μ, x, μ1, A, e1, fun ρ' H' x' R => ?_⟩
  cases x with
  | true => exact iteT ⟨ρ', δ, μ1, o, A.ext x' R, e, k.ext x'⟩
  | false => exact iteF ⟨ρ', δ, μ1, o, A.ext x' R, e, k.ext x'⟩
noncomputable def sNever : FS := fun _ _ => none
theorem ms_never : MS X st sNever := ms_of ps_never fun _ _ _ _ _ _ _ _ e _ => by cases e
noncomputable abbrev FG := D → Loc → Mem → Option (Loc × Mem)
noncomputable abbrev FGs := List D → Loc → Mem → Option (Loc × Mem)
noncomputable def tMG (K : PySem.W.Frag) (g : FG) : TG := fun v σ H Q => ∃ ρ δ μ d δ' μ', At K ρ H σ δ μ ∧ RepV K ρ H d v ∧ g d δ μ = some (δ', μ') ∧ ∀ ρ' σ' H', Ext ρ H ρ' H' → At K ρ' H' σ' δ' μ' → Q σ' H'
noncomputable def MG (X : Cx) (t : Expr) (g : FG) : Prop := PG X t (tMG X.K g)
theorem mg_of {t : Expr} {tt : TG} {g : FG} (h : PG X t tt) (w : ∀ ρ δ μ d δ' μ' v σ H Q, At X.K ρ H σ δ μ → RepV X.K ρ H d v → g d δ μ = some (δ', μ') → (∀ ρ' σ' H', Ext ρ H ρ' H' → At X.K ρ' H' σ' δ' μ' → Q σ' H') → tt v σ H Q) : MG X t g :=
  by intro pins s σ H v u Q I r hh; obtain ⟨ρ, δ, μ, d, δ', μ', A, q, e, k⟩ := hh; exact h pins s σ H v u Q I r (w ρ δ μ d δ' μ' v σ H Q A q e k)
@[simp] noncomputable def gN (i : Nat) : FG := fun d δ μ => some (δ.set i (some d), μ)
theorem mg_name {x : Str} (i : Nat) (hN : X.N.Nodup := by first | assumption | decide) (hi : X.N[i]? = some x := by rfl) (hx : L2.Loc X.env.scope x := by first | exact Or.inl rfl | exact Or.inr rfl) (hf : X.fn x = true ∨ X.env.scope.names.lookup x = some .local := by first | exact .inl rfl | exact .inr rfl | assumption) : MG X (.Name x pos) (gN i) :=
  mg_of (pg_name hN hi hx hf) fun ρ δ μ d δ' μ' v σ H Q A q e k => by
    cases e
    exact k ρ _ H Ext.refl (A.set q i)
@[simp] noncomputable def gsNil : FGs := fun ds δ μ => match ds with
  | [] => some (δ, μ)
  | _ => none
@[simp] noncomputable def gsCons (g : FG) (gs : FGs) : FGs := fun ds δ μ => match ds with
  | d :: r => (g d δ μ).bind fun p => gs r p.1 p.2
  | _ => none
@[simp] noncomputable def gT (n : Nat) (gs : FGs) : FG := fun d δ μ => match d with
  | .tup ds => bif ds.length == n then gs ds δ μ else none
  | _ => none
@[simp] noncomputable def gAt (φ ψ : FE) : FG := fun d δ μ => (φ δ μ).bind fun p => (ψ δ p.2).bind fun q => match p.1, q.1 with
  | .loc n, .int i => match q.2[n]? with
    | some (.lst ds) => (ixN ds.length i).bind fun j => some (δ, q.2.set n (.lst (ds.set j d)))
    | _ => none
  | _, _ => none
theorem mg_at {o i : Expr} (ho : ME X o φ) (hi : ME X i ψ) (ha : ∀ v, assign (.Subscript o i pos) X.env v = (do
      let ov ← holding [v] (eval o X.env)
      let iv ← holding [v, ov] (eval i X.env)
      standAt pos
      holding [v, ov, iv] (setItem ov iv v)
      release [v, ov, iv] []) := by intro _; rfl) : MG X (.Subscript o i pos) (gAt φ ψ) :=
  mg_of (pg_sub ho hi set_list ha) fun ρ δ μ d δ' μ' v σ H Q A q e k => by
    obtain ⟨⟨x, μ1⟩, e1, e⟩ := bind_inv e
    obtain ⟨⟨y, μ2⟩, e2, e⟩ := bind_inv e
    refine ⟨ρ, δ, μ, x, μ1, A, e1, fun ρ1 H1 v1 x1 R1 r1 => ?_⟩
    refine ⟨ρ1, δ, μ1, y, μ2, A.ext x1 R1, e2, fun ρ2 H2 v2 x2 R2 r2 => ?_⟩
    dsimp only at e
    split at e
    · split at e
      · rename_i hm
        obtain ⟨j, e3, e⟩ := bind_inv e
        cases e
        obtain ⟨ad, rfl, hr⟩ := (r1.ext x2).loc_inv
        obtain ⟨vs, hv, q3⟩ := R2.at_ _ _ _ hr hm
        have hmu : Mut (H2 ad) := by rw [hv]; trivial
        refine ⟨ad, vs, _, j, rfl, r2.int_inv, hv, by rw [← q3.length]; exact e3, ?_⟩
        have xx := x1.trans x2
        have R3 := R2.wr (o := .lst (vs.set j v)) (lo := .lst _) hmu hr ⟨_, upd_same, RepVs.ext (Ext.wr hmu) (q3.set j (q.ext xx))⟩
        exact k ρ2 σ _ (xx.trans (Ext.wr hmu)) (A.ext (xx.trans (Ext.wr hmu)) R3)
      · cases e
    · cases e
@[simp] noncomputable def sAsg (φ : FE) (g : FG) : FS := fun δ μ => (φ δ μ).bind fun p => (g p.1 δ p.2).bind fun q => some (.next q.1 q.2)
theorem ms_asg {tg : Expr} {g : FG} (he : ME X e φ) (hg : MG X tg g) (hs : swapsWithSole [tg] e pos.line X.env = pure false := by rfl) (hw : swappedStores [tg] e X.env = pure none := by rfl)
    (h1 : (assignEach [tg] X.env).map (·.2) = [assign tg X.env] := by rfl) : MS X (.Assign [tg] e pos) (sAsg φ g) := ms_of (ps_asg he hg hs hw h1) fun ρ δ μ σ H o E A e k => by
  obtain ⟨⟨x, μ1⟩, e1, e⟩ := bind_inv e
  obtain ⟨⟨δ1, μ2⟩, e2, e⟩ := bind_inv e
  cases e
  refine ⟨ρ, δ, μ, x, μ1, A, e1, fun ρ1 H1 v1 x1 R1 r1 => ?_⟩
  exact ⟨ρ1, δ, μ1, x, δ1, μ2, A.ext x1 R1, r1, e2, fun ρ2 σ2 H2 x2 A2 => k ρ2 σ2 H2 (x1.trans x2) A2⟩
noncomputable abbrev FI := Loc → Mem → Option (List D × (Mem → Bool) × Mem)
structure ItIs (K : PySem.W.Frag) (J : It) (ρ : List Addr) (H : Hp) (ds : List D) (ok : Mem → Bool) : Prop where
  go : ∀ ρ' H' μ' (i : Nat), Ext ρ H ρ' H' → RepH K ρ' H' μ' → ok μ' = true → i < ds.length → J.go i H'
  yld : ∀ ρ' H' μ' (i : Nat) x H'' d, Ext ρ H ρ' H' → RepH K ρ' H' μ' → ok μ' = true → ds[i]? = some d → J.yld i H' x H'' → Ext ρ' H' ρ' H'' ∧ RepH K ρ' H'' μ' ∧ RepV K ρ' H'' d x
  stop : ∀ ρ' H' μ', Ext ρ H ρ' H' → RepH K ρ' H' μ' → ok μ' = true → J.stop ds.length H'
noncomputable def tMI (K : PySem.W.Frag) (φ : FI) : TI := fun σ H R => ∃ ρ δ μ ds ok μ', At K ρ H σ δ μ ∧ φ δ μ = some (ds, ok, μ') ∧ ∀ ρ' H' J, Ext ρ H ρ' H' → RepH K ρ' H' μ' → ItIs K J ρ' H' ds ok → R J H'
noncomputable def MI (X : Cx) (tg iter : Expr) (φ : FI) : Prop := PI X tg iter (tMI X.K φ)
theorem mi_of {tg it : Expr} {t : TI} {φ : FI} (h : PI X tg it t) (w : ∀ ρ δ μ σ H ds ok μ' R, At X.K ρ H σ δ μ → φ δ μ = some (ds, ok, μ') → (∀ ρ' H' J, Ext ρ H ρ' H' → RepH X.K ρ' H' μ' → ItIs X.K J ρ' H' ds ok → R J H') → t σ H R) : MI X tg it φ :=
  by intro pins s σ H R I hh; obtain ⟨ρ, δ, μ, ds, ok, μ', A, e, k⟩ := hh; exact h pins s σ H R I (w ρ δ μ σ H ds ok μ' R A e k)
@[simp] noncomputable def yes : Mem → Bool := fun _ => true
@[simp] noncomputable def iRange (φ : FA) : FI := fun δ μ => (φ δ μ).bind fun p => match p.1 with
  | [.int j] => bif decide (-(2 ^ 62) ≤ j ∧ j < 2 ^ 62) then some ((List.range j.toNat).map fun (k : Nat) => .int k, yes, p.2) else none
  | _ => none
theorem mi_range {tg : Expr} {p : Pos} {φ : FA} (hm : X.mg "range" = none) (ha : MAn X [a] φ) (hg : Gl X "range" := by rfl) (hs : starEach [a] X.env = [(false, eval a X.env)] := by rfl) : MI X tg (.Call (.Name "range" p) [a] [] pos) (iRange φ) :=
  mi_of (pi_range1 hg hm ha.ma hs) fun ρ δ μ σ H ds ok μ' R A e k => by
    obtain ⟨⟨x, μ1⟩, e1, e⟩ := bind_inv e
    refine ⟨ρ, δ, μ, x, μ1, A, e1, fun ρ1 H1 v1 x1 R1 r1 => ?_⟩
    dsimp only at e
    split at e
    · rename_i j
      obtain ⟨h1, e⟩ := bif_inv e
      have h2 := of_decide_eq_true h1
      cases e
      obtain ⟨w, r, rfl, q1, q2⟩ := r1.cons_inv
      refine ⟨j, by rw [q1.int_inv, q2.nil_inv], h2.1, h2.2, k ρ1 H1 _ x1 R1 ⟨fun ρ' H' μ' i _ _ _ h => by rw [List.length_map, List.length_range] at h; exact h, fun ρ' H' μ' i x H'' d _ RR _ e ⟨y1, y2⟩ => ⟨y1 ▸ Ext.refl, y1 ▸ RR, ?_⟩, fun ρ' H' μ' _ _ _ => by show j.toNat ≤ _; simp⟩⟩
      rw [List.getElem?_map] at e
      cases e3 : (List.range j.toNat)[i]? with
      | none => rw [e3] at e; cases e
      | some m =>
        rw [e3] at e
        have hmi : m = i := by
          obtain ⟨w1, w2⟩ := List.getElem?_eq_some_iff.mp e3
          simpa using w2.symm
        subst hmi
        have e' : D.int (m : Nat) = d := Option.some.inj e
        subst e'
        rw [y2, show (0 : Int) + (m : Nat) = (m : Int) by omega]
        exact .int
    · cases e
theorem itt_is {K : PySem.W.Frag} {ρ : List Addr} {H : Hp} {a : Addr} {vs : List V} {ds : List D} (h : H a = some (.tup vs)) (r : RepVs K ρ H ds vs) : ItIs K (Itt K a) ρ H ds yes := by
  refine ⟨fun ρ' H' μ' i x R _ hi => ?_, fun ρ' H' μ' i x H'' d x' R _ e ⟨y1, y2⟩ => ⟨y1 ▸ Ext.refl, y1 ▸ R, y1 ▸ ?_⟩, fun ρ' H' μ' x R _ => ⟨vs, SqT.of (x.tup _ _ h), by rw [r.length]; exact Nat.le_refl _⟩⟩
  · have hi' : i < vs.length := by rw [← r.length]; exact hi
    exact ⟨vs, vs[i], SqT.of (x.tup _ _ h), by simp [hi']⟩
  · have q := y2 vs (SqT.of (x'.tup _ _ h))
    obtain ⟨w, e1, rr⟩ := (r.ext x').get e
    rw [q] at e1; cases e1
    exact rr
@[simp] noncomputable def iTuple (φ : FE) : FI := fun δ μ => (φ δ μ).bind fun p => match p.1 with
  | .tup ds => some (ds, yes, p.2)
  | _ => none
theorem mi_tup {tg : Expr} (h : ME X a φ) : MI X tg a (iTuple φ) :=
  mi_of (pi_tup h) fun ρ δ μ σ H ds ok μ' R A e k => by
    obtain ⟨⟨x, μ1⟩, e1, e⟩ := bind_inv e
    refine ⟨ρ, δ, μ, x, μ1, A, e1, fun ρ1 H1 v1 x1 R1 r1 => ?_⟩
    dsimp only at e
    split at e
    · cases e
      obtain ⟨a, vs, rfl, e2, q2⟩ := r1.tup_inv
      exact ⟨a, rfl, ⟨vs, SqT.of e2⟩, k ρ1 H1 _ x1 R1 (itt_is e2 q2)⟩
    · cases e
noncomputable def stays (n : Nat) (ds : List D) : Mem → Bool := fun μ => @decide (μ[n]? = some (.lst ds)) (Classical.propDecidable _)
theorem stays_iff {n : Nat} {ds : List D} {μ : Mem} : stays n ds μ = true ↔ μ[n]? = some (.lst ds) := by
  unfold stays
  exact @decide_eq_true_iff _ (Classical.propDecidable _)
noncomputable def iList (φ : FE) : FI := fun δ μ => (φ δ μ).bind fun p => match p.1 with
  | .fz ds => some (ds, yes, p.2)
  | .loc n => match p.2[n]? with
    | some (.lst ds) => some (ds, stays n ds, p.2)
    | _ => none
  | _ => none
theorem itl_is {K : PySem.W.Frag} {ρ : List Addr} {H : Hp} {a : Addr} {ds : List D} {ok : Mem → Bool} (h : ∀ ρ' H' μ', Ext ρ H ρ' H' → RepH K ρ' H' μ' → ok μ' = true → ∃ vs, SqL K H' a vs ∧ RepVs K ρ' H' ds vs) : ItIs K (Itl K a) ρ H ds ok := by
  refine ⟨fun ρ' H' μ' i x R o hi => ?_, fun ρ' H' μ' i x H'' d x' R o e ⟨y1, y2⟩ => ⟨y1 ▸ Ext.refl, y1 ▸ R, y1 ▸ ?_⟩, fun ρ' H' μ' x R o => ?_⟩
  · obtain ⟨vs, s, r⟩ := h ρ' H' μ' x R o
    have hi' : i < vs.length := by rw [← r.length]; exact hi
    exact ⟨vs, vs[i], s, by simp [hi']⟩
  · obtain ⟨vs, s, r⟩ := h ρ' H' μ' x' R o
    have q := y2 vs s
    obtain ⟨w, e1, rr⟩ := r.get e
    rw [q] at e1; cases e1
    exact rr
  · obtain ⟨vs, s, r⟩ := h ρ' H' μ' x R o
    exact ⟨vs, s, by rw [r.length]; exact Nat.le_refl _⟩
theorem mi_list {tg : Expr} (h : ME X a φ) : MI X tg a (iList φ) :=
  mi_of (pi_list h) fun ρ δ μ σ H ds ok μ' R A e k => by
    obtain ⟨⟨x, μ1⟩, e1, e⟩ := bind_inv e
    refine ⟨ρ, δ, μ, x, μ1, A, e1, fun ρ1 H1 v1 x1 R1 r1 => ?_⟩
    dsimp only at e
    split at e
    · cases e
      obtain ⟨a, vs, rfl, e2, q2⟩ := r1.fz_inv
      exact ⟨a, rfl, ⟨vs, e2.sq⟩, k ρ1 H1 _ x1 R1 (itl_is fun ρ' H' μ' x _ _ => ⟨vs, (x.fz e2).sq, q2.ext x⟩)⟩
    · split at e
      · rename_i hm
        cases e
        obtain ⟨a, rfl, e2⟩ := r1.loc_inv
        obtain ⟨vs, e3, q3⟩ := R1.at_ _ _ _ e2 hm
        refine ⟨a, rfl, ⟨vs, SqL.of e3⟩, k ρ1 H1 _ x1 R1 (itl_is fun ρ' H' μ'' x R' o => ?_)⟩
        obtain ⟨vs', e4, q4⟩ := R'.at_ _ _ _ (x.get e2) (stays_iff.mp o)
        exact ⟨vs', SqL.of e4, q4⟩
      · cases e
    · cases e
noncomputable def forIt (g : FG) (body : FS) (ok : Mem → Bool) : List D → FS
  | [], δ, μ => bif ok μ then some (.next δ μ) else none
  | x :: xs, δ, μ => bif ok μ then (g x δ μ).bind fun p => match body p.1 p.2 with
    | some (.next δ' μ') => forIt g body ok xs δ' μ'
    | some (.cont δ' μ') => forIt g body ok xs δ' μ'
    | some (.brk δ' μ') => some (.next δ' μ')
    | some (.ret d μ') => some (.ret d μ')
    | some (.exc C fs μ') => some (.exc C fs μ')
    | none => none
    else none
@[simp] noncomputable def sFor (i : FI) (g : FG) (body : FS) : FS := fun δ μ => (i δ μ).bind fun p => forIt g body p.2.1 p.1 δ p.2.2
theorem ms_for {tg iter : Expr} {body : List Stmt} {i : FI} {g : FG} {p : FS} (hi : MI X tg iter i) (hg : MG X tg g) (hb : MSs X body p) (hx : PassesOwn (model X.prog X.w) X.A X.env X.xe := by first | exact PassesOwn.never | exact PassesOwn.leaving) (hc : X.calm = true := by rfl)
    (hs : ∀ x, foldedSetIterable iter X.env x = pure x := by intro _; rfl) : MS X (.For tg iter body [] pos) (sFor i g p) :=
  ms_of (ps_for hx hc hi hg hb hs) fun ρ δ μ σ H o E A e k => by
    obtain ⟨⟨ds, ok, μ1⟩, e1, e⟩ := bind_inv e
    refine ⟨ρ, δ, μ, ds, ok, μ1, A, e1, fun ρ1 H1 J x1 R1 II => ?_⟩
    refine ⟨fun i m σ' H' => ∃ ρ' δ' μ', Ext ρ1 H1 ρ' H' ∧ At X.K ρ' H' σ' δ' μ' ∧ i ≤ ds.length ∧ m = ds.length - i ∧ forIt g p ok (ds.drop i) δ' μ' = some o, ⟨_, ρ1, δ, μ1, Ext.refl, A.ext x1 R1, Nat.zero_le _, rfl, e⟩, ?_⟩
    rintro i m σ' H' ⟨ρ', δ', μ', x', A', hi, rfl, ef⟩
    by_cases hlt : i < ds.length
    · right
      have hd : ds.drop i = ds[i] :: ds.drop (i + 1) := List.drop_eq_getElem_cons hlt
      rw [hd] at ef
      unfold forIt at ef
      obtain ⟨hok, ef⟩ := bif_inv ef
      obtain ⟨⟨δ2, μ2⟩, e2, ef⟩ := bind_inv ef
      refine ⟨II.go ρ' H' μ' i x' A'.hp hok hlt, fun σ3 H3 => ∃ ρ3 δ3 μ3, Ext ρ1 H1 ρ3 H3 ∧ At X.K ρ3 H3 σ3 δ3 μ3 ∧ forIt g p ok (ds.drop (i + 1)) δ3 μ3 = some o, fun σ3 H3 ⟨ρ3, δ3, μ3, x3, A3, e3⟩ => ⟨ds.length - (i + 1), by omega, ρ3, δ3, μ3, x3, A3, hlt, rfl, e3⟩, fun x H'' y => ?_⟩
      obtain ⟨xe, Re, rx⟩ := II.yld ρ' H' μ' i x H'' ds[i] x' A'.hp hok (by simp [hlt]) y
      have x' := x'.trans xe
      refine ⟨ρ', δ', μ', ds[i], δ2, μ2, A'.ext xe Re, rx, e2, fun ρ4 σ4 H4 x4 A4 => ?_⟩
      cases eb : p δ2 μ2 with
      | none => rw [eb] at ef; cases ef
      | some ob =>
        rw [eb] at ef
        refine ⟨ρ4, δ2, μ2, ob, A4, eb, ?_⟩
        have x5 := x'.trans x4
        cases ob with
        | next δ6 μ6 => exact fun ρ6 σ6 H6 x6 A6 => ⟨ρ6, δ6, μ6, x5.trans x6, A6, ef⟩
        | cont δ6 μ6 => exact fun ρ6 σ6 H6 x6 A6 => ⟨ρ6, δ6, μ6, x5.trans x6, A6, ef⟩
        | brk δ6 μ6 => cases ef; exact (k.ext x1).ext x5
        | ret d μ6 => cases ef; exact (k.ext x1).ext x5
        | exc C fs μ6 => cases ef; exact (k.ext x1).ext x5
    · left
      have e0 : i = ds.length := by omega
      subst e0
      rw [List.drop_length] at ef
      unfold forIt at ef
      obtain ⟨hok, ef⟩ := bif_inv ef
      cases ef
      exact ⟨II.stop ρ' H' μ' x' A'.hp hok, k ρ' σ' H' (x1.trans x') A'⟩
end
noncomputable def lcIt (g : FG) (c : FT) (φ : FE) (ok : Mem → Bool) (δ : Loc) : List D → List D → Mem → Option (D × Mem)
  | [], ys, μ => bif ok μ then some (.loc μ.length, μ ++ [.lst ys]) else none
  | x :: xs, ys, μ => bif ok μ then (g x δ μ).bind fun p => (c p.1 p.2).bind fun t => bif t.1 then (φ p.1 t.2).bind fun q => lcIt g c φ ok δ xs (ys ++ [q.1]) q.2 else lcIt g c φ ok δ xs ys t.2 else none
@[simp] noncomputable def δC (n : Nat) (fr : List Nat) (δ : Loc) : Loc := List.replicate n none ++ fr.map fun i => (δ[i]?).getD none
@[simp] noncomputable def few (ds : List D) : Bool := decide (ds.length ≤ 1000000)
@[simp] noncomputable def fLC (n : Nat) (fr : List Nat) (i : FI) (g : FG) (c : FT) (φ : FE) : FE := fun δ μ => (i δ μ).bind fun p => bif few p.1 then lcIt g c φ p.2.1 (δC n fr δ) p.1 [] p.2.2 else none
noncomputable def MF (X : Cx) (ifs : List Expr) (c : FT) : Prop := PF X ifs (tMT X.K c)
@[simp] noncomputable def cYes : FT := fun _ μ => some (true, μ)
theorem mf_nil {X : Cx} : MF X [] cYes := by intro pins s σ H Q I hh; obtain ⟨ρ, δ, μ, b, μ', A, e, k⟩ := hh; exact pf_nil pins s σ H Q I (by cases e; exact k ρ H Ext.refl A.hp)
theorem mf_one {X : Cx} {e : Expr} {c : FT} (h : MT X e c) : MF X [e] c := pf_one h
theorem At.δC {K : PySem.W.Frag} {ρ : List Addr} {H : Hp} {σ : L2.St} {δ : Loc} {μ : Mem} (A : At K ρ H σ δ μ) (n : Nat) (fr : List Nat) : At K ρ H (σC n fr σ) (M.δC n fr δ) μ := by
  refine ⟨fun i d e => ?_, A.hp, by unfold σC M.δC; simp⟩
  unfold M.δC at e
  unfold σC
  by_cases hi : i < n
  · rw [List.getElem?_append_left (by simpa using hi), List.getElem?_replicate] at e
    split at e <;> cases e
  · have hi : n ≤ i := Nat.le_of_not_lt hi
    rw [List.getElem?_append_right (by simpa using hi), List.length_replicate, List.getElem?_map] at e
    rw [List.getElem?_append_right (by simpa using hi), List.length_replicate, List.getElem?_map]
    cases e1 : fr[i - n]? with
    | none => rw [e1] at e; cases e
    | some j =>
      rw [e1] at e
      have e2 : (δ[j]?).getD none = some d := Option.some.inj e
      have e3 : δ[j]? = some (some d) := by
        cases q : δ[j]? with
        | none => rw [q] at e2; cases e2
        | some z => rw [q] at e2; exact congrArg some e2
      obtain ⟨v, hv, r⟩ := A.st j d e3
      exact ⟨v, by rw [Option.map_some, hv]; rfl, r⟩
noncomputable def Front (n : Nat) (σ σ' : L2.St) : Prop := σ'.length = σ.length ∧ ∀ (i : Nat), n ≤ i → σ'[i]? = σ[i]?
noncomputable def tGc (K : PySem.W.Frag) (n : Nat) (g : FG) : TG := fun v σ H Q => ∃ ρ δ μ d δ' μ', At K ρ H σ δ μ ∧ RepV K ρ H d v ∧ g d δ μ = some (δ', μ') ∧ ∀ ρ' σ' H', Ext ρ H ρ' H' → At K ρ' H' σ' δ' μ' → Front n σ σ' → Q σ' H'
noncomputable def MGc (X : Cx) (n : Nat) (t : Expr) (g : FG) : Prop := PG X t (tGc X.K n g)
section
variable {X : Cx} {e : Expr} {es : List Expr} {pos : Pos} {n : Nat}
theorem mgc_name {x : Str} (i : Nat) (hin : i < n := by decide) (hN : X.N.Nodup := by first | assumption | decide) (hi : X.N[i]? = some x := by rfl) (hx : L2.Loc X.env.scope x := by first | exact Or.inl rfl | exact Or.inr rfl) (hf : X.fn x = true ∨ X.env.scope.names.lookup x = some .local := by first | exact .inl rfl | exact .inr rfl | assumption) : MGc X n (.Name x pos) (gN i) :=
  by intro pins s σ H v u Q I r hh; obtain ⟨ρ, δ, μ, d, δ', μ', A, q, e, k⟩ := hh; exact pg_name hN hi hx hf pins s σ H v u Q I r (by
    cases e
    exact k ρ _ H Ext.refl (A.set q i) ⟨by simp, fun j hj => List.getElem?_set_ne (by omega)⟩)
end
theorem sub_front {n : Nat} {fr : List Nat} {σ σ' : L2.St} (f : Front n (σC n fr σ) σ') : SubSt (σC n fr σ) σ' := by
  refine ⟨f.1, fun i v e => ?_⟩
  obtain ⟨hi, _⟩ := σC_get e
  rw [f.2 i hi]
  exact e
theorem million : 1000000 < sizeLine := by rw [sizeLine_eq]; decide
theorem lc_w {K : PySem.W.Frag} {n : Nat} {fr : List Nat} {i : FI} {g : FG} {c : FT} {φ : FE} {ρ : List Addr} {δ : Loc} {μ : Mem} {σ : L2.St} {H : Hp} {d : D} {μ' : Mem} {Q : VK} (A : At K ρ H σ δ μ) (e : fLC n fr i g c φ δ μ = some (d, μ'))
    (k : ∀ ρ' H' v, Ext ρ H ρ' H' → RepH K ρ' H' μ' → RepV K ρ' H' d v → Q v H') : tLC n fr (tMI K i) (tGc K n g) (tMT K c) (tM K φ) σ H Q := by
  obtain ⟨⟨ds, ok, μ1⟩, e1, e⟩ := bind_inv e
  obtain ⟨hfew, e⟩ := bif_inv e
  have hfew : ds.length ≤ 1000000 := of_decide_eq_true hfew
  refine ⟨ρ, δ, μ, ds, ok, μ1, A, e1, fun ρ1 H1 J x1 R1 II => ?_⟩
  refine ⟨fun i m ys H' => ∃ ρ' es μ2, Ext ρ1 H1 ρ' H' ∧ RepH K ρ' H' μ2 ∧ RepVs K ρ' H' es ys ∧ es.length ≤ i ∧ i ≤ ds.length ∧ m = ds.length - i ∧ lcIt g c φ ok (δC n fr δ) (ds.drop i) es μ2 = some (d, μ'), ⟨_, ρ1, [], μ1, Ext.refl, R1, .nil, Nat.zero_le _, Nat.zero_le _, rfl, e⟩, ?_⟩
  rintro i m ys H' ⟨ρ', es, μ2, x', R', re, hel, hi, rfl, ef⟩
  by_cases hlt : i < ds.length
  · right
    have hd : ds.drop i = ds[i] :: ds.drop (i + 1) := List.drop_eq_getElem_cons hlt
    rw [hd] at ef
    unfold lcIt at ef
    obtain ⟨hok, ef⟩ := bif_inv ef
    obtain ⟨⟨δ2, μ3⟩, e2, ef⟩ := bind_inv ef
    obtain ⟨⟨b, μ4⟩, e3, ef⟩ := bind_inv ef
    refine ⟨II.go ρ' H' μ2 i x' R' hok hlt, ?_, fun x H'' y => ?_⟩
    · rw [← re.length]
      exact Nat.lt_of_le_of_lt (Nat.le_trans hel (Nat.le_trans hi hfew)) million
    · obtain ⟨xe, Re, rx⟩ := II.yld ρ' H' μ2 i x H'' ds[i] x' R' hok (by simp [hlt]) y
      have x' := x'.trans xe
      have re := re.ext xe
      have A' : At K ρ' H'' (σC n fr σ) (δC n fr δ) μ2 := ((A.ext x1 R1).ext x' Re).δC n fr
      refine ⟨ρ', _, μ2, ds[i], δ2, μ3, A', rx, e2, fun ρ4 σ4 H4 x4 A4 f4 => ⟨sub_front f4, ?_⟩⟩
      refine ⟨ρ4, δ2, μ3, b, μ4, A4, e3, fun ρ5 H5 x5 R5 => ?_⟩
      cases b with
      | false => exact iteF ⟨ds.length - (i + 1), by omega, ρ5, es, μ4, x'.trans (x4.trans x5), R5, re.ext (x4.trans x5), by omega, hlt, rfl, ef⟩
      | true =>
        obtain ⟨⟨y, μ6⟩, e4, ef⟩ := bind_inv ef
        refine iteT ⟨ρ5, δ2, μ4, y, μ6, A4.ext x5 R5, e4, fun ρ6 H6 v x6 R6 r6 => ?_⟩
        exact ⟨ds.length - (i + 1), by omega, ρ6, es ++ [y], μ6, x'.trans (x4.trans (x5.trans x6)), R6, (re.ext (x4.trans (x5.trans x6))).append (.cons r6 .nil), by simp; exact hel, hlt, rfl, ef⟩
  · left
    have e0 : i = ds.length := by omega
    subst e0
    rw [List.drop_length] at ef
    unfold lcIt at ef
    obtain ⟨hok, ef⟩ := bif_inv ef
    cases ef
    refine ⟨II.stop ρ' H' μ2 x' R' hok, fun p hp => ?_⟩
    exact k _ _ _ (x1.trans (x'.trans (Ext.push hp))) (R'.push hp ⟨ys, upd_same, re.ext (Ext.push hp)⟩) (.loc (push_get R'))
theorem me_lc {X : Cx} {scope : Scope} {elt tg iter : Expr} {ifs : List Expr} {pos : Pos} {i : FI} {g : FG} {c : FT} {φ : FE} (own : List Str) (fr : List Nat) (hi : MI X tg iter i)
    (hg : ∀ cl C s₀ H₀ fp, MGc (cxC X own fr scope cl C s₀ H₀ fp) own.length tg g) (hq : ∀ cl C s₀ H₀ fp, MF (cxC X own fr scope cl C s₀ H₀ fp) ifs c) (he : ∀ cl C s₀ H₀ fp, ME (cxC X own fr scope cl C s₀ H₀ fp) elt φ)
    (hc : X.calm = true := by rfl) (hk : scope.kind = .function := by rfl) (hnm : ∀ y ∈ scope.names, scope.names.lookup y.1 = some y.2 := by decide)
    (hfree : ∀ x ∈ scope.names, x.2 = .free → (X.env.kindOf x.1 = some .cell ∨ X.env.kindOf x.1 = some .free) := by decide) (hfr : ∀ i ∈ fr, ∃ x, X.N[i]? = some x ∧ scope.names.lookup x = some .free)
    (hs : ∀ x, foldedSetIterable iter X.env x = pure x := by intro _; rfl) : ME X (.ListComp elt [⟨tg, iter, ifs, 0⟩] scope pos) (fLC own.length fr i g c φ) :=
  me_of (pe_lc (wi := tMI X.K i) (g := tGc X.K own.length g) (tc := tMT X.K c) (te := tM X.K φ) own fr hc hi (fun cl C s₀ H₀ fp => hg cl C s₀ H₀ fp) (fun cl C s₀ H₀ fp => hq cl C s₀ H₀ fp) (fun cl C s₀ H₀ fp => he cl C s₀ H₀ fp) hk hnm hfree hfr hs) fun ρ δ μ σ H d μ' Q A e k => lc_w A e k
end M
namespace M
open PySem PySem.Spec PyProof.Rows L2
noncomputable def toP (μ : Mem) : Nat → D → Option PyData
  | 0, _ => none
  | n + 1, d => match d with
    | .non => some .none
    | .bl b => some (.bool b)
    | .int i => some (.int i)
    | .str x => bif PyData.strOk x then some (.str x) else none
    | .ty _ => none
    | .own _ => none
    | .tup ds => (ds.mapM (toP μ n)).bind fun ps => some (.tuple ps)
    | .fz ds => (ds.mapM (toP μ n)).bind fun ps => some (.list ps)
    | .loc k => match μ[k]? with
      | some (.lst ds) => (ds.mapM (toP μ n)).bind fun ps => some (.list ps)
      | _ => none
theorem mapM_nil_inv {f : D → Option PyData} {ps : List PyData} (h : ([] : List D).mapM f = some ps) : ps = [] := by
  simp at h; exact h
theorem mapM_cons_inv {f : D → Option PyData} {d : D} {ds : List D} {ps : List PyData} (h : (d :: ds).mapM f = some ps) : ∃ p r, f d = some p ∧ ds.mapM f = some r ∧ ps = p :: r := by
  rw [List.mapM_cons] at h
  obtain ⟨p, e1, h⟩ := bind_inv h
  obtain ⟨r, e2, h⟩ := bind_inv h
  cases h
  exact ⟨p, r, e1, e2, rfl⟩
theorem mapM_shape {f : D → Option PyData} {m : Nat} (hf : ∀ d p, f d = some p → p.canLay0 = true ∧ p.depth ≤ m) : ∀ {ds : List D} {ps : List PyData}, ds.mapM f = some ps → PyData.canLayAll0 ps = true ∧ PyData.depthAll ps ≤ m
  | [], ps, h => by rw [mapM_nil_inv h]; exact ⟨rfl, Nat.zero_le _⟩
  | d :: ds, ps, h => by
    obtain ⟨p, r, e1, e2, rfl⟩ := mapM_cons_inv h
    obtain ⟨h1, h2⟩ := hf d p e1
    obtain ⟨h3, h4⟩ := mapM_shape hf e2
    refine ⟨?_, ?_⟩
    · simp only [PyData.canLayAll0, h1, h3, Bool.and_true]
    · simp only [PyData.depthAll]; omega
theorem toP_shape {μ : Mem} : ∀ (n : Nat) (d : D) (p : PyData), toP μ n d = some p → p.canLay0 = true ∧ p.depth ≤ n
  | 0, d, p, h => by cases h
  | n + 1, d, p, h => by
    have seq : ∀ {ds : List D} {c : List PyData → PyData}, (∀ ps, (c ps).canLay0 = PyData.canLayAll0 ps) → (∀ ps, (c ps).depth = PyData.depthAll ps + 1) → ((ds.mapM (toP μ n)).bind fun ps => some (c ps)) = some p → p.canLay0 = true ∧ p.depth ≤ n + 1 := fun {ds c} h1 h2 h => by
      obtain ⟨ps, e1, e2⟩ := bind_inv h
      cases e2
      obtain ⟨q1, q2⟩ := mapM_shape (toP_shape n) e1
      exact ⟨by rw [h1]; exact q1, by rw [h2]; omega⟩
    unfold toP at h
    cases d with
    | non => cases h; exact ⟨rfl, Nat.zero_le _⟩
    | bl b => cases h; exact ⟨rfl, Nat.zero_le _⟩
    | int b => cases h; exact ⟨rfl, Nat.zero_le _⟩
    | str x =>
      obtain ⟨h1, h2⟩ := bif_inv h
      cases h2
      exact ⟨h1, Nat.zero_le _⟩
    | ty _ => cases h
    | own _ => cases h
    | tup ds => exact seq (fun _ => rfl) (fun _ => rfl) h
    | fz ds => exact seq (fun _ => rfl) (fun _ => rfl) h
    | loc k =>
      dsimp only at h
      split at h
      · exact seq (fun _ => rfl) (fun _ => rfl) h
      · cases h
section
variable {X : Cx} {pins : List (Addr × Obj)} {σ : L2.St} {H : Hp} {s : Shared} {ρ : List Addr} {μ : Mem}
theorem reads_all {f : D → Option PyData} (hf : ∀ d p v u, f d = some p → RepV X.K ρ H d v → RelV v u → ∃ as, Reads s.heap u p as) : ∀ {ds : List D} {ps : List PyData} {vs : List V} {us : List Value}, ds.mapM f = some ps → RepVs X.K ρ H ds vs → Vals vs us → ∃ as, ReadsAll s.heap us ps as
  | [], ps, vs, us, h, r, q => by
    rw [mapM_nil_inv h]
    rw [r.nil_inv] at q
    cases q
    exact ⟨[], .nil⟩
  | d :: ds, ps, vs, us, h, r, q => by
    obtain ⟨p, pr, e1, e2, rfl⟩ := mapM_cons_inv h
    obtain ⟨v, vr, rfl, r1, r2⟩ := r.cons_inv
    cases q with
    | cons q1 q2 =>
      obtain ⟨a1, h1⟩ := hf _ _ _ _ e1 r1 q1
      obtain ⟨a2, h2⟩ := reads_all hf e2 r2 q2
      exact ⟨_, .cons h1 h2⟩
theorem reads_of (I : Inv X pins σ H s) (R : RepH X.K ρ H μ) : ∀ (n : Nat) (d : D) (p : PyData) (v : V) (u : Value), toP μ n d = some p → RepV X.K ρ H d v → RelV v u → ∃ as, Reads s.heap u p as
  | 0, d, p, v, u, h, _, _ => by cases h
  | n + 1, d, p, v, u, h, r, q => by
    unfold toP at h
    cases d with
    | non => cases h; rw [r.non_inv] at q; cases q; exact ⟨_, .none⟩
    | bl b => cases h; rw [r.bl_inv] at q; cases q; exact ⟨_, .bool b⟩
    | int b => cases h; rw [r.int_inv] at q; obtain ⟨t, rfl⟩ := q; exact ⟨_, .int b t⟩
    | str x =>
      obtain ⟨h1, h2⟩ := bif_inv h
      cases h2
      rw [r.str_inv] at q; obtain ⟨t, rfl⟩ := q; exact ⟨_, .str x t⟩
    | ty _ => cases h
    | own _ => cases h
    | tup ds =>
      obtain ⟨ps, e1, e2⟩ := bind_inv h
      cases e2
      obtain ⟨a, vs, rfl, e3, rr⟩ := r.tup_inv
      cases q
      obtain ⟨its, rv, ⟨o, ho, hc, k, hd⟩, _⟩ := I.tuple (SqT.of e3)
      obtain ⟨as, ha⟩ := reads_all (reads_of I R n) e1 rr rv
      exact ⟨_, reads_tuple_at ho hc hd (by simpa using ha)⟩
    | fz ds =>
      obtain ⟨ps, e1, e2⟩ := bind_inv h
      cases e2
      obtain ⟨a, vs, rfl, e3, rr⟩ := r.fz_inv
      cases q
      obtain ⟨its, rv, ⟨o, k, ho, hc, _, hd⟩, _⟩ := I.list e3.sq
      obtain ⟨as, ha⟩ := reads_all (reads_of I R n) e1 rr rv
      exact ⟨_, reads_list_at ho hc hd (by simpa using ha)⟩
    | loc k =>
      dsimp only at h
      split at h
      · rename_i hm
        obtain ⟨ps, e1, e2⟩ := bind_inv h
        cases e2
        obtain ⟨a, rfl, e2⟩ := r.loc_inv
        obtain ⟨vs, e3, rr⟩ := R.at_ _ _ _ e2 hm
        cases q
        obtain ⟨its, rv, ⟨o, k, ho, hc, _, hd⟩, _⟩ := I.list (SqL.of (K := X.K) e3)
        obtain ⟨as, ha⟩ := reads_all (reads_of I R n) e1 rr rv
        exact ⟨_, reads_list_at ho hc hd (by simpa using ha)⟩
      · cases h
end
noncomputable def gEq : G2 := fun x y μ => (toP μ 8 x).bind fun p => (toP μ 8 y).bind fun q => some (.bl (PyData.eqv p q), μ)
noncomputable def gNe : G2 := fun x y μ => (toP μ 8 x).bind fun p => (toP μ 8 y).bind fun q => some (.bl (!PyData.eqv p q), μ)
theorem shaped_of {μ : Mem} {d : D} {p : PyData} (h : toP μ 8 d = some p) : SeqAt.shaped p = true := by
  obtain ⟨h1, h2⟩ := toP_shape 8 d p h
  unfold SeqAt.shaped
  rw [h1, decide_eq_true (by omega)]
  rfl
section
variable {X : Cx} {a b c e : Expr} {es : List Expr} {φ ψ χ : FE} {pos : Pos}
theorem opM_eq (hu : X.A.units + 64 < cLine) : OpM X (compareOp .Eq) gEq := by
  refine OpM.of fun pins s σ H x y v u Q I rx ry ρ dx dy μ d μ' r1 r2 R e k => ?_
  obtain ⟨p, e1, e⟩ := bind_inv e
  obtain ⟨q, e2, e⟩ := bind_inv e
  cases e
  obtain ⟨as, h1⟩ := reads_of I R 8 dx p x v e1 r1 rx
  obtain ⟨bs, h2⟩ := reads_of I R 8 dy q y u e2 r2 ry
  exact eq_dataH h1 h2 (shaped_of e1) (shaped_of e2) hu ⟨.bl _, H, I, rfl, k ρ H _ Ext.refl R .bl⟩
theorem opM_ne (hu : X.A.units + 64 < cLine) : OpM X (compareOp .NotEq) gNe := by
  refine OpM.of fun pins s σ H x y v u Q I rx ry ρ dx dy μ d μ' r1 r2 R e k => ?_
  obtain ⟨p, e1, e⟩ := bind_inv e
  obtain ⟨q, e2, e⟩ := bind_inv e
  cases e
  obtain ⟨as, h1⟩ := reads_of I R 8 dx p x v e1 r1 rx
  obtain ⟨bs, h2⟩ := reads_of I R 8 dy q y u e2 r2 ry
  exact ne_dataH h1 h2 (shaped_of e1) (shaped_of e2) hu ⟨.bl _, H, I, rfl, k ρ H _ Ext.refl R .bl⟩
@[simp] noncomputable def gIs : G2 := fun x y μ => match x, y with
  | .bl i, .bl j => some (.bl (i == j), μ)
  | .non, .non => some (.bl true, μ)
  | .bl _, .non => some (.bl false, μ)
  | .int _, .non => some (.bl false, μ)
  | .str _, .non => some (.bl false, μ)
  | .tup _, .non => some (.bl false, μ)
  | .loc _, .non => some (.bl false, μ)
  | _, _ => none
@[simp] noncomputable def gIsNot : G2 := fun x y μ => match x, y with
  | .bl i, .bl j => some (.bl (i != j), μ)
  | .non, .non => some (.bl false, μ)
  | .bl _, .non => some (.bl true, μ)
  | .int _, .non => some (.bl true, μ)
  | .str _, .non => some (.bl true, μ)
  | .tup _, .non => some (.bl true, μ)
  | .loc _, .non => some (.bl true, μ)
  | _, _ => none
inductive Ty where
  | non | bl | int | str | tup | lst | dict
  deriving DecidableEq
@[simp] noncomputable def tyOf (μ : Mem) : D → Option Ty
  | .non => some .non
  | .bl _ => some .bl
  | .int _ => some .int
  | .str _ => some .str
  | .tup _ => some .tup
  | .loc n => match μ[n]? with
    | some (.lst _) => some .lst
    | some (.dct _) => some .dict
    | _ => none
  | _ => none
@[simp] noncomputable def Ty.name : Ty → String
  | .non => "NoneType" | .bl => "bool" | .int => "int" | .str => "str" | .tup => "tuple" | .lst => "list" | .dict => "dict"
@[simp] noncomputable def isTy : Ty → Ty → Bool
  | .bl, .int => true
  | .non, .non => true
  | .bl, .bl => true
  | .int, .int => true
  | .str, .str => true
  | .tup, .tup => true
  | .lst, .lst => true
  | .dict, .dict => true
  | _, _ => false
@[simp] noncomputable def gIsi (c : Ty) : GL := fun ds μ => match ds with
  | [x, .ty n] => bif n == c.name then (tyOf μ x).bind fun t => some (.bl (isTy t c), μ) else none
  | _ => none
theorem tyOf_ok {K : PySem.W.Frag} {ρ : List Addr} {H : Hp} {μ : Mem} {x : D} {v : V} {t : Ty} (R : RepH K ρ H μ) (r : RepV K ρ H x v) (e : tyOf μ x = some t) : TyOf K H v (.type t.name) := by
  cases x with
  | non => cases e; rw [r.non_inv]; exact .non
  | bl b => cases e; rw [r.bl_inv]; exact .bl b
  | int b => cases e; rw [r.int_inv]; exact .int b
  | str b => cases e; rw [r.str_inv]; exact .str b
  | tup ds => cases e; obtain ⟨a, vs, rfl, e2, _⟩ := r.tup_inv; exact .tup e2
  | loc n =>
    unfold tyOf at e
    dsimp only at e
    split at e
    · rename_i hm; cases e; obtain ⟨a, rfl, e2⟩ := r.loc_inv; obtain ⟨vs, e3, _⟩ := R.at_ _ _ _ e2 hm; exact .lst e3
    · rename_i hm; cases e; obtain ⟨a, rfl, e2⟩ := r.loc_inv; obtain ⟨vs, e3, _⟩ := R.at_ _ _ _ e2 hm; exact .dK e3
    · cases e
  | _ => cases e
theorem kit_ty (K : PySem.W.Frag) (t c : Ty) : PySem.W.kitOne K (.type t.name) (.type c.name) = some (isTy t c) := by
  cases t <;> cases c <;> first | rfl | decide +kernel
theorem callM_isi (c : Ty) : CallM X (.builtin "isinstance") (gIsi c) := by
  refine CallM.of fun pins s σ H xs us Q I r ρ ds μ d μ' r1 R e k => ?_
  unfold gIsi at e
  split at e
  · obtain ⟨hn, e⟩ := bif_inv e
    obtain ⟨t, e1, e⟩ := bind_inv e
    cases e
    obtain ⟨v, rr, rfl, q1, q2⟩ := r1.cons_inv
    obtain ⟨v2, rr2, rfl, q3, q4⟩ := q2.cons_inv
    rw [q4.nil_inv, q3.ty_inv, beq_iff_eq.mp hn] at r
    cases r with
    | cons ra rb =>
      cases rb with
      | cons rc rd =>
        cases rd
        cases rc
        exact isinst_ok I ra (tyOf_ok R q1 e1) (kit_ty X.K t c) fun tk => ⟨.bl _, H, I.tok tk, rfl, k ρ H _ Ext.refl R .bl⟩
  · cases e
@[simp] noncomputable def isBl : D → Bool
  | .bl _ => true
  | _ => false
@[simp] noncomputable def blB : D → Bool
  | .bl b => b
  | _ => false
@[simp] noncomputable def gAll : GL := fun ds μ => match ds with
  | [.loc n] => match μ[n]? with
    | some (.lst xs) => bif xs.all isBl then some (.bl (xs.all blB), μ) else none
    | _ => none
  | _ => none
theorem callM_all (hc : X.calm = true) : CallM X (.builtin "all") gAll := by
  refine CallM.of fun pins s σ H xs us Q I r ρ ds μ d μ' r1 R e k => ?_
  unfold gAll at e
  split at e
  · split at e
    · rename_i n _ ys hm
      obtain ⟨hb, e⟩ := bif_inv e
      cases e
      obtain ⟨v, rr, rfl, q1, q2⟩ := r1.cons_inv
      obtain ⟨a, rfl, e2⟩ := q1.loc_inv
      obtain ⟨vs, e3, q3⟩ := R.at_ _ _ _ e2 hm
      rw [q2.nil_inv] at r
      obtain ⟨u, rfl, ru⟩ := vals1 r
      cases ru
      obtain ⟨its, rv, pl, hz⟩ := I.list (SqL.of (K := X.K) e3)
      have hlt : a < s.heap.objs.size := by obtain ⟨_, _, e, _⟩ := pl; exact Heap.lt_size e
      refine call_all_walk (wpAny_pyIter_list pl.isList ?_)
      refine ⟨_, _, _, _, _, _, fun i => blB (ys.getD i .non), rfl, Walks.list (A := X.A.in1) (I.ok.hd hc) s.heap.objs.size a (Nat.ne_of_lt hlt) its.toArray, ⟨⟨_, Heap.get?_push_size _ rfl, rfl, rfl⟩, pl.isList.push _⟩, ?_, fun h' tk hk => ?_⟩
      · intro i w s' Q' E' hP hQ
        have hi : its[i]? = some w := by simpa using hP
        have hil : i < ys.length := by
          have h1 := (List.getElem?_eq_some_iff.mp hi).1
          rw [q3.length, rv.length]; exact h1
        have hyi : ys[i]? = some ys[i] := by simp [hil]
        obtain ⟨vv, ev, rvv⟩ := q3.get hyi
        obtain ⟨ww, ew, rww⟩ := rv.get ev
        rw [hi] at ew; cases ew
        have hall := List.all_eq_true.mp hb ys[i] (List.getElem_mem hil)
        have hQ' : Q' (blB ys[i]) s' := by
          have e : ys.getD i .non = ys[i] := by rw [List.getD_eq_getElem?_getD, hyi]; rfl
          rw [← e]; exact hQ
        cases hyb : ys[i] with
        | bl b =>
          rw [hyb] at rvv hQ'
          rw [rvv.bl_inv] at rww
          cases rww
          exact wpAny_truthy_bool hQ'
        | _ => rw [hyb] at hall; cases hall
      · have hsz : its.toArray.size = ys.length := by rw [q3.length, rv.length]; simp
        have eall : ((List.range its.toArray.size).all fun i => blB (ys.getD i .non)) = ys.all blB := by
          rw [hsz, Bool.eq_iff_iff, List.all_eq_true, List.all_eq_true]
          constructor
          · intro h y hy
            obtain ⟨i, hi, rfl⟩ := List.mem_iff_getElem.mp hy
            have := h i (by simpa using hi)
            rw [List.getD_eq_getElem?_getD, show ys[i]? = some ys[i] by simp [hi]] at this
            exact this
          · intro h i hi
            have hi' : i < ys.length := by simpa using hi
            rw [List.getD_eq_getElem?_getD, show ys[i]? = some ys[i] by simp [hi']]
            exact h ys[i] (List.getElem_mem hi')
        rw [eall]
        have I1 : Inv X pins σ H { s with heap := s.heap.push { cls := .type "list_iterator", data := .fields #[.ref a, .int 0 0] } } := I.kept (t' := s.toks) fun b o e => Heap.get?_push_of_some _ e
        have hfr := I1.hok
        refine ⟨.bl _, H, I.kept (h' := h') (t' := tk) fun b o e => hk b o (by simpa using Nat.ne_of_lt (Heap.lt_size e)) (Heap.get?_push_of_some _ e), rfl, k ρ H _ Ext.refl R .bl⟩
    · cases e
  · cases e
end
@[simp] noncomputable def retOf : Option Out → Option (D × Mem)
  | some (.ret d μ) => some (d, μ)
  | some (.next _ μ) => some (.non, μ)
  | _ => none
@[simp] noncomputable def startD (N : List Str) (ds : List D) : Loc := ds.map some ++ List.replicate (N.length - ds.length) none
theorem start_at {K : PySem.W.Frag} {ρ : List Addr} {H : Hp} {μ : Mem} {N : List Str} {ds : List D} {vs : List V} (r : RepVs K ρ H ds vs) (R : RepH K ρ H μ) : At K ρ H (L2.start N vs) (startD N ds) μ := by
  refine ⟨fun i d e => ?_, R, by unfold L2.start startD; simp [r.length]⟩
  unfold startD at e
  unfold L2.start
  by_cases hi : i < ds.length
  · rw [List.getElem?_append_left (by simpa using hi), List.getElem?_map] at e
    cases e1 : ds[i]? with
    | none => rw [e1] at e; cases e
    | some d' =>
      rw [e1] at e
      cases e
      obtain ⟨v, e2, q⟩ := r.get e1
      refine ⟨v, ?_, q⟩
      rw [List.getElem?_append_left (by simpa [← r.length] using hi), List.getElem?_map, e2]
      rfl
  · rw [List.getElem?_append_right (by simpa using hi), List.getElem?_replicate] at e
    split at e <;> cases e
theorem fnM {P : Program} {w : World} {K : PySem.W.Frag} {mg : Str → Option Value} {base : Heap} {x qual : Str} {st : Stmt} {f : Addr} {fd : FuncData} {N ps : List Str} {k n : Nat} {F : FF} (G : Fun K x qual st f fd) (S : FnScope N ps (defScope st)) (hn : ps.length = n)
    (hbody : ∀ (cdv : Value) (A : Around) (outer : List Env) (s : Shared) (H : Hp) (E : XK), Room k (A.deeper (envOfC qual (defScope st) s.heap.objs.size f cdv)) →
      ∃ p, MSs (cxOf CX0 P w K mg base N qual (defScope st) f cdv A outer s H E).nox (defBody st) p ∧ ∀ ds μ d μ', ds.length = n → F ds μ = some (d, μ') → retOf (p (startD N ds) μ) = some (d, μ')) :
    FnOk P w K mg base CX0 (k + 1) f fd ps (spM K n F) := by
  refine G.ok S (fun vs H Q E h => by rw [hn]; exact h.1) (fun cdv A outer s H vs Q E hr h => ?_)
  obtain ⟨p, hp, hF⟩ := hbody cdv A outer s H E hr
  refine ⟨_, hp, ?_⟩
  obtain ⟨hl, ρ, ds, μ, d, μ', r, R, e, k⟩ := h
  have e' := hF ds μ d μ' (by rw [r.length]; exact hl) e
  cases eo : p (startD N ds) μ with
  | none => rw [eo] at e'; cases e'
  | some o =>
    rw [eo] at e'
    refine ⟨ρ, startD N ds, μ, o, start_at r R, eo, ?_⟩
    cases o with
    | ret d2 μ2 => cases e'; exact fun ρ' v H' x' R' r' => k ρ' H' v x' R' r'
    | next δ2 μ2 => cases e'; exact fun ρ' σ' H' x' A' => k ρ' H' .non x' A'.hp .non
    | brk _ _ => cases e'
    | cont _ _ => cases e'
    | exc _ _ _ => cases e'
end M
namespace M
open PySem PySem.Spec PyProof.Rows L2
noncomputable def lcOk (sc inner : Scope) : Bool := (inner.kind == .function) && inner.names.all (fun y => inner.names.lookup y.1 == some y.2) &&
  inner.names.all fun x => x.2 != .free || sc.names.lookup x.1 == some .cell || sc.names.lookup x.1 == some .free
theorem lcOk_kind {sc inner : Scope} (h : lcOk sc inner = true) : inner.kind = .function := by
  unfold lcOk at h
  simp only [Bool.and_eq_true, beq_iff_eq] at h
  exact h.1.1
theorem lcOk_nm {sc inner : Scope} (h : lcOk sc inner = true) : ∀ y ∈ inner.names, inner.names.lookup y.1 = some y.2 := by
  unfold lcOk at h
  simp only [Bool.and_eq_true] at h
  intro y hy
  exact beq_iff_eq.mp (List.all_eq_true.mp h.1.2 y hy)
theorem lcOk_free {sc inner : Scope} (h : lcOk sc inner = true) : ∀ x ∈ inner.names, x.2 = .free → (sc.names.lookup x.1 = some .cell ∨ sc.names.lookup x.1 = some .free) := by
  unfold lcOk at h
  simp only [Bool.and_eq_true] at h
  intro y hy e
  have := List.all_eq_true.mp h.2 y hy
  simpa [e] using this
theorem nodup_of {N : List Str} (h : decide N.Nodup = true) : N.Nodup := of_decide_eq_true h
theorem fr_nil {P : Nat → Prop} : ∀ i ∈ ([] : List Nat), P i := fun i h => nomatch h
theorem fr_cons {P : Nat → Prop} {i : Nat} {l : List Nat} (h : P i) (r : ∀ j ∈ l, P j) : ∀ j ∈ i :: l, P j := fun j hj => by
  rcases List.mem_cons.mp hj with rfl | hj
  · exact h
  · exact r j hj
section
variable {X : Cx} {a b c e : Expr} {es : List Expr} {φ ψ χ : FE} {pos : Pos}
theorem mlc {scope : Scope} {elt tg iter : Expr} {ifs : List Expr} {i : FI} {g : FG} {ct : FT} (own : List Str) (fr : List Nat) (hi : MI X tg iter i)
    (hg : ∀ cl C s₀ H₀ fp, MGc (cxC X own fr scope cl C s₀ H₀ fp) own.length tg g) (hq : ∀ cl C s₀ H₀ fp, MF (cxC X own fr scope cl C s₀ H₀ fp) ifs ct) (he : ∀ cl C s₀ H₀ fp, ME (cxC X own fr scope cl C s₀ H₀ fp) elt φ)
    (hfr : ∀ i ∈ fr, ∃ x, X.N[i]? = some x ∧ scope.names.lookup x = some .free) (hok : lcOk X.env.scope scope = true := by rfl) (hc : X.calm = true := by rfl) (hs : ∀ x, foldedSetIterable iter X.env x = pure x := by intro _; rfl) :
    ME X (.ListComp elt [⟨tg, iter, ifs, 0⟩] scope pos) (fLC own.length fr i g ct φ) :=
  me_lc own fr hi hg hq he hc (lcOk_kind hok) (lcOk_nm hok) (lcOk_free hok) hfr hs
structure FnAt (K : PySem.W.Frag) (mg : Str → Option Value) (x : Str) (st : Stmt) (ps : List Str) (f : Addr) (fd : FuncData) : Prop where
  fn : Fun K x x st f fd
  at_ : mg x = some (.ref f)
  bd : Binds K fd ps []
theorem mcall {k j n : Nat} {st : Stmt} {f : Addr} {fd : FuncData} {ps : List Str} {F : FF} {x : Str} {p : Pos} {φ : FA} (B : FnAt X.K X.mg x st ps f fd) (G : FnOk X.prog X.w X.K X.mg X.base CX0 j f fd ps (spM X.K n F)) (hr : Room k X.A)
    (ha : MAn X (e :: es) φ) (hj : j ≤ k := by decide) (hn : (e :: es).length = n := by rfl) (hg : Gl X x := by rfl) (hdb : (x == ("__debug__" : Str)) = false := by decide) (he : starEach (e :: es) X.env = (false, eval e X.env) :: starEach es X.env := by exact star_ok rfl) (hpl : (backTo pos (starEach es X.env)).any (·.1) = false := by rfl) :
    ME X (.Call (.Name x p) (e :: es) [] pos) (fCall F φ) := me_call G (hr.mono hj) B.at_ B.fn.kp B.bd ha hn hg hdb he hpl
end
end M
namespace M
open PySem PySem.Spec PyProof.Rows L2
section
variable {X : Cx} {a b c e : Expr} {es : List Expr} {φ ψ χ : FE} {pos : Pos}
theorem cat0 {prog : Program} {w : World} {A : Around} {E : Value → Shared → Prop} {s : Shared} {t b : Addr} {vs ws : List Value} {Q : Value → Shared → Prop} (ht : IsTup s.heap t vs.toArray) (hb : IsTup s.heap b ws.toArray) (hv : vs = []) (h : Q (.ref b) s) :
    wpAny (model prog w) A (binaryOp .Add (.ref t) (.ref b)) Q E s := by
  obtain ⟨⟨cls, dd, data, sl⟩, ho, hc, n, hd⟩ := id ht
  obtain ⟨⟨cls2, dd2, data2, sl2⟩, ho2, hc2, n2, hd2⟩ := id hb
  simp only at hc hd hc2 hd2
  subst hc hd hc2 hd2
  refine concat_meets ⟨_, ho, rfl⟩ ⟨_, ho2, rfl⟩ noFill_tuple_add seq_tuple_add PySem.F.slot_tuple_add PySem.F.entry_tuple_add (PySem.F.args_tuple_add_2 _ _) (tuple_addW0 t b vs.toArray ws.toArray n n2 dd dd2 sl sl2 (by rw [hv]; rfl)) ⟨ho, ho2, h⟩
theorem opM_add : OpM X (binaryOp .Add) gAdd := by
  refine OpM.of fun pins s σ H x y v u Q I rx ry ρ dx dy μ d μ' r1 r2 R e k => ?_
  unfold gAdd at e
  split at e
  · cases e
    rw [r1.int_inv] at rx; rw [r2.int_inv] at ry
    obtain ⟨t, rfl⟩ := rx
    obtain ⟨t', rfl⟩ := ry
    exact add_int ⟨.int _, H, I.tok _, ⟨_, rfl⟩, k ρ H _ Ext.refl R .int⟩
  · rename_i as bs
    obtain ⟨h1, e⟩ := bif_inv e
    have h1 := of_decide_eq_true h1
    cases e
    obtain ⟨a1, vs, rfl, e1, q1⟩ := r1.tup_inv
    obtain ⟨a2, ws, rfl, e2, q2⟩ := r2.tup_inv
    have hm := million
    have hl1 := q1.length
    have hl2 := q2.length
    by_cases hv : vs = []
    · cases rx; cases ry
      obtain ⟨its, rv, p1, _⟩ := I.tuple (SqT.of (K := X.K) e1)
      obtain ⟨its2, rv2, p2, _⟩ := I.tuple (SqT.of (K := X.K) e2)
      refine cat0 p1 p2 (rv.nil_iff.mpr hv) ⟨.ref a2, H, I, rfl, k ρ H _ Ext.refl R ?_⟩
      have ha : as = [] := by rw [hv] at hl1; exact List.length_eq_zero_iff.mp hl1
      rw [ha, List.nil_append]
      exact r2
    · refine op_catT pins s σ H _ _ v u Q I rx ry ⟨a1, a2, vs, ws, rfl, rfl, SqT.of e1, SqT.of e2, hv, by omega, fun hw => ?_, fun _ p hp => ?_⟩
      · have hb : bs = [] := by rw [hw] at hl2; exact List.length_eq_zero_iff.mp hl2
        rw [hb, List.append_nil] at k
        exact k ρ H _ Ext.refl R r1
      · exact k ρ _ _ (Ext.new hp) (R.newTup hp) (.tup upd_same ((q1.append q2).ext (Ext.new hp)))
  · split at e
    · rename_i hm1 hm2
      obtain ⟨h1, e⟩ := bif_inv e
      have h1 := of_decide_eq_true h1
      cases e
      obtain ⟨a1, rfl, e1⟩ := r1.loc_inv
      obtain ⟨a2, rfl, e2⟩ := r2.loc_inv
      obtain ⟨vs, e3, q1⟩ := R.at_ _ _ _ e1 hm1
      obtain ⟨ws, e4, q2⟩ := R.at_ _ _ _ e2 hm2
      have hm := million
      have hl1 := q1.length
      have hl2 := q2.length
      exact op_cat pins s σ H _ _ v u Q I rx ry ⟨a1, a2, vs, ws, rfl, rfl, e3, e4, by omega, fun p hp => k _ _ _ (Ext.push hp) (R.push hp ⟨_, upd_same, (q1.append q2).ext (Ext.push hp)⟩) (.loc (push_get R))⟩
    · cases e
  · cases e
theorem noFill_tup_mul : fillsNumberSlot (.type "tuple") "mul" = pure false :=
  PyProof.Rows.fillsNumberSlot_seq (id := "tuple.__mul__") (r := some (.builtin "tuple.__rmul__")) PySem.F.slot_tuple_mul.lookup (by decide +kernel) PySem.F.slot_tuple_rmul.lookup (by decide +kernel)
theorem repeat_tup : seqRepeat? (.type "tuple") = pure (some (.builtin "tuple.__mul__")) := by
  unfold seqRepeat?
  rw [PyProof.Rows.seqSlot_of (T := "tuple") (name := "__mul__") (id := "tuple.__mul__") PySem.F.slot_tuple_mul.lookup (by decide +kernel), PyProof.Rows.seqSlot_of (T := "tuple") (name := "__rmul__") (id := "tuple.__rmul__") PySem.F.slot_tuple_rmul.lookup (by decide +kernel)]
  rfl
theorem rmul_declines_tup (i : Int) (t : Tok) (l : Addr) (items : Array Value) (n : Nat) (dd : Option Addr) (sl : Array (Option Value)) :
    Meets (Builtin.«int.__rmul__» ⟨[.int i t, .ref l], []⟩) (fun _ R s => s.heap.get? l = some { cls := .type "tuple", dict := dd, data := .seq items n, slots := sl } ∧ R (.ok (.ret Value.notImplemented)) s) :=
  .of_wp fun prog w A R s h => by
    obtain ⟨hp, g, d, tk, os⟩ := s
    obtain ⟨hl, h⟩ := h
    wp_walk
    exact ⟨_, rfl, h⟩
theorem tup_mul_meets (l : Addr) (items : Array Value) (n : Nat) (dd : Option Addr) (sl : Array (Option Value)) (i : Int) (t : Tok) (h2 : 2 ≤ i) (h3 : i ≤ 1000) (h4 : items.isEmpty = false) (h5 : items.size ≤ 1000)
    (hsz : ((List.replicate i.toNat items).foldl (fun x1 x2 => x1 ++ x2) #[]).size ≤ sizeLine) :
    Meets (Builtin.«tuple.__mul__» ⟨[.ref l, .int i t], []⟩) (fun _ R s => s.heap.get? l = some { cls := .type "tuple", dict := dd, data := .seq items n, slots := sl } ∧
      R (.ok (.ret (Value.ref s.heap.objs.size))) { s with heap := s.heap.push { cls := Value.type "tuple", data := Data.seq ((List.replicate i.toNat items).foldl (fun x1 x2 => x1 ++ x2) #[]) }, toks := s.toks }) :=
  .of_wp fun prog w A R s h => by
    obtain ⟨hp, g, d, tk, os⟩ := s
    obtain ⟨hl, h⟩ := h
    have f1 := AutoSeq1.idx_int
    have c1 : ¬ ((decide (i < -(2 ^ 63)) || decide (i ≥ 2 ^ 63)) = true) := by
      rw [decide_eq_false (by omega), decide_eq_false (by omega)]
      exact Bool.false_ne_true
    have c2 : ¬ ((items.isEmpty || i == 1) = true) := by
      rw [h4, show (i == 1) = false by simp; omega]
      exact Bool.false_ne_true
    have c3 : ¬ ((decide (i ≤ 0) || items.isEmpty) = true) := by
      rw [h4, decide_eq_false (by omega)]
      exact Bool.false_ne_true
    have c4 : ¬ ((items.size : Int) * i > (2 ^ 63 - 1) / 8) := by
      have h6 : (items.size : Int) * i ≤ 1000 * 1000 := Int.mul_le_mul (by omega) h3 (by omega) (by omega)
      omega
    have c5 : ¬ (Builtin.Tuple.tupleTooMany ((items.size : Int) * i) = true) := by
      have h6 : (items.size : Int) * i ≤ 1000 * 1000 := Int.mul_le_mul (by omega) h3 (by omega) (by omega)
      have hz : (sizeLine : Int) = 16777216 := by rw [sizeLine_eq]; rfl
      unfold Builtin.Tuple.tupleTooMany
      rw [decide_eq_false (by omega)]
      exact Bool.false_ne_true
    wp_walk using wpAny_loadPart' hl
    rw [if_neg c1]
    wp_walk using wpAny_loadPart' hl
    rw [if_neg c2]
    dsimp only
    rw [if_neg c3, if_neg c4, if_neg c5]
    refine wpAny_bind (m := Builtin.Tuple.tupleExact _) (wpAny_newObj_type (wpAny_pure ⟨_, rfl, h⟩) hsz)
theorem foldl_flat (its : List Value) : ∀ (n : Nat) (acc : List Value), List.foldl (fun x1 x2 => x1 ++ x2) acc.toArray (List.replicate n its.toArray) = (acc ++ (List.replicate n its).flatten).toArray
  | 0, acc => by simp
  | n + 1, acc => by
    rw [List.replicate_succ, List.foldl_cons, List.append_toArray, foldl_flat its n, List.replicate_succ, List.flatten_cons, List.append_assoc]
theorem rep_rep {K : PySem.W.Frag} {ρ : List Addr} {H : Hp} {ds : List D} {vs : List V} (r : RepVs K ρ H ds vs) : ∀ n : Nat, RepVs K ρ H (List.replicate n ds).flatten (List.replicate n vs).flatten
  | 0 => .nil
  | n + 1 => by
    rw [List.replicate_succ, List.replicate_succ, List.flatten_cons, List.flatten_cons]
    exact r.append (rep_rep r n)
theorem vals_rep {vs : List V} {us : List Value} (r : Vals vs us) : ∀ n : Nat, Vals (List.replicate n vs).flatten (List.replicate n us).flatten
  | 0 => .nil
  | n + 1 => by
    rw [List.replicate_succ, List.replicate_succ, List.flatten_cons, List.flatten_cons]
    exact r.append (vals_rep r n)
theorem opM_mul : OpM X (binaryOp .Mult) gMul := by
  refine OpM.of fun pins s σ H x y v u Q I rx ry ρ dx dy μ d μ' r1 r2 R e k => ?_
  unfold gMul at e
  split at e
  · obtain ⟨h1, e⟩ := bif_inv e
    cases e
    rw [r1.int_inv] at rx; rw [r2.int_inv] at ry
    obtain ⟨t, rfl⟩ := rx
    obtain ⟨t', rfl⟩ := ry
    exact mul_int ⟨.int _, H, I.tok _, ⟨_, rfl⟩, k ρ H _ Ext.refl R .int⟩ (mulOk_ok h1)
  · rename_i ds i
    obtain ⟨h1, e⟩ := bif_inv e
    have h1 := of_decide_eq_true h1
    obtain ⟨h2, h3, h4, h5⟩ := h1
    cases e
    obtain ⟨a1, vs, rfl, e1, q1⟩ := r1.tup_inv
    rw [r2.int_inv] at ry
    cases rx
    obtain ⟨t, rfl⟩ := ry
    obtain ⟨its, rv, ⟨⟨cls, dd, data, sl⟩, ho, hc, n, hd⟩, hz⟩ := I.tuple (SqT.of (K := X.K) e1)
    simp only at hc hd
    subst hc hd
    have hl : its.length = ds.length := by rw [q1.length, rv.length]
    have hlen : ((List.replicate i.toNat vs).flatten).length ≤ sizeLine := by
      rw [len_rep]
      have hm := million
      have h6 : i.toNat * vs.length ≤ 1000 * 1000 := Nat.mul_le_mul (by omega) (by rw [← q1.length]; exact h5)
      omega
    have e2 := foldl_flat its i.toNat []
    rw [List.nil_append] at e2
    have hsz : ((List.replicate i.toNat its.toArray).foldl (fun x1 x2 => x1 ++ x2) #[]).size ≤ sizeLine := by
      rw [show (#[] : Array Value) = ([] : List Value).toArray from rfl, e2, List.size_toArray, ← (vals_rep rv i.toNat).length]
      exact hlen
    refine wpAny_binaryOp_repeat_ref (T := "tuple") (U := "int") (by decide) ⟨_, ho, rfl⟩ (fun s' => typeIs_int s' i t) noFill_tup_mul PySem.F.fills_int_mul PySem.F.slot_int_rmul repeat_tup PySem.F.slot_int_index.lookup
      (call_meets PySem.F.slot_int_rmul (typeIs_int s i t) PySem.F.entry_int_rmul (PySem.F.args_int_rmul_2 _ _) (rmul_declines_tup i t a1 its.toArray n dd sl)
        ⟨ho, rfl, ⟨_, ho, rfl⟩, call_meets PySem.F.slot_tuple_mul ⟨_, ho, rfl⟩ PySem.F.entry_tuple_mul (PySem.F.args_tuple_mul_2 _ _) (tup_mul_meets a1 its.toArray n dd sl i t h2 h3 (by rw [List.isEmpty_toArray, List.isEmpty_eq_false_iff_exists_mem]; exact ⟨_, List.getElem_mem (by omega : 0 < its.length)⟩) (by rw [List.size_toArray, hl]; exact h5) hsz) ⟨ho, ?_⟩⟩)
    rw [show (#[] : Array Value) = ([] : List Value).toArray from rfl, e2]
    have hf := I.hok.fresh (Nat.le_refl s.heap.objs.size)
    refine ⟨.ref s.heap.objs.size, _, I.laid (t' := s.toks) (o := .tup (List.replicate i.toNat vs).flatten) (fun b ob q => Heap.get?_push_of_some _ q) (Nat.le_refl _) ?_, rfl, k ρ _ _ (Ext.new hf) (R.newTup hf) (.tup upd_same ((rep_rep q1 i.toNat).ext (Ext.new hf)))⟩
    exact ⟨hlen, _, vals_rep rv i.toNat, IsTup.new _ _⟩
  · rename_i l n
    split at e
    · rename_i ds hm
      obtain ⟨h1, e⟩ := bif_inv e
      have h1 := of_decide_eq_true h1
      obtain ⟨h2, h3, h4⟩ := h1
      cases e
      obtain ⟨a1, rfl, ea⟩ := r1.loc_inv
      obtain ⟨vs, e3, q3⟩ := R.at_ _ _ _ ea hm
      refine op_rep pins s σ H _ _ v u Q I rx ry ⟨a1, n, vs, rfl, r2.int_inv, e3, by omega, by omega, ?_, fun p hp => k _ _ _ (Ext.push hp) (R.push hp ⟨_, upd_same, (rep_rep q3 n.toNat).ext (Ext.push hp)⟩) (.loc (push_get R))⟩
      have hmi := million
      have h6 : vs.length * n.toNat ≤ 1000 * 1000 := Nat.mul_le_mul (by rw [← q3.length]; exact h4) (by omega)
      omega
    · cases e
  · cases e
noncomputable abbrev FO := Loc → Mem → Option (Option Int × Mem)
noncomputable def tMO (K : PySem.W.Frag) (φ : FO) : TO := fun σ H Q => ∃ ρ δ μ o μ', At K ρ H σ δ μ ∧ φ δ μ = some (o, μ') ∧ ∀ ρ' H', Ext ρ H ρ' H' → RepH K ρ' H' μ' → Q o H'
noncomputable def MO (X : Cx) (e : Option Expr) (φ : FO) : Prop := PO X e (tMO X.K φ)
@[simp] noncomputable def pNo : FO := fun _ μ => some (none, μ)
@[simp] noncomputable def pYes (φ : FE) : FO := fun δ μ => (φ δ μ).bind fun p => match p.1 with
  | .int i => some (some i, p.2)
  | _ => none
noncomputable def cutD (xs : List D) (lo hi : Option Int) : List D := (xs.drop (HT.sIx xs.length 0 lo)).take (HT.sIx xs.length xs.length hi - HT.sIx xs.length 0 lo)
@[simp] noncomputable def fSl (φ : FE) (lo hi : FO) : FE := fun δ μ => (φ δ μ).bind fun p => (lo δ p.2).bind fun l => (hi δ l.2).bind fun h => match p.1 with
  | .tup ds => some (.tup (cutD ds l.1 h.1), h.2)
  | .loc n => match h.2[n]? with
    | some (.lst ds) => some (.loc h.2.length, h.2 ++ [.lst (cutD ds l.1 h.1)])
    | _ => none
  | _ => none
end
end M
namespace M
open PySem PySem.Spec PyProof.Rows L2
theorem tup_whole {prog : Program} {w : World} {A : Around} {E : Value → Shared → Prop} {s : Shared} {t sl : Addr} {items : Array Value} {vl vu : Value} {lo hi : Option Int} {Q : Value → Shared → Prop} (ht : IsTup s.heap t items) (hs : s.heap.IsSliceOf sl vl vu .none) (pl : IsPart vl lo) (pu : IsPart vu hi)
    (hw : HT.sIx items.size 0 lo = 0 ∧ HT.sIx items.size items.size hi = items.size) (h : Q (.ref t) s) : wpAny (model prog w) A (getItem (.ref t) (.ref sl)) Q E s := by
  obtain ⟨os, hos, hcs, hds⟩ := id hs
  have hTs : s.TypeIs (.ref sl) "slice" := ⟨os, hos, hcs⟩
  unfold getItem
  try with_reducible refine wpAny_holding ?_
  first | refine wpAny_bind (wpAny_pure ?_) | skip
  refine wpAny_bind (wpAny_sequenceKey ht.typeIs (by decide) ?_)
  refine wpAny_bind (wpAny_callSpecial?_slot (name := Str.ofString "__getitem__") ht.typeIs PyProof.Rows.slot_tuple_getitem
    (wpAny_call_entry PyProof.Rows.slot_tuple_getitem ht.typeIs entry_tuple_getitem ?_ (args_tuple_getitem _ _)))
  show wpAny _ _ (Builtin.Tuple.tupleItemsOf (.ref t) >>= _) _ _ s
  refine wpAny_bind (tupleItemsOf_ ht ?_)
  refine wpAny_bind (wpAny_typeOf hTs ?_)
  rw [if_pos (by decide)]
  refine wpAny_bind (HT.sliceApplied_gen hs pl pu ?_)
  have hyes : (((HT.sIx items.size 0 lo : Nat) : Int) == 0 && (1 : Int) == 1 && (HT.sIx items.size items.size hi - HT.sIx items.size 0 lo) == items.size) = true := by
    rw [hw.1, hw.2]
    simp
  show wpAny _ _ (if (((HT.sIx items.size 0 lo : Nat) : Int) == 0 && (1 : Int) == 1 && (HT.sIx items.size items.size hi - HT.sIx items.size 0 lo) == items.size) = true then _ else _) _ _ s
  rw [if_pos hyes]
  refine wpAny_bind (m := Builtin.Tuple.tupleIsExact _) ?_
  unfold Builtin.Tuple.tupleIsExact
  refine wpAny_bind (wpAny_typeOf ht.typeIs (wpAny_pure ?_))
  rw [if_pos (by decide)]
  exact wpAny_bind (wpAny_rule (wpAny_pure ⟨_, rfl, wpAny_pure h⟩))
section
variable {X : Cx} {a b c e : Expr} {es : List Expr} {φ ψ χ : FE} {pos p2 : Pos} {lo hi : Option Expr}
noncomputable def rSl (K : PySem.W.Frag) : V → Option Int → Option Int → Hp → VK → Prop := fun x lo hi H Q => ∃ a xs, x = .ref a ∧ H a = some (.tup xs) ∧
  ((HT.sIx xs.length 0 lo = 0 ∧ HT.sIx xs.length xs.length hi = xs.length) → Q (.ref a) H) ∧ ∀ p, H p = none → Q (.ref p) (upd H p (.tup (cutV xs lo hi)))
theorem sl_any : SlR X (rSl X.K) := by
  intro pins s σ H x v vl vu lo hi sl Q I rx hs pl pu h
  obtain ⟨a, xs, rfl, hx, h1, h2⟩ := h
  by_cases hw : HT.sIx xs.length 0 lo = 0 ∧ HT.sIx xs.length xs.length hi = xs.length
  · cases rx
    obtain ⟨its, r, ht, hz⟩ := I.tuple (SqT.of (K := X.K) hx)
    have hlen : its.toArray.size = xs.length := by rw [List.size_toArray]; exact r.length.symm
    exact ⟨"tuple", _, PyProof.Rows.slot_tuple_getitem.lookup, ht.typeIs, tup_whole ht hs pl pu (by rw [hlen]; exact hw) ⟨.ref a, H, I, rfl, h1 hw⟩⟩
  · exact sl_tup pins s σ H _ v vl vu lo hi sl Q I rx hs pl pu ⟨a, xs, rfl, SqT.of hx, hw, h2⟩
theorem mp_no : MO X none pNo := by intro pins s σ H Q I hh; obtain ⟨ρ, δ, μ, o, μ', A, e, k⟩ := hh; exact po_none pins s σ H Q I (by cases e; exact k ρ H Ext.refl A.hp)
theorem mp_yes (h : ME X e φ) : MO X (some e) (pYes φ) := by intro pins s σ H Q I hh; obtain ⟨ρ, δ, μ, o, μ', A, e, k⟩ := hh; exact po_some h pins s σ H Q I (by
  obtain ⟨⟨x, μ1⟩, e1, e⟩ := bind_inv e
  refine ⟨ρ, δ, μ, x, μ1, A, e1, fun ρ1 H1 v x1 R1 r1 => ?_⟩
  dsimp only at e
  split at e
  · cases e
    exact ⟨_, r1.int_inv, k ρ1 H1 x1 R1⟩
  · cases e)
theorem cut_rep {K : PySem.W.Frag} {ρ : List Addr} {H : Hp} {ds : List D} {vs : List V} {lo hi : Option Int} (r : RepVs K ρ H ds vs) : RepVs K ρ H (cutD ds lo hi) (cutV vs lo hi) := by
  unfold cutD cutV
  rw [r.length]
  exact (r.drop _).take _
theorem me_sl {l h : FO} (he : ME X e φ) (hl : MO X lo l) (hu : MO X hi h) : ME X (.Subscript e (.Slice lo hi none p2) pos) (fSl φ l h) :=
  me_of (pe_slice (SlR.or sl_any sl_list) he hl hu) fun ρ δ μ σ H d μ' Q A e k => by
    obtain ⟨⟨x, μ1⟩, e1, e⟩ := bind_inv e
    obtain ⟨⟨o1, μ2⟩, e2, e⟩ := bind_inv e
    obtain ⟨⟨o2, μ3⟩, e3, e⟩ := bind_inv e
    refine ⟨ρ, δ, μ, x, μ1, A, e1, fun ρ1 H1 v x1 R1 r1 => ?_⟩
    refine ⟨ρ1, δ, μ1, o1, μ2, A.ext x1 R1, e2, fun ρ2 H2 x2 R2 => ?_⟩
    refine ⟨ρ2, δ, μ2, o2, μ3, A.ext (x1.trans x2) R2, e3, fun ρ3 H3 x3 R3 => ?_⟩
    dsimp only at e
    split at e
    · cases e
      obtain ⟨a, vs, rfl, ea, q⟩ := (r1.ext (x2.trans x3)).tup_inv
      have xx := x1.trans (x2.trans x3)
      refine .inl ⟨a, vs, rfl, ea, fun hw => k ρ3 H3 _ xx R3 (.tup ea ?_), fun p hp => k ρ3 _ _ (xx.trans (Ext.new hp)) (R3.newTup hp) (.tup upd_same ((cut_rep q).ext (Ext.new hp)))⟩
      have e4 : cutV vs o1 o2 = vs := by
        unfold cutV
        rw [hw.1, hw.2, Nat.sub_zero, List.drop_zero, List.take_length]
      have := cut_rep (lo := o1) (hi := o2) q
      rw [e4] at this
      exact this
    · split at e
      · rename_i hm
        cases e
        obtain ⟨a, rfl, ea⟩ := (r1.ext (x2.trans x3)).loc_inv
        obtain ⟨vs, ev, q⟩ := R3.at_ _ _ _ ea hm
        have xx := x1.trans (x2.trans x3)
        exact .inr ⟨a, vs, rfl, SqL.of ev, fun p hp => k _ _ _ (xx.trans (Ext.push hp)) (R3.push hp ⟨_, upd_same, (cut_rep q).ext (Ext.push hp)⟩) (.loc (push_get R3))⟩
      · cases e
    · cases e
@[simp] noncomputable def fNeg (φ : FE) : FE := fun δ μ => (φ δ μ).bind fun p => match p.1 with
  | .int i => some (.int (-i), p.2)
  | _ => none
@[simp] noncomputable def fEmp : FE := fun _ μ => some (.loc μ.length, μ ++ [.dct []])
noncomputable abbrev GM := D → List D → Mem → Option (D × Mem)
@[simp] noncomputable def fMeth (g : GM) (φ : FE) (ψ : FA) : FE := fun δ μ => (φ δ μ).bind fun p => match p.1 with
  | .loc n => match p.2[n]? with
    | some (.lst _) => (ψ δ p.2).bind fun q => g (.loc n) q.1 q.2
    | _ => none
  | _ => none
@[simp] noncomputable def gAppend : GM := fun x ds μ => match x, ds with
  | .loc n, [d] => match μ[n]? with
    | some (.lst xs) => bif decide (xs.length ≤ 1000000) then some (.non, μ.set n (.lst (xs ++ [d]))) else none
    | _ => none
  | _, _ => none
noncomputable def MtG (X : Cx) (id : String) (g : GM) : Prop := MtR X id fun x xs H Q => ∃ ρ dx ds μ d μ', RepV X.K ρ H dx x ∧ RepVs X.K ρ H ds xs ∧ RepH X.K ρ H μ ∧ g dx ds μ = some (d, μ') ∧ ∀ ρ' H' v, Ext ρ H ρ' H' → RepH X.K ρ' H' μ' → RepV X.K ρ' H' d v → Q v H'
theorem MtG.of {X : Cx} {id : String} {g : GM} (h : ∀ (pins : List (Addr × Obj)) (s : Shared) (σ : L2.St) (H : Hp) (x : V) (xs : List V) (v : Value) (us : List Value) (Q : VK), Inv X pins σ H s → RelV x v → Vals xs us → ∀ (ρ : List Addr) (dx : D) (ds : List D) (μ : Mem) (d : D) (μ' : Mem), RepV X.K ρ H dx x → RepVs X.K ρ H ds xs → RepH X.K ρ H μ → g dx ds μ = some (d, μ') → (∀ ρ' H' v, Ext ρ H ρ' H' → RepH X.K ρ' H' μ' → RepV X.K ρ' H' d v → Q v H') → wpAny (model X.prog X.w) X.A (call (.builtin id) (v :: us)) (EP X pins σ Q) X.xe s) : MtG X id g := by
  intro pins s σ H x xs v us Q I rx rs hh
  obtain ⟨ρ, dx, ds, μ, d, μ', r1, r2, R, e, k⟩ := hh
  exact h pins s σ H x xs v us Q I rx rs ρ dx ds μ d μ' r1 r2 R e k
theorem me_meth {o : Expr} {ψ : FA} {name : Str} {id : String} {g : GM} {apos : Pos} (slot : Slot "list" name id) (hty : typeOf (.builtin id) = pure (.type "method_descriptor")) (hm : MtG X id g) (ho : ME X o φ) (ha : MAn X (e :: es) ψ)
    (hbase : attributeBase o name X.env (eval o X.env) = eval o X.env := by rfl)
    (hfew : ((backTo pos (starEach (e :: es) X.env)).all (fun x => !x.1) && (backToKw pos (keywordEach [] X.env)).all (fun x => x.1.isSome)
      && decide ((e :: es).length + ([] : List Keyword).length + (if ([] : List Keyword).isEmpty then 0 else 1) < 30)) = true := by rfl)
    (hline : (apos.endLine == pos.line) = true := by rfl) (hs : starEach (e :: es) X.env = (false, eval e X.env) :: starEach es X.env := by rfl) (hplain : (backTo pos (starEach es X.env)).any (·.1) = false := by rfl) :
    ME X (.Call (.Attribute o name apos) (e :: es) [] pos) (fMeth g φ ψ) :=
  me_of (pe_bm PySem.F.plainAttrs_list slot hty hm ho ha.ma hbase hfew hline hs hplain) fun ρ δ μ σ H d μ' Q A e k => by
    obtain ⟨⟨x, μ1⟩, e1, e⟩ := bind_inv e
    refine ⟨ρ, δ, μ, x, μ1, A, e1, fun ρ1 H1 v x1 R1 r1 => ?_⟩
    dsimp only at e
    split at e
    · split at e
      · rename_i hm'
        obtain ⟨⟨ds, μ2⟩, e2, e⟩ := bind_inv e
        obtain ⟨a, rfl, ea⟩ := r1.loc_inv
        obtain ⟨vs, e3, q3⟩ := R1.at_ _ _ _ ea hm'
        refine ⟨.inl ⟨rfl, vs, SqL.of e3⟩, ρ1, δ, μ1, ds, μ2, A.ext x1 R1, e2, fun ρ2 H2 vs2 x2 R2 r2 => ?_⟩
        exact ⟨ρ2, _, ds, μ2, d, μ', r1.ext x2, r2, R2, e, fun ρ3 H3 v3 x3 R3 r3 => k ρ3 H3 v3 (x1.trans (x2.trans x3)) R3 r3⟩
      · cases e
    · cases e
theorem mtG_append : MtG X "list.append" gAppend := by
  refine MtG.of fun pins s σ H x xs v us Q I rx rs ρ dx ds μ d μ' r1 r2 R e k => ?_
  unfold gAppend at e
  split at e
  · split at e
    · rename_i hm
      obtain ⟨h1, e⟩ := bif_inv e
      have h1 := of_decide_eq_true h1
      cases e
      obtain ⟨a, rfl, ea⟩ := r1.loc_inv
      obtain ⟨vs, e3, q3⟩ := R.at_ _ _ _ ea hm
      obtain ⟨w, r, rfl, q1, q2⟩ := r2.cons_inv
      rw [q2.nil_inv] at rs
      have hl := q3.length
      have hmi := million
      have hmu : Mut (H a) := by rw [e3]; trivial
      refine mt_append pins s σ H _ _ v us Q I rx rs ⟨a, vs, w, rfl, rfl, e3, by omega, ?_⟩
      exact k ρ _ _ (Ext.wr hmu) (R.wr hmu ea ⟨_, upd_same, RepVs.ext (Ext.wr hmu) (q3.append (.cons q1 .nil))⟩) .non
    · cases e
  · cases e
theorem me_append {o : Expr} {ψ : FA} {apos : Pos} (ho : ME X o φ) (ha : MAn X (e :: es) ψ)
    (hbase : attributeBase o "append" X.env (eval o X.env) = eval o X.env := by rfl)
    (hfew : ((backTo pos (starEach (e :: es) X.env)).all (fun x => !x.1) && (backToKw pos (keywordEach [] X.env)).all (fun x => x.1.isSome)
      && decide ((e :: es).length + ([] : List Keyword).length + (if ([] : List Keyword).isEmpty then 0 else 1) < 30)) = true := by rfl)
    (hline : (apos.endLine == pos.line) = true := by rfl) (hs : starEach (e :: es) X.env = (false, eval e X.env) :: starEach es X.env := by rfl) (hplain : (backTo pos (starEach es X.env)).any (·.1) = false := by rfl) :
    ME X (.Call (.Attribute o "append" apos) (e :: es) [] pos) (fMeth gAppend φ ψ) := me_meth PySem.F.slot_list_append PySem.F.type_list_append mtG_append ho ha hbase hfew hline hs hplain
end
end M
namespace M
open PySem
noncomputable def RS (xs : Array Nat) : Prop := xs.toList.Pairwise (· < ·)
structure TOk (L : Bool) (t : SetTable) : Prop where
  rs : RS t.place
  nd : t.dummies = #[]
  led : t.led = L
end M
namespace M
open PySem
section
variable {prog : Program} {w : World} {A : Around} {E : Value → Shared → Prop} {s : Shared}
end
end M
namespace M
open PySem
end M
namespace M
open PySem
section
variable {prog : Program} {w : World} {A : Around} {E : Value → Shared → Prop} {s : Shared}
end
end M
namespace M
open PySem
section
variable {prog : Program} {w : World} {A : Around} {E : Value → Shared → Prop} {s : Shared} {it a : Addr} {es : Array (Int × Value)} {ep i : Nat} {t : SetTable} {Q : Option Value → Shared → Prop}
end
end M
namespace M
open PySem
section
variable {prog : Program} {w : World} {A : Around} {E : Value → Shared → Prop} {s : Shared} {it a : Addr} {es : Array (Int × Value)} {ep i : Nat} {t : SetTable}
end
end M
namespace M
open PySem
section
variable {prog : Program} {w : World} {A : Around} {E : Value → Shared → Prop} {s : Shared} {I a : Addr} {es : Array (Int × Value)} {ep i : Nat} {t : SetTable}
end
end M
namespace M
open PySem
section
variable {prog : Program} {w : World} {A : Around} {E : Value → Shared → Prop} {s : Shared} {a : Addr} {es : Array (Int × Value)} {ep : Nat} {t : SetTable}
end
end M
namespace M
open PySem
section
variable {prog : Program} {w : World} {A : Around} {E : Value → Shared → Prop} {s : Shared} {a : Addr} {es : Array (Int × Value)} {ep : Nat} {t : SetTable}
end
end M
namespace M
open PySem PyProof.Rows
section
variable {prog : Program} {w : World} {A : Around} {E : Value → Shared → Prop} {s : Shared} {a : Addr}
end
end M
namespace M
open PySem PyProof.Rows
section
variable {prog : Program} {w : World} {A : Around} {R : Result → Shared → Prop} {I : Addr} {fp wr : List Addr} {n : Nat} {P : Nat → Value → Prop} {St : Nat → Heap → Prop}
end
section
variable {prog : Program} {w : World} {A : Around} {E : Value → Shared → Prop} {s : Shared}
end
end M
namespace M
open PySem PyProof.Rows
section
variable {prog : Program} {w : World} {A : Around} {E : Value → Shared → Prop} {s : Shared}
end
end M
namespace M
open PySem PySem.Spec PyProof.Rows L2
section
variable {X : Cx} {pins : List (Addr × Obj)} {σ : L2.St} {H : Hp} {s s' : Shared}
end
section
variable {X : Cx} {a b c e : Expr} {es : List Expr} {φ ψ χ : FE} {pos pos2 p1 p2 : Pos}
end
end M
namespace M
open PySem PySem.Spec PyProof.Rows L2
section
variable {prog : Program} {w : World} {A : Around} {E : Value → Shared → Prop} {s : Shared}
end
section
variable {X : Cx} {a b c e : Expr} {es : List Expr} {φ ψ χ : FE} {pos : Pos}
@[simp] noncomputable def iSeq (φ : FE) : FI := fun δ μ => (φ δ μ).bind fun p => match p.1 with
  | .tup ds => some (ds, yes, p.2)
  | .fz ds => some (ds, yes, p.2)
  | .loc n => match p.2[n]? with
    | some (.lst ds) => some (ds, stays n ds, p.2)
    | _ => none
  | _ => none
theorem mi_seq {tg : Expr} (h : ME X a φ) : MI X tg a (iSeq φ) := by
  intro pins s σ H R I hh
  obtain ⟨ρ, δ, μ, ds, ok, μ', A, e, k⟩ := hh
  cases e1 : φ δ μ with
  | none => unfold iSeq at e; rw [e1] at e; cases e
  | some p =>
    obtain ⟨x, μ1⟩ := p
    cases x with
    | tup zs => exact mi_tup h pins s σ H R I ⟨ρ, δ, μ, ds, ok, μ', A, by unfold iSeq at e; unfold iTuple; rw [e1] at e ⊢; exact e, k⟩
    | fz zs => exact mi_list h pins s σ H R I ⟨ρ, δ, μ, ds, ok, μ', A, by unfold iSeq at e; unfold iList; rw [e1] at e ⊢; exact e, k⟩
    | loc n => exact mi_list h pins s σ H R I ⟨ρ, δ, μ, ds, ok, μ', A, by unfold iSeq at e; unfold iList; rw [e1] at e ⊢; exact e, k⟩
    | _ => unfold iSeq at e; rw [e1] at e; cases e
end
end M
namespace M
open PySem PySem.Spec PyProof.Rows L2
section
variable {X : Cx} {a b c e : Expr} {es : List Expr} {φ ψ χ : FE} {pos pos2 p1 p2 : Pos}
noncomputable def fLRange (φ : FE) : FE := fun δ μ => (φ δ μ).bind fun p => match p.1 with
  | .int j => bif decide (-(2 ^ 62) ≤ j ∧ j ≤ 1000000) then some (.loc p.2.length, p.2 ++ [.lst ((List.range j.toNat).map fun (k : Nat) => .int k)]) else none
  | _ => none
@[simp] noncomputable def gAny : GL := fun ds μ => match ds with
  | [.loc n] => match μ[n]? with
    | some (.lst xs) => bif xs.all isBl then some (.bl (xs.any blB), μ) else none
    | _ => none
  | _ => none
theorem callM_any (hc : X.calm = true) : CallM X (.builtin "any") gAny := by
  refine CallM.of fun pins s σ H xs us Q I r ρ ds μ d μ' r1 R e k => ?_
  unfold gAny at e
  split at e
  · split at e
    · rename_i n _ ys hm
      obtain ⟨hb, e⟩ := bif_inv e
      cases e
      obtain ⟨v, rr, rfl, q1, q2⟩ := r1.cons_inv
      obtain ⟨a, rfl, e2⟩ := q1.loc_inv
      obtain ⟨vs, e3, q3⟩ := R.at_ _ _ _ e2 hm
      rw [q2.nil_inv] at r
      obtain ⟨u, rfl, ru⟩ := vals1 r
      cases ru
      obtain ⟨its, rv, pl, hz⟩ := I.list (SqL.of (K := X.K) e3)
      have hlt : a < s.heap.objs.size := by obtain ⟨_, _, e, _⟩ := pl; exact Heap.lt_size e
      refine call_any_walk (wpAny_pyIter_list pl.isList ?_)
      refine ⟨_, _, _, _, _, _, fun i => blB (ys.getD i .non), rfl, Walks.list (A := X.A.in1) (I.ok.hd hc) s.heap.objs.size a (Nat.ne_of_lt hlt) its.toArray, ⟨⟨_, Heap.get?_push_size _ rfl, rfl, rfl⟩, pl.isList.push _⟩, ?_, fun h' tk hk => ?_⟩
      · intro i w s' Q' E' hP hQ
        have hi : its[i]? = some w := by simpa using hP
        have hil : i < ys.length := by
          have h1 := (List.getElem?_eq_some_iff.mp hi).1
          rw [q3.length, rv.length]; exact h1
        have hyi : ys[i]? = some ys[i] := by simp [hil]
        obtain ⟨vv, ev, rvv⟩ := q3.get hyi
        obtain ⟨ww, ew, rww⟩ := rv.get ev
        rw [hi] at ew; cases ew
        have hall := List.all_eq_true.mp hb ys[i] (List.getElem_mem hil)
        have hQ' : Q' (blB ys[i]) s' := by
          have e : ys.getD i .non = ys[i] := by rw [List.getD_eq_getElem?_getD, hyi]; rfl
          rw [← e]; exact hQ
        cases hyb : ys[i] with
        | bl b =>
          rw [hyb] at rvv hQ'
          rw [rvv.bl_inv] at rww
          cases rww
          exact wpAny_truthy_bool hQ'
        | _ => rw [hyb] at hall; cases hall
      · have hsz : its.toArray.size = ys.length := by rw [q3.length, rv.length]; simp
        have eall : ((List.range its.toArray.size).any fun i => blB (ys.getD i .non)) = ys.any blB := by
          rw [hsz, Bool.eq_iff_iff, List.any_eq_true, List.any_eq_true]
          constructor
          · rintro ⟨i, hi, h⟩
            have hi' : i < ys.length := by simpa using hi
            rw [List.getD_eq_getElem?_getD, show ys[i]? = some ys[i] by simp [hi']] at h
            exact ⟨_, List.getElem_mem hi', h⟩
          · rintro ⟨y, hy, h⟩
            obtain ⟨i, hi, rfl⟩ := List.mem_iff_getElem.mp hy
            refine ⟨i, by simpa using hi, ?_⟩
            rw [List.getD_eq_getElem?_getD, show ys[i]? = some ys[i] by simp [hi]]
            exact h
        rw [eall]
        refine ⟨.bl _, H, I.kept (h' := h') (t' := tk) fun b o e => hk b o (by simpa using Nat.ne_of_lt (Heap.lt_size e)) (Heap.get?_push_of_some _ e), rfl, k ρ H _ Ext.refl R .bl⟩
    · cases e
  · cases e
@[simp] noncomputable def gInt : GL := fun ds μ => match ds with
  | [.int i] => some (.int i, μ)
  | [.bl b] => some (.int (if b then 1 else 0), μ)
  | _ => none
@[simp] noncomputable def gMin2 : GL := fun ds μ => match ds with
  | [.int i, .int j] => some (.int (if j < i then j else i), μ)
  | _ => none
@[simp] noncomputable def gMax2 : GL := fun ds μ => match ds with
  | [.int i, .int j] => some (.int (if j > i then j else i), μ)
  | _ => none
@[simp] noncomputable def fIf (c : FT) (φ ψ : FE) : FE := fun δ μ => (c δ μ).bind fun p => bif p.1 then φ δ p.2 else ψ δ p.2
end
end M
namespace M
open PySem PySem.Spec PyProof.Rows L2
section
variable {prog : Program} {w : World} {A : Around} {E : Value → Shared → Prop} {s : Shared}
end
end M
namespace M
open PySem PySem.Spec PyProof.Rows L2
section
variable {X : Cx} {pins : List (Addr × Obj)} {σ : L2.St} {H : Hp} {s : Shared}
end
end M
namespace M
open PySem PySem.Spec PyProof.Rows L2
section
variable {X : Cx} {a b c e : Expr} {es : List Expr} {φ ψ χ : FE} {pos : Pos}
end
end M
namespace M
open PySem PySem.Spec PyProof.Rows L2
section
variable {X : Cx} {a b c e : Expr} {es : List Expr} {φ ψ χ : FE} {pos : Pos}
end
end M
namespace L2
open PySem PySem.Spec PyProof.Rows
section
variable {κ : Type} [DecidableEq κ]
end
end L2
namespace M
open PySem PySem.Spec PyProof.Rows L2
section
variable {K : PySem.W.Frag} {ρ : List Addr} {H : Hp} {μ : Mem}
end
section
variable {X : Cx} {a b c e : Expr} {es : List Expr} {φ ψ χ : FE} {pos : Pos}
end
end M
namespace M
open PySem PySem.Spec PyProof.Rows L2
section
variable {X : Cx} {a b c e : Expr} {es : List Expr} {φ ψ χ : FE} {pos : Pos}
end
end M
namespace M
open PySem PySem.Spec PyProof.Rows L2
section
variable {X : Cx} {a b c e : Expr} {es : List Expr} {φ ψ χ : FE} {pos : Pos} {tg : Expr}
end
end M
namespace M
open PySem PySem.Spec PyProof.Rows L2
section
variable {prog : Program} {w : World} {A : Around} {E : Value → Shared → Prop} {s : Shared}
end
section
variable {X : Cx} {a b c e : Expr} {es : List Expr} {φ ψ χ : FE} {pos pos2 p1 p2 : Pos}
end
end M
namespace M
open PySem PySem.Spec PyProof.Rows L2
section
variable {X : Cx}
end
end M
namespace M
open PySem PySem.Spec PyProof.Rows L2
section
variable {prog : Program} {w : World} {A : Around} {E : Value → Shared → Prop} {s : Shared}
end
section
variable {X : Cx} {e : Expr} {te : TE} {φ : FE} {stp : Expr} {ts : TO} {pos p2 : Pos}
end
end M
namespace M
open PySem PySem.Spec PyProof.Rows L2
section
variable {prog : Program} {w : World} {A : Around} {E : Value → Shared → Prop} {s : Shared}
end
section
variable {X : Cx}
end
end M
namespace M
open PySem PySem.Spec PyProof.Rows L2
section
variable {X : Cx}
end
end M
namespace M
open PySem PySem.Spec PyProof.Rows L2
section
variable {X : Cx} {a b c e : Expr} {es : List Expr} {φ ψ χ : FE} {pos p2 : Pos}
end
end M
namespace M
open PySem PySem.Spec PyProof.Rows L2
section
variable {prog : Program} {w : World} {A : Around} {E : Value → Shared → Prop} {s : Shared}
end
section
variable {X : Cx} {pos : Pos}
end
end M
namespace M
open PySem PySem.Spec PyProof.Rows L2
@[simp] theorem mulOk_r {i j : Int} (h1 : -18446744073709551616 < j) (h2 : j < 18446744073709551616) : mulOk i j = true := by
  unfold mulOk
  rw [decide_eq_true (p := -(2 ^ 64) < j ∧ j < 2 ^ 64) ⟨by omega, by omega⟩]
  simp
@[simp] theorem all_tt {α : Type} (l : List α) : (l.all fun _ => true) = true := by simp
theorem get_old {μ g : Mem} {n : Nat} (h : n < μ.length) : (μ ++ g)[n]? = μ[n]? := List.getElem?_append_left h
theorem get_old' {μ g : Mem} {n : Nat} {o : LObj} (h : μ[n]? = some o) : (μ ++ g)[n]? = some o := by
  rw [get_old (List.getElem?_eq_some_iff.mp h).1]; exact h
mutual
theorem eqv_refl : ∀ p : PyData, p.canLay0 = true → PyData.eqv p p = true
  | .none, _ => rfl
  | .bool b, _ => by simp [PyData.eqv]
  | .int b, _ => by simp [PyData.eqv]
  | .str b, _ => by simp [PyData.eqv]
  | .list xs, h => by
    unfold PyData.eqv
    exact eqvAll_refl xs (by simpa [PyData.canLay0] using h)
  | .tuple xs, h => by
    unfold PyData.eqv
    exact eqvAll_refl xs (by simpa [PyData.canLay0] using h)
  | .dict _, h => by simp [PyData.canLay0] at h
theorem eqvAll_refl : ∀ ps : List PyData, PyData.canLayAll0 ps = true → PyData.eqvAll ps ps = true
  | [], _ => rfl
  | p :: ps, h => by
    simp only [PyData.canLayAll0, Bool.and_eq_true] at h
    unfold PyData.eqvAll
    rw [eqv_refl p h.1, eqvAll_refl ps h.2]
    rfl
end
theorem gEq_same {x y : D} {μ : Mem} {p : PyData} (h1 : toP μ 8 x = some p) (h2 : toP μ 8 y = some p) : gEq x y μ = some (.bl true, μ) := by
  unfold gEq
  rw [h1, h2]
  simp [eqv_refl p (toP_shape 8 x p h1).1]
theorem gNe_same {x y : D} {μ : Mem} {p : PyData} (h1 : toP μ 8 x = some p) (h2 : toP μ 8 y = some p) : gNe x y μ = some (.bl false, μ) := by
  unfold gNe
  rw [h1, h2]
  simp [eqv_refl p (toP_shape 8 x p h1).1]
theorem law_sp {K : PySem.W.Frag} {F : FF} {H : Hp} {a : Addr} {ns : List Int} (hF : ∃ μ', F [.fz (ns.map D.int)] [] = some (.bl true, μ')) (hO : Only H) (hS : SqL K H a (ns.map V.int)) : spM K 1 F [.ref a] H (fun v _ => v = .bl true) fun _ _ _ => False := by
  obtain ⟨μ', e⟩ := hF
  have fz : FzL K H a (ns.map V.int) := by
    rcases hS with (h | ⟨o, h⟩) | h
    · rcases hO a with z | ⟨o, xs, z⟩
      · rw [h] at z; cases z
      · rw [h] at z; cases z
    · exact .inl ⟨o, h⟩
    · exact .inr h
  have hints : ∀ ns : List Int, RepVs K [] H (ns.map D.int) (ns.map V.int) := fun ns => by
    induction ns with
    | nil => exact .nil
    | cons i r ih => exact .cons .int ih
  exact ⟨rfl, [], [.fz (ns.map D.int)], [], .bl true, μ', .cons (.fz fz (hints ns)) .nil, ⟨List.nodup_nil, rfl, fun n a o h1 _ => by simp at h1⟩, e, fun ρ' H' v _ _ r => r.bl_inv⟩
end M
namespace M
open PySem PySem.Spec PyProof.Rows L2
end M
namespace M
open PySem PySem.Spec PyProof.Rows L2
structure WE (φ : FE) (δ : Loc) (μ : Mem) (Q : D → Mem → Prop) : Prop where
  ex : ∃ d μ', φ δ μ = some (d, μ') ∧ Q d μ'
structure WT (φ : FT) (δ : Loc) (μ : Mem) (Q : Bool → Mem → Prop) : Prop where
  ex : ∃ d μ', φ δ μ = some (d, μ') ∧ Q d μ'
structure WA (φ : FA) (δ : Loc) (μ : Mem) (Q : List D → Mem → Prop) : Prop where
  ex : ∃ d μ', φ δ μ = some (d, μ') ∧ Q d μ'
structure WO (φ : FO) (δ : Loc) (μ : Mem) (Q : Option Int → Mem → Prop) : Prop where
  ex : ∃ d μ', φ δ μ = some (d, μ') ∧ Q d μ'
structure W2 (g : G2) (x y : D) (μ : Mem) (Q : D → Mem → Prop) : Prop where
  ex : ∃ d μ', g x y μ = some (d, μ') ∧ Q d μ'
structure WF (F : FF) (ds : List D) (μ : Mem) (Q : D → Mem → Prop) : Prop where
  ex : ∃ d μ', F ds μ = some (d, μ') ∧ Q d μ'
structure WM (g : GM) (x : D) (ds : List D) (μ : Mem) (Q : D → Mem → Prop) : Prop where
  ex : ∃ d μ', g x ds μ = some (d, μ') ∧ Q d μ'
structure WI (i : FI) (δ : Loc) (μ : Mem) (Q : List D → (Mem → Bool) → Mem → Prop) : Prop where
  ex : ∃ ds ok μ', i δ μ = some (ds, ok, μ') ∧ Q ds ok μ'
structure WG (g : FG) (d : D) (δ : Loc) (μ : Mem) (Q : Loc → Mem → Prop) : Prop where
  ex : ∃ δ' μ', g d δ μ = some (δ', μ') ∧ Q δ' μ'
structure WGs (g : FGs) (ds : List D) (δ : Loc) (μ : Mem) (Q : Loc → Mem → Prop) : Prop where
  ex : ∃ δ' μ', g ds δ μ = some (δ', μ') ∧ Q δ' μ'
structure WL (g : FG) (c : FT) (φ : FE) (ok : Mem → Bool) (δ : Loc) (xs ys : List D) (μ : Mem) (Q : D → Mem → Prop) : Prop where
  ex : ∃ d μ', lcIt g c φ ok δ xs ys μ = some (d, μ') ∧ Q d μ'
noncomputable def Ek (nx : Loc → Mem → Prop) (rt : D → Mem → Prop) (bk ct : Loc → Mem → Prop) : Out → Prop
  | .next δ μ => nx δ μ
  | .ret d μ => rt d μ
  | .brk δ μ => bk δ μ
  | .cont δ μ => ct δ μ
  | .exc _ _ _ => False
structure WS (ψ : FS) (δ : Loc) (μ : Mem) (nx : Loc → Mem → Prop) (rt : D → Mem → Prop) (bk ct : Loc → Mem → Prop) : Prop where
  ex : ∃ o, ψ δ μ = some o ∧ Ek nx rt bk ct o
structure WFor (g : FG) (body : FS) (ok : Mem → Bool) (xs : List D) (δ : Loc) (μ : Mem) (nx : Loc → Mem → Prop) (rt : D → Mem → Prop) : Prop where
  ex : ∃ o, forIt g body ok xs δ μ = some o ∧ Ek nx rt (fun _ _ => False) (fun _ _ => False) o
noncomputable def Keep (μ μ' : Mem) : Prop := ∀ (n : Nat) (o : LObj), μ[n]? = some o → μ'[n]? = some o
theorem Keep.refl {μ : Mem} : Keep μ μ := fun _ _ h => h
theorem Keep.trans {μ μ1 μ2 : Mem} (a : Keep μ μ1) (b : Keep μ1 μ2) : Keep μ μ2 := fun n o h => b n o (a n o h)
theorem Keep.app {μ g : Mem} : Keep μ (μ ++ g) := fun _ _ h => get_old' h
theorem Keep.to {μ μ1 g : Mem} (a : Keep μ μ1) : Keep μ (μ1 ++ g) := a.trans .app
theorem get_new {μ : Mem} {o : LObj} : (μ ++ [o])[μ.length]? = some o := by simp
theorem lt_of_get {μ : Mem} {n : Nat} {o : LObj} (h : μ[n]? = some o) : n < μ.length := (List.getElem?_eq_some_iff.mp h).1
theorem get_set_ne {μ : Mem} {n m : Nat} {o o' : LObj} (h : μ[n]? = some o) (hne : m ≠ n) : (μ.set m o')[n]? = some o := by
  rw [List.getElem?_set_ne hne]; exact h
theorem get_set_eq {μ : Mem} {n : Nat} {o o' : LObj} (h : μ[n]? = some o) : (μ.set n o')[n]? = some o' := by
  rw [List.getElem?_set_self (lt_of_get h)]
theorem items_loc {μ : Mem} {n : Nat} {ds : List D} (h : μ[n]? = some (.lst ds)) : items μ (.loc n) = some ds := by simp [h]
section
variable {φ ψ χ : FE} {g g2 : G2} {δ : Loc} {μ : Mem} {Q : D → Mem → Prop} {i j : Int} {d x y : D} {ds xs : List D}
theorem w_var {n : Nat} (h : δ[n]? = some (some d)) (q : Q d μ) : WE (fVar n) δ μ Q := ⟨d, μ, by simp [h], q⟩
theorem w_c (q : Q d μ) : WE (fC d) δ μ Q := ⟨d, μ, rfl, q⟩
theorem w_bin (h : WE φ δ μ fun x μ1 => WE ψ δ μ1 fun y μ2 => W2 g x y μ2 Q) : WE (fBin g φ ψ) δ μ Q := by
  obtain ⟨x, μ1, e1, y, μ2, e2, d, μ3, e3, q⟩ := h
  exact ⟨d, μ3, by simp [e1, e2, e3], q⟩
theorem w_and (h : WE φ δ μ fun x μ1 => ∃ b, x = .bl b ∧ (b = true → WE ψ δ μ1 Q) ∧ (b = false → Q (.bl false) μ1)) : WE (fAnd φ ψ) δ μ Q := by
  obtain ⟨x, μ1, e1, b, rfl, h1, h2⟩ := h
  cases b with
  | true => obtain ⟨d, μ2, e2, q⟩ := h1 rfl; exact ⟨d, μ2, by simp [e1, e2], q⟩
  | false => exact ⟨_, μ1, by simp [e1], h2 rfl⟩
theorem w_or (h : WE φ δ μ fun x μ1 => ∃ b, x = .bl b ∧ (b = false → WE ψ δ μ1 Q) ∧ (b = true → Q (.bl true) μ1)) : WE (fOr φ ψ) δ μ Q := by
  obtain ⟨x, μ1, e1, b, rfl, h1, h2⟩ := h
  cases b with
  | false => obtain ⟨d, μ2, e2, q⟩ := h1 rfl; exact ⟨d, μ2, by simp [e1, e2], q⟩
  | true => exact ⟨_, μ1, by simp [e1], h2 rfl⟩
theorem w_not (h : WE φ δ μ fun x μ1 => ∃ b, x = .bl b ∧ Q (.bl (!b)) μ1) : WE (fNot φ) δ μ Q := by
  obtain ⟨x, μ1, e1, b, rfl, q⟩ := h
  exact ⟨_, μ1, by simp [e1], q⟩
theorem w_neg (h : WE φ δ μ fun x μ1 => ∃ i, x = .int i ∧ Q (.int (-i)) μ1) : WE (fNeg φ) δ μ Q := by
  obtain ⟨x, μ1, e1, b, rfl, q⟩ := h
  exact ⟨_, μ1, by simp [e1], q⟩
theorem w_tup {α : FA} (h : WA α δ μ fun ds μ1 => Q (.tup ds) μ1) : WE (fTup α) δ μ Q := by
  obtain ⟨x, μ1, e1, q⟩ := h
  exact ⟨_, μ1, by simp [e1], q⟩
theorem w_lst {α : FA} (h : WA α δ μ fun ds μ1 => Q (.loc μ1.length) (μ1 ++ [.lst ds])) : WE (fLst α) δ μ Q := by
  obtain ⟨x, μ1, e1, q⟩ := h
  exact ⟨_, _, by simp [e1] <;> rfl, q⟩
theorem w_emp (h : Q (.loc μ.length) (μ ++ [.dct []])) : WE fEmp δ μ Q := ⟨_, _, rfl, h⟩
theorem w_pno {R : Option Int → Mem → Prop} (q : R none μ) : WO pNo δ μ R := ⟨_, _, rfl, q⟩
theorem w_pyes {R : Option Int → Mem → Prop} (h : WE φ δ μ fun x μ1 => ∃ i, x = .int i ∧ R (some i) μ1) : WO (pYes φ) δ μ R := by
  obtain ⟨x, μ1, e1, i, rfl, q⟩ := h
  exact ⟨_, _, by simp [e1] <;> rfl, q⟩
theorem w_call {F : FF} {α : FA} (h : WA α δ μ fun ds μ1 => WF F ds μ1 Q) : WE (fCall F α) δ μ Q := by
  obtain ⟨ds, μ1, e1, d, μ2, e2, q⟩ := h
  exact ⟨d, μ2, by simp [e1, e2], q⟩
theorem w_meth {m : GM} {α : FA} (h : WE φ δ μ fun x μ1 => ∃ n xs, x = .loc n ∧ μ1[n]? = some (.lst xs) ∧ WA α δ μ1 fun ds μ2 => WM m (.loc n) ds μ2 Q) : WE (fMeth m φ α) δ μ Q := by
  obtain ⟨x, μ1, e1, n, xs, rfl, e2, ds, μ2, e3, d, μ3, e4, q⟩ := h
  exact ⟨d, μ3, by simp [e1, e2, e3, e4], q⟩
theorem w_lc {n : Nat} {fr : List Nat} {it : FI} {tg : FG} {c : FT} (h : WI it δ μ fun ds ok μ1 => few ds = true ∧ WL tg c φ ok (δC n fr δ) ds [] μ1 Q) : WE (fLC n fr it tg c φ) δ μ Q := by
  obtain ⟨ds, ok, μ1, e1, hf, d, μ2, e2, q⟩ := h
  exact ⟨d, μ2, by unfold fLC; simp only [e1, Option.bind_some, hf, cond_true]; exact e2, q⟩
theorem w_test {R : Bool → Mem → Prop} (h : WE φ δ μ fun x μ1 => ∃ b, x = .bl b ∧ R b μ1) : WT (fTest φ) δ μ R := by
  obtain ⟨x, μ1, e1, b, rfl, q⟩ := h
  exact ⟨_, _, by simp [e1] <;> rfl, q⟩
theorem w_andT {c e : FT} {R : Bool → Mem → Prop} (h : WT c δ μ fun b μ1 => (b = true → WT e δ μ1 R) ∧ (b = false → R false μ1)) : WT (tAndT c e) δ μ R := by
  obtain ⟨b, μ1, e1, h1, h2⟩ := h
  cases b with
  | true => obtain ⟨d, μ2, e2, q⟩ := h1 rfl; exact ⟨d, μ2, by simp [e1, e2], q⟩
  | false => exact ⟨_, μ1, by simp [e1], h2 rfl⟩
theorem w_orT {c e : FT} {R : Bool → Mem → Prop} (h : WT c δ μ fun b μ1 => (b = false → WT e δ μ1 R) ∧ (b = true → R true μ1)) : WT (tOrT c e) δ μ R := by
  obtain ⟨b, μ1, e1, h1, h2⟩ := h
  cases b with
  | false => obtain ⟨d, μ2, e2, q⟩ := h1 rfl; exact ⟨d, μ2, by simp [e1, e2], q⟩
  | true => exact ⟨_, μ1, by simp [e1], h2 rfl⟩
theorem w_notT {c : FT} {R : Bool → Mem → Prop} (h : WT c δ μ fun b μ1 => R (!b) μ1) : WT (tNotT c) δ μ R := by
  obtain ⟨b, μ1, e1, q⟩ := h
  exact ⟨_, _, by simp [e1] <;> rfl, q⟩
theorem w_yes {R : Bool → Mem → Prop} (q : R true μ) : WT cYes δ μ R := ⟨_, _, rfl, q⟩
theorem w_nil {R : List D → Mem → Prop} (q : R [] μ) : WA aNil δ μ R := ⟨_, _, rfl, q⟩
theorem w_cons {α : FA} {R : List D → Mem → Prop} (h : WE φ δ μ fun x μ1 => WA α δ μ1 fun xs μ2 => R (x :: xs) μ2) : WA (aCons φ α) δ μ R := by
  obtain ⟨x, μ1, e1, xs, μ2, e2, q⟩ := h
  exact ⟨_, _, by simp [e1, e2] <;> rfl, q⟩
theorem w_add (q : Q (.int (i + j)) μ) : W2 gAdd (.int i) (.int j) μ Q := ⟨_, _, rfl, q⟩
theorem w_addL {l m : Nat} {as bs : List D} (h1 : μ[l]? = some (.lst as)) (h2 : μ[m]? = some (.lst bs)) (h : as.length + bs.length ≤ 1000000) (q : Q (.loc μ.length) (μ ++ [.lst (as ++ bs)])) : W2 gAdd (.loc l) (.loc m) μ Q := ⟨_, _, by simp [h1, h2, h] <;> rfl, q⟩
theorem w_sub (q : Q (.int (i - j)) μ) : W2 gSub (.int i) (.int j) μ Q := ⟨_, _, rfl, q⟩
theorem w_mul (h : mulOk i j = true) (q : Q (.int (i * j)) μ) : W2 gMul (.int i) (.int j) μ Q := ⟨_, _, by simp [gMul, h] <;> rfl, q⟩
theorem w_mod (h : 0 < j) (q : Q (.int (i % j)) μ) : W2 gMod (.int i) (.int j) μ Q := ⟨_, _, by simp [h] <;> rfl, q⟩
theorem w_div (h : 0 < j) (h' : j < 1606938044258990275541962092341162602522202993782792835301376) (q : Q (.int (i / j)) μ) : W2 gDiv (.int i) (.int j) μ Q := ⟨_, _, by simp [h, h'] <;> rfl, q⟩
theorem w_pow (h : 0 ≤ j) (h1 : j ≤ 100000) (h2 : i.natAbs < 1606938044258990275541962092341162602522202993782792835301376) (q : Q (.int (i ^ j.toNat)) μ) : W2 gPow (.int i) (.int j) μ Q := ⟨_, _, by simp only [gPow]; rw [decide_eq_true ⟨h, h1, h2⟩]; rfl, q⟩
theorem w_cmp {r : Int → Int → Bool} (q : Q (.bl (r i j)) μ) : W2 (gCmp r) (.int i) (.int j) μ Q := ⟨_, _, rfl, q⟩
theorem w_ix (h : items μ x = some xs) (h2 : atI xs i = some d) (q : Q d μ) : W2 gIx x (.int i) μ Q := ⟨_, _, by show ((items μ x).bind fun ds => (atI ds i).bind fun d => some (d, μ)) = _; rw [h, Option.bind_some, h2, Option.bind_some], q⟩
theorem w_eqI (q : Q (.bl (i == j)) μ) : W2 gEq (.int i) (.int j) μ Q := ⟨_, _, by simp [gEq, toP, PyData.eqv] <;> rfl, q⟩
theorem w_neI (q : Q (.bl (!(i == j))) μ) : W2 gNe (.int i) (.int j) μ Q := ⟨_, _, by simp [gNe, toP, PyData.eqv] <;> rfl, q⟩
theorem w_eqS {p : PyData} (h1 : toP μ 8 x = some p) (h2 : toP μ 8 y = some p) (q : Q (.bl true) μ) : W2 gEq x y μ Q := ⟨_, _, gEq_same h1 h2, q⟩
theorem w_neS {p : PyData} (h1 : toP μ 8 x = some p) (h2 : toP μ 8 y = some p) (q : Q (.bl false) μ) : W2 gNe x y μ Q := ⟨_, _, gNe_same h1 h2, q⟩
theorem w_eq {p p' : PyData} (h1 : toP μ 8 x = some p) (h2 : toP μ 8 y = some p') (q : Q (.bl (PyData.eqv p p')) μ) : W2 gEq x y μ Q := ⟨_, _, by simp [gEq, h1, h2] <;> rfl, q⟩
theorem w_ne {p p' : PyData} (h1 : toP μ 8 x = some p) (h2 : toP μ 8 y = some p') (q : Q (.bl (!PyData.eqv p p')) μ) : W2 gNe x y μ Q := ⟨_, _, by simp [gNe, h1, h2] <;> rfl, q⟩
theorem w_isB {a b : Bool} (q : Q (.bl (a == b)) μ) : W2 gIs (.bl a) (.bl b) μ Q := ⟨_, _, rfl, q⟩
theorem w_isNotB {a b : Bool} (q : Q (.bl (a != b)) μ) : W2 gIsNot (.bl a) (.bl b) μ Q := ⟨_, _, rfl, q⟩
theorem w_len (h : items μ x = some xs) (q : Q (.int xs.length) μ) : WF gLen [x] μ Q := ⟨_, _, by show ((items μ x).bind fun xs => some (D.int xs.length, μ)) = _; rw [h, Option.bind_some], q⟩
theorem w_list (h : items μ x = some xs) (q : Q (.loc μ.length) (μ ++ [.lst xs])) : WF gList [x] μ Q := ⟨_, _, by show ((items μ x).bind fun xs => some (D.loc μ.length, μ ++ [LObj.lst xs])) = _; rw [h, Option.bind_some], q⟩
theorem w_tuple (h : items μ x = some xs) (q : Q (.tup xs) μ) : WF gTuple [x] μ Q := by
  refine ⟨_, _, ?_, q⟩
  cases x <;> first | (cases h; rfl) | (simp only [gTuple, h]; rfl)
theorem w_isi {c t : Ty} (h : tyOf μ x = some t) (q : Q (.bl (isTy t c)) μ) : WF (gIsi c) [x, .ty c.name] μ Q := ⟨_, _, by simp only [gIsi, beq_self_eq_true, cond_true, h, Option.bind_some], q⟩
theorem w_all {n : Nat} {bs : List Bool} (h : μ[n]? = some (.lst (bs.map .bl))) (q : Q (.bl (bs.all fun b => b)) μ) : WF gAll [.loc n] μ Q := ⟨_, _, by simp [h, List.all_map, Function.comp_def], q⟩
theorem w_append {n : Nat} (h : μ[n]? = some (.lst xs)) (hl : xs.length ≤ 1000000) (q : Q .non (μ.set n (.lst (xs ++ [d])))) : WM gAppend (.loc n) [d] μ Q := ⟨_, _, by simp [h, hl] <;> rfl, q⟩
theorem w_def {F : FF} {N : List Str} {p : FS} (hF : F = fun ds μ => retOf (p (startD N ds) μ)) (h : WS p (startD N ds) μ (fun _ μ' => Q .non μ') Q (fun _ _ => False) fun _ _ => False) : WF F ds μ Q := by
  subst hF
  obtain ⟨o, e, k⟩ := h
  cases o with
  | next δ' μ' => exact ⟨_, _, by rw [e]; rfl, k⟩
  | ret d μ' => exact ⟨_, _, by rw [e]; rfl, k⟩
  | brk _ _ => exact k.elim
  | cont _ _ => exact k.elim
  | exc _ _ _ => exact k.elim
theorem w_range {α : FA} {R : List D → (Mem → Bool) → Mem → Prop} (h : WA α δ μ fun ds μ1 => ∃ j : Int, ds = [.int j] ∧ -(2 ^ 62) ≤ j ∧ j < 2 ^ 62 ∧ R ((List.range j.toNat).map fun (k : Nat) => .int k) yes μ1) : WI (iRange α) δ μ R := by
  obtain ⟨ds, μ1, e1, j, rfl, h1, h2, q⟩ := h
  refine ⟨_, _, _, ?_, q⟩
  unfold iRange
  simp only [e1, Option.bind_some]
  rw [decide_eq_true ⟨h1, h2⟩]
  rfl
theorem w_seq {R : List D → (Mem → Bool) → Mem → Prop} (h : WE φ δ μ fun x μ1 => (∃ ds, x = .tup ds ∧ R ds yes μ1) ∨ (∃ ds, x = .fz ds ∧ R ds yes μ1) ∨ ∃ n ds, x = .loc n ∧ μ1[n]? = some (.lst ds) ∧ R ds (stays n ds) μ1) : WI (iSeq φ) δ μ R := by
  obtain ⟨x, μ1, e1, ⟨ds, rfl, q⟩ | ⟨ds, rfl, q⟩ | ⟨n, ds, rfl, e2, q⟩⟩ := h
  · exact ⟨_, _, _, by simp [e1] <;> rfl, q⟩
  · exact ⟨_, _, _, by simp [e1] <;> rfl, q⟩
  · exact ⟨_, _, _, by simp [e1, e2] <;> rfl, q⟩
theorem w_gn {n : Nat} {R : Loc → Mem → Prop} (q : R (δ.set n (some d)) μ) : WG (gN n) d δ μ R := ⟨_, _, rfl, q⟩
theorem w_gt {n : Nat} {gs : FGs} {R : Loc → Mem → Prop} (hl : ds.length = n) (h : WGs gs ds δ μ R) : WG (gT n gs) (.tup ds) δ μ R := by
  obtain ⟨δ', μ', e, q⟩ := h
  exact ⟨δ', μ', by simp [hl, e], q⟩
theorem w_gt2 {gs : FGs} {R : Loc → Mem → Prop} {a b : D} (h : WGs gs [a, b] δ μ R) : WG (gT 2 gs) (.tup [a, b]) δ μ R := w_gt rfl h
theorem w_gt3 {gs : FGs} {R : Loc → Mem → Prop} {a b c : D} (h : WGs gs [a, b, c] δ μ R) : WG (gT 3 gs) (.tup [a, b, c]) δ μ R := w_gt rfl h
theorem w_gsn {R : Loc → Mem → Prop} (q : R δ μ) : WGs gsNil [] δ μ R := ⟨_, _, rfl, q⟩
theorem w_gsc {t : FG} {gs : FGs} {R : Loc → Mem → Prop} (h : WG t d δ μ fun δ1 μ1 => WGs gs ds δ1 μ1 R) : WGs (gsCons t gs) (d :: ds) δ μ R := by
  obtain ⟨δ1, μ1, e1, δ2, μ2, e2, q⟩ := h
  exact ⟨δ2, μ2, by simp [e1, e2], q⟩
end
section
variable {φ ψ : FE} {δ : Loc} {μ : Mem} {nx : Loc → Mem → Prop} {rt : D → Mem → Prop} {bk ct : Loc → Mem → Prop} {p q : FS}
theorem w_skip (h : nx δ μ) : WS sSkip δ μ nx rt bk ct := ⟨.next δ μ, rfl, h⟩
theorem w_then (h : WS p δ μ (fun δ' μ' => WS q δ' μ' nx rt bk ct) rt bk ct) : WS (sSeq p q) δ μ nx rt bk ct := by
  obtain ⟨o, e, k⟩ := h
  cases o with
  | next δ' μ' => obtain ⟨o2, e2, k2⟩ := k; exact ⟨o2, by simp [e, e2], k2⟩
  | ret d μ' => exact ⟨.ret d μ', by simp only [sSeq, e], k⟩
  | brk d μ' => exact ⟨.brk d μ', by simp only [sSeq, e], k⟩
  | cont d μ' => exact ⟨.cont d μ', by simp only [sSeq, e], k⟩
  | exc _ _ _ => exact k.elim
theorem w_set {n : Nat} (h : WE φ δ μ fun d μ' => nx (δ.set n (some d)) μ') : WS (sSet n φ) δ μ nx rt bk ct := by
  obtain ⟨d, μ', e, k⟩ := h
  exact ⟨.next _ _, by simp only [sSet, e, Option.bind_some], k⟩
theorem w_asg {g : FG} (h : WE φ δ μ fun d μ1 => WG g d δ μ1 nx) : WS (sAsg φ g) δ μ nx rt bk ct := by
  obtain ⟨d, μ1, e, δ', μ2, e2, k⟩ := h
  exact ⟨.next _ _, by simp only [sAsg, e, Option.bind_some, e2], k⟩
theorem w_expr (h : WE φ δ μ fun _ μ' => nx δ μ') : WS (sExpr φ) δ μ nx rt bk ct := by
  obtain ⟨d, μ', e, k⟩ := h
  exact ⟨.next _ _, by simp only [sExpr, e, Option.bind_some], k⟩
theorem w_ret (h : WE φ δ μ rt) : WS (sRet φ) δ μ nx rt bk ct := by
  obtain ⟨d, μ', e, k⟩ := h
  exact ⟨.ret _ _, by simp only [sRet, e, Option.bind_some], k⟩
theorem w_if {c : FT} (h : WT c δ μ fun b μ1 => (b = true → WS p δ μ1 nx rt bk ct) ∧ (b = false → WS q δ μ1 nx rt bk ct)) : WS (sIf c p q) δ μ nx rt bk ct := by
  obtain ⟨b, μ1, e, h1, h2⟩ := h
  cases b with
  | true => obtain ⟨o, e2, k⟩ := h1 rfl; exact ⟨o, by simp [e, e2], k⟩
  | false => obtain ⟨o, e2, k⟩ := h2 rfl; exact ⟨o, by simp [e, e2], k⟩
theorem w_for {it : FI} {g : FG} {body : FS} (h : WI it δ μ fun ds ok μ1 => WFor g body ok ds δ μ1 nx rt) : WS (sFor it g body) δ μ nx rt bk ct := by
  obtain ⟨ds, ok, μ1, e, o, e2, k⟩ := h
  refine ⟨o, by simp only [sFor, e, Option.bind_some]; exact e2, ?_⟩
  cases o with
  | next _ _ => exact k
  | ret _ _ => exact k
  | brk _ _ => exact k.elim
  | cont _ _ => exact k.elim
  | exc _ _ _ => exact k.elim
theorem w_loop {g : FG} {body : FS} {ok : Mem → Bool} {nx : Loc → Mem → Prop} {rt : D → Mem → Prop} (I : Nat → Loc → Mem → Prop) : ∀ {xs : List D} {n : Nat} {δ : Loc} {μ : Mem}, I n δ μ → (∀ m δ μ, I m δ μ → ok μ = true) →
    (∀ (m : Nat) (x : D) (δ : Loc) (μ : Mem), xs[m]? = some x → I (n + m) δ μ → WG g x δ μ fun δ1 μ1 => WS body δ1 μ1 (I (n + m + 1)) rt nx (I (n + m + 1))) → (∀ δ μ, I (n + xs.length) δ μ → nx δ μ) → WFor g body ok xs δ μ nx rt
  | [], n, δ, μ, h0, hok, _, hend => ⟨.next δ μ, by simp only [forIt, hok _ _ _ h0, cond_true], hend δ μ h0⟩
  | x :: xs, n, δ, μ, h0, hok, hs, hend => by
    obtain ⟨δ1, μ1, e1, o, e2, k⟩ := hs 0 x δ μ rfl h0
    cases o with
    | next δ2 μ2 =>
      obtain ⟨o3, e3, k3⟩ := w_loop I (xs := xs) (n := n + 1) (δ := δ2) (μ := μ2) k hok (fun m y δ μ hy hI => by
        have := hs (m + 1) y δ μ (by simpa using hy) (by rw [show n + (m + 1) = n + 1 + m by omega]; exact hI)
        rw [show n + (m + 1) = n + 1 + m by omega] at this
        exact this) (fun δ μ hI => hend δ μ (by rw [List.length_cons, show n + (xs.length + 1) = n + 1 + xs.length by omega]; exact hI))
      exact ⟨o3, by simp only [forIt, hok _ _ _ h0, cond_true, e1, Option.bind_some, e2]; exact e3, k3⟩
    | cont δ2 μ2 =>
      obtain ⟨o3, e3, k3⟩ := w_loop I (xs := xs) (n := n + 1) (δ := δ2) (μ := μ2) k hok (fun m y δ μ hy hI => by
        have := hs (m + 1) y δ μ (by simpa using hy) (by rw [show n + (m + 1) = n + 1 + m by omega]; exact hI)
        rw [show n + (m + 1) = n + 1 + m by omega] at this
        exact this) (fun δ μ hI => hend δ μ (by rw [List.length_cons, show n + (xs.length + 1) = n + 1 + xs.length by omega]; exact hI))
      exact ⟨o3, by simp only [forIt, hok _ _ _ h0, cond_true, e1, Option.bind_some, e2]; exact e3, k3⟩
    | brk δ2 μ2 => exact ⟨.next δ2 μ2, by simp only [forIt, hok _ _ _ h0, cond_true, e1, Option.bind_some, e2], k⟩
    | ret d μ2 => exact ⟨.ret d μ2, by simp only [forIt, hok _ _ _ h0, cond_true, e1, Option.bind_some, e2], k⟩
    | exc _ _ _ => exact k.elim
end
theorem w_comp {g : FG} {c : FT} {φ : FE} {ok : Mem → Bool} {δ : Loc} {Q : D → Mem → Prop} (I : Nat → List D → Mem → Prop) : ∀ {xs ys : List D} {n : Nat} {μ : Mem}, I n ys μ → (∀ m ys μ, I m ys μ → ok μ = true) →
    (∀ (m : Nat) (x : D) (ys : List D) (μ : Mem), xs[m]? = some x → I (n + m) ys μ → WG g x δ μ fun δ1 μ1 => WT c δ1 μ1 fun b μ2 => (b = true → WE φ δ1 μ2 fun d μ3 => I (n + m + 1) (ys ++ [d]) μ3) ∧ (b = false → I (n + m + 1) ys μ2)) →
    (∀ ys μ, I (n + xs.length) ys μ → Q (.loc μ.length) (μ ++ [.lst ys])) → WL g c φ ok δ xs ys μ Q
  | [], ys, n, μ, h0, hok, _, hend => ⟨_, _, by simp only [lcIt, hok _ _ _ h0, cond_true], hend ys μ h0⟩
  | x :: xs, ys, n, μ, h0, hok, hs, hend => by
    obtain ⟨δ1, μ1, e1, b, μ2, e2, ht, hf⟩ := hs 0 x ys μ rfl h0
    have step : ∀ ys2 μ3, I (n + 1) ys2 μ3 → WL g c φ ok δ xs ys2 μ3 Q := fun ys2 μ3 h => w_comp I (n := n + 1) h hok (fun m y ys μ hy hI => by
        have := hs (m + 1) y ys μ (by simpa using hy) (by rw [show n + (m + 1) = n + 1 + m by omega]; exact hI)
        rw [show n + (m + 1) = n + 1 + m by omega] at this
        exact this) (fun ys μ hI => hend ys μ (by rw [List.length_cons, show n + (xs.length + 1) = n + 1 + xs.length by omega]; exact hI))
    cases b with
    | true =>
      obtain ⟨d, μ3, e3, h3⟩ := ht rfl
      obtain ⟨d', μ4, e4, q⟩ := step _ _ h3
      exact ⟨d', μ4, by simp only [lcIt, hok _ _ _ h0, cond_true, e1, Option.bind_some, e2, e3]; exact e4, q⟩
    | false =>
      obtain ⟨d', μ4, e4, q⟩ := step _ _ (hf rfl)
      exact ⟨d', μ4, by simp only [lcIt, hok _ _ _ h0, cond_true, e1, Option.bind_some, e2, cond_false]; exact e4, q⟩
theorem w_loop0 {g : FG} {body : FS} {ok : Mem → Bool} {nx : Loc → Mem → Prop} {rt : D → Mem → Prop} {xs : List D} {δ : Loc} {μ : Mem} (I : Nat → Loc → Mem → Prop) (h0 : I 0 δ μ) (hok : ∀ m δ μ, I m δ μ → ok μ = true)
    (hs : ∀ (m : Nat) (x : D) (δ : Loc) (μ : Mem), xs[m]? = some x → I m δ μ → WG g x δ μ fun δ1 μ1 => WS body δ1 μ1 (I (m + 1)) rt nx (I (m + 1))) (hend : ∀ δ μ, I xs.length δ μ → nx δ μ) : WFor g body ok xs δ μ nx rt :=
  w_loop I (n := 0) h0 hok (fun m x δ μ hx h => by
    rw [Nat.zero_add] at h ⊢
    exact hs m x δ μ hx h) (fun δ μ h => hend δ μ (by rw [Nat.zero_add] at h; exact h))
theorem w_comp0 {g : FG} {c : FT} {φ : FE} {ok : Mem → Bool} {δ : Loc} {Q : D → Mem → Prop} {xs : List D} {μ : Mem} (I : Nat → List D → Mem → Prop) (h0 : I 0 [] μ) (hok : ∀ m ys μ, I m ys μ → ok μ = true)
    (hs : ∀ (m : Nat) (x : D) (ys : List D) (μ : Mem), xs[m]? = some x → I m ys μ → WG g x δ μ fun δ1 μ1 => WT c δ1 μ1 fun b μ2 => (b = true → WE φ δ1 μ2 fun d μ3 => I (m + 1) (ys ++ [d]) μ3) ∧ (b = false → I (m + 1) ys μ2))
    (hend : ∀ ys μ, I xs.length ys μ → Q (.loc μ.length) (μ ++ [.lst ys])) : WL g c φ ok δ xs [] μ Q :=
  w_comp I (n := 0) h0 hok (fun m x ys μ hx h => by
    rw [Nat.zero_add] at h ⊢
    exact hs m x ys μ hx h) (fun ys μ h => hend ys μ (by rw [Nat.zero_add] at h; exact h))
theorem range_at {j m : Nat} {x : D} (h : ((List.range j).map fun (k : Nat) => D.int k)[m]? = some x) : m < j ∧ x = .int m := by
  have h1 := (List.getElem?_eq_some_iff.mp h).1
  simp at h1
  refine ⟨h1, ?_⟩
  simp [h1] at h
  exact h.symm
theorem w_pureE {α : Type} {g : FG} {c : FT} {φ : FE} {ok : Mem → Bool} {δ : Loc} {Q : D → Mem → Prop} {μ : Mem} (e : α → D) (l : List α) (f : α → D) (p : α → Bool) (hok : ∀ μ', Keep μ μ' → ok μ' = true)
    (hs : ∀ x ∈ l, ∀ μ', Keep μ μ' → WG g (e x) δ μ' fun δ1 μ1 => WT c δ1 μ1 fun b μ2 => b = p x ∧ Keep μ μ2 ∧ (b = true → WE φ δ1 μ2 fun d μ3 => d = f x ∧ Keep μ μ3))
    (hq : ∀ μ', Keep μ μ' → Q (.loc μ'.length) (μ' ++ [.lst ((l.filter p).map f)])) : WL g c φ ok δ (l.map e) [] μ Q := by
  refine w_comp0 (fun m ys μ' => Keep μ μ' ∧ ys = ((l.take m).filter p).map f) ⟨.refl, by simp⟩ (fun m ys μ' h => hok μ' h.1) (fun m x ys μ' hx h => ?_) (fun ys μ' h => ?_)
  · rw [List.getElem?_map] at hx
    cases hy : l[m]? with
    | none => rw [hy] at hx; cases hx
    | some y =>
      rw [hy] at hx
      cases hx
      obtain ⟨δ1, μ1, e1, b, μ2, e2, hb, k2, h3⟩ := hs y (List.mem_of_getElem? hy) μ' h.1
      have ht : l.take (m + 1) = l.take m ++ [y] := by
        rw [List.take_succ, hy]
        rfl
      refine ⟨δ1, μ1, e1, b, μ2, e2, fun hb1 => ?_, fun hb1 => ⟨k2, ?_⟩⟩
      · obtain ⟨d, μ3, e3, rfl, k3⟩ := h3 hb1
        refine ⟨_, _, e3, k3, ?_⟩
        rw [ht, List.filter_append, List.map_append, ← h.2, List.filter_cons_of_pos (by rw [← hb, hb1])]
        rfl
      · rw [ht, List.filter_append, List.map_append, ← h.2, List.filter_cons_of_neg (by rw [← hb, hb1]; exact Bool.false_ne_true)]
        simp
  · rw [List.length_map, List.take_length] at h
    rw [h.2]
    exact hq μ' h.1
theorem w_mapE {α : Type} {g : FG} {φ : FE} {ok : Mem → Bool} {δ : Loc} {Q : D → Mem → Prop} {μ : Mem} (e : α → D) (l : List α) (f : α → D) (hok : ∀ μ', Keep μ μ' → ok μ' = true)
    (hs : ∀ x ∈ l, ∀ μ', Keep μ μ' → WG g (e x) δ μ' fun δ1 μ1 => WE φ δ1 μ1 fun d μ3 => d = f x ∧ Keep μ μ3 ∧ Keep μ μ1)
    (hq : ∀ μ', Keep μ μ' → Q (.loc μ'.length) (μ' ++ [.lst (l.map f)])) : WL g cYes φ ok δ (l.map e) [] μ Q :=
  w_pureE e l f (fun _ => true) hok (fun x hx μ' k => by
    obtain ⟨δ1, μ1, e1, d, μ3, e3, h1, h2, h3⟩ := hs x hx μ' k
    exact ⟨δ1, μ1, e1, true, μ1, rfl, rfl, h3, fun _ => ⟨d, μ3, e3, h1, h2⟩⟩) (fun μ' k => by rw [List.filter_eq_self.mpr (fun _ _ => rfl)]; exact hq μ' k)
theorem few_of {ds : List D} (h : ds.length ≤ 1000000) : few ds = true := decide_eq_true h
theorem stays_of {n : Nat} {ds : List D} {μ μ' : Mem} (h : μ[n]? = some (.lst ds)) (k : Keep μ μ') : stays n ds μ' = true := stays_iff.mpr (k n _ h)
end M
namespace M
open PySem PySem.Spec PyProof.Rows L2
structure KB (L : List Nat) (μ μ' : Mem) : Prop where
  len : μ.length ≤ μ'.length
  at_ : ∀ (n : Nat) (o : LObj), n ∉ L → μ[n]? = some o → μ'[n]? = some o
section
variable {L : List Nat} {μ μ1 μ2 μ' : Mem} {n : Nat} {o : LObj}
theorem KB.refl : KB L μ μ := ⟨Nat.le_refl _, fun _ _ _ h => h⟩
theorem KB.trans (a : KB L μ μ1) (b : KB L μ1 μ2) : KB L μ μ2 := ⟨Nat.le_trans a.len b.len, fun n o h e => b.at_ n o h (a.at_ n o h e)⟩
theorem KB.app {g : Mem} (a : KB L μ μ1) : KB L μ (μ1 ++ g) := ⟨by simp; have := a.len; omega, fun n o h e => get_old' (a.at_ n o h e)⟩
theorem KB.set {m : Nat} (a : KB L μ μ1) (h : m ∈ L ∨ μ.length ≤ m) : KB L μ (μ1.set m o) := ⟨by simp; exact a.len, fun n o' hn e => by
  rw [List.getElem?_set_ne]
  · exact a.at_ n o' hn e
  · rintro rfl
    rcases h with h | h
    · exact hn h
    · exact absurd (lt_of_get e) (by omega)⟩
theorem KB.sub {L' : List Nat} (a : KB L μ μ') (h : ∀ n ∈ L, n ∈ L' ∨ μ.length ≤ n) : KB L' μ μ' := ⟨a.len, fun n o hn e => a.at_ n o (fun q => by
  rcases h n q with h | h
  · exact hn h
  · exact absurd (lt_of_get e) (by omega)) e⟩
theorem KB.step {L' : List Nat} (a : KB L μ μ1) (b : KB L' μ1 μ2) (h : ∀ n ∈ L', n ∈ L ∨ μ.length ≤ n) : KB L μ μ2 := ⟨Nat.le_trans a.len b.len, fun n o hn e => b.at_ n o (fun q => by
  rcases h n q with h | h
  · exact hn h
  · exact absurd (lt_of_get e) (by omega)) (a.at_ n o hn e)⟩
end
section
variable {φ ψ χ : FE} {g g2 : G2} {δ : Loc} {μ : Mem} {Q : D → Mem → Prop} {i j : Int} {d x y : D} {ds xs : List D}
theorem w_lrange (h : WE φ δ μ fun x μ1 => ∃ j : Int, x = .int j ∧ (-(2 ^ 62) ≤ j ∧ j ≤ 1000000) ∧ Q (.loc μ1.length) (μ1 ++ [.lst ((List.range j.toNat).map fun (k : Nat) => .int k)])) : WE (fLRange φ) δ μ Q := by
  obtain ⟨x, μ1, e1, j, rfl, h1, q⟩ := h
  exact ⟨_, _, by simp only [fLRange, e1, Option.bind_some]; rw [decide_eq_true h1]; rfl, q⟩
theorem w_any {n : Nat} {bs : List Bool} (h : μ[n]? = some (.lst (bs.map .bl))) (q : Q (.bl (bs.any fun b => b)) μ) : WF gAny [.loc n] μ Q := ⟨_, _, by simp [h, List.any_map, Function.comp_def], q⟩
theorem w_intI (q : Q (.int i) μ) : WF gInt [.int i] μ Q := ⟨_, _, rfl, q⟩
theorem w_intB {b : Bool} (q : Q (.int (if b then 1 else 0)) μ) : WF gInt [.bl b] μ Q := ⟨_, _, rfl, q⟩
theorem w_min2 (q : Q (.int (if j < i then j else i)) μ) : WF gMin2 [.int i, .int j] μ Q := ⟨_, _, rfl, q⟩
theorem w_max2 (q : Q (.int (if j > i then j else i)) μ) : WF gMax2 [.int i, .int j] μ Q := ⟨_, _, rfl, q⟩
theorem w_ifE {c : FT} (h : WT c δ μ fun b μ1 => (b = true → WE φ δ μ1 Q) ∧ (b = false → WE ψ δ μ1 Q)) : WE (fIf c φ ψ) δ μ Q := by
  obtain ⟨b, μ1, e, h1, h2⟩ := h
  cases b with
  | true => obtain ⟨d, μ2, e2, k⟩ := h1 rfl; exact ⟨d, μ2, by simp [e, e2], k⟩
  | false => obtain ⟨d, μ2, e2, k⟩ := h2 rfl; exact ⟨d, μ2, by simp [e, e2], k⟩
theorem w_slL {lo hi : FO} (h : WE φ δ μ fun x μ1 => WO lo δ μ1 fun l μ2 => WO hi δ μ2 fun u μ3 => ∃ n ds, x = .loc n ∧ μ3[n]? = some (.lst ds) ∧ Q (.loc μ3.length) (μ3 ++ [.lst (cutD ds l u)])) : WE (fSl φ lo hi) δ μ Q := by
  obtain ⟨x, μ1, e1, l, μ2, e2, u, μ3, e3, n, ds, rfl, e4, q⟩ := h
  exact ⟨_, _, by simp [e1, e2, e3, e4] <;> rfl, q⟩
end
end M
namespace M
open PySem PySem.Spec PyProof.Rows L2
noncomputable abbrev nat (S : List Nat) : List D := S.map fun (k : Nat) => D.int k
theorem nat_append (a b : List Nat) : nat (a ++ b) = nat a ++ nat b := List.map_append
theorem nat_map {α : Type} (f : α → Nat) (l : List α) : nat (l.map f) = l.map fun a => D.int (f a : Nat) := List.map_map
class Enc (α : Type) where
  d : α → D
  p : α → PyData
  dep : Nat
  rd : ∀ (μ : Mem) (n : Nat) (a : α), toP μ (n + dep) (d a) = some (p a)
  eq : ∀ a b : α, PyData.eqv (p a) (p b) = true ↔ a = b
noncomputable instance : Enc Int := ⟨.int, .int, 1, fun _ _ _ => rfl, fun a b => by simp [PyData.eqv]⟩
noncomputable instance : Enc Nat := ⟨fun (k : Nat) => .int k, fun (k : Nat) => .int k, 1, fun _ _ _ => rfl, fun a b => by simp [PyData.eqv]; omega⟩
noncomputable instance : Enc Bool := ⟨.bl, .bool, 1, fun _ _ _ => rfl, fun a b => by simp [PyData.eqv]⟩
noncomputable abbrev onD : Option Nat → D
  | none => .non
  | some k => .int k
noncomputable instance : Enc (Option Nat) := ⟨onD, fun | none => .none | some k => .int k, 1, fun _ _ a => by cases a <;> rfl, fun a b => by cases a <;> cases b <;> simp [PyData.eqv]; omega⟩
theorem eqvAll_map {α : Type} [Enc α] : ∀ xs ys : List α, PyData.eqvAll (xs.map Enc.p) (ys.map Enc.p) = true ↔ xs = ys
  | [], [] => by simp [PyData.eqvAll]
  | [], y :: ys => by simp [PyData.eqvAll]
  | x :: xs, [] => by simp [PyData.eqvAll]
  | x :: xs, y :: ys => by
    rw [List.map_cons, List.map_cons, PyData.eqvAll, Bool.and_eq_true, Enc.eq, eqvAll_map xs ys, List.cons.injEq]
theorem rdAll {α : Type} [Enc α] (μ : Mem) (n : Nat) : ∀ xs : List α, (xs.map Enc.d).mapM (toP μ (n + Enc.dep α)) = some (xs.map Enc.p)
  | [] => rfl
  | x :: xs => by rw [List.map_cons, List.mapM_cons, rdAll μ n xs, Enc.rd]; rfl
noncomputable instance instEncList {α : Type} [Enc α] : Enc (List α) := ⟨fun xs => .tup (xs.map Enc.d), fun xs => .tuple (xs.map Enc.p), Enc.dep α + 1, fun μ n xs => by
    show ((xs.map Enc.d).mapM (toP μ (n + Enc.dep α))).bind (fun ps => some (PyData.tuple ps)) = _
    rw [rdAll]; rfl, fun a b => by rw [PyData.eqv]; exact eqvAll_map a b⟩
theorem toP_more {μ : Mem} {α : Type} [Enc α] (a : α) (h : Enc.dep α ≤ 8) : toP μ 8 (Enc.d a) = some (Enc.p a) := by
  have := Enc.rd μ (8 - Enc.dep α) a
  rw [Nat.sub_add_cancel h] at this
  exact this
theorem bool_iff {b : Bool} {p : Prop} [Decidable p] (h : b = true ↔ p) : b = decide p := by
  cases b <;> simp_all
section
variable {φ ψ χ : FE} {g g2 : G2} {δ : Loc} {μ : Mem} {Q : D → Mem → Prop} {i j : Int} {d x y : D} {ds xs : List D} {α : Type} [Enc α] [DecidableEq α]
theorem w_eqE (a b : α) (q : Q (.bl (decide (a = b))) μ) (hx : x = Enc.d a := by rfl) (hy : y = Enc.d b := by rfl) (h : Enc.dep α ≤ 8 := by decide) : W2 gEq x y μ Q := by
  subst hx hy
  exact w_eq (toP_more a h) (toP_more b h) (by rw [bool_iff (Enc.eq a b)]; exact q)
theorem w_neE (a b : α) (q : Q (.bl (!decide (a = b))) μ) (hx : x = Enc.d a := by rfl) (hy : y = Enc.d b := by rfl) (h : Enc.dep α ≤ 8 := by decide) : W2 gNe x y μ Q := by
  subst hx hy
  exact w_ne (toP_more a h) (toP_more b h) (by rw [bool_iff (Enc.eq a b)]; exact q)
theorem toP_list {n : Nat} (as : List α) (e : μ[n]? = some (.lst (as.map Enc.d))) (h : Enc.dep α ≤ 7) : toP μ 8 (.loc n) = some (.list (as.map Enc.p)) := by
  show (match μ[n]? with
      | some (.lst ds) => (ds.mapM (toP μ 7)).bind fun ps => some (PyData.list ps)
      | _ => none) = _
  rw [e]
  show ((as.map Enc.d).mapM (toP μ 7)).bind (fun ps => some (PyData.list ps)) = _
  have := rdAll μ (7 - Enc.dep α) as
  rw [Nat.sub_add_cancel h] at this
  rw [this]; rfl
theorem w_eqL (as bs : List α) {m n : Nat} (e1 : μ[m]? = some (.lst (as.map Enc.d))) (e2 : μ[n]? = some (.lst (bs.map Enc.d))) (q : Q (.bl (decide (as = bs))) μ) (h : Enc.dep α ≤ 7 := by decide) : W2 gEq (.loc m) (.loc n) μ Q :=
  w_eq (toP_list as e1 h) (toP_list bs e2 h) (by rw [PyData.eqv, bool_iff (eqvAll_map as bs)]; exact q)
theorem w_neL (as bs : List α) {m n : Nat} (e1 : μ[m]? = some (.lst (as.map Enc.d))) (e2 : μ[n]? = some (.lst (bs.map Enc.d))) (q : Q (.bl (!decide (as = bs))) μ) (h : Enc.dep α ≤ 7 := by decide) : W2 gNe (.loc m) (.loc n) μ Q :=
  w_ne (toP_list as e1 h) (toP_list bs e2 h) (by rw [PyData.eqv, bool_iff (eqvAll_map as bs)]; exact q)
end
end M
namespace M
open PySem PySem.Spec PyProof.Rows L2
section
variable {φ ψ χ : FE} {g g2 : G2} {δ : Loc} {μ : Mem} {Q : D → Mem → Prop} {i j : Int} {d x y : D} {ds xs : List D}
end
section
variable {φ ψ : FE} {δ : Loc} {μ : Mem} {nx : Loc → Mem → Prop} {rt : D → Mem → Prop} {bk ct : Loc → Mem → Prop} {p q : FS}
end
theorem w_isiT {xs : List D} {μ : Mem} {Q : D → Mem → Prop} (q : Q (.bl true) μ) : WF (gIsi .tup) [.tup xs, .ty "tuple"] μ Q := w_isi (c := .tup) (t := .tup) rfl q
theorem w_isiI {i : Int} {μ : Mem} {Q : D → Mem → Prop} (q : Q (.bl true) μ) : WF (gIsi .int) [.int i, .ty "int"] μ Q := w_isi (c := .int) (t := .int) rfl q
theorem w_isiIB {i : Int} {μ : Mem} {Q : D → Mem → Prop} (q : Q (.bl false) μ) : WF (gIsi .bl) [.int i, .ty "bool"] μ Q := w_isi (c := .bl) (t := .int) rfl q
theorem w_isiS {s : Str} {μ : Mem} {Q : D → Mem → Prop} (q : Q (.bl true) μ) : WF (gIsi .str) [.str s, .ty "str"] μ Q := w_isi (c := .str) (t := .str) rfl q
noncomputable abbrev oiD : Option Int → D
  | none => .non
  | some k => .int k
noncomputable instance : Enc (Option Int) := ⟨oiD, fun | none => .none | some k => .int k, 1, fun _ _ a => by cases a <;> rfl, fun a b => by cases a <;> cases b <;> simp [PyData.eqv]⟩
end M
namespace M
open PySem PySem.Spec PyProof.Rows L2
section
variable {φ ψ χ : FE} {g g2 : G2} {δ : Loc} {μ : Mem} {Q : D → Mem → Prop} {i j : Int} {d x y : D} {ds xs : List D} {kvs : List (Int × D)} {n : Nat}
end
end M
namespace M
open PySem PySem.Spec PyProof.Rows L2
section
variable {X : Cx} {a b : Expr} {φ ψ : FE} {pos : Pos}
@[simp] noncomputable def gLenS : GL := fun ds μ => match ds with
  | [.str a] => bif decide (a.length ≤ 1000000) then some (.int a.length, μ) else none
  | _ => none
theorem callM_lenS : CallM X (.builtin "len") gLenS := by
  refine CallM.of fun pins s σ H xs us Q I r ρ ds μ d μ' r1 R e k => ?_
  unfold gLenS at e
  split at e
  · obtain ⟨h1, e⟩ := bif_inv e
    have h1 := of_decide_eq_true h1
    cases e
    obtain ⟨v, rr, rfl, q1, q2⟩ := r1.cons_inv
    have q2 := q2.nil_inv
    subst q2
    exact call_len_str pins s σ H _ us Q I r ⟨_, by rw [q1.str_inv], Nat.le_trans h1 (by decide), k ρ H _ Ext.refl R .int⟩
  · cases e
@[simp] noncomputable def gNotInS : G2 := fun x y μ => match x, y with
  | .str a, .str b => some (.bl (Builtin.Str.occurrences b a 0 b.length 1).isEmpty, μ)
  | _, _ => none
theorem opM_notInS : OpM X (compareOp .NotIn) gNotInS := by
  refine OpM.of fun pins s σ H x y v u Q I rx ry ρ dx dy μ d μ' r1 r2 R e k => ?_
  unfold gNotInS at e
  split at e
  · cases e
    exact op_notin_str pins s σ H x y v u Q I rx ry ⟨_, _, r1.str_inv, r2.str_inv, by rw [Bool.not_not]; exact k ρ H _ Ext.refl R .bl⟩
  · cases e
@[simp] noncomputable def gIxS : G2 := fun x y μ => match x, y with
  | .str z, .int i => bif decide (z.length ≤ 1000000) then (atI z.cps.toList i).bind fun c => some (.str ⟨#[c]⟩, μ) else none
  | _, _ => none
theorem ixMS : IxR X (rM X.K gIxS) := by
  intro value slice pins s σ H x y v u Q I rx ry ⟨ρ, dx, dy, μ, d, μ', r1, r2, R, e, k⟩ hs
  unfold gIxS at e
  split at e
  · obtain ⟨h0, e⟩ := bif_inv e
    have h0 := of_decide_eq_true h0
    obtain ⟨c, e1, e⟩ := bind_inv e
    cases e
    exact ix_str value slice pins s σ H _ y v u Q I rx ry ⟨_, _, c, r1.str_inv, r2.int_inv, Nat.le_trans h0 (by decide), e1, k ρ H _ Ext.refl R .str⟩ hs
  · cases e
theorem me_ixS (ha : ME X a φ) (hb : ME X b ψ) (hs : PlainIx b := by exact fun _ _ => rfl) : ME X (.Subscript a b pos) (fBin gIxS φ ψ) :=
  me_of (pe_ix ixMS ha hb hs) fun _ _ _ _ _ _ _ _ A e k => bin_w A e k
@[simp] noncomputable def gStrI : GL := fun ds μ => match ds with
  | [.int i] => bif decide (i.natAbs.log2 < 1920) then some (.str (toString i), μ) else none
  | _ => none
theorem callM_strI : CallM X (.type "str") gStrI := by
  refine CallM.of fun pins s σ H xs us Q I r ρ ds μ d μ' r1 R e k => ?_
  unfold gStrI at e
  split at e
  · obtain ⟨h1, e⟩ := bif_inv e
    have h1 := of_decide_eq_true h1
    cases e
    obtain ⟨v, rr, rfl, q1, q2⟩ := r1.cons_inv
    have q2 := q2.nil_inv
    subst q2
    exact call_str_int pins s σ H _ us Q I r ⟨_, by rw [q1.int_inv], h1, k ρ H _ Ext.refl R .str⟩
  · cases e
end
end M
namespace M
open PySem PySem.Spec PyProof.Rows L2 PySem.Builtin PySem.Builtin.Str
theorem me_gstr {X : Cx} {x y : Str} {pos : Pos} (hm : ∃ t, X.mg x = some (.str y t)) (hg : Gl X x := by rfl) (hd : (x == ("__debug__" : Str)) = false := by decide) : ME X (.Name x pos) (fC (.str y)) := by
  obtain ⟨t, h⟩ := hm
  exact me_c (pe_glob (v := V.str y) hg h ⟨t, rfl⟩ hd) fun _ _ => .str
section
variable {X : Cx} {e : Expr} {es : List Expr} {φ : FE} {pos : Pos}
@[simp] noncomputable def fMethS (g : GM) (φ : FE) (ψ : FA) : FE := fun δ μ => (φ δ μ).bind fun p => match p.1 with
  | .str x => (ψ δ p.2).bind fun q => g (.str x) q.1 q.2
  | _ => none
theorem me_methS {o : Expr} {ψ : FA} {name : Str} {id : String} {g : GM} {apos : Pos} (slot : Slot "str" name id) (hty : typeOf (.builtin id) = pure (.type "method_descriptor")) (hm : MtG X id g) (ho : ME X o φ) (ha : MAn X (e :: es) ψ)
    (hbase : attributeBase o name X.env (eval o X.env) = eval o X.env := by rfl)
    (hfew : ((backTo pos (starEach (e :: es) X.env)).all (fun x => !x.1) && (backToKw pos (keywordEach [] X.env)).all (fun x => x.1.isSome)
      && decide ((e :: es).length + ([] : List Keyword).length + (if ([] : List Keyword).isEmpty then 0 else 1) < 30)) = true := by rfl)
    (hline : (apos.endLine == pos.line) = true := by rfl) (hs : starEach (e :: es) X.env = (false, eval e X.env) :: starEach es X.env := by rfl) (hplain : (backTo pos (starEach es X.env)).any (·.1) = false := by rfl) :
    ME X (.Call (.Attribute o name apos) (e :: es) [] pos) (fMethS g φ ψ) :=
  me_of (pe_bm PySem.F.plainAttrs_str slot hty hm ho ha.ma hbase hfew hline hs hplain) fun ρ δ μ σ H d μ' Q A e k => by
    obtain ⟨⟨x, μ1⟩, e1, e⟩ := bind_inv e
    refine ⟨ρ, δ, μ, x, μ1, A, e1, fun ρ1 H1 v x1 R1 r1 => ?_⟩
    dsimp only at e
    split at e
    · obtain ⟨⟨ds, μ2⟩, e2, e⟩ := bind_inv e
      have ev := r1.str_inv
      subst ev
      refine ⟨rfl, ρ1, δ, μ1, ds, μ2, A.ext x1 R1, e2, fun ρ2 H2 vs2 x2 R2 r2 => ?_⟩
      exact ⟨ρ2, _, ds, μ2, d, μ', .str, r2, R2, e, fun ρ3 H3 v3 x3 R3 r3 => k ρ3 H3 v3 (x1.trans (x2.trans x3)) R3 r3⟩
    · cases e
noncomputable def strD : D → Option Str
  | .str x => some x
  | _ => none
noncomputable def strsD : List D → Option (List Str)
  | [] => some []
  | d :: ds => (strD d).bind fun x => (strsD ds).bind fun xs => some (x :: xs)
@[simp] theorem strsD_map : ∀ ys : List Str, strsD (ys.map D.str) = some ys
  | [] => rfl
  | y :: ys => by
    have := strsD_map ys
    show (strsD (ys.map D.str)).bind _ = _
    rw [this]
    rfl
theorem strsD_inv : ∀ {ds : List D} {ys : List Str}, strsD ds = some ys → ds = ys.map D.str
  | [], ys, h => by cases h; rfl
  | d :: ds, ys, h => by
    obtain ⟨x, e1, h⟩ := bind_inv (show (strD d).bind _ = _ from h)
    obtain ⟨xs, e2, h⟩ := bind_inv h
    cases h
    rw [strsD_inv e2]
    cases d <;> cases e1
    rfl
theorem rep_strs {K : PySem.W.Frag} {ρ : List Addr} {H : Hp} : ∀ {ys : List Str} {vs : List V}, RepVs K ρ H (ys.map D.str) vs → vs = ys.map V.str
  | [], vs, r => r.nil_inv
  | i :: ns, vs, r => by
    obtain ⟨v, q, rfl, h1, h2⟩ := r.cons_inv
    rw [h1.str_inv, rep_strs h2]
    rfl
theorem strs_rep {K : PySem.W.Frag} {ρ : List Addr} {H : Hp} : ∀ {ys : List Str}, RepVs K ρ H (ys.map D.str) (ys.map V.str)
  | [] => .nil
  | _ :: _ => .cons .str strs_rep
theorem strsAre_of : ∀ {ys : List Str} {us : List Value}, Vals (ys.map V.str) us → StrsAre us ys
  | [], us, h => by rw [h.unnil]; exact .nil
  | y :: ys, us, h => by
    obtain ⟨u, ws, rfl, r, t⟩ := h.uncons
    obtain ⟨k, rfl⟩ := r
    exact .cons y k (strsAre_of t)
theorem vals_of_strs : ∀ {l : List (Str × Tok)}, Vals ((l.map (·.1)).map V.str) (strValues l)
  | [] => .nil
  | (y, t) :: l => .cons ⟨t, rfl⟩ vals_of_strs
@[simp] noncomputable def gJoin : GM := fun x ds μ => match x, ds with
  | .str z, [.loc n] => match μ[n]? with
    | some (.lst xs) => (strsD xs).bind fun ys => bif decide ((ys.map (·.length)).sum + ys.length * z.length ≤ 1000000) then some (.str (Txt.join z ys), μ) else none
    | _ => none
  | _, _ => none
theorem mtG_join : MtG X "str.join" gJoin := by
  refine MtG.of fun pins s σ H x xs v us Q I rx rs ρ dx ds μ d μ' r1 r2 R e k => ?_
  unfold gJoin at e
  split at e
  · split at e
    · rename_i hm
      obtain ⟨ys, e2, e⟩ := bind_inv e
      obtain ⟨h1, e⟩ := bif_inv e
      have h1 := of_decide_eq_true h1
      cases e
      have ev := r1.str_inv
      subst ev
      obtain ⟨t, rfl⟩ := rx
      obtain ⟨w, r, rfl, q1, q2⟩ := r2.cons_inv
      rw [q2.nil_inv] at rs
      obtain ⟨a, rfl, ea⟩ := q1.loc_inv
      rw [strsD_inv e2] at hm
      obtain ⟨vs, e3, q3⟩ := R.at_ _ _ _ ea hm
      rw [rep_strs q3] at e3
      obtain ⟨u, rfl, ru⟩ := vals1 rs
      cases ru
      obtain ⟨its, rv, pl, hz⟩ := I.list (SqL.of (K := X.K) e3)
      exact join_list pl.isList (strsAre_of (by simpa using rv)) (Nat.le_trans h1 (by decide)) fun t' k' => ⟨.str _, H, I.tok _, ⟨t', rfl⟩, k ρ H _ Ext.refl R .str⟩
    · cases e
  · cases e
theorem me_join {o : Expr} {ψ : FA} {apos : Pos} (ho : ME X o φ) (ha : MAn X (e :: es) ψ)
    (hbase : attributeBase o "join" X.env (eval o X.env) = eval o X.env := by rfl)
    (hfew : ((backTo pos (starEach (e :: es) X.env)).all (fun x => !x.1) && (backToKw pos (keywordEach [] X.env)).all (fun x => x.1.isSome)
      && decide ((e :: es).length + ([] : List Keyword).length + (if ([] : List Keyword).isEmpty then 0 else 1) < 30)) = true := by rfl)
    (hline : (apos.endLine == pos.line) = true := by rfl) (hs : starEach (e :: es) X.env = (false, eval e X.env) :: starEach es X.env := by rfl) (hplain : (backTo pos (starEach es X.env)).any (·.1) = false := by rfl) :
    ME X (.Call (.Attribute o "join" apos) (e :: es) [] pos) (fMethS gJoin φ ψ) := me_methS PySem.F.slot_str_join PySem.F.type_str_join mtG_join ho ha hbase hfew hline hs hplain
theorem split_at {prog : Program} {w : World} {A : Around} {E : Value → Shared → Prop} {s : Shared} {x y : Str} {t u : Tok} {Q : Value → Shared → Prop} (hy : (y.length == 0) = false)
    (hq : ∀ l k, l.map (·.1) = Txt.split x y → Q (.ref s.heap.objs.size) { s with heap := s.heap.push { cls := .type "list", data := .seq (strValues l).toArray }, toks := k })
    (hsz : x.length ≤ sizeLine) (hsz2 : (partsBetween x (occurrences x y 0 x.length (x.length + 1)) y.length).length ≤ sizeLine) :
    wpAny (model prog w) A (call (.builtin "str.split") [.str x t, .str y u]) Q E s := by
  cases h1 : (decide (x.length < y.length) || decide (strKind x < strKind y))
  · cases hf : (occurrences x y 0 x.length (x.length + 1)).isEmpty
    · refine call_meets F.slot_str_split (typeIs_str _ _ _) F.entry_str_split (F.args_str_split_2 _ _) (meets_str_split_sep x y t u h1 hy hf hsz hsz2) ?_
      show wants Q E _ { s with toks := _, heap := s.heap.push { cls := .type "list", data := .seq (strsFrom s.toks (partsBetween x (occurrences x y 0 x.length (x.length + 1)) y.length)).toArray } }
      rw [strsFrom_eq]
      exact hq (numbered s.toks _) _ ((numbered_texts _ _).trans ((if_neg (ne_true_of_eq_false h1)).trans (if_neg (ne_true_of_eq_false hf))).symm)
    · exact call_meets F.slot_str_split (typeIs_str _ _ _) F.entry_str_split (F.args_str_split_2 _ _) (meets_str_split_not_found x y t u h1 hy hf)
        (hq [(x, t)] s.toks ((if_neg (ne_true_of_eq_false h1)).trans (if_pos hf)).symm)
  · exact call_meets F.slot_str_split (typeIs_str _ _ _) F.entry_str_split (F.args_str_split_2 _ _) (meets_str_split_cannot_occur x y t u h1) (hq [(x, t)] s.toks (if_pos h1).symm)
theorem parts_length (x : Str) (w : Nat) : ∀ (cuts : List Nat) (a : Nat), (StrLaws.partsFrom x w a cuts).length = cuts.length + 1
  | [], a => rfl
  | c :: r, a => by
    show (StrLaws.partsFrom x w _ r).length + 1 = _
    rw [parts_length x w r]
    rfl
theorem parts_few (x y : Str) : (partsBetween x (occurrences x y 0 x.length (x.length + 1)) y.length).length ≤ x.length + 2 := by
  rw [StrLaws.partsBetween_eq, parts_length]
  have := StrLaws.occ_length_le x y 0 x.length (x.length + 1)
  omega
@[simp] noncomputable def gSplit : GM := fun x ds μ => match x, ds with
  | .str z, [.str y] => bif decide (z.length ≤ 1000000 ∧ 1 ≤ y.length) then some (.loc μ.length, μ ++ [.lst ((Txt.split z y).map D.str)]) else none
  | _, _ => none
theorem mtG_split : MtG X "str.split" gSplit := by
  refine MtG.of fun pins s σ H x xs v us Q I rx rs ρ dx ds μ d μ' r1 r2 R e k => ?_
  unfold gSplit at e
  split at e
  · rename_i z y
    obtain ⟨h1, e⟩ := bif_inv e
    obtain ⟨h1, h2⟩ := of_decide_eq_true h1
    cases e
    have ev := r1.str_inv
    subst ev
    obtain ⟨t, rfl⟩ := rx
    obtain ⟨w, r, rfl, q1, q2⟩ := r2.cons_inv
    rw [q2.nil_inv, q1.str_inv] at rs
    obtain ⟨u, rfl, ru⟩ := vals1 rs
    obtain ⟨t', rfl⟩ := ru
    have hmi : (1000000 : Nat) + 2 ≤ sizeLine := by decide
    have hp := parts_few z y
    refine split_at (by simp; omega) (fun l k' hl => ?_) (by omega) (by omega)
    have hf : H s.heap.objs.size = none := I.hok.fresh (Nat.le_refl _)
    have hw := split_weight z y h2
    have hll : ((l.map (·.1)).map V.str).length ≤ sizeLine := by rw [List.length_map, hl]; omega
    have I1 : Inv X pins σ (upd H s.heap.objs.size (.lst ((l.map (·.1)).map V.str))) { s with heap := s.heap.push { cls := .type "list", data := .seq (strValues l).toArray }, toks := k' } :=
      I.laid (t' := k') (fun b u e => Heap.get?_push_of_some _ e) (Nat.le_refl _) ⟨hll, strValues l, 0, vals_of_strs, Heap.get?_push_size _ rfl⟩
    refine ⟨.ref s.heap.objs.size, _, I1, rfl, ?_⟩
    rw [hl]
    exact k _ _ _ (Ext.push hf) (R.push hf ⟨_, upd_same, strs_rep⟩) (.loc (push_get R))
  · cases e
theorem me_split {o : Expr} {ψ : FA} {apos : Pos} (ho : ME X o φ) (ha : MAn X (e :: es) ψ)
    (hbase : attributeBase o "split" X.env (eval o X.env) = eval o X.env := by rfl)
    (hfew : ((backTo pos (starEach (e :: es) X.env)).all (fun x => !x.1) && (backToKw pos (keywordEach [] X.env)).all (fun x => x.1.isSome)
      && decide ((e :: es).length + ([] : List Keyword).length + (if ([] : List Keyword).isEmpty then 0 else 1) < 30)) = true := by rfl)
    (hline : (apos.endLine == pos.line) = true := by rfl) (hs : starEach (e :: es) X.env = (false, eval e X.env) :: starEach es X.env := by rfl) (hplain : (backTo pos (starEach es X.env)).any (·.1) = false := by rfl) :
    ME X (.Call (.Attribute o "split" apos) (e :: es) [] pos) (fMethS gSplit φ ψ) := me_methS PySem.F.slot_str_split PySem.F.type_str_split mtG_split ho ha hbase hfew hline hs hplain
@[simp] noncomputable def gFind : GM := fun x ds μ => match x, ds with
  | .str z, [.str y] => some (.int (Txt.find z y), μ)
  | _, _ => none
theorem mtG_find : MtG X "str.find" gFind := by
  refine MtG.of fun pins s σ H x xs v us Q I rx rs ρ dx ds μ d μ' r1 r2 R e k => ?_
  unfold gFind at e
  split at e
  · cases e
    have ev := r1.str_inv
    subst ev
    obtain ⟨t, rfl⟩ := rx
    obtain ⟨w, r, rfl, q1, q2⟩ := r2.cons_inv
    rw [q2.nil_inv, q1.str_inv] at rs
    obtain ⟨u, rfl, ru⟩ := vals1 rs
    obtain ⟨t', rfl⟩ := ru
    exact SC.find ⟨.int _, H, I.tok _, ⟨_, rfl⟩, k ρ H _ Ext.refl R .int⟩
  · cases e
theorem me_find {o : Expr} {ψ : FA} {apos : Pos} (ho : ME X o φ) (ha : MAn X (e :: es) ψ)
    (hbase : attributeBase o "find" X.env (eval o X.env) = eval o X.env := by rfl)
    (hfew : ((backTo pos (starEach (e :: es) X.env)).all (fun x => !x.1) && (backToKw pos (keywordEach [] X.env)).all (fun x => x.1.isSome)
      && decide ((e :: es).length + ([] : List Keyword).length + (if ([] : List Keyword).isEmpty then 0 else 1) < 30)) = true := by rfl)
    (hline : (apos.endLine == pos.line) = true := by rfl) (hs : starEach (e :: es) X.env = (false, eval e X.env) :: starEach es X.env := by rfl) (hplain : (backTo pos (starEach es X.env)).any (·.1) = false := by rfl) :
    ME X (.Call (.Attribute o "find" apos) (e :: es) [] pos) (fMethS gFind φ ψ) := me_methS PySem.F.slot_str_find PySem.F.type_str_find mtG_find ho ha hbase hfew hline hs hplain
@[simp] noncomputable def gIntS : GL := fun ds μ => match ds with
  | [.str x] => bif decide (x.length ≤ 640) then (intText? x).bind fun n => some (.int n, μ) else none
  | _ => none
theorem callM_intS : CallM X (.type "int") gIntS := by
  refine CallM.of fun pins s σ H xs us Q I r ρ ds μ d μ' r1 R e k => ?_
  unfold gIntS at e
  split at e
  · obtain ⟨h1, e⟩ := bif_inv e
    have h1 := of_decide_eq_true h1
    obtain ⟨n, e1, e⟩ := bind_inv e
    cases e
    obtain ⟨v, rr, rfl, q1, q2⟩ := r1.cons_inv
    rw [q2.nil_inv, q1.str_inv] at r
    obtain ⟨u, rfl, ru⟩ := vals1 r
    obtain ⟨t', rfl⟩ := ru
    exact PySem.W.KIN.call_text e1 h1 ⟨.int _, H, I.tok _, ⟨_, rfl⟩, k ρ H _ Ext.refl R .int⟩
  · cases e
noncomputable def Its (x : Str) : It := ⟨fun i _ => i < x.cps.size, fun i H v H' => H' = H ∧ ∃ c, x.cps[i]? = some c ∧ v = .str ⟨#[c]⟩, fun i _ => x.cps.size ≤ i⟩
theorem turn_str {P : Program} {w : World} {K : PySem.W.Frag} {tg : Expr} (it : Addr) (x : Str) (t : Tok) : Turn P w K tg (Its x) [it] it (fun i h => h.IsStrIter it "str_ascii_iterator" x t i) where
  mem := by simp
  obj := fun i h st b hb => by
    have e : b = it := by simpa using hb
    subst e
    obtain ⟨o, e, c, d⟩ := st
    exact ⟨o, e, fun v z => by rw [d] at z; cases z⟩
  keep := fun i h h' st k => let ⟨o, ho, r⟩ := st; ⟨o, k it (by simp) o ho, r⟩
  item := by
    intro X hP hw hK hc i pins s σ H E I hf st hg
    subst hP hw hK
    obtain ⟨f0, f1, f2, f3, f4, f5⟩ := hf it (by simp)
    have hg : i < x.cps.size := hg
    refine wpAny_pyNext_ascii_item st (c := x.cps[i]) (by simp [hg]) fun h' st' sb => ?_
    have I1 : Inv X pins σ H { s with heap := h', toks := s.toks + 1 } := I.turned (fun b o hb e => (sb.2 b hb).trans e) f0 f1 f3 f4 f5
    obtain ⟨o, e, c, d⟩ := id st'
    exact ⟨_, rfl, go_of (s := { s with heap := h', toks := s.toks + 1 }) e c d (by decide) ⟨.str ⟨#[x.cps[i]]⟩, H, I1, ⟨_, rfl⟩, ⟨rfl, _, by simp [hg], rfl⟩, st', fun b hb => (hf b hb).1⟩⟩
  done := by
    intro X hP hw hK hc i pins s σ H E I hf st hg
    subst hP hw hK
    obtain ⟨f0, f1, f2, f3, f4, f5⟩ := hf it (by simp)
    have hg : x.cps.size ≤ i := hg
    exact wpAny_pyNext_ascii_end (I.ok.hd hc) st (by simp; omega) fun h' eb => ⟨rfl, I.turned (t' := s.toks) (fun b o hb e => eb b o hb e) f0 f1 f3 f4 f5⟩
  self := fun _ _ _ _ _ st h => wpAny_pyIter_striter_ascii st h
noncomputable def iStrT (tl : TE) : TI := fun σ H R => tl σ H fun v H1 => ∃ x : Str, v = .str x ∧ x.cps.all (· < 128) = true ∧ R (Its x) H1
theorem pi_str {tg l : Expr} {tl : TE} (hl : PE X l tl) : PI X tg l (iStrT tl) := by
  intro pins s σ H R I h
  refine thn (hl pins s σ H _ I h) fun v s1 ⟨x, H1, I1, r1, q1⟩ => ?_
  obtain ⟨z, e, ha, q⟩ := q1
  subst e
  obtain ⟨t, rfl⟩ := r1
  refine wpAny_pyIter_ascii ha ?_
  refine ⟨s1.heap.objs.size, [s1.heap.objs.size], _, _, H1, rfl, I1.kept (t' := s1.toks) fun b o e => Heap.get?_push_of_some _ e, turn_str _ z t, ⟨_, Heap.get?_push_size _ rfl, rfl, rfl⟩, fun b hb => ?_, q⟩
  have e : b = s1.heap.objs.size := by simpa using hb
  subst e
  exact I1.fpOk (Nat.le_refl _) (I1.hok.fresh (Nat.le_refl _))
noncomputable def signsD (x : Str) : List D := x.cps.toList.map fun c => .str ⟨#[c]⟩
@[simp] noncomputable def iStr (φ : FE) : FI := fun δ μ => (φ δ μ).bind fun p => match p.1 with
  | .str x => bif x.cps.all (· < 128) then some (signsD x, yes, p.2) else none
  | _ => none
theorem mi_str {tg a : Expr} (h : ME X a φ) : MI X tg a (iStr φ) :=
  mi_of (pi_str h) fun ρ δ μ σ H ds ok μ' R A e k => by
    obtain ⟨⟨x, μ1⟩, e1, e⟩ := bind_inv e
    refine ⟨ρ, δ, μ, x, μ1, A, e1, fun ρ1 H1 v1 x1 R1 r1 => ?_⟩
    dsimp only at e
    split at e
    · rename_i z
      obtain ⟨h1, e⟩ := bif_inv e
      cases e
      refine ⟨z, r1.str_inv, h1, k ρ1 H1 _ x1 R1 ⟨fun ρ' H' μ' i _ _ _ h => by show i < z.cps.size; simpa [signsD] using h, fun ρ' H' μ' i x H'' d _ RR _ e ⟨y1, c, y2, y3⟩ => ⟨y1 ▸ Ext.refl, y1 ▸ RR, ?_⟩, fun ρ' H' μ' _ _ _ => by simp [Its, signsD]⟩⟩
      rw [y3]
      unfold signsD at e
      rw [List.getElem?_map, Array.getElem?_toList, y2] at e
      cases e
      exact .str
    · cases e
end
end M
namespace M
open PySem PySem.Spec PyProof.Rows L2 PySem.Builtin PySem.Builtin.Str
section
variable {φ : FE} {δ : Loc} {μ : Mem} {Q : D → Mem → Prop}
theorem w_methS {m : GM} {α : FA} (h : WE φ δ μ fun x μ1 => ∃ z, x = .str z ∧ WA α δ μ1 fun ds μ2 => WM m (.str z) ds μ2 Q) : WE (fMethS m φ α) δ μ Q := by
  obtain ⟨d, μ1, e, z, rfl, ds, μ2, e2, d', μ', e3, q⟩ := h
  exact ⟨d', μ', by simp [e, e2, e3], q⟩
theorem w_join {n : Nat} {ys : List Str} {z : Str} (h : μ[n]? = some (.lst (ys.map .str))) (hl : (ys.map (·.length)).sum + ys.length * z.length ≤ 1000000) (q : Q (.str (Txt.join z ys)) μ) : WM gJoin (.str z) [.loc n] μ Q :=
  ⟨_, _, by simp only [gJoin, h, strsD_map, Option.bind_some, decide_eq_true hl, cond_true], q⟩
theorem w_split {z y : Str} {ds : List D} (hs : (Txt.split z y).map D.str = ds) (h : z.length ≤ 1000000) (h1 : 1 ≤ y.length) (q : Q (.loc μ.length) (μ ++ [.lst ds])) : WM gSplit (.str z) [.str y] μ Q :=
  ⟨_, _, by simp only [gSplit]; rw [decide_eq_true ⟨h, h1⟩, hs]; rfl, q⟩
theorem w_find {z y : Str} (q : Q (.int (Txt.find z y)) μ) : WM gFind (.str z) [.str y] μ Q := ⟨_, _, rfl, q⟩
theorem w_intS {x : Str} {n : Int} (h : intText? x = some n) (hl : x.length ≤ 640) (q : Q (.int n) μ) : WF gIntS [.str x] μ Q :=
  ⟨_, _, by simp only [gIntS]; rw [decide_eq_true hl, h]; rfl, q⟩
theorem w_lenS {a : Str} (h : a.length ≤ 1000000) (q : Q (.int a.length) μ) : WF gLenS [.str a] μ Q :=
  ⟨_, _, by simp only [gLenS]; rw [decide_eq_true h]; rfl, q⟩
theorem w_notInS {a b : Str} (q : Q (.bl (occurrences b a 0 b.length 1).isEmpty) μ) : W2 gNotInS (.str a) (.str b) μ Q := ⟨_, _, rfl, q⟩
theorem w_ixS {z : Str} {i : Int} {c : Nat} (h : z.length ≤ 1000000) (e : atI z.cps.toList i = some c) (q : Q (.str ⟨#[c]⟩) μ) : W2 gIxS (.str z) (.int i) μ Q :=
  ⟨_, _, by simp only [gIxS]; rw [decide_eq_true h, e]; rfl, q⟩
theorem w_strI {i : Int} (h : i.natAbs.log2 < 1920) (q : Q (.str (toString i)) μ) : WF gStrI [.int i] μ Q :=
  ⟨_, _, by simp only [gStrI]; rw [decide_eq_true h]; rfl, q⟩
theorem w_iStr {R : List D → (Mem → Bool) → Mem → Prop} (h : WE φ δ μ fun x μ1 => ∃ z, x = .str z ∧ z.cps.all (· < 128) = true ∧ R (signsD z) yes μ1) : WI (iStr φ) δ μ R := by
  obtain ⟨d, μ1, e, z, rfl, h1, q⟩ := h
  exact ⟨_, _, _, by simp only [iStr, e, Option.bind_some, h1, cond_true], q⟩
end
end M
namespace M
open PySem PySem.W PyProof.Rows L2
noncomputable def kOf (as : List Addr) (h : Heap) : Frag := as.filterMap fun a => (h.get? a).map fun o => (a, o)
theorem kOf_get {h : Heap} : ∀ {as : List Addr} {a : Addr} {o : Obj}, (kOf as h).lookup a = some o → h.get? a = some o
  | [], a, o, e => by cases e
  | b :: as, a, o, e => by
    unfold kOf at e
    rw [List.filterMap_cons] at e
    cases hb : h.get? b with
    | none => rw [hb] at e; exact kOf_get (as := as) e
    | some u =>
      rw [hb] at e
      change List.lookup a ((b, u) :: kOf as h) = some o at e
      rw [List.lookup_cons] at e
      by_cases q : a == b
      · rw [q] at e
        cases e
        rw [eq_of_beq q]; exact hb
      · rw [Bool.not_eq_true] at q
        rw [q] at e
        exact kOf_get (as := as) e
noncomputable def kAll (h : Heap) : Frag := kOf (List.range h.objs.size) h
theorem kAll_in {h : Heap} : (kAll h).In h := fun _ _ e => kOf_get e
structure SeenD where
  name : Str
  qual : Str
  params : Arguments
  body : FuncBody
  scope : Scope
  globals : Addr
  closure : List (Str × Addr)
  defaults : Value
  builtins : Addr
  code : Bool
  keep : Bool
noncomputable def fnSees (K : Frag) (nm : Str) : Option SeenD := match nsIn K mainGlobals nm with
  | some (some (.ref a)) => match K.lookup a with
    | some ⟨_, _, .func fd, _⟩ => some ⟨fd.name, fd.qualname, fd.params, fd.body, fd.scope, fd.globals, fd.closure, fd.defaults, fd.builtins, codeIn K fd.code nm, keepIn K (.ref a)⟩
    | _ => none
  | _ => none
noncomputable def seenOf (nm : Str) (st : Stmt) : Option SeenD := some ⟨nm, nm, defArgs st, .stmts (defBody st), defScope st, mainGlobals, [], .none, builtinsNs, true, true⟩
theorem fn_facts {K : Frag} {nm : Str} {st : Stmt} (e : fnSees K nm = seenOf nm st) : ∃ (f : Addr) (oc : Value) (od : Option Addr) (sl : Array (Option Value)) (kV dc pm : Value) (an : Option Addr) (cd ct : Value),
    nsIn K mainGlobals nm = some (some (.ref f)) ∧ K.lookup f = some ⟨oc, od, .func (fnOf nm nm (defArgs st) (defBody st) (defScope st) .none kV dc pm an cd ct), sl⟩ ∧ codeIn K cd nm = true ∧ keepIn K (.ref f) = true := by
  unfold fnSees at e
  split at e
  · rename_i a ha
    split at e
    · rename_i oc od fd sl hl
      obtain ⟨x1, x2, x3, x4, x5, x6, x7, x8, x9, x10, x11, x12, x13, x14, x15⟩ := fd
      have e := Option.some.inj e
      simp only [SeenD.mk.injEq] at e
      obtain ⟨rfl, rfl, rfl, rfl, rfl, rfl, rfl, rfl, rfl, h1, h2⟩ := e
      exact ⟨a, _, _, _, _, _, _, _, _, _, ha, hl, h1, h2⟩
    · cases e
  · cases e
noncomputable def intSees (K : Frag) (nm : Str) : Option Int := match nsIn K mainGlobals nm with
  | some (some (.int i _)) => some i
  | _ => none
theorem int_facts {K : Frag} {nm : Str} {i : Int} (e : intSees K nm = some i) : ∃ t, nsIn K mainGlobals nm = some (some (.int i t)) := by
  unfold intSees at e
  split at e
  · rename_i h
    cases e
    exact ⟨_, h⟩
  · cases e
noncomputable def strSees (K : Frag) (nm : Str) : Option Str := match nsIn K mainGlobals nm with
  | some (some (.str i _)) => some i
  | _ => none
theorem str_facts {K : Frag} {nm : Str} {i : Str} (e : strSees K nm = some i) : ∃ t, nsIn K mainGlobals nm = some (some (.str i t)) := by
  unfold strSees at e
  split at e
  · rename_i h
    cases e
    exact ⟨_, h⟩
  · cases e
noncomputable def defPos (s : Stmt) : Pos := match s with
  | .FunctionDef _ _ _ _ _ _ _ _ _ p => p
  | _ => ⟨0, 0, 0, 0⟩
theorem own_head {l : OpenLaw} {q : Program} {loose : List Str} {d : DefRec} {α : Type} {obs : Frag → α} {good : α} {N : Nat} (said : l.wellSaid = true)
    (left : LeftO l.prog q loose (fun _ => true) (fun s => obs (kAll s.heap)) (fun _ => good) N) (hdef : defOf q l.name = some (d, [])) (hp : l.prog.theDef l.name = some (d.params, d.body, d.scope))
    (hk : kwWritten? d.params.kwonlyargs d.params.kw_defaults = some []) (ok : (chainsOk q && opensWell l.prog && (frees l.row.toRowW && l.row.within.isEmpty)) = true) (hb : l.prog.bare) (hw : l.row.toRowW.promised)
    (walk : ∀ K : Frag, obs K = good → WalkO q loose (fun _ _ => True) (fun _ h => K.In h) l.row.toRowW d [] fun f vs => PySem.call f vs) : l.Holds := by
  refine holds_law said fun said => ?_
  refine holds_open (r := l.row) (q := q) (loose := loose) (Xt := fun _ => true) (XP := fun _ _ => True) (Yf := fun s => obs (kAll s.heap)) (Ya := fun _ => good) (YP := fun _ h => ∃ K : Frag, obs K = good ∧ K.In h) (N := N) left
    (fun w s e => ⟨_, e, kAll_in⟩) (fun w h h' ⟨K, e, k⟩ x => ⟨K, e, k.keeps x⟩) (fun _ _ => trivial) (fun _ _ _ _ _ => trivial) hdef hp hk (fun s _ => ?_) ?_ said ok hb hw (fun w s₀ s₁ mg mb G Y => ?_)
  · exact (show RecFacts [] s.heap from ⟨fun x h => (nomatch h), fun x h => (nomatch h), fun c c' a hc => (nomatch hc), fun c fs hf => (nomatch hf)⟩)
  · show (!l.row.writes || true) = true
    exact Bool.or_true _
  · obtain ⟨K, e, k⟩ := Y
    exact walk K e w s₀ s₁ mg mb G k
end M
namespace P
open PySem PySem.Spec PyProof.Rows L2 M
noncomputable def top (i : Nat) : Stmt := PySem.Challenge.pw_keynests_k62_webs_written.main.body.getD i (.Pass ⟨0, 0, 0, 0⟩)
noncomputable def N__law_take : List Str := ["_law_pen_here", "_law_size", "_law_digit", "_law_at", "_law_number"]
noncomputable def p__law_take : FS := (sSeq (sIf (fTest (fBin gEq (fBin gIx (fVar 0) (fC (.int 0))) (fC (.int 0)))) (sSeq (sSet 2 (fBin gMod (fBin gIx (fVar 0) (fC (.int 1))) (fVar 1))) (sSeq (sAsg (fBin gDiv (fBin gIx (fVar 0) (fC (.int 1))) (fVar 1)) (gAt (fVar 0) (fC (.int 1)))) (sRet (fVar 2)))) sSkip) (sSeq (sAsg (fBin gAdd (fBin gIx (fVar 0) (fC (.int 3))) (fC (.int 1))) (gAt (fVar 0) (fC (.int 3)))) (sSeq (sSet 3 (fBin gIx (fVar 0) (fC (.int 3)))) (sSeq (sSet 4 (fBin gMul (fBin gMod (fBin gIx (fVar 0) (fC (.int 1))) (fC (.int 2305843009213693951))) (fC (.int 48271)))) (sSeq (sSet 4 (fBin gMod (fBin gAdd (fBin gAdd (fBin gAdd (fVar 4) (fBin gMul (fBin gMul (fVar 3) (fVar 3)) (fC (.int 40692)))) (fBin gMul (fC (.int 7)) (fVar 3))) (fC (.int 11))) (fC (.int 2147483647)))) (sRet (fBin gMod (fBin gDiv (fBin gMod (fBin gMul (fVar 4) (fC (.int 1181783497276652981))) (fC (.int 2305843009213693951))) (fC (.int 64))) (fVar 1))))))))
noncomputable def F__law_take : FF := fun ds μ => retOf (p__law_take (startD N__law_take ds) μ)
noncomputable def b__law_web_0 : FS := (sSeq (sSet 8 (fLst (aCons (fCall F__law_take (aCons (fVar 0) (aCons (fVar 2) aNil))) (aCons (fCall F__law_take (aCons (fVar 0) (aCons (fVar 2) aNil))) aNil)))) (sSeq (sIf (fTest (fBin gEq (fCall F__law_take (aCons (fVar 0) (aCons (fC (.int 3)) aNil))) (fC (.int 1)))) (sExpr (fMeth gAppend (fVar 8) (aCons (fCall F__law_take (aCons (fVar 0) (aCons (fVar 2) aNil))) aNil))) sSkip) (sExpr (fMeth gAppend (fVar 6) (aCons (fCall gTuple (aCons (fVar 8) aNil)) aNil)))))
noncomputable def e__law_web_0 : FE := (fBin gIx (fLst (aCons (fCall F__law_take (aCons (fVar 1) (aCons (fC (.int 3)) aNil))) (aCons (fC (.int 1)) (aCons (fCall F__law_take (aCons (fVar 1) (aCons (fC (.int 10)) aNil))) (aCons (fCall F__law_take (aCons (fVar 1) (aCons (fC (.int 2)) aNil))) aNil))))) (fVar 2))
noncomputable def N__law_web : List Str := ["_law_pen_here", "_law_limit", "_law_many", "_law_kind", "_law_rooms", "_law_count", "_law_keys", "_law_k", "_law_key"]
noncomputable def p__law_web : FS := (sSeq (sSet 2 (fBin gAdd (fC (.int 1)) (fCall F__law_take (aCons (fVar 0) (aCons (fC (.int 6)) aNil))))) (sSeq (sIf (fTest (fBin gEq (fCall F__law_take (aCons (fVar 0) (aCons (fC (.int 8)) aNil))) (fC (.int 5)))) (sSet 2 (fBin gAdd (fC (.int 7)) (fCall F__law_take (aCons (fVar 0) (aCons (fC (.int 4)) aNil))))) sSkip) (sSeq (sSet 3 (fCall F__law_take (aCons (fVar 0) (aCons (fC (.int 4)) aNil)))) (sSeq (sSet 4 (fCall gTuple (aCons (fLC 1 [0, 3] (iRange (aCons (fVar 2) aNil)) (gN 0) cYes e__law_web_0) aNil))) (sSeq (sSet 5 (fCall F__law_take (aCons (fVar 0) (aCons (fBin gAdd (fVar 1) (fC (.int 1))) aNil)))) (sSeq (sSet 6 (fLst aNil)) (sSeq (sFor (iRange (aCons (fVar 5) aNil)) (gN 7) b__law_web_0) (sRet (fTup (aCons (fVar 4) (aCons (fCall gTuple (aCons (fVar 6) aNil)) aNil)))))))))))
noncomputable def F__law_web : FF := fun ds μ => retOf (p__law_web (startD N__law_web ds) μ)
noncomputable def e__law_text_0 : FE := (fBin gIxS (fC (.str "abcdefghij")) (fVar 0))
noncomputable def b__law_text_0 : FS := (sExpr (fMeth gAppend (fVar 1) (aCons (fMethS gJoin (fC (.str " ")) (aCons (fLC 1 [] (iSeq (fVar 2)) (gN 0) cYes e__law_text_0) aNil)) aNil)))
noncomputable def e__law_text_1 : FE := (fBin gIxS (fC (.str "0123456789")) (fVar 0))
noncomputable def N__law_text : List Str := ["_law_web_here", "_law_pieces", "_law_key"]
noncomputable def p__law_text : FS := (sSeq (sSet 1 (fLst (aCons (fMethS gJoin (fC (.str ",")) (aCons (fLC 1 [] (iSeq (fBin gIx (fVar 0) (fC (.int 0)))) (gN 0) cYes e__law_text_1) aNil)) aNil))) (sSeq (sFor (iSeq (fBin gIx (fVar 0) (fC (.int 1)))) (gN 2) b__law_text_0) (sRet (fMethS gJoin (fC (.str "; ")) (aCons (fVar 1) aNil)))))
noncomputable def F__law_text : FF := fun ds μ => retOf (p__law_text (startD N__law_text ds) μ)
noncomputable def e_show_numbers_0 : FE := (fCall gStrI (aCons (fVar 0) aNil))
noncomputable def N_show_numbers : List Str := ["numbers"]
noncomputable def p_show_numbers : FS := (sRet (fMethS gJoin (fC (.str ",")) (aCons (fLC 1 [] (iSeq (fVar 0)) (gN 0) cYes e_show_numbers_0) aNil)))
noncomputable def F_show_numbers : FF := fun ds μ => retOf (p_show_numbers (startD N_show_numbers ds) μ)
noncomputable def e_show_homes_0 : FE := (fBin gIxS (fC (.str "abcdefghijklmnopqrstuvwxyz")) (fVar 0))
noncomputable def N_show_homes : List Str := ["nests"]
noncomputable def p_show_homes : FS := (sRet (fMethS gJoin (fC (.str " ")) (aCons (fLC 1 [] (iSeq (fVar 0)) (gN 0) cYes e_show_homes_0) aNil)))
noncomputable def F_show_homes : FF := fun ds μ => retOf (p_show_homes (startD N_show_homes ds) μ)
noncomputable def e_show_web_0 : FE := (fCall F_show_homes (aCons (fVar 0) aNil))
noncomputable def N_show_web : List Str := ["web"]
noncomputable def p_show_web : FS := (sRet (fMethS gJoin (fC (.str "; ")) (aCons (fBin gAdd (fLst (aCons (fCall F_show_numbers (aCons (fBin gIx (fVar 0) (fC (.int 0))) aNil)) aNil)) (fLC 1 [] (iSeq (fBin gIx (fVar 0) (fC (.int 1)))) (gN 0) cYes e_show_web_0)) aNil)))
noncomputable def F_show_web : FF := fun ds μ => retOf (p_show_web (startD N_show_web ds) μ)
noncomputable def N__law_mixed : List Str := ["_law_script", "_law_k", "_law_number"]
noncomputable def p__law_mixed : FS := (sSeq (sSet 2 (fC (.int 0))) (sSeq (sIf (fTest (fBin (gCmp fun i j => decide (j < i)) (fCall gLen (aCons (fVar 0) aNil)) (fC (.int 0)))) (sSet 2 (fBin gMod (fBin gIx (fVar 0) (fBin gMod (fVar 1) (fCall gLen (aCons (fVar 0) aNil)))) (fC (.int 2305843009213693951)))) sSkip) (sSeq (sSet 2 (fBin gMod (fBin gAdd (fBin gAdd (fBin gAdd (fBin gMul (fVar 2) (fC (.int 48271))) (fBin gMul (fBin gMul (fVar 1) (fVar 1)) (fC (.int 40692)))) (fBin gMul (fC (.int 7)) (fVar 1))) (fC (.int 11))) (fC (.int 2147483647)))) (sRet (fBin gMod (fBin gMul (fVar 2) (fC (.int 1181783497276652981))) (fC (.int 2305843009213693951)))))))
noncomputable def F__law_mixed : FF := fun ds μ => retOf (p__law_mixed (startD N__law_mixed ds) μ)
noncomputable def N__law_cell_at : List Str := ["_law_script", "_law_k"]
noncomputable def p__law_cell_at : FS := (sSeq (sIf (fTest (fBin (gCmp fun i j => decide (i < j)) (fVar 1) (fCall gLen (aCons (fVar 0) aNil)))) (sRet (fBin gIx (fVar 0) (fVar 1))) sSkip) (sRet (fCall F__law_mixed (aCons (fVar 0) (aCons (fVar 1) aNil)))))
noncomputable def F__law_cell_at : FF := fun ds μ => retOf (p__law_cell_at (startD N__law_cell_at ds) μ)
noncomputable def N__law_pen : List Str := ["_law_script", "_law_k", "_law_cell"]
noncomputable def p__law_pen : FS := (sSeq (sSet 2 (fCall F__law_cell_at (aCons (fVar 0) (aCons (fVar 1) aNil)))) (sRet (fLst (aCons (fBin gMod (fVar 2) (fC (.int 2))) (aCons (fBin gDiv (fVar 2) (fC (.int 2))) (aCons (fCall gLen (aCons (fVar 0) aNil)) (aCons (fBin gMul (fC (.int 101)) (fVar 1)) aNil)))))))
noncomputable def F__law_pen : FF := fun ds μ => retOf (p__law_pen (startD N__law_pen ds) μ)
noncomputable def N_check_text : List Str := ["text"]
noncomputable def p_check_text : FS := (sIf (tNotT (fTest (fCall (gIsi .str) (aCons (fVar 0) (aCons (fC (.ty "str")) aNil))))) sNever sSkip)
noncomputable def F_check_text : FF := fun ds μ => retOf (p_check_text (startD N_check_text ds) μ)
noncomputable def e_read_number_0 : FE := (fBin gNotInS (fVar 0) (fC (.str "0123456789")))
noncomputable def N_read_number : List Str := ["word"]
noncomputable def p_read_number : FS := (sSeq (sIf (tOrT (fTest (fBin gEq (fCall gLenS (aCons (fVar 0) aNil)) (fC (.int 0)))) (tOrT (fTest (fBin (gCmp fun i j => decide (j < i)) (fCall gLenS (aCons (fVar 0) aNil)) (fC (.int (60))))) (fTest (fCall gAny (aCons (fLC 1 [] (iStr (fVar 0)) (gN 0) cYes e_read_number_0) aNil))))) sNever sSkip) (sSeq (sIf (tAndT (fTest (fBin gEq (fBin gIxS (fVar 0) (fC (.int 0))) (fC (.str "0")))) (fTest (fBin (gCmp fun i j => decide (j < i)) (fCall gLenS (aCons (fVar 0) aNil)) (fC (.int 1))))) sNever sSkip) (sRet (fCall gIntS (aCons (fVar 0) aNil)))))
noncomputable def F_read_number : FF := fun ds μ => retOf (p_read_number (startD N_read_number ds) μ)
noncomputable def e_read_numbers_0 : FE := (fCall F_read_number (aCons (fVar 0) aNil))
noncomputable def N_read_numbers : List Str := ["word"]
noncomputable def p_read_numbers : FS := (sRet (fCall gTuple (aCons (fLC 1 [] (iSeq (fMethS gSplit (fVar 0) (aCons (fC (.str ",")) aNil))) (gN 0) cYes e_read_numbers_0) aNil)))
noncomputable def F_read_numbers : FF := fun ds μ => retOf (p_read_numbers (startD N_read_numbers ds) μ)
noncomputable def N_is_tuple : List Str := ["thing", "fewest", "most"]
noncomputable def p_is_tuple : FS := (sRet (fAnd (fCall (gIsi .tup) (aCons (fVar 0) (aCons (fC (.ty "tuple")) aNil))) (fChain (gCmp fun i j => decide (i ≤ j)) (gCmp fun i j => decide (i ≤ j)) (fVar 1) (fCall gLen (aCons (fVar 0) aNil)) (fVar 2))))
noncomputable def F_is_tuple : FF := fun ds μ => retOf (p_is_tuple (startD N_is_tuple ds) μ)
noncomputable def N_is_number : List Str := ["thing", "greatest"]
noncomputable def p_is_number : FS := (sRet (fAnd (fCall (gIsi .int) (aCons (fVar 0) (aCons (fC (.ty "int")) aNil))) (fAnd (fNot (fCall (gIsi .bl) (aCons (fVar 0) (aCons (fC (.ty "bool")) aNil)))) (fChain (gCmp fun i j => decide (i ≤ j)) (gCmp fun i j => decide (i ≤ j)) (fC (.int 0)) (fVar 0) (fVar 1)))))
noncomputable def F_is_number : FF := fun ds μ => retOf (p_is_number (startD N_is_number ds) μ)
noncomputable def e_is_number_tuple_0 : FE := (fCall F_is_number (aCons (fVar 0) (aCons (fVar 1) aNil)))
noncomputable def N_is_number_tuple : List Str := ["thing", "fewest", "most", "greatest"]
noncomputable def p_is_number_tuple : FS := (sRet (fAnd (fCall F_is_tuple (aCons (fVar 0) (aCons (fVar 1) (aCons (fVar 2) aNil)))) (fCall gAll (aCons (fLC 1 [3] (iSeq (fVar 0)) (gN 0) cYes e_is_number_tuple_0) aNil))))
noncomputable def F_is_number_tuple : FF := fun ds μ => retOf (p_is_number_tuple (startD N_is_number_tuple ds) μ)
noncomputable def N_are_rooms : List Str := ["thing"]
noncomputable def p_are_rooms : FS := (sRet (fCall F_is_number_tuple (aCons (fVar 0) (aCons (fC (.int 1)) (aCons (fC (.int (10))) (aCons (fC (.int (9))) aNil))))))
noncomputable def F_are_rooms : FF := fun ds μ => retOf (p_are_rooms (startD N_are_rooms ds) μ)
noncomputable def e_are_keys_0 : FE := (fCall F_is_number_tuple (aCons (fVar 0) (aCons (fC (.int 2)) (aCons (fC (.int 3)) (aCons (fBin gSub (fVar 1) (fC (.int 1))) aNil)))))
noncomputable def N_are_keys : List Str := ["thing", "nests"]
noncomputable def p_are_keys : FS := (sRet (fAnd (fCall F_is_tuple (aCons (fVar 0) (aCons (fC (.int 0)) (aCons (fC (.int (30))) aNil)))) (fCall gAll (aCons (fLC 1 [1] (iSeq (fVar 0)) (gN 0) cYes e_are_keys_0) aNil))))
noncomputable def F_are_keys : FF := fun ds μ => retOf (p_are_keys (startD N_are_keys ds) μ)
noncomputable def N_is_web : List Str := ["thing"]
noncomputable def p_is_web : FS := (sRet (fAnd (fCall F_is_tuple (aCons (fVar 0) (aCons (fC (.int 2)) (aCons (fC (.int 2)) aNil)))) (fAnd (fCall F_are_rooms (aCons (fBin gIx (fVar 0) (fC (.int 0))) aNil)) (fCall F_are_keys (aCons (fBin gIx (fVar 0) (fC (.int 1))) (aCons (fCall gLen (aCons (fBin gIx (fVar 0) (fC (.int 0))) aNil)) aNil))))))
noncomputable def F_is_web : FF := fun ds μ => retOf (p_is_web (startD N_is_web ds) μ)
noncomputable def N_read_nest : List Str := ["word"]
noncomputable def p_read_nest : FS := (sSeq (sIf (tOrT (fTest (fBin gNe (fCall gLenS (aCons (fVar 0) aNil)) (fC (.int 1)))) (fTest (fBin gNotInS (fVar 0) (fC (.str "abcdefghijklmnopqrstuvwxyz"))))) sNever sSkip) (sRet (fMethS gFind (fC (.str "abcdefghijklmnopqrstuvwxyz")) (aCons (fVar 0) aNil))))
noncomputable def F_read_nest : FF := fun ds μ => retOf (p_read_nest (startD N_read_nest ds) μ)
noncomputable def e_read_homes_0 : FE := (fCall F_read_nest (aCons (fVar 0) aNil))
noncomputable def N_read_homes : List Str := ["words"]
noncomputable def p_read_homes : FS := (sRet (fCall gTuple (aCons (fLC 1 [] (iSeq (fMethS gSplit (fVar 0) (aCons (fC (.str " ")) aNil))) (gN 0) cYes e_read_homes_0) aNil)))
noncomputable def F_read_homes : FF := fun ds μ => retOf (p_read_homes (startD N_read_homes ds) μ)
noncomputable def e_read_web_0 : FE := (fCall F_read_homes (aCons (fVar 0) aNil))
noncomputable def N_read_web : List Str := ["text", "pieces", "web"]
noncomputable def p_read_web : FS := (sSeq (sExpr (fCall F_check_text (aCons (fVar 0) aNil))) (sSeq (sSet 1 (fMethS gSplit (fVar 0) (aCons (fC (.str "; ")) aNil))) (sSeq (sSet 2 (fTup (aCons (fCall F_read_numbers (aCons (fBin gIx (fVar 1) (fC (.int 0))) aNil)) (aCons (fCall gTuple (aCons (fLC 1 [] (iSeq (fSl (fVar 1) (pYes (fC (.int 1))) pNo)) (gN 0) cYes e_read_web_0) aNil)) aNil)))) (sSeq (sIf (tNotT (fTest (fCall F_is_web (aCons (fVar 2) aNil)))) sNever sSkip) (sRet (fVar 2))))))
noncomputable def F_read_web : FF := fun ds μ => retOf (p_read_web (startD N_read_web ds) μ)
noncomputable def e__law_is_web_0 : FE := (fVar 0)
noncomputable def c__law_is_web_0 : FT := (tOrT (tNotT (fTest (fCall (gIsi .int) (aCons (fVar 0) (aCons (fC (.ty "int")) aNil))))) (fTest (fCall (gIsi .bl) (aCons (fVar 0) (aCons (fC (.ty "bool")) aNil)))))
noncomputable def b__law_is_web_0 : FS := (sSet 2 (fBin gAdd (fVar 2) (fCall gList (aCons (fVar 3) aNil))))
noncomputable def e__law_is_web_1 : FE := (fVar 0)
noncomputable def c__law_is_web_1 : FT := (tNotT (fTest (fCall (gIsi .tup) (aCons (fVar 0) (aCons (fC (.ty "tuple")) aNil)))))
noncomputable def N__law_is_web : List Str := ["_law_found", "_law_web_here", "_law_numbers", "_law_key"]
noncomputable def p__law_is_web : FS := (sSeq (sIf (tOrT (tNotT (fTest (fCall (gIsi .tup) (aCons (fVar 0) (aCons (fC (.ty "tuple")) aNil))))) (tOrT (fTest (fBin gNe (fVar 0) (fVar 1))) (tNotT (fTest (fCall (gIsi .tup) (aCons (fBin gIx (fVar 0) (fC (.int 0))) (aCons (fC (.ty "tuple")) aNil))))))) (sRet (fC (.bl false))) sSkip) (sSeq (sIf (tOrT (tNotT (fTest (fCall (gIsi .tup) (aCons (fBin gIx (fVar 0) (fC (.int 1))) (aCons (fC (.ty "tuple")) aNil))))) (fTest (fBin gNe (fLC 1 [] (iSeq (fBin gIx (fVar 0) (fC (.int 1)))) (gN 0) c__law_is_web_1 e__law_is_web_1) (fLst aNil)))) (sRet (fC (.bl false))) sSkip) (sSeq (sSet 2 (fCall gList (aCons (fBin gIx (fVar 0) (fC (.int 0))) aNil))) (sSeq (sFor (iSeq (fBin gIx (fVar 0) (fC (.int 1)))) (gN 3) b__law_is_web_0) (sRet (fBin gEq (fLC 1 [] (iSeq (fVar 2)) (gN 0) c__law_is_web_0 e__law_is_web_0) (fLst aNil)))))))
noncomputable def F__law_is_web : FF := fun ds μ => retOf (p__law_is_web (startD N__law_is_web ds) μ)
noncomputable def b_law_0 : FS := (sSeq (sSet 2 (fCall F__law_web (aCons (fCall F__law_pen (aCons (fVar 0) (aCons (fVar 1) aNil))) (aCons (fC (.int 30)) aNil)))) (sSeq (sSet 3 (fCall F__law_text (aCons (fVar 2) aNil))) (sSeq (sSet 4 (fCall F_show_web (aCons (fVar 2) aNil))) (sSeq (sIf (tOrT (tNotT (fTest (fCall (gIsi .str) (aCons (fVar 4) (aCons (fC (.ty "str")) aNil))))) (tOrT (fTest (fBin gNe (fVar 4) (fVar 3))) (tNotT (fTest (fCall F__law_is_web (aCons (fCall F_read_web (aCons (fVar 3) aNil)) (aCons (fVar 2) aNil))))))) (sRet (fC (.bl false))) sSkip) (sIf (fTest (fBin gNe (fCall F_show_web (aCons (fCall F_read_web (aCons (fVar 4) aNil)) aNil)) (fVar 3))) (sRet (fC (.bl false))) sSkip)))))
noncomputable def N_law : List Str := ["_law_script", "_law_k", "_law_web_here", "_law_text_here", "_law_found"]
noncomputable def p_law : FS := (sSeq (sFor (iRange (aCons (fC (.int 2)) aNil)) (gN 1) b_law_0) (sRet (fAnd (fBin gEq (fCall F_show_web (aCons (fTup (aCons (fTup (aCons (fC (.int 3)) aNil)) (aCons (fTup aNil) aNil))) aNil)) (fC (.str "3"))) (fBin gEq (fCall F_read_web (aCons (fC (.str "0,9")) aNil)) (fTup (aCons (fTup (aCons (fC (.int 0)) (aCons (fC (.int 9)) aNil))) (aCons (fTup aNil) aNil)))))))
noncomputable def F_law : FF := fun ds μ => retOf (p_law (startD N_law ds) μ)
structure Txt (K : PySem.W.Frag) (mg : Str → Option Value) : Prop where
  n_all : mg "all" = none
  n_any : mg "any" = none
  n_bool : mg "bool" = none
  n_int : mg "int" = none
  n_isinstance : mg "isinstance" = none
  n_len : mg "len" = none
  n_list : mg "list" = none
  n_range : mg "range" = none
  n_str : mg "str" = none
  n_tuple : mg "tuple" = none
  c_MOST_NESTS : ∃ t, mg "MOST_NESTS" = some (.int 10 t)
  c_MOST_ROOM : ∃ t, mg "MOST_ROOM" = some (.int 9 t)
  c_MOST_KEYS : ∃ t, mg "MOST_KEYS" = some (.int 30 t)
  c_FIGURES : ∃ t, mg "FIGURES" = some (.str "0123456789" t)
  c_MOST_FIGURES : ∃ t, mg "MOST_FIGURES" = some (.int 60 t)
  c_LETTERS : ∃ t, mg "LETTERS" = some (.str "abcdefghijklmnopqrstuvwxyz" t)
theorem bb_all : bootBuiltins "all" = some (.builtin "all") := by decide +kernel
theorem bb_any : bootBuiltins "any" = some (.builtin "any") := by decide +kernel
theorem bb_bool : bootBuiltins "bool" = some (.type "bool") := by decide +kernel
theorem bb_int : bootBuiltins "int" = some (.type "int") := by decide +kernel
theorem bb_isinstance : bootBuiltins "isinstance" = some (.builtin "isinstance") := by decide +kernel
theorem bb_len : bootBuiltins "len" = some (.builtin "len") := by decide +kernel
theorem bb_list : bootBuiltins "list" = some (.type "list") := by decide +kernel
theorem bb_str : bootBuiltins "str" = some (.type "str") := by decide +kernel
theorem bb_tuple : bootBuiltins "tuple" = some (.type "tuple") := by decide +kernel
section
variable {P : Program} {w : World} {K : PySem.W.Frag} {mg : Str → Option Value} {base : Heap}
set_option maxHeartbeats 4000000
noncomputable abbrev s__law_take : Stmt := top 30
noncomputable abbrev ps__law_take : List Str := ["_law_pen_here", "_law_size"]
theorem sc__law_take : FnScope N__law_take ps__law_take (defScope s__law_take) := ⟨rfl, rfl, rfl, by decide +kernel, rfl, by decide +kernel, by decide +kernel⟩
theorem okf__law_take (T : Txt K mg) {f : Addr} {fd : FuncData} (B : FnAt K mg "_law_take" s__law_take ps__law_take f fd) : FnOk P w K mg base CX0 1 f fd ps__law_take (spM K 2 F__law_take) := by
  refine fnM B.fn sc__law_take rfl (fun cdv A outer s H E hr => ⟨p__law_take, ?_, fun _ _ _ _ _ e => e⟩)
  have hu := hr.units
  exact (mss_cons (ms_if (mt_cmp (opM_eq hu) (me_ix (mv 0) me_int) me_int) (mss_cons (ms_set 2 (me_op opM_mod (me_ix (mv 0) me_int) (mv 1)) (hN := sc__law_take.nd)) (mss_cons (ms_asg (me_op opM_div (me_ix (mv 0) me_int) (mv 1)) (mg_at (mv 0) me_int)) (mss_one (ms_ret (mv 2))))) mss_nil) (mss_cons (ms_asg (me_op opM_add (me_ix (mv 0) me_int) me_int) (mg_at (mv 0) me_int)) (mss_cons (ms_set 3 (me_ix (mv 0) me_int) (hN := sc__law_take.nd)) (mss_cons (ms_set 4 (me_op opM_mul (me_op opM_mod (me_ix (mv 0) me_int) me_int) me_int) (hN := sc__law_take.nd)) (mss_cons (ms_set 4 (me_op opM_mod (me_op opM_add (me_op opM_add (me_op opM_add (mv 4) (me_op opM_mul (me_op opM_mul (mv 3) (mv 3)) me_int)) (me_op opM_mul me_int (mv 3))) me_int) me_int) (hN := sc__law_take.nd)) (mss_one (ms_ret (me_op opM_mod (me_op opM_div (me_op opM_mod (me_op opM_mul (mv 4) me_int) me_int) me_int) (mv 1)))))))))
noncomputable abbrev s__law_web : Stmt := top 32
noncomputable abbrev ps__law_web : List Str := ["_law_pen_here", "_law_limit"]
theorem sc__law_web : FnScope N__law_web ps__law_web (defScope s__law_web) := ⟨rfl, rfl, rfl, by decide +kernel, rfl, by decide +kernel, by decide +kernel⟩
theorem okf__law_web (T : Txt K mg) {f__law_take : Addr} {fd__law_take : FuncData} (B__law_take : FnAt K mg "_law_take" s__law_take ps__law_take f__law_take fd__law_take) (ok__law_take : FnOk P w K mg base CX0 1 f__law_take fd__law_take ps__law_take (spM K 2 F__law_take)) {f : Addr} {fd : FuncData} (B : FnAt K mg "_law_web" s__law_web ps__law_web f fd) : FnOk P w K mg base CX0 2 f fd ps__law_web (spM K 2 F__law_web) := by
  refine fnM B.fn sc__law_web rfl (fun cdv A outer s H E hr => ⟨p__law_web, ?_, fun _ _ _ _ _ e => e⟩)
  have hu := hr.units
  exact (mss_cons (ms_set 2 (me_op opM_add me_int (mcall B__law_take ok__law_take hr (man_cons (mv 0) (man_cons me_int man_nil)))) (hN := sc__law_web.nd)) (mss_cons (ms_if (mt_cmp (opM_eq hu) (mcall B__law_take ok__law_take hr (man_cons (mv 0) (man_cons me_int man_nil))) me_int) (mss_one (ms_set 2 (me_op opM_add me_int (mcall B__law_take ok__law_take hr (man_cons (mv 0) (man_cons me_int man_nil)))) (hN := sc__law_web.nd))) mss_nil) (mss_cons (ms_set 3 (mcall B__law_take ok__law_take hr (man_cons (mv 0) (man_cons me_int man_nil))) (hN := sc__law_web.nd)) (mss_cons (ms_set 4 (me_callT callM_tuple T.n_tuple bb_tuple (man_cons (mlc ["_law_k"] [0, 3] (mi_range T.n_range (man_cons (mv 2) man_nil)) (fun _ _ _ _ _ => (mgc_name 0 (hN := nodup_of (by rfl)))) (fun _ _ _ _ _ => mf_nil) (fun _ _ _ _ _ => (me_ix (me_lst (man_cons (mcall B__law_take ok__law_take hr (man_cons (mv 1) (man_cons me_int man_nil))) (man_cons me_int (man_cons (mcall B__law_take ok__law_take hr (man_cons (mv 1) (man_cons me_int man_nil))) (man_cons (mcall B__law_take ok__law_take hr (man_cons (mv 1) (man_cons me_int man_nil))) man_nil))))) (mv 2))) (fr_cons ⟨_, rfl, rfl⟩ (fr_cons ⟨_, rfl, rfl⟩ fr_nil))) man_nil)) (hN := sc__law_web.nd)) (mss_cons (ms_set 5 (mcall B__law_take ok__law_take hr (man_cons (mv 0) (man_cons (me_op opM_add (mv 1) me_int) man_nil))) (hN := sc__law_web.nd)) (mss_cons (ms_set 6 (me_lst man_nil) (hN := sc__law_web.nd)) (mss_cons (ms_for (mi_range T.n_range (man_cons (mv 5) man_nil)) (mg_name 7 (hN := sc__law_web.nd)) (mss_cons (ms_set 8 (me_lst (man_cons (mcall B__law_take ok__law_take hr (man_cons (mv 0) (man_cons (mv 2) man_nil))) (man_cons (mcall B__law_take ok__law_take hr (man_cons (mv 0) (man_cons (mv 2) man_nil))) man_nil))) (hN := sc__law_web.nd)) (mss_cons (ms_if (mt_cmp (opM_eq hu) (mcall B__law_take ok__law_take hr (man_cons (mv 0) (man_cons me_int man_nil))) me_int) (mss_one (ms_expr (me_append (mv 8) (man_cons (mcall B__law_take ok__law_take hr (man_cons (mv 0) (man_cons (mv 2) man_nil))) man_nil)))) mss_nil) (mss_one (ms_expr (me_append (mv 6) (man_cons (me_callT callM_tuple T.n_tuple bb_tuple (man_cons (mv 8) man_nil)) man_nil))))))) (mss_one (ms_ret (me_tup (man_cons (mv 4) (man_cons (me_callT callM_tuple T.n_tuple bb_tuple (man_cons (mv 6) man_nil)) man_nil))))))))))))
noncomputable abbrev s__law_text : Stmt := top 33
noncomputable abbrev ps__law_text : List Str := ["_law_web_here"]
theorem sc__law_text : FnScope N__law_text ps__law_text (defScope s__law_text) := ⟨rfl, rfl, rfl, by decide +kernel, rfl, by decide +kernel, by decide +kernel⟩
theorem okf__law_text (T : Txt K mg) {f : Addr} {fd : FuncData} (B : FnAt K mg "_law_text" s__law_text ps__law_text f fd) : FnOk P w K mg base CX0 1 f fd ps__law_text (spM K 1 F__law_text) := by
  refine fnM B.fn sc__law_text rfl (fun cdv A outer s H E hr => ⟨p__law_text, ?_, fun _ _ _ _ _ e => e⟩)
  have hu := hr.units
  exact (mss_cons (ms_set 1 (me_lst (man_cons (me_join me_str (man_cons (mlc ["_law_room"] [] (mi_seq (me_ix (mv 0) me_int)) (fun _ _ _ _ _ => (mgc_name 0 (hN := nodup_of (by rfl)))) (fun _ _ _ _ _ => mf_nil) (fun _ _ _ _ _ => (me_ixS me_str (mv 0))) fr_nil) man_nil)) man_nil)) (hN := sc__law_text.nd)) (mss_cons (ms_for (mi_seq (me_ix (mv 0) me_int)) (mg_name 2 (hN := sc__law_text.nd)) (mss_one (ms_expr (me_append (mv 1) (man_cons (me_join me_str (man_cons (mlc ["_law_home"] [] (mi_seq (mv 2)) (fun _ _ _ _ _ => (mgc_name 0 (hN := nodup_of (by rfl)))) (fun _ _ _ _ _ => mf_nil) (fun _ _ _ _ _ => (me_ixS me_str (mv 0))) fr_nil) man_nil)) man_nil))))) (mss_one (ms_ret (me_join me_str (man_cons (mv 1) man_nil))))))
noncomputable abbrev s_show_numbers : Stmt := top 18
noncomputable abbrev ps_show_numbers : List Str := ["numbers"]
theorem sc_show_numbers : FnScope N_show_numbers ps_show_numbers (defScope s_show_numbers) := ⟨rfl, rfl, rfl, by decide +kernel, rfl, by decide +kernel, by decide +kernel⟩
theorem okf_show_numbers (T : Txt K mg) {f : Addr} {fd : FuncData} (B : FnAt K mg "show_numbers" s_show_numbers ps_show_numbers f fd) : FnOk P w K mg base CX0 1 f fd ps_show_numbers (spM K 1 F_show_numbers) := by
  refine fnM B.fn sc_show_numbers rfl (fun cdv A outer s H E hr => ⟨p_show_numbers, ?_, fun _ _ _ _ _ e => e⟩)
  have hu := hr.units
  exact (mss_one (ms_ret (me_join me_str (man_cons (mlc ["number"] [] (mi_seq (mv 0)) (fun _ _ _ _ _ => (mgc_name 0 (hN := nodup_of (by rfl)))) (fun _ _ _ _ _ => mf_nil) (fun _ _ _ _ _ => (me_callT callM_strI T.n_str bb_str (man_cons (mv 0) man_nil))) fr_nil) man_nil))))
noncomputable abbrev s_show_homes : Stmt := top 19
noncomputable abbrev ps_show_homes : List Str := ["nests"]
theorem sc_show_homes : FnScope N_show_homes ps_show_homes (defScope s_show_homes) := ⟨rfl, rfl, rfl, by decide +kernel, rfl, by decide +kernel, by decide +kernel⟩
theorem okf_show_homes (T : Txt K mg) {f : Addr} {fd : FuncData} (B : FnAt K mg "show_homes" s_show_homes ps_show_homes f fd) : FnOk P w K mg base CX0 1 f fd ps_show_homes (spM K 1 F_show_homes) := by
  refine fnM B.fn sc_show_homes rfl (fun cdv A outer s H E hr => ⟨p_show_homes, ?_, fun _ _ _ _ _ e => e⟩)
  have hu := hr.units
  exact (mss_one (ms_ret (me_join me_str (man_cons (mlc ["nest"] [] (mi_seq (mv 0)) (fun _ _ _ _ _ => (mgc_name 0 (hN := nodup_of (by rfl)))) (fun _ _ _ _ _ => mf_nil) (fun _ _ _ _ _ => (me_ixS (me_gstr T.c_LETTERS) (mv 0))) fr_nil) man_nil))))
noncomputable abbrev s_show_web : Stmt := top 20
noncomputable abbrev ps_show_web : List Str := ["web"]
theorem sc_show_web : FnScope N_show_web ps_show_web (defScope s_show_web) := ⟨rfl, rfl, rfl, by decide +kernel, rfl, by decide +kernel, by decide +kernel⟩
theorem okf_show_web (T : Txt K mg) {f_show_numbers : Addr} {fd_show_numbers : FuncData} (B_show_numbers : FnAt K mg "show_numbers" s_show_numbers ps_show_numbers f_show_numbers fd_show_numbers) (ok_show_numbers : FnOk P w K mg base CX0 1 f_show_numbers fd_show_numbers ps_show_numbers (spM K 1 F_show_numbers)) {f_show_homes : Addr} {fd_show_homes : FuncData} (B_show_homes : FnAt K mg "show_homes" s_show_homes ps_show_homes f_show_homes fd_show_homes) (ok_show_homes : FnOk P w K mg base CX0 1 f_show_homes fd_show_homes ps_show_homes (spM K 1 F_show_homes)) {f : Addr} {fd : FuncData} (B : FnAt K mg "show_web" s_show_web ps_show_web f fd) : FnOk P w K mg base CX0 2 f fd ps_show_web (spM K 1 F_show_web) := by
  refine fnM B.fn sc_show_web rfl (fun cdv A outer s H E hr => ⟨p_show_web, ?_, fun _ _ _ _ _ e => e⟩)
  have hu := hr.units
  exact (mss_one (ms_ret (me_join me_str (man_cons (me_op opM_add (me_lst (man_cons (mcall B_show_numbers ok_show_numbers hr (man_cons (me_ix (mv 0) me_int) man_nil)) man_nil)) (mlc ["nests"] [] (mi_seq (me_ix (mv 0) me_int)) (fun _ _ _ _ _ => (mgc_name 0 (hN := nodup_of (by rfl)))) (fun _ _ _ _ _ => mf_nil) (fun _ _ _ _ _ => (mcall B_show_homes ok_show_homes hr (man_cons (mv 0) man_nil))) fr_nil)) man_nil))))
noncomputable abbrev s__law_mixed : Stmt := top 28
noncomputable abbrev ps__law_mixed : List Str := ["_law_script", "_law_k"]
theorem sc__law_mixed : FnScope N__law_mixed ps__law_mixed (defScope s__law_mixed) := ⟨rfl, rfl, rfl, by decide +kernel, rfl, by decide +kernel, by decide +kernel⟩
theorem okf__law_mixed (T : Txt K mg) {f : Addr} {fd : FuncData} (B : FnAt K mg "_law_mixed" s__law_mixed ps__law_mixed f fd) : FnOk P w K mg base CX0 1 f fd ps__law_mixed (spM K 2 F__law_mixed) := by
  refine fnM B.fn sc__law_mixed rfl (fun cdv A outer s H E hr => ⟨p__law_mixed, ?_, fun _ _ _ _ _ e => e⟩)
  have hu := hr.units
  exact (mss_cons (ms_set 2 me_int (hN := sc__law_mixed.nd)) (mss_cons (ms_if (mt_cmp opM_gt (me_callB callM_len T.n_len bb_len (man_cons (mv 0) man_nil)) me_int) (mss_one (ms_set 2 (me_op opM_mod (me_ix (mv 0) (me_op opM_mod (mv 1) (me_callB callM_len T.n_len bb_len (man_cons (mv 0) man_nil)))) me_int) (hN := sc__law_mixed.nd))) mss_nil) (mss_cons (ms_set 2 (me_op opM_mod (me_op opM_add (me_op opM_add (me_op opM_add (me_op opM_mul (mv 2) me_int) (me_op opM_mul (me_op opM_mul (mv 1) (mv 1)) me_int)) (me_op opM_mul me_int (mv 1))) me_int) me_int) (hN := sc__law_mixed.nd)) (mss_one (ms_ret (me_op opM_mod (me_op opM_mul (mv 2) me_int) me_int))))))
noncomputable abbrev s__law_cell_at : Stmt := top 29
noncomputable abbrev ps__law_cell_at : List Str := ["_law_script", "_law_k"]
theorem sc__law_cell_at : FnScope N__law_cell_at ps__law_cell_at (defScope s__law_cell_at) := ⟨rfl, rfl, rfl, by decide +kernel, rfl, by decide +kernel, by decide +kernel⟩
theorem okf__law_cell_at (T : Txt K mg) {f__law_mixed : Addr} {fd__law_mixed : FuncData} (B__law_mixed : FnAt K mg "_law_mixed" s__law_mixed ps__law_mixed f__law_mixed fd__law_mixed) (ok__law_mixed : FnOk P w K mg base CX0 1 f__law_mixed fd__law_mixed ps__law_mixed (spM K 2 F__law_mixed)) {f : Addr} {fd : FuncData} (B : FnAt K mg "_law_cell_at" s__law_cell_at ps__law_cell_at f fd) : FnOk P w K mg base CX0 2 f fd ps__law_cell_at (spM K 2 F__law_cell_at) := by
  refine fnM B.fn sc__law_cell_at rfl (fun cdv A outer s H E hr => ⟨p__law_cell_at, ?_, fun _ _ _ _ _ e => e⟩)
  have hu := hr.units
  exact (mss_cons (ms_if (mt_cmp opM_lt (mv 1) (me_callB callM_len T.n_len bb_len (man_cons (mv 0) man_nil))) (mss_one (ms_ret (me_ix (mv 0) (mv 1)))) mss_nil) (mss_one (ms_ret (mcall B__law_mixed ok__law_mixed hr (man_cons (mv 0) (man_cons (mv 1) man_nil))))))
noncomputable abbrev s__law_pen : Stmt := top 31
noncomputable abbrev ps__law_pen : List Str := ["_law_script", "_law_k"]
theorem sc__law_pen : FnScope N__law_pen ps__law_pen (defScope s__law_pen) := ⟨rfl, rfl, rfl, by decide +kernel, rfl, by decide +kernel, by decide +kernel⟩
theorem okf__law_pen (T : Txt K mg) {f__law_cell_at : Addr} {fd__law_cell_at : FuncData} (B__law_cell_at : FnAt K mg "_law_cell_at" s__law_cell_at ps__law_cell_at f__law_cell_at fd__law_cell_at) (ok__law_cell_at : FnOk P w K mg base CX0 2 f__law_cell_at fd__law_cell_at ps__law_cell_at (spM K 2 F__law_cell_at)) {f : Addr} {fd : FuncData} (B : FnAt K mg "_law_pen" s__law_pen ps__law_pen f fd) : FnOk P w K mg base CX0 3 f fd ps__law_pen (spM K 2 F__law_pen) := by
  refine fnM B.fn sc__law_pen rfl (fun cdv A outer s H E hr => ⟨p__law_pen, ?_, fun _ _ _ _ _ e => e⟩)
  have hu := hr.units
  exact (mss_cons (ms_set 2 (mcall B__law_cell_at ok__law_cell_at hr (man_cons (mv 0) (man_cons (mv 1) man_nil))) (hN := sc__law_pen.nd)) (mss_one (ms_ret (me_lst (man_cons (me_op opM_mod (mv 2) me_int) (man_cons (me_op opM_div (mv 2) me_int) (man_cons (me_callB callM_len T.n_len bb_len (man_cons (mv 0) man_nil)) (man_cons (me_op opM_mul me_int (mv 1)) man_nil))))))))
noncomputable abbrev s_check_text : Stmt := top 24
noncomputable abbrev ps_check_text : List Str := ["text"]
theorem sc_check_text : FnScope N_check_text ps_check_text (defScope s_check_text) := ⟨rfl, rfl, rfl, by decide +kernel, rfl, by decide +kernel, by decide +kernel⟩
theorem okf_check_text (T : Txt K mg) {f : Addr} {fd : FuncData} (B : FnAt K mg "check_text" s_check_text ps_check_text f fd) : FnOk P w K mg base CX0 1 f fd ps_check_text (spM K 1 F_check_text) := by
  refine fnM B.fn sc_check_text rfl (fun cdv A outer s H E hr => ⟨p_check_text, ?_, fun _ _ _ _ _ e => e⟩)
  have hu := hr.units
  exact (mss_one (ms_if (mt_not (mt_val (me_callB (callM_isi .str) T.n_isinstance bb_isinstance (man_cons (mv 0) (man_cons (me_gty T.n_str bb_str) man_nil))))) (mss_one ms_never) mss_nil))
noncomputable abbrev s_read_number : Stmt := top 21
noncomputable abbrev ps_read_number : List Str := ["word"]
theorem sc_read_number : FnScope N_read_number ps_read_number (defScope s_read_number) := ⟨rfl, rfl, rfl, by decide +kernel, rfl, by decide +kernel, by decide +kernel⟩
theorem okf_read_number (T : Txt K mg) {f : Addr} {fd : FuncData} (B : FnAt K mg "read_number" s_read_number ps_read_number f fd) : FnOk P w K mg base CX0 1 f fd ps_read_number (spM K 1 F_read_number) := by
  refine fnM B.fn sc_read_number rfl (fun cdv A outer s H E hr => ⟨p_read_number, ?_, fun _ _ _ _ _ e => e⟩)
  have hu := hr.units
  exact (mss_cons (ms_if (MW.mt (mw_or (mt_cmp (opM_eq hu) (me_callB callM_lenS T.n_len bb_len (man_cons (mv 0) man_nil)) me_int) (mw_or (mt_cmp opM_gt (me_callB callM_lenS T.n_len bb_len (man_cons (mv 0) man_nil)) (me_gint T.c_MOST_FIGURES)) (mw_or1 (mt_val (me_callB (callM_any rfl) T.n_any bb_any (man_cons (mlc ["sign"] [] (mi_str (mv 0)) (fun _ _ _ _ _ => (mgc_name 0 (hN := nodup_of (by rfl)))) (fun _ _ _ _ _ => mf_nil) (fun _ _ _ _ _ => (me_cmp opM_notInS (mv 0) (me_gstr T.c_FIGURES))) fr_nil) man_nil))))))) (mss_one ms_never) mss_nil) (mss_cons (ms_if (MW.mt (mw_and (mt_cmp (opM_eq hu) (me_ixS (mv 0) me_int) me_str) (mw_and1 (mt_cmp opM_gt (me_callB callM_lenS T.n_len bb_len (man_cons (mv 0) man_nil)) me_int)))) (mss_one ms_never) mss_nil) (mss_one (ms_ret (me_callT callM_intS T.n_int bb_int (man_cons (mv 0) man_nil))))))
noncomputable abbrev s_read_numbers : Stmt := top 22
noncomputable abbrev ps_read_numbers : List Str := ["word"]
theorem sc_read_numbers : FnScope N_read_numbers ps_read_numbers (defScope s_read_numbers) := ⟨rfl, rfl, rfl, by decide +kernel, rfl, by decide +kernel, by decide +kernel⟩
theorem okf_read_numbers (T : Txt K mg) {f_read_number : Addr} {fd_read_number : FuncData} (B_read_number : FnAt K mg "read_number" s_read_number ps_read_number f_read_number fd_read_number) (ok_read_number : FnOk P w K mg base CX0 1 f_read_number fd_read_number ps_read_number (spM K 1 F_read_number)) {f : Addr} {fd : FuncData} (B : FnAt K mg "read_numbers" s_read_numbers ps_read_numbers f fd) : FnOk P w K mg base CX0 2 f fd ps_read_numbers (spM K 1 F_read_numbers) := by
  refine fnM B.fn sc_read_numbers rfl (fun cdv A outer s H E hr => ⟨p_read_numbers, ?_, fun _ _ _ _ _ e => e⟩)
  have hu := hr.units
  exact (mss_one (ms_ret (me_callT callM_tuple T.n_tuple bb_tuple (man_cons (mlc ["part"] [] (mi_seq (me_split (mv 0) (man_cons me_str man_nil))) (fun _ _ _ _ _ => (mgc_name 0 (hN := nodup_of (by rfl)))) (fun _ _ _ _ _ => mf_nil) (fun _ _ _ _ _ => (mcall B_read_number ok_read_number hr (man_cons (mv 0) man_nil))) fr_nil) man_nil))))
noncomputable abbrev s_is_tuple : Stmt := top 7
noncomputable abbrev ps_is_tuple : List Str := ["thing", "fewest", "most"]
theorem sc_is_tuple : FnScope N_is_tuple ps_is_tuple (defScope s_is_tuple) := ⟨rfl, rfl, rfl, by decide +kernel, rfl, by decide +kernel, by decide +kernel⟩
theorem okf_is_tuple (T : Txt K mg) {f : Addr} {fd : FuncData} (B : FnAt K mg "is_tuple" s_is_tuple ps_is_tuple f fd) : FnOk P w K mg base CX0 1 f fd ps_is_tuple (spM K 3 F_is_tuple) := by
  refine fnM B.fn sc_is_tuple rfl (fun cdv A outer s H E hr => ⟨p_is_tuple, ?_, fun _ _ _ _ _ e => e⟩)
  have hu := hr.units
  exact (mss_one (ms_ret (me_and (me_callB (callM_isi .tup) T.n_isinstance bb_isinstance (man_cons (mv 0) (man_cons (me_gty T.n_tuple bb_tuple) man_nil))) (me_one (me_chain opM_le opM_le (mv 1) (me_callB callM_len T.n_len bb_len (man_cons (mv 0) man_nil)) (mv 2))))))
noncomputable abbrev s_is_number : Stmt := top 6
noncomputable abbrev ps_is_number : List Str := ["thing", "greatest"]
theorem sc_is_number : FnScope N_is_number ps_is_number (defScope s_is_number) := ⟨rfl, rfl, rfl, by decide +kernel, rfl, by decide +kernel, by decide +kernel⟩
theorem okf_is_number (T : Txt K mg) {f : Addr} {fd : FuncData} (B : FnAt K mg "is_number" s_is_number ps_is_number f fd) : FnOk P w K mg base CX0 1 f fd ps_is_number (spM K 2 F_is_number) := by
  refine fnM B.fn sc_is_number rfl (fun cdv A outer s H E hr => ⟨p_is_number, ?_, fun _ _ _ _ _ e => e⟩)
  have hu := hr.units
  exact (mss_one (ms_ret (me_and (me_callB (callM_isi .int) T.n_isinstance bb_isinstance (man_cons (mv 0) (man_cons (me_gty T.n_int bb_int) man_nil))) (me_and (me_not (me_callB (callM_isi .bl) T.n_isinstance bb_isinstance (man_cons (mv 0) (man_cons (me_gty T.n_bool bb_bool) man_nil)))) (me_one (me_chain opM_le opM_le me_int (mv 0) (mv 1)))))))
noncomputable abbrev s_is_number_tuple : Stmt := top 8
noncomputable abbrev ps_is_number_tuple : List Str := ["thing", "fewest", "most", "greatest"]
theorem sc_is_number_tuple : FnScope N_is_number_tuple ps_is_number_tuple (defScope s_is_number_tuple) := ⟨rfl, rfl, rfl, by decide +kernel, rfl, by decide +kernel, by decide +kernel⟩
theorem okf_is_number_tuple (T : Txt K mg) {f_is_tuple : Addr} {fd_is_tuple : FuncData} (B_is_tuple : FnAt K mg "is_tuple" s_is_tuple ps_is_tuple f_is_tuple fd_is_tuple) (ok_is_tuple : FnOk P w K mg base CX0 1 f_is_tuple fd_is_tuple ps_is_tuple (spM K 3 F_is_tuple)) {f_is_number : Addr} {fd_is_number : FuncData} (B_is_number : FnAt K mg "is_number" s_is_number ps_is_number f_is_number fd_is_number) (ok_is_number : FnOk P w K mg base CX0 1 f_is_number fd_is_number ps_is_number (spM K 2 F_is_number)) {f : Addr} {fd : FuncData} (B : FnAt K mg "is_number_tuple" s_is_number_tuple ps_is_number_tuple f fd) : FnOk P w K mg base CX0 2 f fd ps_is_number_tuple (spM K 4 F_is_number_tuple) := by
  refine fnM B.fn sc_is_number_tuple rfl (fun cdv A outer s H E hr => ⟨p_is_number_tuple, ?_, fun _ _ _ _ _ e => e⟩)
  have hu := hr.units
  exact (mss_one (ms_ret (me_and (mcall B_is_tuple ok_is_tuple hr (man_cons (mv 0) (man_cons (mv 1) (man_cons (mv 2) man_nil)))) (me_one (me_callB (callM_all rfl) T.n_all bb_all (man_cons (mlc ["part"] [3] (mi_seq (mv 0)) (fun _ _ _ _ _ => (mgc_name 0 (hN := nodup_of (by rfl)))) (fun _ _ _ _ _ => mf_nil) (fun _ _ _ _ _ => (mcall B_is_number ok_is_number hr (man_cons (mv 0) (man_cons (mv 1) man_nil)))) (fr_cons ⟨_, rfl, rfl⟩ fr_nil)) man_nil))))))
noncomputable abbrev s_are_rooms : Stmt := top 9
noncomputable abbrev ps_are_rooms : List Str := ["thing"]
theorem sc_are_rooms : FnScope N_are_rooms ps_are_rooms (defScope s_are_rooms) := ⟨rfl, rfl, rfl, by decide +kernel, rfl, by decide +kernel, by decide +kernel⟩
theorem okf_are_rooms (T : Txt K mg) {f_is_number_tuple : Addr} {fd_is_number_tuple : FuncData} (B_is_number_tuple : FnAt K mg "is_number_tuple" s_is_number_tuple ps_is_number_tuple f_is_number_tuple fd_is_number_tuple) (ok_is_number_tuple : FnOk P w K mg base CX0 2 f_is_number_tuple fd_is_number_tuple ps_is_number_tuple (spM K 4 F_is_number_tuple)) {f : Addr} {fd : FuncData} (B : FnAt K mg "are_rooms" s_are_rooms ps_are_rooms f fd) : FnOk P w K mg base CX0 3 f fd ps_are_rooms (spM K 1 F_are_rooms) := by
  refine fnM B.fn sc_are_rooms rfl (fun cdv A outer s H E hr => ⟨p_are_rooms, ?_, fun _ _ _ _ _ e => e⟩)
  have hu := hr.units
  exact (mss_one (ms_ret (mcall B_is_number_tuple ok_is_number_tuple hr (man_cons (mv 0) (man_cons me_int (man_cons (me_gint T.c_MOST_NESTS) (man_cons (me_gint T.c_MOST_ROOM) man_nil)))))))
noncomputable abbrev s_are_keys : Stmt := top 12
noncomputable abbrev ps_are_keys : List Str := ["thing", "nests"]
theorem sc_are_keys : FnScope N_are_keys ps_are_keys (defScope s_are_keys) := ⟨rfl, rfl, rfl, by decide +kernel, rfl, by decide +kernel, by decide +kernel⟩
theorem okf_are_keys (T : Txt K mg) {f_is_tuple : Addr} {fd_is_tuple : FuncData} (B_is_tuple : FnAt K mg "is_tuple" s_is_tuple ps_is_tuple f_is_tuple fd_is_tuple) (ok_is_tuple : FnOk P w K mg base CX0 1 f_is_tuple fd_is_tuple ps_is_tuple (spM K 3 F_is_tuple)) {f_is_number_tuple : Addr} {fd_is_number_tuple : FuncData} (B_is_number_tuple : FnAt K mg "is_number_tuple" s_is_number_tuple ps_is_number_tuple f_is_number_tuple fd_is_number_tuple) (ok_is_number_tuple : FnOk P w K mg base CX0 2 f_is_number_tuple fd_is_number_tuple ps_is_number_tuple (spM K 4 F_is_number_tuple)) {f : Addr} {fd : FuncData} (B : FnAt K mg "are_keys" s_are_keys ps_are_keys f fd) : FnOk P w K mg base CX0 3 f fd ps_are_keys (spM K 2 F_are_keys) := by
  refine fnM B.fn sc_are_keys rfl (fun cdv A outer s H E hr => ⟨p_are_keys, ?_, fun _ _ _ _ _ e => e⟩)
  have hu := hr.units
  exact (mss_one (ms_ret (me_and (mcall B_is_tuple ok_is_tuple hr (man_cons (mv 0) (man_cons me_int (man_cons (me_gint T.c_MOST_KEYS) man_nil)))) (me_one (me_callB (callM_all rfl) T.n_all bb_all (man_cons (mlc ["key"] [1] (mi_seq (mv 0)) (fun _ _ _ _ _ => (mgc_name 0 (hN := nodup_of (by rfl)))) (fun _ _ _ _ _ => mf_nil) (fun _ _ _ _ _ => (mcall B_is_number_tuple ok_is_number_tuple hr (man_cons (mv 0) (man_cons me_int (man_cons me_int (man_cons (me_op opM_sub (mv 1) me_int) man_nil)))))) (fr_cons ⟨_, rfl, rfl⟩ fr_nil)) man_nil))))))
noncomputable abbrev s_is_web : Stmt := top 13
noncomputable abbrev ps_is_web : List Str := ["thing"]
theorem sc_is_web : FnScope N_is_web ps_is_web (defScope s_is_web) := ⟨rfl, rfl, rfl, by decide +kernel, rfl, by decide +kernel, by decide +kernel⟩
theorem okf_is_web (T : Txt K mg) {f_is_tuple : Addr} {fd_is_tuple : FuncData} (B_is_tuple : FnAt K mg "is_tuple" s_is_tuple ps_is_tuple f_is_tuple fd_is_tuple) (ok_is_tuple : FnOk P w K mg base CX0 1 f_is_tuple fd_is_tuple ps_is_tuple (spM K 3 F_is_tuple)) {f_are_rooms : Addr} {fd_are_rooms : FuncData} (B_are_rooms : FnAt K mg "are_rooms" s_are_rooms ps_are_rooms f_are_rooms fd_are_rooms) (ok_are_rooms : FnOk P w K mg base CX0 3 f_are_rooms fd_are_rooms ps_are_rooms (spM K 1 F_are_rooms)) {f_are_keys : Addr} {fd_are_keys : FuncData} (B_are_keys : FnAt K mg "are_keys" s_are_keys ps_are_keys f_are_keys fd_are_keys) (ok_are_keys : FnOk P w K mg base CX0 3 f_are_keys fd_are_keys ps_are_keys (spM K 2 F_are_keys)) {f : Addr} {fd : FuncData} (B : FnAt K mg "is_web" s_is_web ps_is_web f fd) : FnOk P w K mg base CX0 4 f fd ps_is_web (spM K 1 F_is_web) := by
  refine fnM B.fn sc_is_web rfl (fun cdv A outer s H E hr => ⟨p_is_web, ?_, fun _ _ _ _ _ e => e⟩)
  have hu := hr.units
  exact (mss_one (ms_ret (me_and (mcall B_is_tuple ok_is_tuple hr (man_cons (mv 0) (man_cons me_int (man_cons me_int man_nil)))) (me_and (mcall B_are_rooms ok_are_rooms hr (man_cons (me_ix (mv 0) me_int) man_nil)) (me_one (mcall B_are_keys ok_are_keys hr (man_cons (me_ix (mv 0) me_int) (man_cons (me_callB callM_len T.n_len bb_len (man_cons (me_ix (mv 0) me_int) man_nil)) man_nil))))))))
noncomputable abbrev s_read_nest : Stmt := top 23
noncomputable abbrev ps_read_nest : List Str := ["word"]
theorem sc_read_nest : FnScope N_read_nest ps_read_nest (defScope s_read_nest) := ⟨rfl, rfl, rfl, by decide +kernel, rfl, by decide +kernel, by decide +kernel⟩
theorem okf_read_nest (T : Txt K mg) {f : Addr} {fd : FuncData} (B : FnAt K mg "read_nest" s_read_nest ps_read_nest f fd) : FnOk P w K mg base CX0 1 f fd ps_read_nest (spM K 1 F_read_nest) := by
  refine fnM B.fn sc_read_nest rfl (fun cdv A outer s H E hr => ⟨p_read_nest, ?_, fun _ _ _ _ _ e => e⟩)
  have hu := hr.units
  exact (mss_cons (ms_if (MW.mt (mw_or (mt_cmp (opM_ne hu) (me_callB callM_lenS T.n_len bb_len (man_cons (mv 0) man_nil)) me_int) (mw_or1 (mt_cmp opM_notInS (mv 0) (me_gstr T.c_LETTERS))))) (mss_one ms_never) mss_nil) (mss_one (ms_ret (me_find (me_gstr T.c_LETTERS) (man_cons (mv 0) man_nil)))))
noncomputable abbrev s_read_homes : Stmt := top 25
noncomputable abbrev ps_read_homes : List Str := ["words"]
theorem sc_read_homes : FnScope N_read_homes ps_read_homes (defScope s_read_homes) := ⟨rfl, rfl, rfl, by decide +kernel, rfl, by decide +kernel, by decide +kernel⟩
theorem okf_read_homes (T : Txt K mg) {f_read_nest : Addr} {fd_read_nest : FuncData} (B_read_nest : FnAt K mg "read_nest" s_read_nest ps_read_nest f_read_nest fd_read_nest) (ok_read_nest : FnOk P w K mg base CX0 1 f_read_nest fd_read_nest ps_read_nest (spM K 1 F_read_nest)) {f : Addr} {fd : FuncData} (B : FnAt K mg "read_homes" s_read_homes ps_read_homes f fd) : FnOk P w K mg base CX0 2 f fd ps_read_homes (spM K 1 F_read_homes) := by
  refine fnM B.fn sc_read_homes rfl (fun cdv A outer s H E hr => ⟨p_read_homes, ?_, fun _ _ _ _ _ e => e⟩)
  have hu := hr.units
  exact (mss_one (ms_ret (me_callT callM_tuple T.n_tuple bb_tuple (man_cons (mlc ["word"] [] (mi_seq (me_split (mv 0) (man_cons me_str man_nil))) (fun _ _ _ _ _ => (mgc_name 0 (hN := nodup_of (by rfl)))) (fun _ _ _ _ _ => mf_nil) (fun _ _ _ _ _ => (mcall B_read_nest ok_read_nest hr (man_cons (mv 0) man_nil))) fr_nil) man_nil))))
noncomputable abbrev s_read_web : Stmt := top 26
noncomputable abbrev ps_read_web : List Str := ["text"]
theorem sc_read_web : FnScope N_read_web ps_read_web (defScope s_read_web) := ⟨rfl, rfl, rfl, by decide +kernel, rfl, by decide +kernel, by decide +kernel⟩
theorem okf_read_web (T : Txt K mg) {f_check_text : Addr} {fd_check_text : FuncData} (B_check_text : FnAt K mg "check_text" s_check_text ps_check_text f_check_text fd_check_text) (ok_check_text : FnOk P w K mg base CX0 1 f_check_text fd_check_text ps_check_text (spM K 1 F_check_text)) {f_read_numbers : Addr} {fd_read_numbers : FuncData} (B_read_numbers : FnAt K mg "read_numbers" s_read_numbers ps_read_numbers f_read_numbers fd_read_numbers) (ok_read_numbers : FnOk P w K mg base CX0 2 f_read_numbers fd_read_numbers ps_read_numbers (spM K 1 F_read_numbers)) {f_is_web : Addr} {fd_is_web : FuncData} (B_is_web : FnAt K mg "is_web" s_is_web ps_is_web f_is_web fd_is_web) (ok_is_web : FnOk P w K mg base CX0 4 f_is_web fd_is_web ps_is_web (spM K 1 F_is_web)) {f_read_homes : Addr} {fd_read_homes : FuncData} (B_read_homes : FnAt K mg "read_homes" s_read_homes ps_read_homes f_read_homes fd_read_homes) (ok_read_homes : FnOk P w K mg base CX0 2 f_read_homes fd_read_homes ps_read_homes (spM K 1 F_read_homes)) {f : Addr} {fd : FuncData} (B : FnAt K mg "read_web" s_read_web ps_read_web f fd) : FnOk P w K mg base CX0 5 f fd ps_read_web (spM K 1 F_read_web) := by
  refine fnM B.fn sc_read_web rfl (fun cdv A outer s H E hr => ⟨p_read_web, ?_, fun _ _ _ _ _ e => e⟩)
  have hu := hr.units
  exact (mss_cons (ms_expr (mcall B_check_text ok_check_text hr (man_cons (mv 0) man_nil))) (mss_cons (ms_set 1 (me_split (mv 0) (man_cons me_str man_nil)) (hN := sc_read_web.nd)) (mss_cons (ms_set 2 (me_tup (man_cons (mcall B_read_numbers ok_read_numbers hr (man_cons (me_ix (mv 1) me_int) man_nil)) (man_cons (me_callT callM_tuple T.n_tuple bb_tuple (man_cons (mlc ["piece"] [] (mi_seq (me_sl (mv 1) (mp_yes me_int) mp_no)) (fun _ _ _ _ _ => (mgc_name 0 (hN := nodup_of (by rfl)))) (fun _ _ _ _ _ => mf_nil) (fun _ _ _ _ _ => (mcall B_read_homes ok_read_homes hr (man_cons (mv 0) man_nil))) fr_nil) man_nil)) man_nil))) (hN := sc_read_web.nd)) (mss_cons (ms_if (mt_not (mt_val (mcall B_is_web ok_is_web hr (man_cons (mv 2) man_nil)))) (mss_one ms_never) mss_nil) (mss_one (ms_ret (mv 2)))))))
noncomputable abbrev s__law_is_web : Stmt := top 34
noncomputable abbrev ps__law_is_web : List Str := ["_law_found", "_law_web_here"]
theorem sc__law_is_web : FnScope N__law_is_web ps__law_is_web (defScope s__law_is_web) := ⟨rfl, rfl, rfl, by decide +kernel, rfl, by decide +kernel, by decide +kernel⟩
theorem okf__law_is_web (T : Txt K mg) {f : Addr} {fd : FuncData} (B : FnAt K mg "_law_is_web" s__law_is_web ps__law_is_web f fd) : FnOk P w K mg base CX0 1 f fd ps__law_is_web (spM K 2 F__law_is_web) := by
  refine fnM B.fn sc__law_is_web rfl (fun cdv A outer s H E hr => ⟨p__law_is_web, ?_, fun _ _ _ _ _ e => e⟩)
  have hu := hr.units
  exact (mss_cons (ms_if (MW.mt (mw_or (mt_not (mt_val (me_callB (callM_isi .tup) T.n_isinstance bb_isinstance (man_cons (mv 0) (man_cons (me_gty T.n_tuple bb_tuple) man_nil))))) (mw_or (mt_cmp (opM_ne hu) (mv 0) (mv 1)) (mw_or1 (mt_not (mt_val (me_callB (callM_isi .tup) T.n_isinstance bb_isinstance (man_cons (me_ix (mv 0) me_int) (man_cons (me_gty T.n_tuple bb_tuple) man_nil))))))))) (mss_one (ms_ret me_bl)) mss_nil) (mss_cons (ms_if (MW.mt (mw_or (mt_not (mt_val (me_callB (callM_isi .tup) T.n_isinstance bb_isinstance (man_cons (me_ix (mv 0) me_int) (man_cons (me_gty T.n_tuple bb_tuple) man_nil))))) (mw_or1 (mt_cmp (opM_ne hu) (mlc ["_law_key"] [] (mi_seq (me_ix (mv 0) me_int)) (fun _ _ _ _ _ => (mgc_name 0 (hN := nodup_of (by rfl)))) (fun _ _ _ _ _ => (mf_one (mt_not (mt_val (me_callB (callM_isi .tup) T.n_isinstance bb_isinstance (man_cons (mv 0) (man_cons (me_gty T.n_tuple bb_tuple) man_nil))))))) (fun _ _ _ _ _ => (mv 0)) fr_nil) (me_lst man_nil))))) (mss_one (ms_ret me_bl)) mss_nil) (mss_cons (ms_set 2 (me_callT callM_list T.n_list bb_list (man_cons (me_ix (mv 0) me_int) man_nil)) (hN := sc__law_is_web.nd)) (mss_cons (ms_for (mi_seq (me_ix (mv 0) me_int)) (mg_name 3 (hN := sc__law_is_web.nd)) (mss_one (ms_set 2 (me_op opM_add (mv 2) (me_callT callM_list T.n_list bb_list (man_cons (mv 3) man_nil))) (hN := sc__law_is_web.nd)))) (mss_one (ms_ret (me_cmp (opM_eq hu) (mlc ["_law_number"] [] (mi_seq (mv 2)) (fun _ _ _ _ _ => (mgc_name 0 (hN := nodup_of (by rfl)))) (fun _ _ _ _ _ => (mf_one (MW.mt (mw_or (mt_not (mt_val (me_callB (callM_isi .int) T.n_isinstance bb_isinstance (man_cons (mv 0) (man_cons (me_gty T.n_int bb_int) man_nil))))) (mw_or1 (mt_val (me_callB (callM_isi .bl) T.n_isinstance bb_isinstance (man_cons (mv 0) (man_cons (me_gty T.n_bool bb_bool) man_nil))))))))) (fun _ _ _ _ _ => (mv 0)) fr_nil) (me_lst man_nil))))))))
noncomputable abbrev s_law : Stmt := top 35
noncomputable abbrev ps_law : List Str := ["_law_script"]
theorem sc_law : FnScope N_law ps_law (defScope s_law) := ⟨rfl, rfl, rfl, by decide +kernel, rfl, by decide +kernel, by decide +kernel⟩
theorem okf_law (T : Txt K mg) {f__law_web : Addr} {fd__law_web : FuncData} (B__law_web : FnAt K mg "_law_web" s__law_web ps__law_web f__law_web fd__law_web) (ok__law_web : FnOk P w K mg base CX0 2 f__law_web fd__law_web ps__law_web (spM K 2 F__law_web)) {f__law_text : Addr} {fd__law_text : FuncData} (B__law_text : FnAt K mg "_law_text" s__law_text ps__law_text f__law_text fd__law_text) (ok__law_text : FnOk P w K mg base CX0 1 f__law_text fd__law_text ps__law_text (spM K 1 F__law_text)) {f_show_web : Addr} {fd_show_web : FuncData} (B_show_web : FnAt K mg "show_web" s_show_web ps_show_web f_show_web fd_show_web) (ok_show_web : FnOk P w K mg base CX0 2 f_show_web fd_show_web ps_show_web (spM K 1 F_show_web)) {f__law_pen : Addr} {fd__law_pen : FuncData} (B__law_pen : FnAt K mg "_law_pen" s__law_pen ps__law_pen f__law_pen fd__law_pen) (ok__law_pen : FnOk P w K mg base CX0 3 f__law_pen fd__law_pen ps__law_pen (spM K 2 F__law_pen)) {f_read_web : Addr} {fd_read_web : FuncData} (B_read_web : FnAt K mg "read_web" s_read_web ps_read_web f_read_web fd_read_web) (ok_read_web : FnOk P w K mg base CX0 5 f_read_web fd_read_web ps_read_web (spM K 1 F_read_web)) {f__law_is_web : Addr} {fd__law_is_web : FuncData} (B__law_is_web : FnAt K mg "_law_is_web" s__law_is_web ps__law_is_web f__law_is_web fd__law_is_web) (ok__law_is_web : FnOk P w K mg base CX0 1 f__law_is_web fd__law_is_web ps__law_is_web (spM K 2 F__law_is_web)) {f : Addr} {fd : FuncData} (B : FnAt K mg "law" s_law ps_law f fd) : FnOk P w K mg base CX0 6 f fd ps_law (spM K 1 F_law) := by
  refine fnM B.fn sc_law rfl (fun cdv A outer s H E hr => ⟨p_law, ?_, fun _ _ _ _ _ e => e⟩)
  have hu := hr.units
  exact (mss_cons (ms_for (mi_range T.n_range (man_cons me_int man_nil)) (mg_name 1 (hN := sc_law.nd)) (mss_cons (ms_set 2 (mcall B__law_web ok__law_web hr (man_cons (mcall B__law_pen ok__law_pen hr (man_cons (mv 0) (man_cons (mv 1) man_nil))) (man_cons me_int man_nil))) (hN := sc_law.nd)) (mss_cons (ms_set 3 (mcall B__law_text ok__law_text hr (man_cons (mv 2) man_nil)) (hN := sc_law.nd)) (mss_cons (ms_set 4 (mcall B_show_web ok_show_web hr (man_cons (mv 2) man_nil)) (hN := sc_law.nd)) (mss_cons (ms_if (MW.mt (mw_or (mt_not (mt_val (me_callB (callM_isi .str) T.n_isinstance bb_isinstance (man_cons (mv 4) (man_cons (me_gty T.n_str bb_str) man_nil))))) (mw_or (mt_cmp (opM_ne hu) (mv 4) (mv 3)) (mw_or1 (mt_not (mt_val (mcall B__law_is_web ok__law_is_web hr (man_cons (mcall B_read_web ok_read_web hr (man_cons (mv 3) man_nil)) (man_cons (mv 2) man_nil))))))))) (mss_one (ms_ret me_bl)) mss_nil) (mss_one (ms_if (mt_cmp (opM_ne hu) (mcall B_show_web ok_show_web hr (man_cons (mcall B_read_web ok_read_web hr (man_cons (mv 4) man_nil)) man_nil)) (mv 3)) (mss_one (ms_ret me_bl)) mss_nil))))))) (mss_one (ms_ret (me_and (me_cmp (opM_eq hu) (mcall B_show_web ok_show_web hr (man_cons (me_tup (man_cons (me_tup (man_cons me_int man_nil)) (man_cons (me_tup man_nil) man_nil))) man_nil)) me_str) (me_one (me_cmp (opM_eq hu) (mcall B_read_web ok_read_web hr (man_cons me_str man_nil)) (me_tup (man_cons (me_tup (man_cons me_int (man_cons me_int man_nil))) (man_cons (me_tup man_nil) man_nil)))))))))
end
end P
namespace P
open PySem PySem.Spec PyProof.Rows L2 M
set_option maxHeartbeats 4000000
theorem gEq_int {i j : Int} {μ : Mem} : gEq (.int i) (.int j) μ = some (.bl (i == j), μ) := by simp [gEq, toP, PyData.eqv]
theorem cut_post {xs : List D} {i : Nat} : M.cutD xs (some (i : Int)) none = xs.drop i := by
  unfold M.cutD
  rw [HT.sIx_none, HT.sIx_nat]
  rcases Nat.le_total i xs.length with h | h
  · rw [Nat.min_eq_left h, List.take_of_length_le (by simp)]
  · rw [Nat.min_eq_right h, Nat.sub_self, List.take_zero, List.drop_eq_nil_of_le h]
local macro_rules | `(tactic| walk_at "w") => `(tactic| first
  | refine w_then ?_ | refine w_set ?_ | refine w_asg ?_ | refine w_ret ?_ | refine w_expr ?_ | refine w_if ?_ | refine w_skip ?_ | refine w_for ?_
  | refine w_var rfl ?_ | refine w_c ?_ | refine w_bin ?_ | refine w_call ?_ | refine w_cons ?_ | refine w_nil ?_ | refine w_tup ?_ | refine w_lst ?_ | refine w_emp ?_ | refine w_pno ?_ | refine w_pyes ?_ | refine w_and ?_ | refine w_or ?_ | refine w_not ?_ | refine w_neg ?_ | refine w_meth ?_ | refine w_lc ?_ | refine w_lrange ?_ | refine w_ifE ?_
  | refine w_test ?_ | refine w_andT ?_ | refine w_orT ?_ | refine w_notT ?_ | refine w_yes ?_ | refine w_range ?_ | refine w_gn ?_ | refine w_gt2 ?_ | refine w_gt3 ?_ | refine w_gsc ?_ | refine w_gsn ?_
  | refine w_add ?_ | refine w_sub ?_ | refine w_mod (by first | decide | omega) ?_ | refine w_div (by first | decide | omega) (by first | decide | omega) ?_ | refine w_cmp ?_ | refine w_eqI ?_ | refine w_neI ?_ | refine w_isB ?_ | refine w_isNotB ?_ | refine w_pow (by decide) (by decide) (by decide) ?_ | refine w_intI ?_ | refine w_intB ?_ | refine w_min2 ?_ | refine w_max2 ?_
  | refine w_len rfl ?_ | refine w_list rfl ?_ | refine w_tuple rfl ?_ | with_reducible refine ⟨_, rfl, ?_⟩)
local macro_rules | `(tactic| walk_at "om") => `(tactic| first | omega | (simp only [List.length_map, List.length_range, Int.toNat_natCast, List.length_append, List.length_cons, List.length_nil] at *; omega) | (simp <;> omega))
theorem F_mixed {ns : List Int} {k : Int} {μ : Mem} (h0 : 0 ≤ k) (h1 : k ≤ 1000) : ∃ v, F__law_mixed [.fz (ns.map .int), .int k] μ = some (.int v, μ) := by
  have hk1 : -18446744073709551616 < k := by omega
  have hk2 : k < 18446744073709551616 := by omega
  by_cases hn : ns = []
  · subst hn
    simp [F__law_mixed, p__law_mixed, N__law_mixed, gMul, hk1, hk2]
  · have hl : 0 < ns.length := List.length_pos_iff.mpr hn
    have hl' : (0 : Int) < ns.length := by omega
    have hm0 : 0 ≤ k % (ns.length : Int) := Int.emod_nonneg _ (by omega)
    have hm1 : k % (ns.length : Int) < ns.length := Int.emod_lt_of_pos _ hl'
    have hi : (k % (ns.length : Int)).toNat < ns.length := by omega
    simp [F__law_mixed, p__law_mixed, N__law_mixed, gMul, hk1, hk2, hl, hl', hm0, hm1, atI, ixN, List.getElem?_eq_getElem hi]
theorem F_cell {ns : List Int} {k : Int} {μ : Mem} (h0 : 0 ≤ k) (h1 : k ≤ 1000) : ∃ v, F__law_cell_at [.fz (ns.map .int), .int k] μ = some (.int v, μ) := by
  by_cases h : k < ns.length
  · have hi : k.toNat < ns.length := by omega
    exact ⟨ns[k.toNat], by simp [F__law_cell_at, p__law_cell_at, N__law_cell_at, h, h0, atI, ixN, List.getElem?_eq_getElem hi]⟩
  · obtain ⟨v, e⟩ := F_mixed (ns := ns) (μ := μ) h0 h1
    exact ⟨v, by simp [F__law_cell_at, p__law_cell_at, N__law_cell_at, h, e]⟩
noncomputable def Pen (μ : Mem) (l : Nat) (B : Int) : Prop := ∃ f c n a : Int, μ[l]? = some (.lst [.int f, .int c, .int n, .int a]) ∧ 0 ≤ a ∧ a ≤ B
theorem Pen.mono {μ : Mem} {l : Nat} {B B' : Int} (h : Pen μ l B) (hb : B ≤ B') : Pen μ l B' := by
  obtain ⟨f, c, n, a, e, h0, h1⟩ := h
  exact ⟨f, c, n, a, e, h0, by omega⟩
theorem Pen.kb {μ μ' : Mem} {L : List Nat} {l : Nat} {B : Int} (h : Pen μ l B) (k : KB L μ μ') (hl : l ∉ L) : Pen μ' l B := by
  obtain ⟨f, c, n, a, e, h0, h1⟩ := h
  exact ⟨f, c, n, a, k.at_ _ _ hl e, h0, h1⟩
theorem Pen.app {μ g : Mem} {l : Nat} {B : Int} (h : Pen μ l B) : Pen (μ ++ g) l B := h.kb (L := []) (KB.refl.app) (by simp)
theorem Pen.lt {μ : Mem} {l : Nat} {B : Int} (h : Pen μ l B) : l < μ.length := by
  obtain ⟨f, c, n, a, e, _⟩ := h
  exact lt_of_get e
theorem wf_take {μ : Mem} {l : Nat} {B s : Int} {Q : D → Mem → Prop} (h : Pen μ l B) (hB : B ≤ 1000000000) (h0 : 0 < s) (h1 : s < 1606938044258990275541962092341162602522202993782792835301376)
    (q : ∀ v μ', 0 ≤ v → v < s → KB [l] μ μ' → μ'.length = μ.length → Pen μ' l (B + 1) → Q (.int v) μ') : WF F__law_take [.loc l, .int s] μ Q := by
  obtain ⟨f, c, n, a, e, ha, hb⟩ := h
  have hlt := lt_of_get e
  have kb : ∀ o, KB [l] μ (μ.set l o) := fun o => KB.refl.set (.inl (by simp))
  by_cases hf : f = 0
  · subst hf
    refine ⟨_, _, ?_, q (c % s) (μ.set l (.lst [.int 0, .int (c / s), .int n, .int a])) (Int.emod_nonneg _ (by omega)) (Int.emod_lt_of_pos _ h0) (kb _) (by simp) ⟨0, c / s, n, a, get_set_eq e, ha, by omega⟩⟩
    simp [F__law_take, p__law_take, N__law_take, e, atI, ixN, gEq_int, h0, h1]
  · have hf' : (f == 0) = false := by simpa using hf
    have e2 : (μ.set l (.lst [.int f, .int c, .int n, .int (a + 1)]))[l]? = some (.lst [.int f, .int c, .int n, .int (a + 1)]) := get_set_eq e
    have hm1 : -18446744073709551616 < a + 1 := by omega
    have hm2 : a + 1 < 18446744073709551616 := by omega
    refine ⟨_, _, ?_, q (((c % 2305843009213693951 * 48271 + (a + 1) * (a + 1) * 40692 + 7 * (a + 1) + 11) % 2147483647 * 1181783497276652981 % 2305843009213693951 / 64) % s) (μ.set l (.lst [.int f, .int c, .int n, .int (a + 1)])) (Int.emod_nonneg _ (by omega)) (Int.emod_lt_of_pos _ h0) (kb _) (by simp) ⟨f, c, n, a + 1, e2, by omega, by omega⟩⟩
    simp [F__law_take, p__law_take, N__law_take, e, e2, atI, ixN, gEq_int, hf', h0, h1, gMul, hm1, hm2, mulOk]
theorem wf_pen {ns : List Int} {k : Int} {μ : Mem} {Q : D → Mem → Prop} (h0 : 0 ≤ k) (h1 : k ≤ 1000) (q : ∀ μ', KB [] μ μ' → Pen μ' μ.length 101000 → μ'.length = μ.length + 1 → Q (.loc μ.length) μ') : WF F__law_pen [.fz (ns.map .int), .int k] μ Q := by
  obtain ⟨v, e⟩ := F_cell (ns := ns) (μ := μ) h0 h1
  refine w_def rfl ?_
  unfold p__law_pen
  repeat walk_at "w"
  refine ⟨_, _, e, ?_⟩
  repeat walk_at "w"
  refine w_mul (by unfold mulOk; simp) ?_
  repeat walk_at "w"
  refine q _ KB.refl.app ⟨_, _, _, _, get_new, by omega, by omega⟩ (by simp)
noncomputable abbrev tp (ns : List Int) : D := .tup (ns.map .int)
noncomputable abbrev wb (rooms : List Int) (ks : List (List Int)) : D := .tup [tp rooms, .tup (ks.map tp)]
structure WebA (L : Int) (rooms : List Int) (ks : List (List Int)) : Prop where
  rl : 1 ≤ rooms.length ∧ rooms.length ≤ 10
  rn : ∀ r ∈ rooms, 0 ≤ r
  kl : ks.length ≤ L
  kn : ∀ k ∈ ks, (2 ≤ k.length ∧ k.length ≤ 3) ∧ ∀ i ∈ k, 0 ≤ i ∧ i < rooms.length
theorem atI_at {ds : List D} {i : Int} (h0 : 0 ≤ i) (h1 : i < ds.length) : ∃ d, d ∈ ds ∧ ds[i.toNat]? = some d ∧ atI ds i = some d := by
  have hi : i.toNat < ds.length := by omega
  refine ⟨ds[i.toNat], List.getElem_mem hi, by simp [hi], ?_⟩
  have := atI_nat (xs := ds) (j := i.toNat) (v := ds[i.toNat]) (by simp [hi])
  rw [Int.toNat_of_nonneg h0] at this
  exact this
theorem ints_of {p : Int → Prop} : ∀ ds : List D, (∀ d ∈ ds, ∃ i : Int, d = .int i ∧ p i) → ∃ ns : List Int, ds = ns.map .int ∧ ∀ r ∈ ns, p r := fun ds => by
  induction ds with
  | nil => exact fun _ => ⟨[], rfl, by simp⟩
  | cons d ds ih =>
    intro h
    obtain ⟨ns, rfl, q⟩ := ih fun x hx => h x (List.mem_cons_of_mem _ hx)
    obtain ⟨i, rfl, hi⟩ := h d List.mem_cons_self
    exact ⟨i :: ns, rfl, by simp; exact ⟨hi, q⟩⟩
theorem wf_roomA {μ : Mem} {l : Nat} {B k : Int} {x : D} {Q : D → Mem → Prop} (h : Pen μ l B) (hB : B ≤ 1000000) (hk : 0 ≤ k ∧ k < 4)
    (q : ∀ i μ', 0 ≤ i ∧ i ≤ 9 → KB [l] μ μ' → Pen μ' l (B + 3) → Q (.int i) μ') : WE e__law_web_0 [some x, some (.loc l), some (.int k)] μ Q := by
  unfold e__law_web_0
  repeat walk_at "w"
  refine wf_take h (by omega) (by omega) (by omega) fun v1 μ1 a1 b1 k1 _ h1 => ?_
  repeat walk_at "w"
  refine wf_take h1 (by omega) (by omega) (by omega) fun v2 μ2 a2 b2 k2 _ h2 => ?_
  repeat walk_at "w"
  refine wf_take h2 (by omega) (by omega) (by omega) fun v3 μ3 a3 b3 k3 _ h3 => ?_
  repeat walk_at "w"
  obtain ⟨d, hm, _, ha⟩ := atI_at (ds := [.int v1, .int 1, .int v2, .int v3]) hk.1 (by simpa using hk.2)
  refine w_ix (items_loc get_new) ha ?_
  have fin : ∀ i : Int, 0 ≤ i ∧ i ≤ 9 → d = .int i → Q d (μ3 ++ [LObj.lst [.int v1, .int 1, .int v2, .int v3]]) := fun i hi e => by
    rw [e]
    exact q i _ hi ((k1.trans (k2.trans k3)).app) (h3.app.mono (by omega))
  simp only [List.mem_cons, List.not_mem_nil, or_false] at hm
  rcases hm with e | e | e | e
  · exact fin v1 (by omega) e
  · exact fin 1 (by omega) e
  · exact fin v2 (by omega) e
  · exact fin v3 (by omega) e
theorem ws_keyA {μ : Mem} {l kl : Nat} {B m : Int} {δ : M.Loc} {K9 z z2 R C : D} {y : Option D} {ks : List (List Int)} {nx : M.Loc → Mem → Prop} {rt : D → Mem → Prop} {bk ct : M.Loc → Mem → Prop} (h : Pen μ l B) (hB : B ≤ 1000000) (hm : 0 < m ∧ m ≤ 10) (hk : μ[kl]? = some (.lst (ks.map tp))) (hne : l ≠ kl) (hlen : ks.length ≤ 1000)
    (hδ : δ = [some (.loc l), some z, some (.int m), some K9, some R, some C, some (.loc kl), some z2, y])
    (q : ∀ y' μ' key, KB [l, kl] μ μ' → Pen μ' l (B + 4) → μ'[kl]? = some (.lst ((ks ++ [key]).map tp)) → (2 ≤ key.length ∧ key.length ≤ 3) → (∀ i ∈ key, 0 ≤ i ∧ i < m) → nx [some (.loc l), some z, some (.int m), some K9, some R, some C, some (.loc kl), some z2, y'] μ') :
    WS b__law_web_0 δ μ nx rt bk ct := by
  subst hδ
  have hkl := lt_of_get hk
  have hll := h.lt
  have kp : ∀ {a b : Mem}, KB [l] a b → KB [l, kl] a b := fun k => k.sub (by simp)
  unfold b__law_web_0
  repeat walk_at "w"
  refine wf_take h (by omega) (by omega) (by omega) fun v1 μ1 a1 b1 k1 e1 h1 => ?_
  repeat walk_at "w"
  refine wf_take h1 (by omega) (by omega) (by omega) fun v2 μ2 a2 b2 k2 e2 h2 => ?_
  repeat walk_at "w"
  refine wf_take (μ := μ2 ++ [LObj.lst [.int v1, .int v2]]) h2.app (by omega) (by omega) (by omega) fun v3 μ3 a3 b3 k3 e3 h3 => ?_
  have kl2 : μ2.length ≠ l := by omega
  have kl3 : kl ≠ μ2.length := by omega
  have g3 : μ3[μ2.length]? = some (.lst [.int v1, .int v2]) := k3.at_ _ _ (by simp; exact kl2) get_new
  have gk3 : μ3[kl]? = some (.lst (ks.map tp)) := k3.at_ _ _ (by simp; exact Ne.symm hne) (get_old' ((k1.trans k2).at_ _ _ (by simp; exact Ne.symm hne) hk))
  have kk : KB [l, kl] μ μ3 := (kp (k1.trans k2)).app.trans ((kp k3).sub (by simp)) 
  repeat walk_at "w"
  have fin : ∀ (key : List Int) (ν : Mem), KB [l, kl] μ ν → Pen ν l (B + 4) → ν[kl]? = some (.lst (ks.map tp)) → ν[μ2.length]? = some (.lst (key.map .int)) → (2 ≤ key.length ∧ key.length ≤ 3) → (∀ i ∈ key, 0 ≤ i ∧ i < m) →
      WS (sExpr (fMeth gAppend (fVar 6) (aCons (fCall gTuple (aCons (fVar 8) aNil)) aNil))) [some (.loc l), some z, some (.int m), some K9, some R, some C, some (.loc kl), some z2, some (.loc μ2.length)] ν nx rt bk ct := fun key ν kv pv g1 g2 hl hb => by
    repeat walk_at "w"
    refine ⟨_, _, rfl, g1, ?_⟩
    repeat walk_at "w"
    refine w_tuple (items_loc g2) ?_
    repeat walk_at "w"
    refine w_append g1 (by simp; omega) ?_
    refine q _ _ key (kv.set (.inl (by simp))) ?_ (by rw [get_set_eq g1]; simp) hl hb
    obtain ⟨f, c, n, a, e, h1⟩ := pv
    exact ⟨f, c, n, a, get_set_ne e (Ne.symm hne), h1⟩
  refine ⟨fun hb => ?_, fun hb => ?_⟩
  · repeat walk_at "w"
    refine ⟨_, _, rfl, g3, ?_⟩
    repeat walk_at "w"
    refine wf_take h3 (by omega) (by omega) (by omega) fun v4 μ4 a4 b4 k4 e4 h4 => ?_
    repeat walk_at "w"
    have g4 := k4.at_ _ _ (by simp; exact kl2) g3
    refine w_append g4 (by simp) ?_
    refine fin [v1, v2, v4] _ ((kk.trans (kp k4)).set (.inr (by omega))) ?_ (get_set_ne (k4.at_ _ _ (by simp; exact Ne.symm hne) gk3) (Ne.symm kl3)) (by rw [get_set_eq g4]; rfl) (by simp) (by simp; omega)
    obtain ⟨f, c, n, a, e, h1⟩ := h4
    exact ⟨f, c, n, a, get_set_ne e kl2, h1.1, by omega⟩
  · refine w_skip ?_
    exact fin [v1, v2] _ kk (h3.mono (by omega)) gk3 g3 (by simp) (by simp; omega)
theorem wf_webA {μ : Mem} {l : Nat} {B lim : Int} {Q : D → Mem → Prop} (h : Pen μ l B) (hB : B ≤ 200000) (hl0 : 0 ≤ lim) (hl1 : lim ≤ 100)
    (q : ∀ rooms ks μ', WebA lim rooms ks → (∀ r ∈ rooms, r ≤ 9) → KB [l] μ μ' → Pen μ' l (B + 1000) → Q (wb rooms ks) μ') : WF F__law_web [.loc l, .int lim] μ Q := by
  have rest : ∀ (m : Int) (ν : Mem), 1 ≤ m → m ≤ 10 → KB [l] μ ν → Pen ν l (B + 3) → WS (sSeq (sSet 3 (fCall F__law_take (aCons (fVar 0) (aCons (fC (.int 4)) aNil)))) (sSeq (sSet 4 (fCall gTuple (aCons (fLC 1 [0, 3] (iRange (aCons (fVar 2) aNil)) (gN 0) cYes e__law_web_0) aNil))) (sSeq (sSet 5 (fCall F__law_take (aCons (fVar 0) (aCons (fBin gAdd (fVar 1) (fC (.int 1))) aNil)))) (sSeq (sSet 6 (fLst aNil)) (sSeq (sFor (iRange (aCons (fVar 5) aNil)) (gN 7) b__law_web_0) (sRet (fTup (aCons (fVar 4) (aCons (fCall gTuple (aCons (fVar 6) aNil)) aNil)))))))))
      [some (.loc l), some (.int lim), some (.int m), none, none, none, none, none, none] ν (fun _ μ' => Q .non μ') Q (fun _ _ => False) (fun _ _ => False) := fun m ν hm0 hm1 kv pv => by
    repeat walk_at "w"
    refine wf_take pv (by omega) (by omega) (by omega) fun kd μ1 a1 b1 k1 e1 h1 => ?_
    repeat walk_at "w"
    refine ⟨by omega, by omega, few_of (by simp; omega), ?_⟩
    refine w_comp0 (fun i ys μ' => KB [l] μ1 μ' ∧ Pen μ' l (B + 4 + 3 * i) ∧ ys.length = i ∧ ∀ d ∈ ys, ∃ j : Int, d = .int j ∧ (0 ≤ j ∧ j ≤ 9)) ⟨.refl, by simpa using h1.mono (by omega), rfl, by simp⟩ (fun _ _ _ _ => rfl) ?_ ?_
    · rintro i x ys μ' hx ⟨k, p, hl, hy⟩
      obtain ⟨hi, rfl⟩ := range_at hx
      repeat walk_at "w"
      refine ⟨fun _ => ?_, fun hf => by cases hf⟩
      refine wf_roomA p (by omega) ⟨a1, b1⟩ fun j μ'' hj k' p' => ⟨k.trans k', p'.mono (by omega), by simp [hl], fun d hd => ?_⟩
      rcases List.mem_append.mp hd with hd | hd
      · exact hy d hd
      · exact ⟨j, by simpa using hd, hj⟩
    · rintro ys μ2 ⟨k2, p2, hl2, hy⟩
      obtain ⟨rooms, rfl, hr⟩ := ints_of ys hy
      simp only [List.length_map, List.length_range] at hl2 p2
      repeat walk_at "w"
      refine w_tuple (items_loc get_new) ?_
      repeat walk_at "w"
      refine wf_take (p2.app.mono (show _ ≤ B + 34 by omega)) (by omega) (by omega) (by omega) fun ct μ3 a3 b3 k3 e3 h3 => ?_
      repeat walk_at "w"
      refine ⟨by omega, by omega, ?_⟩
      have hne : l ≠ μ3.length := Nat.ne_of_lt h3.lt
      have kk : KB [l] μ μ3 := kv.trans (k1.trans (k2.app.trans k3))
      have hlen3 := kk.len
      refine w_loop0 (fun i δ μ' => ∃ (ks : List (List Int)) (x y : Option D), δ = [some (.loc l), some (.int lim), some (.int m), some (.int kd), some (tp rooms), some (.int ct), some (.loc μ3.length), x, y] ∧ μ'[μ3.length]? = some (.lst (ks.map tp)) ∧ ks.length = i ∧ (∀ k ∈ ks, (2 ≤ k.length ∧ k.length ≤ 3) ∧ ∀ i ∈ k, 0 ≤ i ∧ i < m) ∧ Pen μ' l (B + 35 + 4 * i) ∧ KB [l] μ μ') ?_ (fun _ _ _ _ => rfl) ?_ ?_
      · exact ⟨[], none, none, rfl, get_new, rfl, by simp, h3.app.mono (by omega), kk.app⟩
      · rintro i x δ μ' hx ⟨ks, y1, y2, rfl, g, hl, hk, p, kq⟩
        obtain ⟨hi, rfl⟩ := range_at hx
        refine w_gn ?_
        refine ws_keyA (ks := ks) (m := m) (kl := μ3.length) p (by omega) (by omega) g hne (by omega) rfl fun y' μ'' key k' p' g' hl' hb' => ?_
        refine ⟨ks ++ [key], _, y', rfl, g', by simp [hl], fun k hk' => ?_, p'.mono (by omega), kq.step k' (by simp; exact .inr hlen3)⟩
        · rcases List.mem_append.mp hk' with hk' | hk'
          · exact hk k hk'
          · rw [List.mem_singleton.mp hk']; exact ⟨hl', hb'⟩
      · rintro δ μ' ⟨ks, y1, y2, rfl, g, hl, hk, p, kq⟩
        simp only [List.length_map, List.length_range] at hl p
        repeat walk_at "w"
        refine w_tuple (items_loc g) ?_
        repeat walk_at "w"
        refine q rooms ks μ' ⟨by omega, fun r hr' => (hr r hr').1, by omega, fun k hk' => ⟨(hk k hk').1, fun i hi => ?_⟩⟩ (fun r hr' => (hr r hr').2) kq (p.mono (by omega))
        have := (hk k hk').2 i hi
        omega
  refine w_def rfl ?_
  unfold p__law_web
  repeat walk_at "w"
  refine wf_take h (by omega) (by omega) (by omega) fun v1 μ1 a1 b1 k1 e1 h1 => ?_
  repeat walk_at "w"
  refine wf_take h1 (by omega) (by omega) (by omega) fun v2 μ2 a2 b2 k2 e2 h2 => ?_
  repeat walk_at "w"
  refine ⟨fun hb => ?_, fun hb => ?_⟩
  · repeat walk_at "w"
    refine wf_take h2 (by omega) (by omega) (by omega) fun v3 μ3 a3 b3 k3 e3 h3 => ?_
    refine w_add ?_
    exact rest (7 + v3) _ (by omega) (by omega) (k1.trans (k2.trans k3)) (h3.mono (by omega))
  · refine w_skip ?_
    exact rest (1 + v1) _ (by omega) (by omega) (k1.trans k2) (h2.mono (by omega))
noncomputable abbrev tn (ns : List Nat) : D := .tup (nat ns)
noncomputable abbrev wn (R : List Nat) (K : List (List Nat)) : D := .tup [tn R, .tup (K.map tn)]
structure Wb (L : Nat) (R : List Nat) (K : List (List Nat)) : Prop where
  rl : 1 ≤ R.length ∧ R.length ≤ 10
  kl : K.length ≤ L
  kn : ∀ k ∈ K, (2 ≤ k.length ∧ k.length ≤ 3) ∧ ∀ h ∈ k, h < R.length
theorem nats_of : ∀ {ns : List Int}, (∀ n ∈ ns, 0 ≤ n) → ns.map D.int = nat (ns.map Int.toNat) := fun {ns} h => by
  rw [nat_map]
  refine List.map_congr_left fun n hn => ?_
  show D.int n = D.int (n.toNat : Nat)
  rw [Int.toNat_of_nonneg (h n hn)]
theorem Wb.of {L : Int} {rooms : List Int} {ks : List (List Int)} (w : WebA L rooms ks) : wb rooms ks = wn (rooms.map Int.toNat) (ks.map (·.map Int.toNat)) ∧ Wb L.toNat (rooms.map Int.toNat) (ks.map (·.map Int.toNat)) := by
  refine ⟨?_, ⟨by simpa using w.rl, by have := w.kl; simp; omega, fun k hk => ?_⟩⟩
  · show D.tup [.tup (rooms.map .int), .tup (ks.map tp)] = D.tup [.tup (nat _), .tup ((ks.map _).map tn)]
    rw [nats_of w.rn, List.map_map]
    congr 3
    refine congrArg D.tup (List.map_congr_left fun k hk => ?_)
    show D.tup (k.map .int) = D.tup (nat (k.map Int.toNat))
    rw [nats_of fun n hn => ((w.kn k hk).2 n hn).1]
  · obtain ⟨k', hk', rfl⟩ := List.mem_map.mp hk
    obtain ⟨h1, h2⟩ := w.kn k' hk'
    refine ⟨by simpa using h1, fun h hh => ?_⟩
    obtain ⟨i, hi, rfl⟩ := List.mem_map.mp hh
    have := h2 i hi
    rw [List.length_map]; omega
theorem w_rooms {R : List Nat} {K : List (List Nat)} {μ : Mem} {Q : D → Mem → Prop} (q : Q (tn R) μ) : W2 gIx (wn R K) (.int 0) μ Q := w_ix rfl (show atI [tn R, .tup (K.map tn)] 0 = some (tn R) from rfl) q
theorem w_keys {R : List Nat} {K : List (List Nat)} {μ : Mem} {Q : D → Mem → Prop} (q : Q (.tup (K.map tn)) μ) : W2 gIx (wn R K) (.int 1) μ Q := w_ix rfl (show atI [tn R, .tup (K.map tn)] 1 = some (.tup (K.map tn)) from rfl) q
noncomputable instance instEncPair {α β : Type} [Enc α] [Enc β] : Enc (α × β) := ⟨fun x => .tup [Enc.d x.1, Enc.d x.2], fun x => .tuple [Enc.p x.1, Enc.p x.2], Enc.dep α + Enc.dep β + 1, fun μ n x => by
    show (([Enc.d x.1, Enc.d x.2]).mapM (toP μ (n + (Enc.dep α + Enc.dep β)))).bind (fun ps => some (PyData.tuple ps)) = _
    have h1 : toP μ (n + (Enc.dep α + Enc.dep β)) (Enc.d x.1) = some (Enc.p x.1) := by
      rw [show n + (Enc.dep α + Enc.dep β) = n + Enc.dep β + Enc.dep α by omega]
      exact Enc.rd μ _ x.1
    have h2 : toP μ (n + (Enc.dep α + Enc.dep β)) (Enc.d x.2) = some (Enc.p x.2) := by
      rw [show n + (Enc.dep α + Enc.dep β) = n + Enc.dep α + Enc.dep β by omega]
      exact Enc.rd μ _ x.2
    rw [List.mapM_cons, List.mapM_cons, h1, h2]
    rfl, fun a b => by
    rw [PyData.eqv, PyData.eqvAll, PyData.eqvAll, PyData.eqvAll, Bool.and_eq_true, Bool.and_eq_true, Enc.eq, Enc.eq]
    constructor
    · rintro ⟨h1, h2, _⟩
      exact Prod.ext h1 h2
    · rintro rfl
      exact ⟨rfl, rfl, rfl⟩⟩
theorem w_eqW {R R' : List Nat} {K K' : List (List Nat)} {μ : Mem} {Q : D → Mem → Prop} (q : Q (.bl (decide ((R, K) = (R', K')))) μ) : W2 gEq (wn R K) (wn R' K') μ Q := w_eqE (R, K) (R', K') q
theorem w_neW {R R' : List Nat} {K K' : List (List Nat)} {μ : Mem} {Q : D → Mem → Prop} (q : Q (.bl (!decide ((R, K) = (R', K')))) μ) : W2 gNe (wn R K) (wn R' K') μ Q := w_neE (R, K) (R', K') q
theorem toP_str {s : Str} {μ : Mem} (h : PyData.strOk s = true) : toP μ 8 (.str s) = some (.str s) := by
  show (bif PyData.strOk s then some (PyData.str s) else none) = _
  rw [h]; rfl
theorem w_eqStr {a b : Str} {μ : Mem} {Q : D → Mem → Prop} (q : Q (.bl (PyData.eqv (.str a) (.str b))) μ) (ha : PyData.strOk a = true := by decide +kernel) (hb : PyData.strOk b = true := by decide +kernel) : W2 gEq (.str a) (.str b) μ Q := w_eq (toP_str ha) (toP_str hb) q
section
open PySem.Builtin PySem.Builtin.Str
theorem str_ext {a b : Str} (h : a.cps.toList = b.cps.toList) : a = b := Str.ext' (Array.toList_inj.mp h)
theorem cps_app (a b : Str) : (a ++ b).cps.toList = a.cps.toList ++ b.cps.toList := by
  rw [Str.cps_append, Array.toList_append]
theorem len_cps (a : Str) : a.length = a.cps.toList.length := (Array.length_toList ..).symm
theorem at_head {x y : Str} {c : Nat} {y' : List Nat} (hy : y.cps.toList = c :: y') {k : Nat} (h : StrLaws.At x y x.length k) : x.cps.toList[k]? = some c := by
  have h2 := h.2
  rw [StrLaws.subAt_eq, hy, len_cps y, hy] at h2
  have h3 := eq_of_beq h2
  have h4 := congrArg (fun l => l[0]?) h3
  simpa using h4
theorem at_mid {x y : Str} {r : List Nat} {k : Nat} (hk : k ≤ x.length) (h : x.cps.toList.drop k = y.cps.toList ++ r) : StrLaws.At x y x.length k := by
  refine ⟨?_, ?_⟩
  · have := congrArg List.length h
    rw [List.length_drop, List.length_append, ← len_cps, ← len_cps] at this
    omega
  · rw [StrLaws.subAt_eq, h, len_cps y, List.take_left]
    exact beq_self_eq_true _
theorem free_not {x y : Str} {c : Nat} {y' p r : List Nat} (hy : y.cps.toList = c :: y') {a d : Nat} (hd : x.cps.toList.drop a = p ++ r) (hp : c ∉ p) (h : StrLaws.At x y x.length d) (h1 : a ≤ d) : a + p.length ≤ d := by
  refine Nat.le_of_not_lt fun h2 => hp ?_
  have e := at_head hy h
  have e2 : (x.cps.toList.drop a)[d - a]? = some c := by
    rw [List.getElem?_drop, show a + (d - a) = d by omega]
    exact e
  rw [hd, List.getElem?_append_left (by omega)] at e2
  exact List.mem_of_getElem? e2
theorem join_cons (y p q : Str) (r : List Str) : (Str.join y (p :: q :: r)).cps.toList = p.cps.toList ++ (y.cps.toList ++ (Str.join y (q :: r)).cps.toList) := by
  show (p ++ y ++ Str.join y (q :: r)).cps.toList = _
  rw [cps_app, cps_app, List.append_assoc]
theorem parts_join (x y : Str) {c : Nat} {y' : List Nat} (hy : y.cps.toList = c :: y') : ∀ (parts : List Str) (a f : Nat) (cuts : List Nat), parts ≠ [] → (∀ p ∈ parts, c ∉ p.cps.toList) → a ≤ x.length →
    x.cps.toList.drop a = (Str.join y parts).cps.toList → StrLaws.ChainG x y x.length a cuts f → (∀ k, f ≤ k → ¬ StrLaws.At x y x.length k) → StrLaws.partsFrom x y.length a cuts = parts
  | [], _, _, _, h, _, _, _, _, _ => absurd rfl h
  | [p], a, f, cuts, _, hc, ha, hd, hG, hn => by
    have hd : x.cps.toList.drop a = p.cps.toList := hd
    have hpl : x.length = a + p.length := by
      have := congrArg List.length hd
      rw [List.length_drop, ← len_cps, ← len_cps] at this
      omega
    cases cuts with
    | nil =>
      show [strSub x a x.length] = [p]
      congr 1
      apply str_ext
      rw [StrLaws.strSub_toList, hd, List.take_of_length_le]
      rw [← len_cps]; omega
    | cons d r =>
      have h1 := free_not hy (r := []) (by rw [hd, List.append_nil]) (hc p (by simp)) hG.2.1 hG.1
      have h2 := hG.2.1.1
      have h3 : 1 ≤ y.length := by rw [len_cps, hy]; simp
      rw [← len_cps] at h1
      omega
  | p :: q :: r, a, f, cuts, _, hc, ha, hd, hG, hn => by
    rw [join_cons] at hd
    have e1 : x.cps.toList.drop (a + p.length) = y.cps.toList ++ (Str.join y (q :: r)).cps.toList := by
      rw [len_cps p, ← List.drop_drop, hd, List.drop_left]
    have hal : a + p.length ≤ x.length := by
      have := congrArg List.length hd
      rw [List.length_drop, List.length_append, ← len_cps, ← len_cps] at this
      omega
    have hA := at_mid hal e1
    have hl := hA.1
    cases cuts with
    | nil =>
      have e : f = a := hG
      exact absurd hA (hn _ (by omega))
    | cons d r' =>
      obtain ⟨g1, g2, g3, g4⟩ := hG
      have h1 := free_not hy hd (hc p (by simp)) g2 g1
      rw [← len_cps] at h1
      have h2 : d = a + p.length := by
        refine Nat.le_antisymm (Nat.le_of_not_lt fun h => g3 (a + p.length) (by omega) h hA) h1
      subst h2
      show strSub x a (a + p.length) :: StrLaws.partsFrom x y.length (a + p.length + y.length) r' = _
      congr 1
      · apply str_ext
        rw [StrLaws.strSub_toList, Nat.add_sub_cancel_left, hd, len_cps p, List.take_left]
      · refine parts_join x y hy (q :: r) _ f r' (by simp) (fun z hz => hc z (List.mem_cons_of_mem _ hz)) hl ?_ g4 hn
        rw [len_cps y, ← List.drop_drop, e1, List.drop_left]
theorem kind_low {y : Str} (h : y.cps.all (· < 256) = true) : PySem.Builtin.Str.strKind y = 1 := by
  unfold PySem.Builtin.Str.strKind
  rw [if_pos h]
theorem kind_pos (x : Str) : 1 ≤ PySem.Builtin.Str.strKind x := by
  unfold PySem.Builtin.Str.strKind
  split
  · exact Nat.le_refl _
  · split <;> omega
theorem split_join {y : Str} {c : Nat} {y' : List Nat} (hy : y.cps.toList = c :: y') (hk : y.cps.all (· < 256) = true) {parts : List Str} (h0 : parts ≠ []) (hc : ∀ p ∈ parts, c ∉ p.cps.toList) : Txt.split (Txt.join y parts) y = parts := by
  show Txt.split (glued y parts) y = parts
  rw [StrLaws.glued_eq_join]
  have hyl : 1 ≤ y.length := by rw [len_cps, hy]; simp
  obtain ⟨f, hG, hn⟩ := StrLaws.occ_tight (Str.join y parts) y hyl
  have key := parts_join (Str.join y parts) y hy parts 0 f _ h0 hc (Nat.zero_le _) rfl hG hn
  have one : StrLaws.partsFrom (Str.join y parts) y.length 0 [] = [Str.join y parts] := by
    show [strSub _ 0 _] = _
    rw [StrLaws.sub_whole]
  unfold Txt.split
  split
  · rename_i h
    rw [Bool.or_eq_true, decide_eq_true_eq, decide_eq_true_eq] at h
    have h1 : (Str.join y parts).length < y.length := by
      rcases h with h | h
      · exact h
      · have := kind_pos (Str.join y parts)
        rw [kind_low hk] at h
        omega
    match parts, h0 with
    | [p], _ => rfl
    | p :: q :: r, _ =>
      have := len_cps (Str.join y (p :: q :: r))
      rw [join_cons, List.length_append, List.length_append, ← len_cps, ← len_cps] at this
      omega
  · split
    · rename_i h
      rw [List.isEmpty_iff] at h
      rw [h, one] at key
      exact key
    · rw [StrLaws.partsBetween_eq]
      exact key
end
noncomputable def dg (n : Nat) : List Nat := (Nat.toDigits 10 n).map Char.toNat
theorem dg_lt {n : Nat} (h : n < 10) : dg n = [48 + n] := by
  unfold dg
  rw [Nat.toDigits_of_lt_base h]
  have : ∀ d : Nat, d < 10 → (Nat.digitChar d).toNat = 48 + d := by decide
  show [(Nat.digitChar n).toNat] = _
  rw [this n h]
theorem dg_ge {n : Nat} (h : 10 ≤ n) : dg n = dg (n / 10) ++ [48 + n % 10] := by
  have hm : n % 10 < 10 := Nat.mod_lt n (by decide)
  have t : Nat.toDigits 10 (n / 10) ++ Nat.toDigits 10 (n % 10) = Nat.toDigits 10 (10 * (n / 10) + n % 10) := Nat.toDigits_append_toDigits (by decide) (by omega) hm
  rw [Nat.div_add_mod] at t
  rw [← dg_lt hm]
  unfold dg
  rw [← t, List.map_append]
theorem dg_mem : ∀ (n c : Nat), c ∈ dg n → 48 ≤ c ∧ c ≤ 57 := fun n => by
  induction n using Nat.strongRecOn with
  | _ n ih =>
    intro c hc
    by_cases h : n < 10
    · rw [dg_lt h] at hc
      have := List.mem_singleton.mp hc
      omega
    · rw [dg_ge (by omega)] at hc
      rcases List.mem_append.mp hc with hc | hc
      · exact ih (n / 10) (by omega) c hc
      · have := List.mem_singleton.mp hc
        omega
theorem dg_ne (n : Nat) : dg n ≠ [] := by
  by_cases h : n < 10
  · rw [dg_lt h]; simp
  · rw [dg_ge (by omega)]; simp
theorem dg_head : ∀ n : Nat, 0 < n → (dg n)[0]? ≠ some 48 := fun n => by
  induction n using Nat.strongRecOn with
  | _ n ih =>
    intro h0
    by_cases h : n < 10
    · rw [dg_lt h]
      simp
      omega
    · rw [dg_ge (by omega), List.getElem?_append_left (List.length_pos_iff.mpr (dg_ne _))]
      exact ih (n / 10) (by omega) (by omega)
theorem dg_len : ∀ (k n : Nat), n < 10 ^ (k + 1) → (dg n).length ≤ k + 1
  | 0, n, h => by rw [dg_lt (by simpa using h)]; simp
  | k + 1, n, h => by
    by_cases h1 : n < 10
    · rw [dg_lt h1]; simp
    · rw [dg_ge (by omega), List.length_append]
      have := dg_len k (n / 10) (by rw [Nat.pow_succ] at h; omega)
      simp
      omega
noncomputable abbrev num (n : Nat) : Str := Str.ofString (toString (n : Int))
theorem num_cps (n : Nat) : (num n).cps.toList = dg n := PySem.W.KIN.signs_num n
theorem num_len {n : Nat} (h : n < 100000) : 1 ≤ (num n).length ∧ (num n).length ≤ 5 := by
  rw [len_cps, num_cps]
  exact ⟨List.length_pos_iff.mpr (dg_ne n), dg_len 4 n h⟩
theorem num_log {n : Nat} (h : n < 100000) : (n : Int).natAbs.log2 < 1920 := by
  show n.log2 < 1920
  by_cases h0 : n = 0
  · subst h0; decide
  · exact Nat.lt_trans ((Nat.log2_lt h0).mpr (show n < 2 ^ 17 by omega)) (by decide)
theorem num_low (n : Nat) : (num n).cps.all (· < 128) = true := by
  rw [← Array.all_toList, List.all_eq_true]
  intro c hc
  rw [num_cps] at hc
  have := dg_mem n c hc
  exact decide_eq_true (by omega)
theorem num_reads {n : Nat} (h : n < 100000) : intText? (num n) = some (n : Int) := PySem.W.KIN.num_reads (n := (n : Int)) (by omega) (by omega)
theorem fig_in {c : Nat} (h : 48 ≤ c ∧ c ≤ 57) : (PySem.Builtin.Str.occurrences "0123456789" ⟨#[c]⟩ 0 ("0123456789" : Str).length 1).isEmpty = false := by
  have e := StrLaws.found_one "0123456789" c
  have h2 : ∀ d : Nat, d < 10 → 48 + d ∈ ("0123456789" : Str).cps.toList := by decide +kernel
  rw [decide_eq_true (by have := h2 (c - 48) (by omega); rwa [show 48 + (c - 48) = c by omega] at this)] at e
  simpa using e
theorem fit {B : Nat} {z : Str} {ys : List Str} (h : ∀ y ∈ ys, y.length ≤ B) (hB : B ≤ 1000) (hl : ys.length ≤ 100) (hz : z.length ≤ 10) : (ys.map (·.length)).sum + ys.length * z.length ≤ 1000000 := by
  have h1 := StrLaws.sumLen_le ys h
  have h2 := Nat.mul_le_mul hl hB
  have h3 := Nat.mul_le_mul hl hz
  omega
theorem join_eq (z : Str) (ys : List Str) : Txt.join z ys = Str.join z ys := StrLaws.glued_eq_join z ys
theorem join_short {B : Nat} {z : Str} {ys : List Str} (h : ∀ y ∈ ys, y.length ≤ B) (hB : B ≤ 1000) (hl : ys.length ≤ 100) (hz : z.length ≤ 10) : (Txt.join z ys).length ≤ ys.length * B + ys.length * z.length := by
  have h1 := StrLaws.sumLen_le ys h
  have h2 := StrLaws.join_length_le z ys
  rw [join_eq]
  omega
theorem join_mem {z : Str} {c : Nat} : ∀ {ys : List Str}, c ∈ (Str.join z ys).cps.toList → c ∈ z.cps.toList ∨ ∃ y ∈ ys, c ∈ y.cps.toList
  | [], h => by simp [Str.join, Str.empty] at h
  | [y], h => .inr ⟨y, by simp, h⟩
  | y :: y2 :: r, h => by
    rw [join_cons, List.mem_append, List.mem_append] at h
    rcases h with h | h | h
    · exact .inr ⟨y, by simp, h⟩
    · exact .inl h
    · rcases join_mem h with h | ⟨p, hp, h⟩
      · exact .inl h
      · exact .inr ⟨p, List.mem_cons_of_mem _ hp, h⟩
theorem nums_free {c : Nat} (h : c < 48 ∨ 57 < c) {ns : List Nat} : ∀ p ∈ ns.map num, c ∉ p.cps.toList := fun p hp hc => by
  obtain ⟨n, _, rfl⟩ := List.mem_map.mp hp
  rw [num_cps] at hc
  have := dg_mem n c hc
  omega
theorem nums_short {ns : List Nat} (hn : ∀ n ∈ ns, n < 100000) : ∀ y ∈ ns.map num, y.length ≤ 5 := fun y hy => by
  obtain ⟨n, h, rfl⟩ := List.mem_map.mp hy
  exact (num_len (hn n h)).2
noncomputable abbrev numsT (ns : List Nat) : Str := Txt.join "," (ns.map num)
theorem numsT_len {ns : List Nat} (hl : ns.length ≤ 10) (hn : ∀ n ∈ ns, n < 100000) : (numsT ns).length ≤ 60 := by
  have := join_short (z := ",") (nums_short hn) (by decide) (by rw [List.length_map]; omega) (by decide)
  rw [List.length_map] at this
  have h1 : ("," : Str).length = 1 := rfl
  rw [h1] at this
  exact Nat.le_trans this (by omega)
theorem numsT_mem {ns : List Nat} {c : Nat} (h : c ∈ (numsT ns).cps.toList) : c = 44 ∨ (48 ≤ c ∧ c ≤ 57) := by
  rw [numsT, join_eq] at h
  rcases join_mem h with h | ⟨y, hy, h⟩
  · have e : ("," : Str).cps.toList = [44] := by decide +kernel
    rw [e] at h
    exact .inl (List.mem_singleton.mp h)
  · obtain ⟨n, _, rfl⟩ := List.mem_map.mp hy
    rw [num_cps] at h
    exact .inr (dg_mem n c h)
theorem wf_shownums {ns : List Nat} {μ : Mem} {Q : D → Mem → Prop} (hl : ns.length ≤ 100) (hn : ∀ n ∈ ns, n < 100000) (q : ∀ μ', Keep μ μ' → Q (.str (numsT ns)) μ') : WF F_show_numbers [tn ns] μ Q := by
  refine w_def rfl ?_
  show WS p_show_numbers [some (tn ns)] μ _ _ _ _
  unfold p_show_numbers
  refine w_ret (w_methS (w_c ⟨_, rfl, w_cons (w_lc (w_seq (w_var rfl (.inl ⟨_, rfl, few_of (by rw [List.length_map]; omega), ?_⟩))))⟩))
  refine w_mapE (fun (n : Nat) => D.int n) ns (fun n => .str (num n)) (fun _ _ => rfl) (fun n hn' μ' kp => ?_) (fun μ' kp => ?_)
  · refine w_gn ?_
    unfold e_show_numbers_0
    exact w_call (w_cons (w_var rfl (w_nil (w_strI (num_log (hn n hn')) ⟨rfl, kp, kp⟩))))
  · exact w_nil (w_join (ys := ns.map num) (by rw [get_new, List.map_map]; rfl) (fit (nums_short hn) (by decide) (by rw [List.length_map]; exact hl) (by decide)) (q _ kp.to))
theorem wf_readnum {n : Nat} {μ : Mem} {Q : D → Mem → Prop} (h : n < 100000) (q : ∀ μ', Keep μ μ' → Q (.int n) μ') : WF F_read_number [.str (num n)] μ Q := by
  obtain ⟨h1, h2⟩ := num_len h
  refine w_def rfl ?_
  show WS p_read_number [some (.str (num n))] μ _ _ _ _
  unfold p_read_number
  refine w_then (w_if (w_orT (w_test (w_bin (w_call (w_cons (w_var rfl (w_nil (w_lenS (by omega) (w_c (w_eqI ⟨_, rfl, fun _ => ?_, fun hb => ?_⟩)))))))))))
  rotate_left
  · have := eq_of_beq hb
    omega
  refine w_orT (w_test (w_bin (w_call (w_cons (w_var rfl (w_nil (w_lenS (by omega) (w_c (w_cmp ⟨_, rfl, fun _ => ?_, fun hb => ?_⟩)))))))))
  rotate_left
  · have := of_decide_eq_true hb
    omega
  refine w_test (w_call (w_cons (w_lc (w_iStr (w_var rfl ⟨_, rfl, num_low n, few_of (by unfold signsD; rw [List.length_map, ← len_cps]; omega), ?_⟩)))))
  refine w_mapE (fun (c : Nat) => D.str ⟨#[c]⟩) (num n).cps.toList (fun _ => .bl false) (fun _ _ => rfl) (fun c hc μ' kp => ?_) (fun μ' kp => ?_)
  · refine w_gn ?_
    unfold e_read_number_0
    rw [num_cps] at hc
    exact w_bin (w_var rfl (w_c (w_notInS ⟨by rw [fig_in (dg_mem n c hc)], kp, kp⟩)))
  refine w_nil (w_any (bs := (num n).cps.toList.map fun _ => false) (by rw [get_new, List.map_map]; rfl) ⟨_, rfl, fun hb => ?_, fun _ => w_skip ?_⟩)
  · rw [List.any_map] at hb
    simp at hb
  have k1 : Keep μ (μ' ++ [LObj.lst ((num n).cps.toList.map fun _ => D.bl false)]) := kp.to
  generalize μ' ++ [LObj.lst ((num n).cps.toList.map fun _ => D.bl false)] = μ1 at k1
  have fin : WS (sRet (fCall gIntS (aCons (fVar 0) aNil))) [some (.str (num n))] μ1 (fun _ μ' => Q .non μ') Q (fun _ _ => False) (fun _ _ => False) :=
    w_ret (w_call (w_cons (w_var rfl (w_nil (w_intS (num_reads h) (by omega) (q _ k1))))))
  obtain ⟨c0, r0, hd⟩ : ∃ c r, dg n = c :: r := by
    cases e : dg n with
    | nil => exact absurd e (dg_ne n)
    | cons c r => exact ⟨c, r, rfl⟩
  have hat : atI (num n).cps.toList ((0 : Nat) : Int) = some c0 := atI_nat (by rw [num_cps, hd]; rfl)
  have hlow : 48 ≤ c0 ∧ c0 ≤ 57 := dg_mem n c0 (by rw [hd]; simp)
  refine w_then (w_if (w_andT (w_test (w_bin (w_bin (w_var rfl (w_c (w_ixS (by omega) hat (w_c (w_eqStr ⟨_, rfl, fun hb => ?_, fun _ => ⟨fun hb => (by cases hb), fun _ => w_skip fin⟩⟩ (by show (#[c0] : Array Nat).all _ = true; simp; omega) (by decide +kernel)))))))))))
  have e0 : (⟨#[c0]⟩ : Str) = "0" := eq_of_beq (show ((⟨#[c0]⟩ : Str) == ("0" : Str)) = true from hb)
  have e1 : ("0" : Str).cps.toList = [48] := by decide +kernel
  have e2 : c0 = 48 := by
    have := congrArg (fun s : Str => s.cps.toList) e0
    dsimp only at this
    rw [e1] at this
    simpa using this
  have hn0 : n = 0 := by
    refine Nat.eq_zero_of_not_pos fun hp => dg_head n hp ?_
    rw [hd, e2]; rfl
  have hl1 : (num n).length = 1 := by rw [len_cps, num_cps, hn0]; rfl
  exact w_test (w_bin (w_call (w_cons (w_var rfl (w_nil (w_lenS (by omega) (w_c (w_cmp ⟨_, rfl, fun hb => by have := of_decide_eq_true hb; omega, fun _ => w_skip fin⟩))))))))
theorem one_len {y : Str} {c : Nat} {y' : List Nat} (hy : y.cps.toList = c :: y') : 1 ≤ y.length := by rw [len_cps, hy]; simp
theorem comma : ("," : Str).cps.toList = [44] := by decide +kernel
theorem wf_readnums {ns : List Nat} {μ : Mem} {Q : D → Mem → Prop} (h0 : ns ≠ []) (hl : ns.length ≤ 10) (hn : ∀ n ∈ ns, n < 100000) (q : ∀ μ', Keep μ μ' → Q (tn ns) μ') : WF F_read_numbers [.str (numsT ns)] μ Q := by
  have hlen := numsT_len hl hn
  have hs : (Txt.split (numsT ns) ",").map D.str = ns.map fun n => D.str (num n) := by
    rw [split_join comma (by decide +kernel) (by simpa using h0) (nums_free (by omega)), List.map_map]
    rfl
  refine w_def rfl ?_
  show WS p_read_numbers [some (.str (numsT ns))] μ _ _ _ _
  unfold p_read_numbers
  refine w_ret (w_call (w_cons (w_lc (w_seq (w_methS (w_var rfl ⟨_, rfl, w_cons (w_c (w_nil (w_split hs (by omega) (one_len comma) (.inr (.inr ⟨_, _, rfl, get_new, few_of (by rw [List.length_map]; omega), ?_⟩)))))⟩))))))
  refine w_mapE (fun n => D.str (num n)) ns (fun n => .int n) (fun μ' k => stays_of get_new k) (fun n hn' μ' kp => ?_) (fun μ' kp => ?_)
  · refine w_gn ?_
    unfold e_read_numbers_0
    exact w_call (w_cons (w_var rfl (w_nil (wf_readnum (hn n hn') fun μ'' k => ⟨rfl, kp.trans k, kp⟩))))
  · exact w_nil (w_tuple (items_loc get_new) (q _ (Keep.app.trans kp.to)))
theorem wf_checktext {z : Str} {μ : Mem} {Q : D → Mem → Prop} (q : Q .non μ) : WF F_check_text [.str z] μ Q := by
  refine w_def rfl ?_
  show WS p_check_text [some (.str z)] μ _ _ _ _
  unfold p_check_text
  exact w_if (w_notT (w_test (w_call (w_cons (w_var rfl (w_cons (w_c (w_nil (w_isiS ⟨_, rfl, fun h => (by cases h), fun _ => w_skip q⟩)))))))))
theorem wf_istup {ds : List D} {a b : Int} {μ : Mem} {Q : D → Mem → Prop} (ha : a ≤ ds.length) (hb : (ds.length : Int) ≤ b) (q : Q (.bl true) μ) : WF F_is_tuple [.tup ds, .int a, .int b] μ Q :=
  ⟨_, _, by simp [F_is_tuple, p_is_tuple, N_is_tuple, ha, hb] <;> rfl, q⟩
theorem wf_isnum {n : Nat} {m : Int} {μ : Mem} {Q : D → Mem → Prop} (h : (n : Int) ≤ m) (q : Q (.bl true) μ) : WF F_is_number [.int n, .int m] μ Q :=
  ⟨_, _, by simp [F_is_number, p_is_number, N_is_number, h] <;> rfl, q⟩
theorem all_true {α : Type} (l : List α) : (l.map fun _ => true).all (fun b => b) = true := by simp
theorem wf_isnumtup {ns : List Nat} {a b m : Int} {μ : Mem} {Q : D → Mem → Prop} (ha : a ≤ ns.length) (hb : (ns.length : Int) ≤ b) (hl : ns.length ≤ 1000) (hn : ∀ n ∈ ns, (n : Int) ≤ m) (q : ∀ μ', Keep μ μ' → Q (.bl true) μ') : WF F_is_number_tuple [tn ns, .int a, .int b, .int m] μ Q := by
  refine w_def rfl ?_
  show WS p_is_number_tuple [some (tn ns), some (.int a), some (.int b), some (.int m)] μ _ _ _ _
  unfold p_is_number_tuple
  refine w_ret (w_and (w_call (w_cons (w_var rfl (w_cons (w_var rfl (w_cons (w_var rfl (w_nil (wf_istup (by rw [List.length_map]; exact ha) (by rw [List.length_map]; exact hb) ⟨_, rfl, fun _ => ?_, fun h => (by cases h)⟩))))))))))
  refine w_call (w_cons (w_lc (w_seq (w_var rfl (.inl ⟨_, rfl, few_of (by rw [List.length_map]; omega), ?_⟩)))))
  refine w_mapE (fun (h : Nat) => D.int h) ns (fun _ => .bl true) (fun _ _ => rfl) (fun n hn' μ' kp => ?_) (fun μ' kp => ?_)
  · refine w_gn ?_
    unfold e_is_number_tuple_0
    exact w_call (w_cons (w_var rfl (w_cons (w_var rfl (w_nil (wf_isnum (hn n hn') ⟨rfl, kp, kp⟩))))))
  · exact w_nil (w_all (bs := ns.map fun _ => true) (by rw [get_new, List.map_map]; rfl) (by rw [all_true]; exact q _ kp.to))
theorem wf_arerooms {ns : List Nat} {μ : Mem} {Q : D → Mem → Prop} (h : 1 ≤ ns.length ∧ ns.length ≤ 10) (hn : ∀ n ∈ ns, n ≤ 9) (q : ∀ μ', Keep μ μ' → Q (.bl true) μ') : WF F_are_rooms [tn ns] μ Q := by
  refine w_def rfl ?_
  show WS p_are_rooms [some (tn ns)] μ _ _ _ _
  unfold p_are_rooms
  exact w_ret (w_call (w_cons (w_var rfl (w_cons (w_c (w_cons (w_c (w_cons (w_c (w_nil (wf_isnumtup (by omega) (by omega) (by omega) (fun n hn' => by have := hn n hn'; omega) q)))))))))))
noncomputable abbrev lt (h : Nat) : Str := ⟨#[97 + h]⟩
noncomputable abbrev homesT (k : List Nat) : Str := Txt.join " " (k.map lt)
noncomputable abbrev webT (R : List Nat) (K : List (List Nat)) : Str := Txt.join "; " (numsT R :: K.map homesT)
theorem blank : (" " : Str).cps.toList = [32] := by decide +kernel
theorem semi : ("; " : Str).cps.toList = [59, 32] := by decide +kernel
theorem lts_short {k : List Nat} : ∀ y ∈ k.map lt, y.length ≤ 1 := fun y hy => by
  obtain ⟨n, _, rfl⟩ := List.mem_map.mp hy
  exact Nat.le_refl 1
theorem homesT_len {k : List Nat} (hl : k.length ≤ 3) : (homesT k).length ≤ 6 := by
  have := join_short (z := " ") (lts_short (k := k)) (by decide) (by rw [List.length_map]; omega) (by decide)
  rw [List.length_map] at this
  have h1 : (" " : Str).length = 1 := rfl
  rw [h1] at this
  exact Nat.le_trans this (by omega)
theorem lt_cps (h : Nat) : (lt h).cps.toList = [97 + h] := rfl
theorem homesT_mem {k : List Nat} {c : Nat} (h : c ∈ (homesT k).cps.toList) : c = 32 ∨ 97 ≤ c := by
  rw [homesT, join_eq] at h
  rcases join_mem h with h | ⟨y, hy, h⟩
  · rw [blank] at h
    exact .inl (List.mem_singleton.mp h)
  · obtain ⟨n, _, rfl⟩ := List.mem_map.mp hy
    rw [lt_cps] at h
    have := List.mem_singleton.mp h
    exact .inr (by omega)
theorem lts_free {k : List Nat} : ∀ p ∈ k.map lt, 32 ∉ p.cps.toList := fun p hp hc => by
  obtain ⟨n, _, rfl⟩ := List.mem_map.mp hp
  rw [lt_cps] at hc
  have := List.mem_singleton.mp hc
  omega
theorem pieces_free {R : List Nat} {K : List (List Nat)} : ∀ p ∈ numsT R :: K.map homesT, 59 ∉ p.cps.toList := fun p hp hc => by
  rcases List.mem_cons.mp hp with rfl | hp
  · have := numsT_mem hc
    omega
  · obtain ⟨k, _, rfl⟩ := List.mem_map.mp hp
    have := homesT_mem hc
    omega
structure Wr (R : List Nat) (K : List (List Nat)) : Prop where
  rl : 1 ≤ R.length ∧ R.length ≤ 10
  rn : ∀ r ∈ R, r ≤ 9
  kl : K.length ≤ 30
  kn : ∀ k ∈ K, (2 ≤ k.length ∧ k.length ≤ 3) ∧ ∀ h ∈ k, h < R.length
theorem Wr.num {R : List Nat} {K : List (List Nat)} (w : Wr R K) : ∀ r ∈ R, r < 100000 := fun r h => by have := w.rn r h; omega
theorem Wr.short {R : List Nat} {K : List (List Nat)} (w : Wr R K) : ∀ y ∈ numsT R :: K.map homesT, y.length ≤ 60 := fun y hy => by
  rcases List.mem_cons.mp hy with rfl | hy
  · exact numsT_len w.rl.2 w.num
  · obtain ⟨k, hk, rfl⟩ := List.mem_map.mp hy
    exact Nat.le_trans (homesT_len (w.kn k hk).1.2) (by decide)
theorem Wr.fit {R : List Nat} {K : List (List Nat)} (w : Wr R K) : ((numsT R :: K.map homesT).map (·.length)).sum + (numsT R :: K.map homesT).length * ("; " : Str).length ≤ 1000000 :=
  P.fit w.short (by decide) (by have := w.kl; rw [List.length_cons, List.length_map]; omega) (by decide)
theorem Wr.len {R : List Nat} {K : List (List Nat)} (w : Wr R K) : (webT R K).length ≤ 1000000 := by
  have h1 := w.kl
  have h2 := join_short (z := "; ") w.short (by decide) (by rw [List.length_cons, List.length_map]; omega) (by decide)
  rw [List.length_cons, List.length_map] at h2
  have h3 : ("; " : Str).length = 2 := rfl
  rw [h3] at h2
  exact Nat.le_trans h2 (by omega)
theorem all_low {s : Str} (h : ∀ c ∈ s.cps.toList, c < 128) : PyData.strOk s = true := by
  show s.cps.all _ = true
  rw [← Array.all_toList, List.all_eq_true]
  exact fun c hc => decide_eq_true (Nat.lt_trans (h c hc) (by decide))
theorem Wr.ok {R : List Nat} {K : List (List Nat)} (w : Wr R K) : PyData.strOk (webT R K) = true := by
  refine all_low fun c hc => ?_
  rw [webT, join_eq] at hc
  rcases join_mem hc with h | ⟨y, hy, h⟩
  · rw [semi] at h
    simp at h
    omega
  · rcases List.mem_cons.mp hy with rfl | hy
    · have := numsT_mem h
      omega
    · obtain ⟨k, hk, rfl⟩ := List.mem_map.mp hy
      rw [homesT, join_eq] at h
      rcases join_mem h with h | ⟨z, hz, h⟩
      · rw [blank] at h
        have := List.mem_singleton.mp h
        omega
      · obtain ⟨n, hn, rfl⟩ := List.mem_map.mp hz
        rw [lt_cps] at h
        have := List.mem_singleton.mp h
        have h4 := (w.kn k hk).2 n hn
        have h5 := w.rl
        omega
theorem w_neSame {s : Str} {μ : Mem} {Q : D → Mem → Prop} (h : PyData.strOk s = true) (q : Q (.bl false) μ) : W2 gNe (.str s) (.str s) μ Q := w_neS (toP_str h) (toP_str h) q
theorem fig_at : ∀ r : Nat, r < 10 → atI ("0123456789" : Str).cps.toList ((r : Nat) : Int) = some (48 + r) := by decide +kernel
theorem fig_num {r : Nat} (h : r < 10) : (⟨#[48 + r]⟩ : Str) = num r := str_ext (by rw [num_cps, dg_lt h])
theorem ten_at : ∀ r : Nat, r < 10 → atI ("abcdefghij" : Str).cps.toList ((r : Nat) : Int) = some (97 + r) := by decide +kernel
theorem all_at : ∀ r : Nat, r < 10 → atI ("abcdefghijklmnopqrstuvwxyz" : Str).cps.toList ((r : Nat) : Int) = some (97 + r) := by decide +kernel
theorem wf_lawtext {R : List Nat} {K : List (List Nat)} {μ : Mem} {Q : D → Mem → Prop} (w : Wr R K) (q : ∀ μ', Keep μ μ' → Q (.str (webT R K)) μ') : WF F__law_text [wn R K] μ Q := by
  have hrl := w.rl
  have hkl := w.kl
  refine w_def rfl ?_
  show WS p__law_text [some (wn R K), none, none] μ _ _ _ _
  unfold p__law_text
  refine w_then (w_set (w_lst (w_cons (w_methS (w_c ⟨_, rfl, w_cons (w_lc (w_seq (w_bin (w_var rfl (w_c (w_rooms (.inl ⟨_, rfl, few_of (by rw [List.length_map]; omega), ?_⟩)))))))⟩)))))
  refine w_mapE (fun (n : Nat) => D.int n) R (fun n => .str (num n)) (fun _ _ => rfl) (fun n hn' μ' kp => ?_) (fun μ' kp => ?_)
  · refine w_gn ?_
    unfold e__law_text_1
    have hr : n < 10 := by have := w.rn n hn'; omega
    exact w_bin (w_c (w_var rfl (w_ixS (by decide) (fig_at n hr) ⟨by rw [fig_num hr], kp, kp⟩)))
  refine w_nil (w_join (ys := R.map num) (by rw [get_new, List.map_map]; rfl) (fit (nums_short w.num) (by decide) (by rw [List.length_map]; omega) (by decide)) (w_nil ?_))
  have k1 : Keep μ (μ' ++ [LObj.lst (R.map fun n => D.str (num n))]) := kp.to
  generalize μ' ++ [LObj.lst (R.map fun n => D.str (num n))] = μ1 at k1
  refine w_then (w_for (w_seq (w_bin (w_var rfl (w_c (w_keys (.inl ⟨_, rfl, ?_⟩)))))))
  refine w_loop0 (fun i δ ν => ∃ x : Option D, δ = [some (wn R K), some (.loc μ1.length), x] ∧ ν[μ1.length]? = some (.lst ((numsT R :: (K.take i).map homesT).map D.str)) ∧ Keep μ1 ν) ⟨_, rfl, by rw [get_new]; rfl, .app⟩ (fun _ _ _ _ => rfl) ?_ ?_
  · rintro i z δ ν hz ⟨x, rfl, g, k⟩
    rw [List.getElem?_map] at hz
    cases er : K[i]? with
    | none => rw [er] at hz; cases hz
    | some key =>
      rw [er] at hz
      cases hz
      obtain ⟨hk3, hkn⟩ := w.kn key (List.mem_of_getElem? er)
      refine w_gn ?_
      unfold b__law_text_0
      refine w_expr (w_meth (w_var rfl ⟨_, _, rfl, g, w_cons (w_methS (w_c ⟨_, rfl, w_cons (w_lc (w_seq (w_var rfl (.inl ⟨_, rfl, few_of (by rw [List.length_map]; omega), ?_⟩))))⟩))⟩))
      refine w_mapE (fun (n : Nat) => D.int n) key (fun n => .str (lt n)) (fun _ _ => rfl) (fun n hn' μ' kp => ?_) (fun μ' kp => ?_)
      · refine w_gn ?_
        unfold e__law_text_0
        exact w_bin (w_c (w_var rfl (w_ixS (by decide) (ten_at n (by have := hkn n hn'; omega)) ⟨rfl, kp, kp⟩)))
      have g2 := kp.to (g := [LObj.lst (key.map fun n => D.str (lt n))]) _ _ g
      refine w_nil (w_join (ys := key.map lt) (by rw [get_new, List.map_map]; rfl) (fit lts_short (by decide) (by rw [List.length_map]; omega) (by decide)) (w_nil (w_append g2 (by simp; omega) ⟨_, rfl, ?_, ?_⟩)))
      · rw [get_set_eq g2]
        have e : K.take (i + 1) = K.take i ++ [key] := by rw [List.take_succ, er]; rfl
        rw [e, List.map_append, ← List.cons_append, List.map_append]
        rfl
      · intro n o ho
        have hlt := lt_of_get ho
        exact get_set_ne (kp.to _ _ (k n o ho)) (by omega)
  · rintro δ ν ⟨x, rfl, g, k⟩
    rw [List.length_map, List.take_length] at g
    exact w_ret (w_methS (w_c ⟨_, rfl, w_cons (w_var rfl (w_nil (w_join g w.fit (q _ (k1.trans k)))))⟩))
theorem wf_showhomes {k : List Nat} {μ : Mem} {Q : D → Mem → Prop} (hl : k.length ≤ 3) (hk : ∀ h ∈ k, h < 10) (q : ∀ μ', Keep μ μ' → Q (.str (homesT k)) μ') : WF F_show_homes [tn k] μ Q := by
  refine w_def rfl ?_
  show WS p_show_homes [some (tn k)] μ _ _ _ _
  unfold p_show_homes
  refine w_ret (w_methS (w_c ⟨_, rfl, w_cons (w_lc (w_seq (w_var rfl (.inl ⟨_, rfl, few_of (by rw [List.length_map]; omega), ?_⟩))))⟩))
  refine w_mapE (fun (n : Nat) => D.int n) k (fun n => .str (lt n)) (fun _ _ => rfl) (fun n hn' μ' kp => ?_) (fun μ' kp => ?_)
  · refine w_gn ?_
    unfold e_show_homes_0
    exact w_bin (w_c (w_var rfl (w_ixS (by decide) (all_at n (hk n hn')) ⟨rfl, kp, kp⟩)))
  · exact w_nil (w_join (ys := k.map lt) (by rw [get_new, List.map_map]; rfl) (fit lts_short (by decide) (by rw [List.length_map]; omega) (by decide)) (q _ kp.to))
theorem wf_showweb {R : List Nat} {K : List (List Nat)} {μ : Mem} {Q : D → Mem → Prop} (w : Wr R K) (q : ∀ μ', Keep μ μ' → Q (.str (webT R K)) μ') : WF F_show_web [wn R K] μ Q := by
  have hrl := w.rl
  have hkl := w.kl
  refine w_def rfl ?_
  show WS p_show_web [some (wn R K)] μ _ _ _ _
  unfold p_show_web
  refine w_ret (w_methS (w_c ⟨_, rfl, w_cons (w_bin (w_lst (w_cons (w_call (w_cons (w_bin (w_var rfl (w_c (w_rooms (w_nil ?_))))))))))⟩))
  refine wf_shownums (by omega) w.num fun μ1 k1 => w_nil ?_
  refine w_lc (w_seq (w_bin (w_var rfl (w_c (w_keys (.inl ⟨_, rfl, few_of (by rw [List.length_map]; omega), ?_⟩))))))
  refine w_mapE tn K (fun k => .str (homesT k)) (fun _ _ => rfl) (fun k hk μ' kp => ?_) (fun μ' kp => ?_)
  · obtain ⟨hk3, hkn⟩ := w.kn k hk
    refine w_gn ?_
    unfold e_show_web_0
    exact w_call (w_cons (w_var rfl (w_nil (wf_showhomes hk3.2 (fun h hh => by have := hkn h hh; omega) fun μ2 k2 => ⟨rfl, kp.trans k2, kp⟩))))
  have g1 : (μ' ++ [LObj.lst (K.map fun k => D.str (homesT k))])[μ1.length]? = some (.lst [D.str (numsT R)]) := get_old' (kp _ _ get_new)
  refine w_addL g1 get_new (by simp; omega) (w_nil (w_join (ys := numsT R :: K.map homesT) ?_ w.fit (q _ ?_)))
  · rw [get_new, List.map_cons, List.map_map]
    rfl
  · exact (k1.trans (Keep.app.trans kp.to)).to
theorem letter_in {h : Nat} (hh : h < 10) : (PySem.Builtin.Str.occurrences "abcdefghijklmnopqrstuvwxyz" (lt h) 0 ("abcdefghijklmnopqrstuvwxyz" : Str).length 1).isEmpty = false := by
  have e := StrLaws.found_one "abcdefghijklmnopqrstuvwxyz" (97 + h)
  have h2 : ∀ d : Nat, d < 10 → 97 + d ∈ ("abcdefghijklmnopqrstuvwxyz" : Str).cps.toList := by decide +kernel
  rw [decide_eq_true (h2 h hh)] at e
  simpa using e
theorem letter_find : ∀ h : Nat, h < 10 → Txt.find "abcdefghijklmnopqrstuvwxyz" (lt h) = (h : Int) := by
  unfold Txt.find
  simp only [StrLaws.occ_eq]
  decide +kernel
theorem wf_readnest {h : Nat} {μ : Mem} {Q : D → Mem → Prop} (hh : h < 10) (q : Q (.int h) μ) : WF F_read_nest [.str (lt h)] μ Q := by
  refine w_def rfl ?_
  show WS p_read_nest [some (.str (lt h))] μ _ _ _ _
  unfold p_read_nest
  refine w_then (w_if (w_orT (w_test (w_bin (w_call (w_cons (w_var rfl (w_nil (w_lenS (by show 1 ≤ 1000000; decide) (w_c (w_neI ⟨_, rfl, fun _ => ?_, fun hb => ?_⟩)))))))))))
  rotate_left
  · exact absurd (show (!((1 : Int) == 1)) = true from hb) (by decide)
  refine w_test (w_bin (w_var rfl (w_c (w_notInS ⟨_, rfl, fun hb => ?_, fun _ => w_skip ?_⟩))))
  · rw [letter_in hh] at hb
    cases hb
  · refine w_ret (w_methS (w_c ⟨_, rfl, w_cons (w_var rfl (w_nil (w_find ?_)))⟩))
    rw [letter_find h hh]
    exact q
theorem wf_readhomes {k : List Nat} {μ : Mem} {Q : D → Mem → Prop} (h0 : 2 ≤ k.length ∧ k.length ≤ 3) (hk : ∀ h ∈ k, h < 10) (q : ∀ μ', Keep μ μ' → Q (tn k) μ') : WF F_read_homes [.str (homesT k)] μ Q := by
  have hlen := homesT_len h0.2
  have hs : (Txt.split (homesT k) " ").map D.str = k.map fun n => D.str (lt n) := by
    rw [split_join blank (by decide +kernel) (fun e => by rw [List.map_eq_nil_iff.mp e] at h0; simp at h0) lts_free, List.map_map]
    rfl
  refine w_def rfl ?_
  show WS p_read_homes [some (.str (homesT k))] μ _ _ _ _
  unfold p_read_homes
  refine w_ret (w_call (w_cons (w_lc (w_seq (w_methS (w_var rfl ⟨_, rfl, w_cons (w_c (w_nil (w_split hs (by omega) (one_len blank) (.inr (.inr ⟨_, _, rfl, get_new, few_of (by rw [List.length_map]; omega), ?_⟩)))))⟩))))))
  refine w_mapE (fun n => D.str (lt n)) k (fun n => .int n) (fun μ' k => stays_of get_new k) (fun n hn' μ' kp => ?_) (fun μ' kp => ?_)
  · refine w_gn ?_
    unfold e_read_homes_0
    exact w_call (w_cons (w_var rfl (w_nil (wf_readnest (hk n hn') ⟨rfl, kp, kp⟩))))
  · exact w_nil (w_tuple (items_loc get_new) (q _ (Keep.app.trans kp.to)))
theorem wf_arekeys {R : List Nat} {K : List (List Nat)} {μ : Mem} {Q : D → Mem → Prop} (w : Wr R K) (q : ∀ μ', Keep μ μ' → Q (.bl true) μ') : WF F_are_keys [.tup (K.map tn), .int (R.length : Nat)] μ Q := by
  have hrl := w.rl
  have hkl := w.kl
  refine w_def rfl ?_
  show WS p_are_keys [some (.tup (K.map tn)), some (.int (R.length : Nat))] μ _ _ _ _
  unfold p_are_keys
  refine w_ret (w_and (w_call (w_cons (w_var rfl (w_cons (w_c (w_cons (w_c (w_nil (wf_istup (by omega) (by rw [List.length_map]; omega) ⟨_, rfl, fun _ => ?_, fun h => (by cases h)⟩))))))))))
  refine w_call (w_cons (w_lc (w_seq (w_var rfl (.inl ⟨_, rfl, few_of (by rw [List.length_map]; omega), ?_⟩)))))
  refine w_mapE tn K (fun _ => .bl true) (fun _ _ => rfl) (fun k hk μ' kp => ?_) (fun μ' kp => ?_)
  · obtain ⟨hk3, hkn⟩ := w.kn k hk
    refine w_gn ?_
    unfold e_are_keys_0
    exact w_call (w_cons (w_var rfl (w_cons (w_c (w_cons (w_c (w_cons (w_bin (w_var rfl (w_c (w_sub (w_nil (wf_isnumtup (by omega) (by omega) (by omega) (fun n hn => by have := hkn n hn; omega) fun μ2 k2 => ⟨rfl, kp.trans k2, kp⟩)))))))))))))
  · exact w_nil (w_all (bs := K.map fun _ => true) (by rw [get_new, List.map_map]; rfl) (by rw [all_true]; exact q _ kp.to))
theorem wf_isweb {R : List Nat} {K : List (List Nat)} {μ : Mem} {Q : D → Mem → Prop} (w : Wr R K) (q : ∀ μ', Keep μ μ' → Q (.bl true) μ') : WF F_is_web [wn R K] μ Q := by
  refine w_def rfl ?_
  show WS p_is_web [some (wn R K)] μ _ _ _ _
  unfold p_is_web
  refine w_ret (w_and (w_call (w_cons (w_var rfl (w_cons (w_c (w_cons (w_c (w_nil (wf_istup (by simp) (by simp) ⟨_, rfl, fun _ => ?_, fun h => (by cases h)⟩))))))))))
  refine w_and (w_call (w_cons (w_bin (w_var rfl (w_c (w_rooms (w_nil (wf_arerooms w.rl w.rn fun μ1 k1 => ⟨_, rfl, fun _ => ?_, fun h => (by cases h)⟩))))))))
  refine w_call (w_cons (w_bin (w_var rfl (w_c (w_keys (w_cons (w_call (w_cons (w_bin (w_var rfl (w_c (w_rooms (w_nil (w_len rfl (w_nil ?_)))))))))))))))
  rw [List.length_map]
  exact wf_arekeys w fun μ2 k2 => q _ (k1.trans k2)
theorem wf_readweb {R : List Nat} {K : List (List Nat)} {μ : Mem} {Q : D → Mem → Prop} (w : Wr R K) (q : ∀ μ', Keep μ μ' → Q (wn R K) μ') : WF F_read_web [.str (webT R K)] μ Q := by
  have hrl := w.rl
  have hkl := w.kl
  have hs : (Txt.split (webT R K) "; ").map D.str = D.str (numsT R) :: K.map fun k => D.str (homesT k) := by
    rw [split_join semi (by decide +kernel) (by simp) pieces_free, List.map_cons, List.map_map]
    rfl
  refine w_def rfl ?_
  show WS p_read_web [some (.str (webT R K)), none, none] μ _ _ _ _
  unfold p_read_web
  refine w_then (w_expr (w_call (w_cons (w_var rfl (w_nil (wf_checktext ?_))))))
  refine w_then (w_set (w_methS (w_var rfl ⟨_, rfl, w_cons (w_c (w_nil (w_split hs w.len (one_len semi) ?_)))⟩)))
  have k0 : Keep μ (μ ++ [LObj.lst (D.str (numsT R) :: K.map fun k => D.str (homesT k))]) := .app
  have g0 : (μ ++ [LObj.lst (D.str (numsT R) :: K.map fun k => D.str (homesT k))])[μ.length]? = some (.lst (D.str (numsT R) :: K.map fun k => D.str (homesT k))) := get_new
  generalize μ ++ [LObj.lst (D.str (numsT R) :: K.map fun k => D.str (homesT k))] = μ1 at k0 g0
  refine w_then (w_set (w_tup (w_cons (w_call (w_cons (w_bin (w_var rfl (w_c (w_ix (items_loc g0) (show atI _ ((0 : Nat) : Int) = _ from atI_nat rfl) (w_nil ?_))))))))))
  refine wf_readnums (fun e => by rw [e] at hrl; simp at hrl) hrl.2 w.num fun μ2 k2 => w_cons (w_call (w_cons (w_lc (w_seq (w_slL (w_var rfl (w_pyes (w_c ⟨_, rfl, w_pno ⟨_, _, rfl, k2 _ _ g0, .inr (.inr ⟨_, _, rfl, get_new, ?_⟩)⟩⟩))))))))
  rw [show M.cutD (D.str (numsT R) :: K.map fun k => D.str (homesT k)) (some 1) none = K.map fun k => D.str (homesT k) from cut_post (i := 1)]
  refine ⟨few_of (by rw [List.length_map]; omega), ?_⟩
  refine w_mapE (fun k => D.str (homesT k)) K tn (fun μ' k => stays_of get_new k) (fun k hk μ' kp => ?_) (fun μ' kp => ?_)
  · obtain ⟨hk3, hkn⟩ := w.kn k hk
    refine w_gn ?_
    unfold e_read_web_0
    exact w_call (w_cons (w_var rfl (w_nil (wf_readhomes hk3 (fun h hh => by have := hkn h hh; omega) fun μ2 k2 => ⟨rfl, kp.trans k2, kp⟩))))
  refine w_nil (w_tuple (items_loc get_new) (w_nil ?_))
  have k3 : Keep μ (μ' ++ [LObj.lst (K.map tn)]) := k0.trans (k2.trans (Keep.app.trans kp.to))
  generalize μ' ++ [LObj.lst (K.map tn)] = μ3 at k3
  refine w_then (w_if (w_notT (w_test (w_call (w_cons (w_var rfl (w_nil (wf_isweb w fun μ4 k4 => ⟨_, rfl, fun h => (by cases h), fun _ => w_skip ?_⟩))))))))
  exact w_ret (w_var rfl (q _ (k3.trans k4)))
theorem wf_lawisweb {R : List Nat} {K : List (List Nat)} {μ : Mem} {Q : D → Mem → Prop} (w : Wr R K) (q : ∀ μ', Keep μ μ' → Q (.bl true) μ') : WF F__law_is_web [wn R K, wn R K] μ Q := by
  have hrl := w.rl
  have hkl := w.kl
  refine w_def rfl ?_
  show WS p__law_is_web [some (wn R K), some (wn R K), none, none] μ _ _ _ _
  unfold p__law_is_web
  refine w_then (w_if (w_orT (w_notT (w_test (w_call (w_cons (w_var rfl (w_cons (w_c (w_nil (w_isiT ⟨_, rfl, fun _ => ?_, fun h => (by cases h)⟩)))))))))))
  refine w_orT (w_test (w_bin (w_var rfl (w_var rfl (w_neW ⟨_, rfl, fun _ => ?_, fun h => ?_⟩)))))
  rotate_left
  · simp at h
  refine w_notT (w_test (w_call (w_cons (w_bin (w_var rfl (w_c (w_rooms (w_cons (w_c (w_nil (w_isiT ⟨_, rfl, fun h => (by cases h), fun _ => w_skip ?_⟩)))))))))))
  refine w_then (w_if (w_orT (w_notT (w_test (w_call (w_cons (w_bin (w_var rfl (w_c (w_keys (w_cons (w_c (w_nil (w_isiT ⟨_, rfl, fun _ => ?_, fun h => (by cases h)⟩))))))))))))))
  refine w_test (w_bin (w_lc (w_seq (w_bin (w_var rfl (w_c (w_keys (.inl ⟨_, rfl, few_of (by rw [List.length_map]; omega), ?_⟩))))))))
  refine w_pureE tn K tn (fun _ => false) (fun _ _ => rfl) (fun k hk μ' kp => ?_) (fun μ' kp => ?_)
  · refine w_gn ?_
    unfold c__law_is_web_1
    exact w_notT (w_test (w_call (w_cons (w_var rfl (w_cons (w_c (w_nil (w_isiT ⟨_, rfl, rfl, kp, fun h => (by cases h)⟩))))))))
  have e : (K.filter fun _ => false) = [] := List.filter_eq_nil_iff.mpr (by simp)
  rw [e]
  refine w_lst (w_nil (w_neL (α := Nat) [] [] (get_old' get_new) get_new ⟨_, rfl, fun h => (by simp at h), fun _ => w_skip ?_⟩))
  have k1 : Keep μ (μ' ++ [LObj.lst (([] : List (List Nat)).map tn)] ++ [LObj.lst []]) := kp.to.to
  generalize μ' ++ [LObj.lst (([] : List (List Nat)).map tn)] ++ [LObj.lst []] = μ1 at k1
  refine w_then (w_set (w_call (w_cons (w_bin (w_var rfl (w_c (w_rooms (w_nil (w_list rfl ?_)))))))))
  refine w_then (w_for (w_seq (w_bin (w_var rfl (w_c (w_keys (.inl ⟨_, rfl, ?_⟩)))))))
  refine w_loop0 (fun i δ ν => ∃ (l : Nat) (S : List Nat) (x : Option D), δ = [some (wn R K), some (wn R K), some (.loc l), x] ∧ ν[l]? = some (.lst (nat S)) ∧ S.length ≤ 10 + 3 * i ∧ Keep μ ν) ⟨_, R, _, rfl, get_new, by omega, k1.to⟩ (fun _ _ _ _ => rfl) ?_ ?_
  · rintro i z δ ν hz ⟨l, S, x, rfl, g, hs, k⟩
    rw [List.getElem?_map] at hz
    cases er : K[i]? with
    | none => rw [er] at hz; cases hz
    | some key =>
      rw [er] at hz
      cases hz
      have hk3 := (w.kn key (List.mem_of_getElem? er)).1
      have hi : i < K.length := (List.getElem?_eq_some_iff.mp er).1
      refine w_gn ?_
      unfold b__law_is_web_0
      refine w_set (w_bin (w_var rfl (w_call (w_cons (w_var rfl (w_nil (w_list rfl (w_addL (get_old' g) get_new (by rw [List.length_map, List.length_map]; omega) ⟨_, S ++ key, _, rfl, ?_, ?_, k.to.to⟩))))))))
      · rw [get_new, nat_append]
      · rw [List.length_append]; omega
  · rintro δ ν ⟨l, S, x, rfl, g, hs, k⟩
    rw [List.length_map] at hs
    refine w_ret (w_bin (w_lc (w_seq (w_var rfl (.inr (.inr ⟨l, _, rfl, g, few_of (by rw [List.length_map]; omega), ?_⟩))))))
    refine w_pureE (fun (n : Nat) => D.int n) S (fun n => .int n) (fun _ => false) (fun μ' k => stays_of g k) (fun n hn μ' kp => ?_) (fun μ' kp => ?_)
    · refine w_gn ?_
      unfold c__law_is_web_0
      refine w_orT (w_notT (w_test (w_call (w_cons (w_var rfl (w_cons (w_c (w_nil (w_isiI ⟨_, rfl, fun _ => ?_, fun h => (by cases h)⟩)))))))))
      exact w_test (w_call (w_cons (w_var rfl (w_cons (w_c (w_nil (w_isiIB ⟨_, rfl, rfl, kp, fun h => (by cases h)⟩)))))))
    · have e : (S.filter fun _ => false) = [] := List.filter_eq_nil_iff.mpr (by simp)
      rw [e]
      refine w_lst (w_nil (w_eqL (α := Nat) [] [] (get_old' get_new) get_new ?_))
      exact q _ (k.trans kp.to.to)
theorem Wr.of {R : List Int} {K : List (List Int)} (w : WebA 30 R K) (h : ∀ r ∈ R, r ≤ 9) : wb R K = wn (R.map Int.toNat) (K.map (·.map Int.toNat)) ∧ Wr (R.map Int.toNat) (K.map (·.map Int.toNat)) := by
  obtain ⟨e, v⟩ := Wb.of w
  refine ⟨e, v.rl, fun r hr => ?_, v.kl, v.kn⟩
  obtain ⟨i, hi, rfl⟩ := List.mem_map.mp hr
  have := h i hi
  omega
theorem law_main (ns : List Int) : WF F_law [.fz (ns.map .int)] [] fun d _ => d = .bl true := by
  refine w_def rfl ?_
  show WS p_law [some (.fz (ns.map .int)), none, none, none, none] [] _ _ _ _
  unfold p_law
  refine w_then (w_for (w_range (w_cons (w_c (w_nil ⟨_, rfl, by decide, by decide, ?_⟩)))))
  refine w_loop0 (fun i δ ν => ∃ a b c d : Option D, δ = [some (.fz (ns.map .int)), a, b, c, d]) ⟨_, _, _, _, rfl⟩ (fun _ _ _ _ => rfl) ?_ ?_
  · rintro i z δ ν hz ⟨a, b, c, d, rfl⟩
    obtain ⟨hi, rfl⟩ := range_at hz
    have hi : i < 2 := hi
    refine w_gn ?_
    unfold b_law_0
    refine w_then (w_set (w_call (w_cons (w_call (w_cons (w_var rfl (w_cons (w_var rfl (w_nil ?_)))))))))
    refine wf_pen (by omega) (by omega) fun μ1 k1 p1 _ => w_cons (w_c (w_nil ?_))
    refine wf_webA p1 (by omega) (by omega) (by omega) fun rooms ks μ2 w0 h9 k2 p2 => ?_
    obtain ⟨e, w⟩ := Wr.of w0 h9
    rw [e]
    refine w_then (w_set (w_call (w_cons (w_var rfl (w_nil (wf_lawtext w fun μ3 k3 => ?_))))))
    refine w_then (w_set (w_call (w_cons (w_var rfl (w_nil (wf_showweb w fun μ4 k4 => ?_))))))
    refine w_then (w_if (w_orT (w_notT (w_test (w_call (w_cons (w_var rfl (w_cons (w_c (w_nil (w_isiS ⟨_, rfl, fun _ => ?_, fun h => (by cases h)⟩)))))))))))
    refine w_orT (w_test (w_bin (w_var rfl (w_var rfl (w_neSame w.ok ⟨_, rfl, fun _ => ?_, fun h => (by cases h)⟩)))))
    refine w_notT (w_test (w_call (w_cons (w_call (w_cons (w_var rfl (w_nil (wf_readweb w fun μ5 k5 => w_cons (w_var rfl (w_nil (wf_lawisweb w fun μ6 k6 => ⟨_, rfl, fun h => (by cases h), fun _ => w_skip ?_⟩)))))))))))
    refine w_if (w_test (w_bin (w_call (w_cons (w_call (w_cons (w_var rfl (w_nil (wf_readweb w fun μ7 k7 => w_nil (wf_showweb w fun μ8 k8 => w_var rfl (w_neSame w.ok ⟨_, rfl, fun h => (by cases h), fun _ => w_skip ⟨_, _, _, _, rfl⟩⟩)))))))))))
  · rintro δ ν ⟨a, b, c, d, rfl⟩
    have w3 : Wr [3] [] := ⟨by decide, by decide, by decide, by simp⟩
    have w9 : Wr [0, 9] [] := ⟨by decide, by decide, by decide, by simp⟩
    have e3 : webT [3] [] = "3" := by
      show Txt.join "; " [Txt.join "," [num 3]] = _
      rw [join_eq, join_eq]
      exact str_ext (by show (num 3).cps.toList = _; rw [num_cps]; decide +kernel)
    have e9 : ("0,9" : Str) = webT [0, 9] [] := by
      show _ = Txt.join "; " [Txt.join "," [num 0, num 9]]
      rw [join_eq, join_eq]
      exact str_ext (by show _ = (Str.join "," [num 0, num 9]).cps.toList; rw [join_cons]; show _ = (num 0).cps.toList ++ (("," : Str).cps.toList ++ (num 9).cps.toList); rw [num_cps, num_cps]; decide +kernel)
    refine w_ret (w_and (w_bin (w_call (w_cons (w_tup (w_cons (w_tup (w_cons (w_c (w_nil (w_cons (w_tup (w_nil (w_nil (w_nil (wf_showweb (R := [3]) (K := []) w3 fun μ1 k1 => w_c ?_))))))))))))))))
    rw [e3]
    refine w_eqS (toP_str (by decide +kernel)) (toP_str (by decide +kernel)) ⟨_, rfl, fun _ => ?_, fun h => (by cases h)⟩
    refine w_bin (w_call (w_cons (w_c (w_nil ?_))))
    rw [e9]
    refine wf_readweb w9 fun μ2 k2 => w_tup (w_cons (w_tup (w_cons (w_c (w_cons (w_c (w_nil (w_cons (w_tup (w_nil (w_nil ?_)))))))))))
    exact w_eqW (R := [0, 9]) (K := []) (R' := [0, 9]) (K' := []) rfl
theorem law_true (ns : List Int) (_hn : ns.length ≤ 63) : ∃ μ', F_law [.fz (ns.map .int)] [] = some (.bl true, μ') := by
  obtain ⟨d, μ', e, rfl⟩ := law_main ns
  exact ⟨μ', e⟩
end P
namespace P
open PySem PySem.Spec PyProof.Rows L2 M
set_option maxHeartbeats 4000000
theorem ln1 {α : Type} : ∀ {us : List α}, us.length = 1 → ∃ a0, us = [a0]
  | [a0], _ => ⟨a0, rfl⟩
theorem ln2 {α : Type} : ∀ {us : List α}, us.length = 2 → ∃ a0 a1, us = [a0, a1]
  | [a0, a1], _ => ⟨a0, a1, rfl⟩
theorem ln3 {α : Type} : ∀ {us : List α}, us.length = 3 → ∃ a0 a1 a2, us = [a0, a1, a2]
  | [a0, a1, a2], _ => ⟨a0, a1, a2, rfl⟩
theorem ln4 {α : Type} : ∀ {us : List α}, us.length = 4 → ∃ a0 a1 a2 a3, us = [a0, a1, a2, a3]
  | [a0, a1, a2, a3], _ => ⟨a0, a1, a2, a3, rfl⟩
theorem all_mk {l : PySem.W.OpenLaw} {w : World} {K : PySem.W.Frag} {h : Heap} {mg : Str → Option Value} {fa f__law_take f__law_web f__law_text f_show_numbers f_show_homes f_show_web f__law_mixed f__law_cell_at f__law_pen f_check_text f_read_number f_read_numbers f_is_tuple f_is_number f_is_number_tuple f_are_rooms f_are_keys f_is_web f_read_nest f_read_homes f_read_web f__law_is_web f_law : Addr} (X : K.In h) (G : h.Ns mainGlobals mg) (hfa : mg "law" = some (.ref fa))
    {od0 an0 : Option Addr} {sl0 : Array (Option Value)} {oc0 kV0 dc0 pm0 cd0 ct0 : Value} (a0 : PySem.W.nsIn K mainGlobals "_law_take" = some (some (.ref f__law_take))) (l0 : K.lookup f__law_take = some ⟨oc0, od0, .func (PySem.W.fnOf "_law_take" "_law_take" (defArgs s__law_take) (defBody s__law_take) (defScope s__law_take) .none kV0 dc0 pm0 an0 cd0 ct0), sl0⟩) (c0 : PySem.W.codeIn K cd0 "_law_take" = true) (k0 : PySem.W.keepIn K (.ref f__law_take) = true)
    {od1 an1 : Option Addr} {sl1 : Array (Option Value)} {oc1 kV1 dc1 pm1 cd1 ct1 : Value} (a1 : PySem.W.nsIn K mainGlobals "_law_web" = some (some (.ref f__law_web))) (l1 : K.lookup f__law_web = some ⟨oc1, od1, .func (PySem.W.fnOf "_law_web" "_law_web" (defArgs s__law_web) (defBody s__law_web) (defScope s__law_web) .none kV1 dc1 pm1 an1 cd1 ct1), sl1⟩) (c1 : PySem.W.codeIn K cd1 "_law_web" = true) (k1 : PySem.W.keepIn K (.ref f__law_web) = true)
    {od2 an2 : Option Addr} {sl2 : Array (Option Value)} {oc2 kV2 dc2 pm2 cd2 ct2 : Value} (a2 : PySem.W.nsIn K mainGlobals "_law_text" = some (some (.ref f__law_text))) (l2 : K.lookup f__law_text = some ⟨oc2, od2, .func (PySem.W.fnOf "_law_text" "_law_text" (defArgs s__law_text) (defBody s__law_text) (defScope s__law_text) .none kV2 dc2 pm2 an2 cd2 ct2), sl2⟩) (c2 : PySem.W.codeIn K cd2 "_law_text" = true) (k2 : PySem.W.keepIn K (.ref f__law_text) = true)
    {od3 an3 : Option Addr} {sl3 : Array (Option Value)} {oc3 kV3 dc3 pm3 cd3 ct3 : Value} (a3 : PySem.W.nsIn K mainGlobals "show_numbers" = some (some (.ref f_show_numbers))) (l3 : K.lookup f_show_numbers = some ⟨oc3, od3, .func (PySem.W.fnOf "show_numbers" "show_numbers" (defArgs s_show_numbers) (defBody s_show_numbers) (defScope s_show_numbers) .none kV3 dc3 pm3 an3 cd3 ct3), sl3⟩) (c3 : PySem.W.codeIn K cd3 "show_numbers" = true) (k3 : PySem.W.keepIn K (.ref f_show_numbers) = true)
    {od4 an4 : Option Addr} {sl4 : Array (Option Value)} {oc4 kV4 dc4 pm4 cd4 ct4 : Value} (a4 : PySem.W.nsIn K mainGlobals "show_homes" = some (some (.ref f_show_homes))) (l4 : K.lookup f_show_homes = some ⟨oc4, od4, .func (PySem.W.fnOf "show_homes" "show_homes" (defArgs s_show_homes) (defBody s_show_homes) (defScope s_show_homes) .none kV4 dc4 pm4 an4 cd4 ct4), sl4⟩) (c4 : PySem.W.codeIn K cd4 "show_homes" = true) (k4 : PySem.W.keepIn K (.ref f_show_homes) = true)
    {od5 an5 : Option Addr} {sl5 : Array (Option Value)} {oc5 kV5 dc5 pm5 cd5 ct5 : Value} (a5 : PySem.W.nsIn K mainGlobals "show_web" = some (some (.ref f_show_web))) (l5 : K.lookup f_show_web = some ⟨oc5, od5, .func (PySem.W.fnOf "show_web" "show_web" (defArgs s_show_web) (defBody s_show_web) (defScope s_show_web) .none kV5 dc5 pm5 an5 cd5 ct5), sl5⟩) (c5 : PySem.W.codeIn K cd5 "show_web" = true) (k5 : PySem.W.keepIn K (.ref f_show_web) = true)
    {od6 an6 : Option Addr} {sl6 : Array (Option Value)} {oc6 kV6 dc6 pm6 cd6 ct6 : Value} (a6 : PySem.W.nsIn K mainGlobals "_law_mixed" = some (some (.ref f__law_mixed))) (l6 : K.lookup f__law_mixed = some ⟨oc6, od6, .func (PySem.W.fnOf "_law_mixed" "_law_mixed" (defArgs s__law_mixed) (defBody s__law_mixed) (defScope s__law_mixed) .none kV6 dc6 pm6 an6 cd6 ct6), sl6⟩) (c6 : PySem.W.codeIn K cd6 "_law_mixed" = true) (k6 : PySem.W.keepIn K (.ref f__law_mixed) = true)
    {od7 an7 : Option Addr} {sl7 : Array (Option Value)} {oc7 kV7 dc7 pm7 cd7 ct7 : Value} (a7 : PySem.W.nsIn K mainGlobals "_law_cell_at" = some (some (.ref f__law_cell_at))) (l7 : K.lookup f__law_cell_at = some ⟨oc7, od7, .func (PySem.W.fnOf "_law_cell_at" "_law_cell_at" (defArgs s__law_cell_at) (defBody s__law_cell_at) (defScope s__law_cell_at) .none kV7 dc7 pm7 an7 cd7 ct7), sl7⟩) (c7 : PySem.W.codeIn K cd7 "_law_cell_at" = true) (k7 : PySem.W.keepIn K (.ref f__law_cell_at) = true)
    {od8 an8 : Option Addr} {sl8 : Array (Option Value)} {oc8 kV8 dc8 pm8 cd8 ct8 : Value} (a8 : PySem.W.nsIn K mainGlobals "_law_pen" = some (some (.ref f__law_pen))) (l8 : K.lookup f__law_pen = some ⟨oc8, od8, .func (PySem.W.fnOf "_law_pen" "_law_pen" (defArgs s__law_pen) (defBody s__law_pen) (defScope s__law_pen) .none kV8 dc8 pm8 an8 cd8 ct8), sl8⟩) (c8 : PySem.W.codeIn K cd8 "_law_pen" = true) (k8 : PySem.W.keepIn K (.ref f__law_pen) = true)
    {od9 an9 : Option Addr} {sl9 : Array (Option Value)} {oc9 kV9 dc9 pm9 cd9 ct9 : Value} (a9 : PySem.W.nsIn K mainGlobals "check_text" = some (some (.ref f_check_text))) (l9 : K.lookup f_check_text = some ⟨oc9, od9, .func (PySem.W.fnOf "check_text" "check_text" (defArgs s_check_text) (defBody s_check_text) (defScope s_check_text) .none kV9 dc9 pm9 an9 cd9 ct9), sl9⟩) (c9 : PySem.W.codeIn K cd9 "check_text" = true) (k9 : PySem.W.keepIn K (.ref f_check_text) = true)
    {od10 an10 : Option Addr} {sl10 : Array (Option Value)} {oc10 kV10 dc10 pm10 cd10 ct10 : Value} (a10 : PySem.W.nsIn K mainGlobals "read_number" = some (some (.ref f_read_number))) (l10 : K.lookup f_read_number = some ⟨oc10, od10, .func (PySem.W.fnOf "read_number" "read_number" (defArgs s_read_number) (defBody s_read_number) (defScope s_read_number) .none kV10 dc10 pm10 an10 cd10 ct10), sl10⟩) (c10 : PySem.W.codeIn K cd10 "read_number" = true) (k10 : PySem.W.keepIn K (.ref f_read_number) = true)
    {od11 an11 : Option Addr} {sl11 : Array (Option Value)} {oc11 kV11 dc11 pm11 cd11 ct11 : Value} (a11 : PySem.W.nsIn K mainGlobals "read_numbers" = some (some (.ref f_read_numbers))) (l11 : K.lookup f_read_numbers = some ⟨oc11, od11, .func (PySem.W.fnOf "read_numbers" "read_numbers" (defArgs s_read_numbers) (defBody s_read_numbers) (defScope s_read_numbers) .none kV11 dc11 pm11 an11 cd11 ct11), sl11⟩) (c11 : PySem.W.codeIn K cd11 "read_numbers" = true) (k11 : PySem.W.keepIn K (.ref f_read_numbers) = true)
    {od12 an12 : Option Addr} {sl12 : Array (Option Value)} {oc12 kV12 dc12 pm12 cd12 ct12 : Value} (a12 : PySem.W.nsIn K mainGlobals "is_tuple" = some (some (.ref f_is_tuple))) (l12 : K.lookup f_is_tuple = some ⟨oc12, od12, .func (PySem.W.fnOf "is_tuple" "is_tuple" (defArgs s_is_tuple) (defBody s_is_tuple) (defScope s_is_tuple) .none kV12 dc12 pm12 an12 cd12 ct12), sl12⟩) (c12 : PySem.W.codeIn K cd12 "is_tuple" = true) (k12 : PySem.W.keepIn K (.ref f_is_tuple) = true)
    {od13 an13 : Option Addr} {sl13 : Array (Option Value)} {oc13 kV13 dc13 pm13 cd13 ct13 : Value} (a13 : PySem.W.nsIn K mainGlobals "is_number" = some (some (.ref f_is_number))) (l13 : K.lookup f_is_number = some ⟨oc13, od13, .func (PySem.W.fnOf "is_number" "is_number" (defArgs s_is_number) (defBody s_is_number) (defScope s_is_number) .none kV13 dc13 pm13 an13 cd13 ct13), sl13⟩) (c13 : PySem.W.codeIn K cd13 "is_number" = true) (k13 : PySem.W.keepIn K (.ref f_is_number) = true)
    {od14 an14 : Option Addr} {sl14 : Array (Option Value)} {oc14 kV14 dc14 pm14 cd14 ct14 : Value} (a14 : PySem.W.nsIn K mainGlobals "is_number_tuple" = some (some (.ref f_is_number_tuple))) (l14 : K.lookup f_is_number_tuple = some ⟨oc14, od14, .func (PySem.W.fnOf "is_number_tuple" "is_number_tuple" (defArgs s_is_number_tuple) (defBody s_is_number_tuple) (defScope s_is_number_tuple) .none kV14 dc14 pm14 an14 cd14 ct14), sl14⟩) (c14 : PySem.W.codeIn K cd14 "is_number_tuple" = true) (k14 : PySem.W.keepIn K (.ref f_is_number_tuple) = true)
    {od15 an15 : Option Addr} {sl15 : Array (Option Value)} {oc15 kV15 dc15 pm15 cd15 ct15 : Value} (a15 : PySem.W.nsIn K mainGlobals "are_rooms" = some (some (.ref f_are_rooms))) (l15 : K.lookup f_are_rooms = some ⟨oc15, od15, .func (PySem.W.fnOf "are_rooms" "are_rooms" (defArgs s_are_rooms) (defBody s_are_rooms) (defScope s_are_rooms) .none kV15 dc15 pm15 an15 cd15 ct15), sl15⟩) (c15 : PySem.W.codeIn K cd15 "are_rooms" = true) (k15 : PySem.W.keepIn K (.ref f_are_rooms) = true)
    {od16 an16 : Option Addr} {sl16 : Array (Option Value)} {oc16 kV16 dc16 pm16 cd16 ct16 : Value} (a16 : PySem.W.nsIn K mainGlobals "are_keys" = some (some (.ref f_are_keys))) (l16 : K.lookup f_are_keys = some ⟨oc16, od16, .func (PySem.W.fnOf "are_keys" "are_keys" (defArgs s_are_keys) (defBody s_are_keys) (defScope s_are_keys) .none kV16 dc16 pm16 an16 cd16 ct16), sl16⟩) (c16 : PySem.W.codeIn K cd16 "are_keys" = true) (k16 : PySem.W.keepIn K (.ref f_are_keys) = true)
    {od17 an17 : Option Addr} {sl17 : Array (Option Value)} {oc17 kV17 dc17 pm17 cd17 ct17 : Value} (a17 : PySem.W.nsIn K mainGlobals "is_web" = some (some (.ref f_is_web))) (l17 : K.lookup f_is_web = some ⟨oc17, od17, .func (PySem.W.fnOf "is_web" "is_web" (defArgs s_is_web) (defBody s_is_web) (defScope s_is_web) .none kV17 dc17 pm17 an17 cd17 ct17), sl17⟩) (c17 : PySem.W.codeIn K cd17 "is_web" = true) (k17 : PySem.W.keepIn K (.ref f_is_web) = true)
    {od18 an18 : Option Addr} {sl18 : Array (Option Value)} {oc18 kV18 dc18 pm18 cd18 ct18 : Value} (a18 : PySem.W.nsIn K mainGlobals "read_nest" = some (some (.ref f_read_nest))) (l18 : K.lookup f_read_nest = some ⟨oc18, od18, .func (PySem.W.fnOf "read_nest" "read_nest" (defArgs s_read_nest) (defBody s_read_nest) (defScope s_read_nest) .none kV18 dc18 pm18 an18 cd18 ct18), sl18⟩) (c18 : PySem.W.codeIn K cd18 "read_nest" = true) (k18 : PySem.W.keepIn K (.ref f_read_nest) = true)
    {od19 an19 : Option Addr} {sl19 : Array (Option Value)} {oc19 kV19 dc19 pm19 cd19 ct19 : Value} (a19 : PySem.W.nsIn K mainGlobals "read_homes" = some (some (.ref f_read_homes))) (l19 : K.lookup f_read_homes = some ⟨oc19, od19, .func (PySem.W.fnOf "read_homes" "read_homes" (defArgs s_read_homes) (defBody s_read_homes) (defScope s_read_homes) .none kV19 dc19 pm19 an19 cd19 ct19), sl19⟩) (c19 : PySem.W.codeIn K cd19 "read_homes" = true) (k19 : PySem.W.keepIn K (.ref f_read_homes) = true)
    {od20 an20 : Option Addr} {sl20 : Array (Option Value)} {oc20 kV20 dc20 pm20 cd20 ct20 : Value} (a20 : PySem.W.nsIn K mainGlobals "read_web" = some (some (.ref f_read_web))) (l20 : K.lookup f_read_web = some ⟨oc20, od20, .func (PySem.W.fnOf "read_web" "read_web" (defArgs s_read_web) (defBody s_read_web) (defScope s_read_web) .none kV20 dc20 pm20 an20 cd20 ct20), sl20⟩) (c20 : PySem.W.codeIn K cd20 "read_web" = true) (k20 : PySem.W.keepIn K (.ref f_read_web) = true)
    {od21 an21 : Option Addr} {sl21 : Array (Option Value)} {oc21 kV21 dc21 pm21 cd21 ct21 : Value} (a21 : PySem.W.nsIn K mainGlobals "_law_is_web" = some (some (.ref f__law_is_web))) (l21 : K.lookup f__law_is_web = some ⟨oc21, od21, .func (PySem.W.fnOf "_law_is_web" "_law_is_web" (defArgs s__law_is_web) (defBody s__law_is_web) (defScope s__law_is_web) .none kV21 dc21 pm21 an21 cd21 ct21), sl21⟩) (c21 : PySem.W.codeIn K cd21 "_law_is_web" = true) (k21 : PySem.W.keepIn K (.ref f__law_is_web) = true)
    {od22 an22 : Option Addr} {sl22 : Array (Option Value)} {oc22 kV22 dc22 pm22 cd22 ct22 : Value} (a22 : PySem.W.nsIn K mainGlobals "law" = some (some (.ref f_law))) (l22 : K.lookup f_law = some ⟨oc22, od22, .func (PySem.W.fnOf "law" "law" (defArgs s_law) (defBody s_law) (defScope s_law) .none kV22 dc22 pm22 an22 cd22 ct22), sl22⟩) (c22 : PySem.W.codeIn K cd22 "law" = true) (k22 : PySem.W.keepIn K (.ref f_law) = true)
    (z_all : PySem.W.nsIn K mainGlobals "all" = some none)
    (z_any : PySem.W.nsIn K mainGlobals "any" = some none)
    (z_bool : PySem.W.nsIn K mainGlobals "bool" = some none)
    (z_int : PySem.W.nsIn K mainGlobals "int" = some none)
    (z_isinstance : PySem.W.nsIn K mainGlobals "isinstance" = some none)
    (z_len : PySem.W.nsIn K mainGlobals "len" = some none)
    (z_list : PySem.W.nsIn K mainGlobals "list" = some none)
    (z_range : PySem.W.nsIn K mainGlobals "range" = some none)
    (z_str : PySem.W.nsIn K mainGlobals "str" = some none)
    (z_tuple : PySem.W.nsIn K mainGlobals "tuple" = some none)
    {t_MOST_NESTS : Tok} (v_MOST_NESTS : PySem.W.nsIn K mainGlobals "MOST_NESTS" = some (some (.int 10 t_MOST_NESTS)))
    {t_MOST_ROOM : Tok} (v_MOST_ROOM : PySem.W.nsIn K mainGlobals "MOST_ROOM" = some (some (.int 9 t_MOST_ROOM)))
    {t_MOST_KEYS : Tok} (v_MOST_KEYS : PySem.W.nsIn K mainGlobals "MOST_KEYS" = some (some (.int 30 t_MOST_KEYS)))
    {t_FIGURES : Tok} (v_FIGURES : PySem.W.nsIn K mainGlobals "FIGURES" = some (some (.str "0123456789" t_FIGURES)))
    {t_MOST_FIGURES : Tok} (v_MOST_FIGURES : PySem.W.nsIn K mainGlobals "MOST_FIGURES" = some (some (.int 60 t_MOST_FIGURES)))
    {t_LETTERS : Tok} (v_LETTERS : PySem.W.nsIn K mainGlobals "LETTERS" = some (some (.str "abcdefghijklmnopqrstuvwxyz" t_LETTERS)))
    : ∃ fd : FuncData, (∀ (s : Shared) (v : Value), BindsTo s fd ⟨[v], []⟩ [("_law_script", v)]) ∧ ∀ base : Heap, K.In base → base.Ns mainGlobals mg → FnOk l.prog w K mg base CX0 6 fa fd ["_law_script"] (spM K 1 F_law) := by
  have e := hfa.symm.trans (PySem.W.mg_of X G a22)
  cases e
  have T : Txt K mg := ⟨PySem.W.mg_none_of X G z_all, PySem.W.mg_none_of X G z_any, PySem.W.mg_none_of X G z_bool, PySem.W.mg_none_of X G z_int, PySem.W.mg_none_of X G z_isinstance, PySem.W.mg_none_of X G z_len, PySem.W.mg_none_of X G z_list, PySem.W.mg_none_of X G z_range, PySem.W.mg_none_of X G z_str, PySem.W.mg_none_of X G z_tuple, ⟨t_MOST_NESTS, PySem.W.mg_of X G v_MOST_NESTS⟩, ⟨t_MOST_ROOM, PySem.W.mg_of X G v_MOST_ROOM⟩, ⟨t_MOST_KEYS, PySem.W.mg_of X G v_MOST_KEYS⟩, ⟨t_FIGURES, PySem.W.mg_of X G v_FIGURES⟩, ⟨t_MOST_FIGURES, PySem.W.mg_of X G v_MOST_FIGURES⟩, ⟨t_LETTERS, PySem.W.mg_of X G v_LETTERS⟩⟩
  have B__law_take : FnAt K mg "_law_take" s__law_take ps__law_take _ _ := ⟨fun_mk (st := s__law_take) l0 c0 k0, PySem.W.mg_of X G a0, (fun_mk (st := s__law_take) l0 c0 k0).binds (ps := ps__law_take) fun _ _ _ _ _ _ us hl => by obtain ⟨_, _, rfl⟩ := ln2 hl; rfl⟩
  have B__law_web : FnAt K mg "_law_web" s__law_web ps__law_web _ _ := ⟨fun_mk (st := s__law_web) l1 c1 k1, PySem.W.mg_of X G a1, (fun_mk (st := s__law_web) l1 c1 k1).binds (ps := ps__law_web) fun _ _ _ _ _ _ us hl => by obtain ⟨_, _, rfl⟩ := ln2 hl; rfl⟩
  have B__law_text : FnAt K mg "_law_text" s__law_text ps__law_text _ _ := ⟨fun_mk (st := s__law_text) l2 c2 k2, PySem.W.mg_of X G a2, (fun_mk (st := s__law_text) l2 c2 k2).binds (ps := ps__law_text) fun _ _ _ _ _ _ us hl => by obtain ⟨_, rfl⟩ := ln1 hl; rfl⟩
  have B_show_numbers : FnAt K mg "show_numbers" s_show_numbers ps_show_numbers _ _ := ⟨fun_mk (st := s_show_numbers) l3 c3 k3, PySem.W.mg_of X G a3, (fun_mk (st := s_show_numbers) l3 c3 k3).binds (ps := ps_show_numbers) fun _ _ _ _ _ _ us hl => by obtain ⟨_, rfl⟩ := ln1 hl; rfl⟩
  have B_show_homes : FnAt K mg "show_homes" s_show_homes ps_show_homes _ _ := ⟨fun_mk (st := s_show_homes) l4 c4 k4, PySem.W.mg_of X G a4, (fun_mk (st := s_show_homes) l4 c4 k4).binds (ps := ps_show_homes) fun _ _ _ _ _ _ us hl => by obtain ⟨_, rfl⟩ := ln1 hl; rfl⟩
  have B_show_web : FnAt K mg "show_web" s_show_web ps_show_web _ _ := ⟨fun_mk (st := s_show_web) l5 c5 k5, PySem.W.mg_of X G a5, (fun_mk (st := s_show_web) l5 c5 k5).binds (ps := ps_show_web) fun _ _ _ _ _ _ us hl => by obtain ⟨_, rfl⟩ := ln1 hl; rfl⟩
  have B__law_mixed : FnAt K mg "_law_mixed" s__law_mixed ps__law_mixed _ _ := ⟨fun_mk (st := s__law_mixed) l6 c6 k6, PySem.W.mg_of X G a6, (fun_mk (st := s__law_mixed) l6 c6 k6).binds (ps := ps__law_mixed) fun _ _ _ _ _ _ us hl => by obtain ⟨_, _, rfl⟩ := ln2 hl; rfl⟩
  have B__law_cell_at : FnAt K mg "_law_cell_at" s__law_cell_at ps__law_cell_at _ _ := ⟨fun_mk (st := s__law_cell_at) l7 c7 k7, PySem.W.mg_of X G a7, (fun_mk (st := s__law_cell_at) l7 c7 k7).binds (ps := ps__law_cell_at) fun _ _ _ _ _ _ us hl => by obtain ⟨_, _, rfl⟩ := ln2 hl; rfl⟩
  have B__law_pen : FnAt K mg "_law_pen" s__law_pen ps__law_pen _ _ := ⟨fun_mk (st := s__law_pen) l8 c8 k8, PySem.W.mg_of X G a8, (fun_mk (st := s__law_pen) l8 c8 k8).binds (ps := ps__law_pen) fun _ _ _ _ _ _ us hl => by obtain ⟨_, _, rfl⟩ := ln2 hl; rfl⟩
  have B_check_text : FnAt K mg "check_text" s_check_text ps_check_text _ _ := ⟨fun_mk (st := s_check_text) l9 c9 k9, PySem.W.mg_of X G a9, (fun_mk (st := s_check_text) l9 c9 k9).binds (ps := ps_check_text) fun _ _ _ _ _ _ us hl => by obtain ⟨_, rfl⟩ := ln1 hl; rfl⟩
  have B_read_number : FnAt K mg "read_number" s_read_number ps_read_number _ _ := ⟨fun_mk (st := s_read_number) l10 c10 k10, PySem.W.mg_of X G a10, (fun_mk (st := s_read_number) l10 c10 k10).binds (ps := ps_read_number) fun _ _ _ _ _ _ us hl => by obtain ⟨_, rfl⟩ := ln1 hl; rfl⟩
  have B_read_numbers : FnAt K mg "read_numbers" s_read_numbers ps_read_numbers _ _ := ⟨fun_mk (st := s_read_numbers) l11 c11 k11, PySem.W.mg_of X G a11, (fun_mk (st := s_read_numbers) l11 c11 k11).binds (ps := ps_read_numbers) fun _ _ _ _ _ _ us hl => by obtain ⟨_, rfl⟩ := ln1 hl; rfl⟩
  have B_is_tuple : FnAt K mg "is_tuple" s_is_tuple ps_is_tuple _ _ := ⟨fun_mk (st := s_is_tuple) l12 c12 k12, PySem.W.mg_of X G a12, (fun_mk (st := s_is_tuple) l12 c12 k12).binds (ps := ps_is_tuple) fun _ _ _ _ _ _ us hl => by obtain ⟨_, _, _, rfl⟩ := ln3 hl; rfl⟩
  have B_is_number : FnAt K mg "is_number" s_is_number ps_is_number _ _ := ⟨fun_mk (st := s_is_number) l13 c13 k13, PySem.W.mg_of X G a13, (fun_mk (st := s_is_number) l13 c13 k13).binds (ps := ps_is_number) fun _ _ _ _ _ _ us hl => by obtain ⟨_, _, rfl⟩ := ln2 hl; rfl⟩
  have B_is_number_tuple : FnAt K mg "is_number_tuple" s_is_number_tuple ps_is_number_tuple _ _ := ⟨fun_mk (st := s_is_number_tuple) l14 c14 k14, PySem.W.mg_of X G a14, (fun_mk (st := s_is_number_tuple) l14 c14 k14).binds (ps := ps_is_number_tuple) fun _ _ _ _ _ _ us hl => by obtain ⟨_, _, _, _, rfl⟩ := ln4 hl; rfl⟩
  have B_are_rooms : FnAt K mg "are_rooms" s_are_rooms ps_are_rooms _ _ := ⟨fun_mk (st := s_are_rooms) l15 c15 k15, PySem.W.mg_of X G a15, (fun_mk (st := s_are_rooms) l15 c15 k15).binds (ps := ps_are_rooms) fun _ _ _ _ _ _ us hl => by obtain ⟨_, rfl⟩ := ln1 hl; rfl⟩
  have B_are_keys : FnAt K mg "are_keys" s_are_keys ps_are_keys _ _ := ⟨fun_mk (st := s_are_keys) l16 c16 k16, PySem.W.mg_of X G a16, (fun_mk (st := s_are_keys) l16 c16 k16).binds (ps := ps_are_keys) fun _ _ _ _ _ _ us hl => by obtain ⟨_, _, rfl⟩ := ln2 hl; rfl⟩
  have B_is_web : FnAt K mg "is_web" s_is_web ps_is_web _ _ := ⟨fun_mk (st := s_is_web) l17 c17 k17, PySem.W.mg_of X G a17, (fun_mk (st := s_is_web) l17 c17 k17).binds (ps := ps_is_web) fun _ _ _ _ _ _ us hl => by obtain ⟨_, rfl⟩ := ln1 hl; rfl⟩
  have B_read_nest : FnAt K mg "read_nest" s_read_nest ps_read_nest _ _ := ⟨fun_mk (st := s_read_nest) l18 c18 k18, PySem.W.mg_of X G a18, (fun_mk (st := s_read_nest) l18 c18 k18).binds (ps := ps_read_nest) fun _ _ _ _ _ _ us hl => by obtain ⟨_, rfl⟩ := ln1 hl; rfl⟩
  have B_read_homes : FnAt K mg "read_homes" s_read_homes ps_read_homes _ _ := ⟨fun_mk (st := s_read_homes) l19 c19 k19, PySem.W.mg_of X G a19, (fun_mk (st := s_read_homes) l19 c19 k19).binds (ps := ps_read_homes) fun _ _ _ _ _ _ us hl => by obtain ⟨_, rfl⟩ := ln1 hl; rfl⟩
  have B_read_web : FnAt K mg "read_web" s_read_web ps_read_web _ _ := ⟨fun_mk (st := s_read_web) l20 c20 k20, PySem.W.mg_of X G a20, (fun_mk (st := s_read_web) l20 c20 k20).binds (ps := ps_read_web) fun _ _ _ _ _ _ us hl => by obtain ⟨_, rfl⟩ := ln1 hl; rfl⟩
  have B__law_is_web : FnAt K mg "_law_is_web" s__law_is_web ps__law_is_web _ _ := ⟨fun_mk (st := s__law_is_web) l21 c21 k21, PySem.W.mg_of X G a21, (fun_mk (st := s__law_is_web) l21 c21 k21).binds (ps := ps__law_is_web) fun _ _ _ _ _ _ us hl => by obtain ⟨_, _, rfl⟩ := ln2 hl; rfl⟩
  have B_law : FnAt K mg "law" s_law ps_law _ _ := ⟨fun_mk (st := s_law) l22 c22 k22, PySem.W.mg_of X G a22, (fun_mk (st := s_law) l22 c22 k22).binds (ps := ps_law) fun _ _ _ _ _ _ us hl => by obtain ⟨_, rfl⟩ := ln1 hl; rfl⟩
  refine ⟨PySem.W.fnOf "law" "law" (defArgs s_law) (defBody s_law) (defScope s_law) .none kV22 dc22 pm22 an22 cd22 ct22, fun s v => .of_eq rfl, fun base _ _ => ?_⟩
  have ok__law_take := okf__law_take (P := l.prog) (w := w) (base := base) T B__law_take
  have ok__law_web := okf__law_web (P := l.prog) (w := w) (base := base) T B__law_take ok__law_take B__law_web
  have ok__law_text := okf__law_text (P := l.prog) (w := w) (base := base) T B__law_text
  have ok_show_numbers := okf_show_numbers (P := l.prog) (w := w) (base := base) T B_show_numbers
  have ok_show_homes := okf_show_homes (P := l.prog) (w := w) (base := base) T B_show_homes
  have ok_show_web := okf_show_web (P := l.prog) (w := w) (base := base) T B_show_numbers ok_show_numbers B_show_homes ok_show_homes B_show_web
  have ok__law_mixed := okf__law_mixed (P := l.prog) (w := w) (base := base) T B__law_mixed
  have ok__law_cell_at := okf__law_cell_at (P := l.prog) (w := w) (base := base) T B__law_mixed ok__law_mixed B__law_cell_at
  have ok__law_pen := okf__law_pen (P := l.prog) (w := w) (base := base) T B__law_cell_at ok__law_cell_at B__law_pen
  have ok_check_text := okf_check_text (P := l.prog) (w := w) (base := base) T B_check_text
  have ok_read_number := okf_read_number (P := l.prog) (w := w) (base := base) T B_read_number
  have ok_read_numbers := okf_read_numbers (P := l.prog) (w := w) (base := base) T B_read_number ok_read_number B_read_numbers
  have ok_is_tuple := okf_is_tuple (P := l.prog) (w := w) (base := base) T B_is_tuple
  have ok_is_number := okf_is_number (P := l.prog) (w := w) (base := base) T B_is_number
  have ok_is_number_tuple := okf_is_number_tuple (P := l.prog) (w := w) (base := base) T B_is_tuple ok_is_tuple B_is_number ok_is_number B_is_number_tuple
  have ok_are_rooms := okf_are_rooms (P := l.prog) (w := w) (base := base) T B_is_number_tuple ok_is_number_tuple B_are_rooms
  have ok_are_keys := okf_are_keys (P := l.prog) (w := w) (base := base) T B_is_tuple ok_is_tuple B_is_number_tuple ok_is_number_tuple B_are_keys
  have ok_is_web := okf_is_web (P := l.prog) (w := w) (base := base) T B_is_tuple ok_is_tuple B_are_rooms ok_are_rooms B_are_keys ok_are_keys B_is_web
  have ok_read_nest := okf_read_nest (P := l.prog) (w := w) (base := base) T B_read_nest
  have ok_read_homes := okf_read_homes (P := l.prog) (w := w) (base := base) T B_read_nest ok_read_nest B_read_homes
  have ok_read_web := okf_read_web (P := l.prog) (w := w) (base := base) T B_check_text ok_check_text B_read_numbers ok_read_numbers B_is_web ok_is_web B_read_homes ok_read_homes B_read_web
  have ok__law_is_web := okf__law_is_web (P := l.prog) (w := w) (base := base) T B__law_is_web
  exact okf_law T B__law_web ok__law_web B__law_text ok__law_text B_show_web ok_show_web B__law_pen ok__law_pen B_read_web ok_read_web B__law_is_web ok__law_is_web B_law
theorem walk {l : PySem.W.OpenLaw} {q : Program} {loose : List Str} {XP : (Str → Option Value) → Heap → Prop} {YP : World → Heap → Prop} {d : DefRec} {K : Params → PySem.W.Frag} (hn : l.most = some 63) (hdf : d.params.defaults = [])
    (hY : ∀ (w : World) (h : Heap), YP w h → (K w.params).In h)
    (F : ∀ (w : World) (mg : Str → Option Value) (fa : Addr) (h : Heap), (K w.params).In h → h.Ns mainGlobals mg → mg d.name = some (.ref fa) →
      ∃ fd : FuncData, (∀ (s : Shared) (u : Value), BindsTo s fd ⟨[u], []⟩ [("_law_script", u)]) ∧ ∀ base : Heap, (K w.params).In base → base.Ns mainGlobals mg → FnOk l.prog w (K w.params) mg base CX0 6 fa fd ["_law_script"] (spM (K w.params) 1 F_law)) :
    PySem.W.WalkO q loose XP YP l.row.toRowW d [] (fun f vs => PySem.call f vs) :=
  L2.walk_of (n := 63) (k := 6) (x := "_law_script") (CX := fun _ => CX0) (sp := fun w => spM (K w.params) 1 F_law) hn (by decide) hdf (by first | exact ⟨rfl, by decide, by decide, rfl⟩ | exact ⟨rfl, by decide, by decide⟩) hY F (fun _ _ a ns hl hO hS => law_sp (law_true ns hl) hO hS) fun _ _ _ _ _ z => z
noncomputable def qv : Program := { PySem.Challenge.pw_keynests_k62_webs_written with main := { PySem.Challenge.pw_keynests_k62_webs_written.main with body := [top 35] } }
noncomputable def lse : List Str := (PySem.Challenge.pw_keynests_k62_webs_written.main.scope.names.map (·.1)).filter fun x => !(x == "law")
noncomputable def dl : DefRec := { name := "law", params := defArgs s_law, body := defBody s_law, scope := defScope s_law, pos := defPos s_law }
noncomputable def obs (K : PySem.W.Frag) : List (Option SeenD) × List (Option (Option Value)) × List (Option Int) × List (Option Str) := ([fnSees K "_law_take", fnSees K "_law_web", fnSees K "_law_text", fnSees K "show_numbers", fnSees K "show_homes", fnSees K "show_web", fnSees K "_law_mixed", fnSees K "_law_cell_at", fnSees K "_law_pen", fnSees K "check_text", fnSees K "read_number", fnSees K "read_numbers", fnSees K "is_tuple", fnSees K "is_number", fnSees K "is_number_tuple", fnSees K "are_rooms", fnSees K "are_keys", fnSees K "is_web", fnSees K "read_nest", fnSees K "read_homes", fnSees K "read_web", fnSees K "_law_is_web", fnSees K "law"], [PySem.W.nsIn K mainGlobals "all", PySem.W.nsIn K mainGlobals "any", PySem.W.nsIn K mainGlobals "bool", PySem.W.nsIn K mainGlobals "int", PySem.W.nsIn K mainGlobals "isinstance", PySem.W.nsIn K mainGlobals "len", PySem.W.nsIn K mainGlobals "list", PySem.W.nsIn K mainGlobals "range", PySem.W.nsIn K mainGlobals "str", PySem.W.nsIn K mainGlobals "tuple"], [intSees K "MOST_NESTS", intSees K "MOST_ROOM", intSees K "MOST_KEYS", intSees K "MOST_FIGURES"], [strSees K "FIGURES", strSees K "LETTERS"])
noncomputable def good : List (Option SeenD) × List (Option (Option Value)) × List (Option Int) × List (Option Str) := ([seenOf "_law_take" s__law_take, seenOf "_law_web" s__law_web, seenOf "_law_text" s__law_text, seenOf "show_numbers" s_show_numbers, seenOf "show_homes" s_show_homes, seenOf "show_web" s_show_web, seenOf "_law_mixed" s__law_mixed, seenOf "_law_cell_at" s__law_cell_at, seenOf "_law_pen" s__law_pen, seenOf "check_text" s_check_text, seenOf "read_number" s_read_number, seenOf "read_numbers" s_read_numbers, seenOf "is_tuple" s_is_tuple, seenOf "is_number" s_is_number, seenOf "is_number_tuple" s_is_number_tuple, seenOf "are_rooms" s_are_rooms, seenOf "are_keys" s_are_keys, seenOf "is_web" s_is_web, seenOf "read_nest" s_read_nest, seenOf "read_homes" s_read_homes, seenOf "read_web" s_read_web, seenOf "_law_is_web" s__law_is_web, seenOf "law" s_law], [some none, some none, some none, some none, some none, some none, some none, some none, some none, some none], [some 10, some 9, some 30, some 60], [some "0123456789", some "abcdefghijklmnopqrstuvwxyz"])
end P
open PySem PySem.W PyProof.Rows
set_option maxRecDepth 100000 in
set_option maxHeartbeats 0 in
theorem PySem.Challenge.cw_keynests_k62_webs_written_holds : PySem.Challenge.rw_keynests_k62_webs_written.Holds := by
  refine M.own_head (l := PySem.Challenge.rw_keynests_k62_webs_written) (q := P.qv) (loose := P.lse) (d := P.dl) (obs := P.obs) (good := P.good) (N := 60000) (by kernel_rfl) (fun w => by kernel_rfl) (by kernel_rfl) (by kernel_rfl) (by kernel_rfl) (by kernel_rfl) ⟨rfl, rfl, rfl, rfl, rfl, by decide +kernel⟩ ?hw fun K e => ?_
  case hw => w_witness2
  refine P.walk (l := PySem.Challenge.rw_keynests_k62_webs_written) (K := fun _ => K) (by rfl) (by rfl) (fun w h Y => Y) fun w mg fa h KX G hmg => ?_
  have e_fn := congrArg (·.1) e
  have e_vv := congrArg (·.2.1) e
  have e_it := congrArg (·.2.2.1) e
  have e_st := congrArg (·.2.2.2) e
  obtain ⟨f0, _, _, _, _, _, _, _, _, _, a0, l0, c0, k0⟩ := M.fn_facts (List.cons.inj e_fn).1
  replace e_fn := (List.cons.inj e_fn).2
  obtain ⟨f1, _, _, _, _, _, _, _, _, _, a1, l1, c1, k1⟩ := M.fn_facts (List.cons.inj e_fn).1
  replace e_fn := (List.cons.inj e_fn).2
  obtain ⟨f2, _, _, _, _, _, _, _, _, _, a2, l2, c2, k2⟩ := M.fn_facts (List.cons.inj e_fn).1
  replace e_fn := (List.cons.inj e_fn).2
  obtain ⟨f3, _, _, _, _, _, _, _, _, _, a3, l3, c3, k3⟩ := M.fn_facts (List.cons.inj e_fn).1
  replace e_fn := (List.cons.inj e_fn).2
  obtain ⟨f4, _, _, _, _, _, _, _, _, _, a4, l4, c4, k4⟩ := M.fn_facts (List.cons.inj e_fn).1
  replace e_fn := (List.cons.inj e_fn).2
  obtain ⟨f5, _, _, _, _, _, _, _, _, _, a5, l5, c5, k5⟩ := M.fn_facts (List.cons.inj e_fn).1
  replace e_fn := (List.cons.inj e_fn).2
  obtain ⟨f6, _, _, _, _, _, _, _, _, _, a6, l6, c6, k6⟩ := M.fn_facts (List.cons.inj e_fn).1
  replace e_fn := (List.cons.inj e_fn).2
  obtain ⟨f7, _, _, _, _, _, _, _, _, _, a7, l7, c7, k7⟩ := M.fn_facts (List.cons.inj e_fn).1
  replace e_fn := (List.cons.inj e_fn).2
  obtain ⟨f8, _, _, _, _, _, _, _, _, _, a8, l8, c8, k8⟩ := M.fn_facts (List.cons.inj e_fn).1
  replace e_fn := (List.cons.inj e_fn).2
  obtain ⟨f9, _, _, _, _, _, _, _, _, _, a9, l9, c9, k9⟩ := M.fn_facts (List.cons.inj e_fn).1
  replace e_fn := (List.cons.inj e_fn).2
  obtain ⟨f10, _, _, _, _, _, _, _, _, _, a10, l10, c10, k10⟩ := M.fn_facts (List.cons.inj e_fn).1
  replace e_fn := (List.cons.inj e_fn).2
  obtain ⟨f11, _, _, _, _, _, _, _, _, _, a11, l11, c11, k11⟩ := M.fn_facts (List.cons.inj e_fn).1
  replace e_fn := (List.cons.inj e_fn).2
  obtain ⟨f12, _, _, _, _, _, _, _, _, _, a12, l12, c12, k12⟩ := M.fn_facts (List.cons.inj e_fn).1
  replace e_fn := (List.cons.inj e_fn).2
  obtain ⟨f13, _, _, _, _, _, _, _, _, _, a13, l13, c13, k13⟩ := M.fn_facts (List.cons.inj e_fn).1
  replace e_fn := (List.cons.inj e_fn).2
  obtain ⟨f14, _, _, _, _, _, _, _, _, _, a14, l14, c14, k14⟩ := M.fn_facts (List.cons.inj e_fn).1
  replace e_fn := (List.cons.inj e_fn).2
  obtain ⟨f15, _, _, _, _, _, _, _, _, _, a15, l15, c15, k15⟩ := M.fn_facts (List.cons.inj e_fn).1
  replace e_fn := (List.cons.inj e_fn).2
  obtain ⟨f16, _, _, _, _, _, _, _, _, _, a16, l16, c16, k16⟩ := M.fn_facts (List.cons.inj e_fn).1
  replace e_fn := (List.cons.inj e_fn).2
  obtain ⟨f17, _, _, _, _, _, _, _, _, _, a17, l17, c17, k17⟩ := M.fn_facts (List.cons.inj e_fn).1
  replace e_fn := (List.cons.inj e_fn).2
  obtain ⟨f18, _, _, _, _, _, _, _, _, _, a18, l18, c18, k18⟩ := M.fn_facts (List.cons.inj e_fn).1
  replace e_fn := (List.cons.inj e_fn).2
  obtain ⟨f19, _, _, _, _, _, _, _, _, _, a19, l19, c19, k19⟩ := M.fn_facts (List.cons.inj e_fn).1
  replace e_fn := (List.cons.inj e_fn).2
  obtain ⟨f20, _, _, _, _, _, _, _, _, _, a20, l20, c20, k20⟩ := M.fn_facts (List.cons.inj e_fn).1
  replace e_fn := (List.cons.inj e_fn).2
  obtain ⟨f21, _, _, _, _, _, _, _, _, _, a21, l21, c21, k21⟩ := M.fn_facts (List.cons.inj e_fn).1
  replace e_fn := (List.cons.inj e_fn).2
  obtain ⟨f22, _, _, _, _, _, _, _, _, _, a22, l22, c22, k22⟩ := M.fn_facts (List.cons.inj e_fn).1
  replace e_fn := (List.cons.inj e_fn).2
  have z_all := (List.cons.inj e_vv).1
  replace e_vv := (List.cons.inj e_vv).2
  have z_any := (List.cons.inj e_vv).1
  replace e_vv := (List.cons.inj e_vv).2
  have z_bool := (List.cons.inj e_vv).1
  replace e_vv := (List.cons.inj e_vv).2
  have z_int := (List.cons.inj e_vv).1
  replace e_vv := (List.cons.inj e_vv).2
  have z_isinstance := (List.cons.inj e_vv).1
  replace e_vv := (List.cons.inj e_vv).2
  have z_len := (List.cons.inj e_vv).1
  replace e_vv := (List.cons.inj e_vv).2
  have z_list := (List.cons.inj e_vv).1
  replace e_vv := (List.cons.inj e_vv).2
  have z_range := (List.cons.inj e_vv).1
  replace e_vv := (List.cons.inj e_vv).2
  have z_str := (List.cons.inj e_vv).1
  replace e_vv := (List.cons.inj e_vv).2
  have z_tuple := (List.cons.inj e_vv).1
  replace e_vv := (List.cons.inj e_vv).2
  obtain ⟨_, v_MOST_NESTS⟩ := M.int_facts (List.cons.inj e_it).1
  replace e_it := (List.cons.inj e_it).2
  obtain ⟨_, v_MOST_ROOM⟩ := M.int_facts (List.cons.inj e_it).1
  replace e_it := (List.cons.inj e_it).2
  obtain ⟨_, v_MOST_KEYS⟩ := M.int_facts (List.cons.inj e_it).1
  replace e_it := (List.cons.inj e_it).2
  obtain ⟨_, v_FIGURES⟩ := M.str_facts (List.cons.inj e_st).1
  replace e_st := (List.cons.inj e_st).2
  obtain ⟨_, v_MOST_FIGURES⟩ := M.int_facts (List.cons.inj e_it).1
  replace e_it := (List.cons.inj e_it).2
  obtain ⟨_, v_LETTERS⟩ := M.str_facts (List.cons.inj e_st).1
  replace e_st := (List.cons.inj e_st).2
  exact P.all_mk KX G hmg a0 l0 c0 k0 a1 l1 c1 k1 a2 l2 c2 k2 a3 l3 c3 k3 a4 l4 c4 k4 a5 l5 c5 k5 a6 l6 c6 k6 a7 l7 c7 k7 a8 l8 c8 k8 a9 l9 c9 k9 a10 l10 c10 k10 a11 l11 c11 k11 a12 l12 c12 k12 a13 l13 c13 k13 a14 l14 c14 k14 a15 l15 c15 k15 a16 l16 c16 k16 a17 l17 c17 k17 a18 l18 c18 k18 a19 l19 c19 k19 a20 l20 c20 k20 a21 l21 c21 k21 a22 l22 c22 k22 z_all z_any z_bool z_int z_isinstance z_len z_list z_range z_str z_tuple v_MOST_NESTS v_MOST_ROOM v_MOST_KEYS v_FIGURES v_MOST_FIGURES v_LETTERS
