import PyProof.Rows.All
import Wide.All
import OpenK.AllK
import Wide.FinOn
import Lean
import PyProof.EqAt
import PyProof.EqKinds
import PyProof.TupleCall
import OpenK.KRaise
import PySem.SetOps
import PyProof.SetKind
import PyProof.DictStraight
import PyProof.CollectWalk
import PyProof.Seq
import PyProof.Walks
import PyProof.FactsAll.set
import PyProof.Rows.SortShell
import PyProof.Rows.SortWalk
import PyProof.Rows.SetFrom
import PyProof.SumAny
import PyProof.ListRange
import PyProof.EnumMake
import KE.KDictList
import KE.KRevIter
import KE.BitLaws
import PyProof.Rows.MinMaxN
import PyProof.DictDisplay
import KE.KRevSl
import PyProof.PureInt
import PySem.Challenge.RW_keynests_k33_words_of_parts
set_option Elab.async false
set_option linter.all false
set_option maxRecDepth 100000
namespace L2
open PySem PySem.Spec PyProof.Rows
noncomputable abbrev Key := Sum Int Str
noncomputable def keyIs : Key → Value → Bool
  | .inl k, v => Value.isInt k v
  | .inr x, v => Value.isStrOf x v
noncomputable def keyH (w : World) : Key → Int
  | .inl k => hashInt k
  | .inr x => hashStr w x
theorem keyIs_shape : ∀ {k : Key} {v : Value}, keyIs k v = true → (∃ i t, k = Sum.inl i ∧ v = Value.int i t) ∨ (∃ x t, k = Sum.inr x ∧ v = Value.str x t)
  | .inl i, v, h => by
    obtain ⟨t, e⟩ := Value.isInt_shape (k := i) (v := v) h
    exact .inl ⟨i, t, rfl, e⟩
  | .inr x, v, h => by
    obtain ⟨t, e⟩ := Value.isStrOf_shape (x := x) (v := v) h
    exact .inr ⟨x, t, rfl, e⟩
theorem keyIs_int (i : Int) (t : Tok) : keyIs (.inl i) (.int i t) = true := by simp [keyIs, Value.isInt]
theorem keyIs_str (x : Str) (t : Tok) : keyIs (.inr x) (.str x t) = true := by simp [keyIs, Value.isStrOf]
theorem key_ll (a b : Int) : decide ((Sum.inl a : Key) = Sum.inl b) = (a == b) := by
  by_cases e : a = b
  · subst e; simp
  · have h : ¬ (Sum.inl a : Key) = Sum.inl b := fun q => e (Sum.inl.inj q)
    rw [decide_eq_false h]
    exact (beq_eq_false_iff_ne.mpr e).symm
theorem key_rr (a b : Str) : decide ((Sum.inr a : Key) = Sum.inr b) = decide (a = b) := by
  by_cases e : a = b
  · subst e; simp
  · have h : ¬ (Sum.inr a : Key) = Sum.inr b := fun q => e (Sum.inr.inj q)
    rw [decide_eq_false h, decide_eq_false e]
theorem key_lr (a : Int) (b : Str) : decide ((Sum.inl a : Key) = Sum.inr b) = false := decide_eq_false (fun q => nomatch q)
theorem key_rl (a : Str) (b : Int) : decide ((Sum.inr a : Key) = Sum.inl b) = false := decide_eq_false (fun q => nomatch q)
noncomputable def mixKind (prog : Program) (w : World) : PySem.KeyKind prog w Key where
  is := keyIs
  hash := keyH w
  inj := fun v a b ha hb => by
    rcases keyIs_shape ha with ⟨i, t, rfl, rfl⟩ | ⟨x, t, rfl, rfl⟩
    · rcases keyIs_shape hb with ⟨j, u, rfl, e⟩ | ⟨y, u, rfl, e⟩
      · injection e with e1 _; rw [e1]
      · exact nomatch e
    · rcases keyIs_shape hb with ⟨j, u, rfl, e⟩ | ⟨y, u, rfl, e⟩
      · exact nomatch e
      · injection e with e1 _; rw [e1]
  byValue := fun k v h => by
    rcases keyIs_shape h with ⟨i, t, rfl, rfl⟩ | ⟨x, t, rfl, rfl⟩ <;> rfl
  pyHash := fun hv h => by
    rcases keyIs_shape hv with ⟨i, t, rfl, rfl⟩ | ⟨x, t, rfl, rfl⟩
    · exact wpAny_pyHash_int h
    · exact wpAny_pyHash_str h
  eqBool := fun hu hv h => by
    rcases keyIs_shape hu with ⟨i, t, rfl, rfl⟩ | ⟨x, t, rfl, rfl⟩
    · rcases keyIs_shape hv with ⟨j, u, rfl, rfl⟩ | ⟨y, u, rfl, rfl⟩
      · rw [key_ll] at h; exact wpAny_eqBool_int h
      · rw [key_lr] at h; exact SeqAt.EqAt.int_str i t y u _ _ _ _ h
    · rcases keyIs_shape hv with ⟨j, u, rfl, rfl⟩ | ⟨y, u, rfl, rfl⟩
      · rw [key_rl] at h; exact SeqAt.EqAt.str_int x t j u _ _ _ _ h
      · rw [key_rr] at h; exact wpAny_eqBool_str h
  «strs» := fun k x t v h => by
    rcases keyIs_shape h with ⟨i, u, rfl, e⟩ | ⟨y, u, rfl, e⟩
    · exact nomatch e
    · injection e with e1 _
      subst e1
      cases v <;> rfl
theorem mixKind_is (prog : Program) (w : World) (k : Key) (v : Value) : (mixKind prog w).is k v = keyIs k v := rfl
theorem mixKind_int (prog : Program) (w : World) (i : Int) (t : Tok) : (mixKind prog w).is (.inl i) (.int i t) = true := keyIs_int i t
theorem mixKind_str (prog : Program) (w : World) (x : Str) (t : Tok) : (mixKind prog w).is (.inr x) (.str x t) = true := keyIs_str x t
end L2
namespace L2
open PySem PySem.Spec PyProof.Rows
inductive V where
  | non | bl (b : Bool) | int (i : Int) | str (x : Str) | byt (b : Array UInt8) | flt (b : UInt64) | ref (a : Addr) | ty (n : String)
  deriving DecidableEq
noncomputable def RelV : V → Value → Prop
  | .non, u => u = Value.none
  | .bl b, u => u = Value.bool b
  | .int i, u => ∃ t, u = Value.int i t
  | .str x, u => ∃ t, u = Value.str x t
  | .byt b, u => ∃ t, u = Value.bytes b t
  | .flt b, u => ∃ t, u = Value.float b t
  | .ref a, u => u = Value.ref a
  | .ty n, u => u = Value.type n
noncomputable abbrev Vals : List V → List Value → Prop := Paired RelV
theorem Vals.length {xs : List V} {us : List Value} (r : Vals xs us) : xs.length = us.length := Paired.length r
theorem Vals.get : ∀ {xs : List V} {us : List Value} {i : Nat} {x : V}, Vals xs us → xs[i]? = some x → ∃ u, us[i]? = some u ∧ RelV x u
  | _, _, _, _, .nil, e => by simp at e
  | _, _, 0, _, .cons r _, e => by simp at e; subst e; exact ⟨_, rfl, r⟩
  | _, _, i + 1, x, .cons _ t, e => by
    obtain ⟨u, h1, h2⟩ := Vals.get (i := i) (x := x) t (by simpa using e)
    exact ⟨u, by simpa using h1, h2⟩
theorem Vals.set {x : V} {u : Value} (r : RelV x u) : ∀ {xs : List V} {us : List Value} (i : Nat), Vals xs us → Vals (xs.set i x) (us.set i u)
  | _, _, _, .nil => .nil
  | _, _, 0, .cons _ t => .cons r t
  | _, _, i + 1, .cons q t => .cons q (Vals.set r i t)
theorem Vals.append : ∀ {xs ys : List V} {us ws : List Value}, Vals xs us → Vals ys ws → Vals (xs ++ ys) (us ++ ws)
  | _, _, _, _, .nil, s => s
  | _, _, _, _, .cons r t, s => .cons r (Vals.append t s)
theorem Vals.take : ∀ {xs : List V} {us : List Value} (n : Nat), Vals xs us → Vals (xs.take n) (us.take n)
  | _, _, 0, _ => .nil
  | _, _, _ + 1, .nil => .nil
  | _, _, n + 1, .cons r t => .cons r (Vals.take n t)
theorem Vals.drop : ∀ {xs : List V} {us : List Value} (n : Nat), Vals xs us → Vals (xs.drop n) (us.drop n)
  | _, _, 0, r => r
  | _, _, _ + 1, .nil => .nil
  | _, _, n + 1, .cons _ t => Vals.drop n t
noncomputable def RelO : Option V → Option Value → Prop
  | some v, some u => RelV v u
  | none, none => True
  | _, _ => False
noncomputable def KV {κ : Type} : List (κ × V) → List (κ × Value) → Prop := Paired fun (p : κ × V) (q : κ × Value) => p.1 = q.1 ∧ RelV p.2 q.2
noncomputable def kV : Key → V
  | .inl i => .int i
  | .inr x => .str x
inductive HO where
    | lst (xs : List V)
    | tup (xs : List V)
    | dK (kvs : List (Key × V)) | dT (kvs : List (List Key × V))
    | set (S : Int → Bool) (n : Nat)
    | ins (C dx : Addr) (fs : List (Str × V))
    | own (x : Addr)
    | xd (fs : List (Str × V))
    | met (f x : Addr)
    | rng (lo hi : Int)
    | frz (o : Obj) (u : HO)
    | tbl (ps : Array Value)
    | ext (φ : Heap → Prop)
noncomputable abbrev Hp := Addr → Option HO
noncomputable def upd (H : Hp) (a : Addr) (o : HO) : Hp := fun b => if b = a then some o else H b
theorem upd_same {H : Hp} {a : Addr} {o : HO} : upd H a o a = some o := by unfold upd; rw [if_pos rfl]
theorem upd_ne {H : Hp} {a b : Addr} {o : HO} (h : b ≠ a) : upd H a o b = H b := by unfold upd; rw [if_neg h]
theorem ne_of_none {H : Hp} {a b : Addr} {o : HO} (h : H a = some o) (h' : H b = none) : a ≠ b := by
  intro e; subst e; rw [h] at h'; cases h'
section
variable (P : Program) (w : World)
noncomputable def ObjOk (H : Hp) (h : Heap) (a : Addr) : HO → Prop
  | .lst xs => xs.length ≤ sizeLine ∧ ∃ (its : List Value) (n : Nat), Vals xs its ∧ h.get? a = some { cls := .type "list", data := .seq its.toArray n }
  | .tup xs => xs.length ≤ sizeLine ∧ ∃ its : List Value, Vals xs its ∧ IsTup h a its.toArray
  | .dK kvs => kvs.length ≤ sizeLine ∧ (a == sysModules) = false ∧ ∃ vs, KV kvs vs ∧ h.DictOf (mixKind P w) a vs
  | .dT kvs => kvs.length ≤ sizeLine ∧ (a == sysModules) = false ∧ ∃ xs : List (List Key × Addr × Value),
      Paired (fun (p : List Key × V) (q : List Key × Addr × Value) => p.1 = q.1 ∧ H q.2.1 = some (.tup (p.1.map kV)) ∧ RelV p.2 q.2.2) kvs xs ∧
      ∃ o es ep, h.get? a = some o ∧ o.ExactDict ∧ o.data = .dict es ep ∧ es.toList = xs.map (entryOfKey (tupleKind (mixKind P w))) ∧ (xs.map (·.1)).Nodup
  | .set S n => h.SetOf (intKind P w) a S n
  | .ins C dx fs => H dx = some (.own a) ∧ fs.length ≤ 1000 ∧ dx ≠ a ∧ h.get? a = some (PySem.W.instObj C dx) ∧
      ∃ mA, h.Ns1 dx mA ∧ (∀ f, RelO (fs.lookup f) (mA f)) ∧ PySem.Within mA (fs.map (·.1))
  | .own _ => ∃ o, h.get? a = some o
  | .xd fs => ∃ mA, h.Ns1 a mA ∧ ∀ f, RelO (fs.lookup f) (mA f)
  | .rng lo hi => ∃ t u v, h.get? a = some { cls := .type "range", data := .fields #[.int lo t, .int hi u, .int 1 v] }
  | .frz o u => h.get? a = some o ∧ ObjOk H h a u
  | .tbl ps => h.get? a = some { cls := .none, data := .fields ps }
  | .met f x => h.get? a = some (PySem.W.methodObj (.ref f) (.ref x))
  | .ext φ => φ h ∧ (∃ o, h.get? a = some o) ∧ ∀ h1 h2 : Heap, φ h1 → (∀ o, h1.get? a = some o → h2.get? a = some o) → φ h2
noncomputable def HOk (H : Hp) (h : Heap) : Prop := ∀ a o, H a = some o → ObjOk P w H h a o
end
section
variable {P : Program} {w : World} {H H' : Hp} {h h' : Heap} {a : Addr} {o : HO}
theorem ObjOk.lt (x : ObjOk P w H h a o) : a < h.objs.size := by
  cases o with
  | lst xs => obtain ⟨_, _, _, _, e⟩ := x; exact Heap.lt_size e
  | tup xs => obtain ⟨_, _, _, p⟩ := x; exact p.lt
  | dK kvs => obtain ⟨_, _, _, _, o, _, _, e, _⟩ := x; exact Heap.lt_size e
  | dT kvs => obtain ⟨_, _, _, _, o, _, _, e, _⟩ := x; exact Heap.lt_size e
  | set S n => obtain ⟨o, _, _, _, e, _⟩ := x; exact Heap.lt_size e
  | ins C dx fs => obtain ⟨_, _, _, e, _⟩ := x; exact Heap.lt_size e
  | own y => obtain ⟨_, e⟩ := x; exact Heap.lt_size e
  | xd fs => obtain ⟨_, ⟨_, _, _, e, _⟩, _⟩ := x; exact Heap.lt_size e
  | rng lo hi => obtain ⟨_, _, _, e⟩ := x; exact Heap.lt_size e
  | frz ob u => obtain ⟨e, _⟩ := x; exact Heap.lt_size e
  | tbl ps => exact Heap.lt_size (show h.get? a = some _ from x)
  | met f y => exact Heap.lt_size (show h.get? a = some _ from x)
  | ext φ => obtain ⟨_, ⟨_, e⟩, _⟩ := x; exact Heap.lt_size e
theorem Paired.mapP {α β : Type} {F G : α → β → Prop} : ∀ {l₁ : List α} {l₂ : List β}, Paired F l₁ l₂ → (∀ a b, F a b → G a b) → Paired G l₁ l₂
  | _, _, .nil, _ => .nil
  | _, _, .cons r t, f => .cons (f _ _ r) (Paired.mapP t f)
theorem ObjOk.stay (x : ObjOk P w H h a o) (k : ∀ b u, (b = a ∨ H b = some (.own a)) → h.get? b = some u → h'.get? b = some u)
    (ho : ∀ b, H b = some (.own a) → H' b = some (.own a)) (ht : ∀ b xs, H b = some (.tup xs) → H' b = some (.tup xs)) : ObjOk P w H' h' a o := by
  induction o with
  | lst xs => obtain ⟨z, its, n, r, e⟩ := x; exact ⟨z, its, n, r, k _ _ (.inl rfl) e⟩
  | tup xs => obtain ⟨z, its, r, ob, e, c⟩ := x; exact ⟨z, its, r, ob, k _ _ (.inl rfl) e, c⟩
  | dK kvs => obtain ⟨z, y, vs, r, ob, es, ep, e, c⟩ := x; exact ⟨z, y, vs, r, ob, es, ep, k _ _ (.inl rfl) e, c⟩
  | dT kvs =>
    obtain ⟨z, y, xs, r, ob, es, ep, e, c⟩ := x
    exact ⟨z, y, xs, Paired.mapP r fun p q z => ⟨z.1, ht _ _ z.2.1, z.2.2⟩, ob, es, ep, k _ _ (.inl rfl) e, c⟩
  | set S n => obtain ⟨ob, es, ep, t, e, c⟩ := x; exact ⟨ob, es, ep, t, k _ _ (.inl rfl) e, c⟩
  | ins C dx fs =>
    obtain ⟨d, z, ne, e, mA, ⟨od, es, ep, e2, c⟩, r⟩ := x
    exact ⟨ho _ d, z, ne, k _ _ (.inl rfl) e, mA, ⟨od, es, ep, k _ _ (.inr d) e2, c⟩, r⟩
  | own y => obtain ⟨ob, e⟩ := x; exact ⟨ob, k _ _ (.inl rfl) e⟩
  | xd fs => obtain ⟨mA, ⟨od, es, ep, e, c⟩, r⟩ := x; exact ⟨mA, ⟨od, es, ep, k _ _ (.inl rfl) e, c⟩, r⟩
  | rng lo hi => obtain ⟨t, u, v, e⟩ := x; exact ⟨t, u, v, k _ _ (.inl rfl) e⟩
  | frz ob u ih => obtain ⟨e, q⟩ := x; exact ⟨k _ _ (.inl rfl) e, ih q⟩
  | tbl ps =>
    have e : h.get? a = some { cls := .none, data := .fields ps } := x
    show h'.get? a = some { cls := .none, data := .fields ps }
    exact k a _ (.inl rfl) e
  | met f y =>
    have e : h.get? a = some (PySem.W.methodObj (.ref f) (.ref y)) := x
    show h'.get? a = some (PySem.W.methodObj (.ref f) (.ref y))
    exact k a _ (.inl rfl) e
  | ext φ => obtain ⟨p, ⟨o, e⟩, st⟩ := x; exact ⟨st _ _ p fun o q => k _ _ (.inl rfl) q, ⟨o, k _ _ (.inl rfl) e⟩, st⟩
theorem HOk.lt (x : HOk P w H h) (e : H a = some o) : a < h.objs.size := (x a o e).lt
theorem HOk.fresh (x : HOk P w H h) (e : h.objs.size ≤ a) : H a = none := by
  cases q : H a with
  | none => rfl
  | some u => exact absurd (Nat.lt_of_lt_of_le (x.lt q) e) (Nat.lt_irrefl _)
theorem HOk.kept (x : HOk P w H h) (k : ∀ b u, h.get? b = some u → h'.get? b = some u) : HOk P w H h' := fun a o e =>
  (x a o e).stay (fun b u _ q => k b u q) (fun _ q => q) fun _ _ q => q
theorem HOk.laid (x : HOk P w H h) (k : ∀ b u, h.get? b = some u → h'.get? b = some u) (hp : h.objs.size ≤ a) (new : ObjOk P w (upd H a o) h' a o) : HOk P w (upd H a o) h' := fun b u e => by
  have hn := x.fresh hp
  by_cases hb : b = a
  · subst hb; rw [upd_same] at e; cases e; exact new
  · rw [upd_ne hb] at e
    exact (x b u e).stay (fun c v _ q => k c v q) (fun c q => by rw [upd_ne (ne_of_none q hn)]; exact q) fun c xs q => by rw [upd_ne (ne_of_none q hn)]; exact q
end
noncomputable def Rd (H : Hp) (a : Addr) (u : HO) : Prop := H a = some u ∨ ∃ o, H a = some (.frz o u)
theorem Rd.ok {P : Program} {w : World} {H : Hp} {h : Heap} {a : Addr} {u : HO} (r : Rd H a u) (x : HOk P w H h) : ObjOk P w H h a u := by
  rcases r with r | ⟨o, r⟩
  · exact x a u r
  · obtain ⟨_, q⟩ := x a _ r
    exact q
noncomputable def Mut : Option HO → Prop
  | some (.lst _) => True
  | some (.dK _) => True
  | some (.dT _) => True
  | some (.set _ _) => True
  | some (.ins _ _ _) => True
  | some (.ext _) => True
  | _ => False
section
variable {P : Program} {w : World} {H : Hp} {h h' : Heap} {x e : Addr} {o' : HO}
theorem HOk.write (ok : HOk P w H h) (mu : Mut (H x)) (he : e = x ∨ H e = some (.own x)) (k : ∀ b u, b ≠ e → h.get? b = some u → h'.get? b = some u) (heo : ∃ u, h'.get? e = some u)
    (new : ObjOk P w (upd H x o') h' x o') : HOk P w (upd H x o') h' := fun b u q => by
  have nown : ∀ c y, H c = some (.own y) → c ≠ x := fun c y r z => by subst z; rw [r] at mu; exact mu
  have ntup : ∀ c xs, H c = some (.tup xs) → c ≠ x := fun c xs r z => by subst z; rw [r] at mu; exact mu
  by_cases hb : b = x
  · subst hb; rw [upd_same] at q; cases q; exact new
  · rw [upd_ne hb] at q
    by_cases hbe : b = e
    · have q' : H b = some (.own x) := by
        rcases he with z | z
        · exact absurd (hbe.trans z) hb
        · rw [hbe]; exact z
      rw [q] at q'; cases q'
      obtain ⟨v, hv⟩ := heo
      exact ⟨v, by rw [hbe]; exact hv⟩
    · refine (ok b u q).stay (fun c v hc r => k c v ?_ r) (fun c r => by rw [upd_ne (nown c b r)]; exact r) fun c xs r => by rw [upd_ne (ntup c xs r)]; exact r
      rcases hc with rfl | hc
      · exact hbe
      · rintro rfl
        rcases he with z | z
        · exact nown c b hc z
        · rw [hc] at z; cases z; exact hb rfl
end
structure Un (fs ex : List Addr) (H H' : Hp) (h h' : Heap) : Prop where
  keep : ∀ b o, h.get? b = some o → H b = none → b ∉ fs → b ∉ ex → h'.get? b = some o
  slot : ∀ b o, h.get? b = some o → H b = none → b ∈ fs → b ∉ ex → ∃ sl, h'.get? b = some { o with slots := sl }
  free : ∀ b o, h.get? b = some o → H b = none → b ∉ ex → H' b = none
  there : ∀ b o, h.get? b = some o → b ∉ ex → ∃ o', h'.get? b = some o'
  tups : ∀ b xs, H b = some (.tup xs) → H' b = some (.tup xs)
  frzs : ∀ b o u, H b = some (.frz o u) → H' b = some (.frz o u)
  tbls : ∀ b ps, H b = some (.tbl ps) → ∃ more, H' b = some (.tbl (ps ++ more))
section
variable {fs fs' ex ex' : List Addr} {H H1 H2 : Hp} {h h1 h2 h' : Heap} {a x e : Addr} {o : HO}
theorem Un.any (u : Un fs ex H H1 h h1) {b : Addr} {ob : Obj} (q : h.get? b = some ob) (n : H b = none) (hx : b ∉ ex) : ∃ sl, h1.get? b = some { ob with slots := sl } := by
  by_cases hb : b ∈ fs
  · exact u.slot b ob q n hb hx
  · exact ⟨ob.slots, u.keep b ob q n hb hx⟩
theorem Un.kept (k : ∀ b u, h.get? b = some u → h'.get? b = some u) : Un fs ex H H h h' :=
  ⟨fun b ob q _ _ _ => k b ob q, fun b ob q _ _ _ => ⟨ob.slots, k b ob q⟩, fun _ _ _ n _ => n, fun b ob q _ => ⟨ob, k b ob q⟩, fun _ _ q => q, fun _ _ _ q => q, fun _ ps q => ⟨#[], by rw [q]; simp⟩⟩
theorem Un.refl : Un fs ex H H h h := Un.kept fun _ _ q => q
theorem Un.laid (k : ∀ b u, h.get? b = some u → h'.get? b = some u) (hp : h.objs.size ≤ a) (hn : H a = none) : Un fs ex H (upd H a o) h h' where
  keep := fun b u q _ _ _ => k b u q
  slot := fun b u q _ _ _ => ⟨u.slots, k b u q⟩
  free := fun b u q n _ => by rw [upd_ne (Nat.ne_of_lt (Nat.lt_of_lt_of_le (Heap.lt_size q) hp))]; exact n
  there := fun b u q _ => ⟨u, k b u q⟩
  tups := fun b xs q => by rw [upd_ne (ne_of_none q hn)]; exact q
  frzs := fun b u xs q => by rw [upd_ne (ne_of_none q hn)]; exact q
  tbls := fun b ps q => ⟨#[], by rw [upd_ne (ne_of_none q hn), q]; simp⟩
theorem Un.write (mu : Mut (H x)) (he : e = x ∨ H e = some (.own x)) (k : ∀ b u, b ≠ e → h.get? b = some u → h'.get? b = some u) (heo : ∃ u, h'.get? e = some u) : Un fs ex H (upd H x o) h h' := by
  have hx : ∀ b, H b = none → b ≠ x := fun b n z => by subst z; rw [n] at mu; exact mu
  have hb : ∀ b, H b = none → b ≠ e := fun b n z => by
    subst z
    rcases he with r | r
    · exact hx b n r
    · rw [n] at r; cases r
  have hm : ∀ b u, H b = some u → ¬ Mut (some u) → b ≠ x := fun b u q nm z => by subst z; rw [q] at mu; exact nm mu
  refine ⟨fun b u q n _ _ => k b u (hb b n) q, fun b u q n _ _ => ⟨u.slots, k b u (hb b n) q⟩, fun b u q n _ => by rw [upd_ne (hx b n)]; exact n, fun b u q _ => ?_,
    fun b xs q => by rw [upd_ne (hm b _ q fun z => z)]; exact q, fun b u xs q => by rw [upd_ne (hm b _ q fun z => z)]; exact q, fun b ps q => ⟨#[], by rw [upd_ne (hm b _ q fun z => z), q]; simp⟩⟩
  by_cases hbe : b = e
  · subst hbe; exact heo
  · exact ⟨u, k b u hbe q⟩
end
noncomputable def trk (h : Heap) (H : Hp) : List Addr := (List.range h.objs.size).filter fun a => (H a).isSome
noncomputable def hidT (h : Heap) (H : Hp) : Heap := PySem.W.hideAll h (trk h H)
theorem hidT_size (h : Heap) (H : Hp) : (hidT h H).objs.size = h.objs.size := PySem.W.hideAll_size _ _
theorem hidT_get {h : Heap} {H : Hp} {b : Addr} {o : Obj} (e : h.get? b = some o) (n : H b = none) : (hidT h H).get? b = some o :=
  PySem.W.hideAll_get _ e fun hm => by
    have q : (H b).isSome = true := (List.mem_filter.mp hm).2
    rw [n] at q; simp at q
theorem of_hidT {h : Heap} {H : Hp} {b : Addr} {o : Obj} (e : (hidT h H).get? b = some o) : h.get? b = some o ∧ H b = none := by
  have e' : h.get? b = some o := PySem.W.of_hideAll (trk h H) e
  refine ⟨e', ?_⟩
  cases q : H b with
  | none => rfl
  | some x =>
    have hm : b ∈ trk h H := List.mem_filter.mpr ⟨List.mem_range.mpr (Heap.lt_size e'), by simp [q]⟩
    have z : (hidT h H).get? b = none := PySem.W.hideAll_none (trk h H) hm
    rw [z] at e; cases e
noncomputable def allNews (g h : Heap) (L : Addr) : List (Addr × Obj) := (List.range h.objs.size).filterMap fun a => if a = L ∨ (g.get? a).isSome = true then none else (h.get? a).map fun o => (a, o)
noncomputable def rest (g h : Heap) (L d : Addr) : List (Addr × Obj) := (allNews g h L).filter fun p => decide (p.1 ≠ d)
end L2
namespace L2
open PySem PySem.Spec PyProof.Rows
structure Mod (K : PySem.W.Frag) (mg : Str → Option Value) (base : Heap) : Prop where
  kin : K.In base
  glob : base.Ns mainGlobals mg
  blt : ∃ mb, base.Ns builtinsNs mb ∧ ∀ x : Str, x ≠ "__name__" → mb x = bootBuiltins x
  nolimit : base.NoLimit
structure Cx where
  prog : Program
  w : World
  K : PySem.W.Frag
  mg : Str → Option Value
  base : Heap
  A : Around
  N : List Str
  s₀ : Shared
  H₀ : Hp
  env : Env
  outer : List Env
  stack : List Env
  ex : List Addr
  fn : Str → Bool
  calm : Bool
  pn : List (Addr × Obj)
  xe : Value → Shared → Prop
noncomputable def frs (l : List Env) : List Addr := l.filterMap (·.frame)
noncomputable abbrev Cx.fs (X : Cx) : List Addr := frs X.outer
noncomputable def Vis (sc : Scope) (x : Str) : Prop := sc.names.lookup x = some .local ∨ sc.names.lookup x = some .cell ∨ sc.names.lookup x = some .free
noncomputable def Loc (sc : Scope) (x : Str) : Prop := sc.names.lookup x = some .local ∨ sc.names.lookup x = some .cell
noncomputable def Look (env : Env) (h : Heap) (m : Str → Option Value) (x : Str) (u : Value) : Prop :=
  (env.kindOf x = some .local ∧ m x = some u) ∨ ((env.kindOf x = some .cell ∨ env.kindOf x = some .free) ∧ ∃ c, env.cells.lookup x = some c ∧ h.IsCell c (some u))
structure Cx.Ok (X : Cx) : Prop where
  mod : Mod X.K X.mg X.base
  kind : X.env.scope.kind = .function
  glob : X.env.globals = mainGlobals
  blt : X.env.builtins = builtinsNs
  above : X.s₀.heap.objs.size ≤ X.env.locals
  inj : ∀ x y c, X.env.cells.lookup x = some c → X.env.cells.lookup y = some c → x = y
  has : ∀ x, (X.env.kindOf x = some .cell ∨ X.env.kindOf x = some .free) → ∃ c, X.env.cells.lookup x = some c
  cab : ∀ x c, X.fn x = true → X.env.cells.lookup x = some c → X.s₀.heap.objs.size ≤ c
  hd : X.calm = true → X.A.handled = none
  frames : X.A.frames = some X.stack
  stk : X.stack = X.outer ∨ (X.stack = X.env :: X.outer ∧ X.env.frame = some X.env.locals)
  exf : ∀ b ∈ X.ex, b ≠ X.env.locals ∧ ∀ x c, X.env.cells.lookup x = some c → c ≠ b
  bs : ∀ b o, X.base.get? b = some o → X.s₀.heap.get? b = some o ∧ X.H₀ b = none
  bsz : X.base.objs.size ≤ X.s₀.heap.objs.size
  noex : ∀ b o, X.base.get? b = some o → b ∉ X.ex
  exfs : ∀ b ∈ X.ex, b ∉ X.fs
  funs : X.s₀.heap.FunFrames X.base X.outer
  frf : ∀ b ∈ X.fs, X.H₀ b = none
structure Inv (X : Cx) (pins : List (Addr × Obj)) (σ : List (Option V)) (H : Hp) (s : Shared) : Prop where
  ok : X.Ok
  os : s.os = X.s₀.os
  bare : AllBare s.gens
  base : Un X.fs X.ex X.H₀ H X.s₀.heap s.heap
  loc : ∃ m, s.heap.Ns X.env.locals m ∧ ∀ (i : Nat) (x : Str) (v : V), X.N[i]? = some x → σ[i]? = some (some v) → Vis X.env.scope x → ∃ u, RelV v u ∧ Look X.env s.heap m x u
  cell : ∀ x c, X.env.cells.lookup x = some c → ∃ v, s.heap.IsCell c v
  free : H X.env.locals = none
  freeC : ∀ x c, X.env.cells.lookup x = some c → H c = none
  pin : ∀ p ∈ X.pn ++ pins, s.heap.get? p.1 = some p.2 ∧ H p.1 = none ∧ p.1 ≠ X.env.locals ∧ p.1 ∉ X.fs ∧ ∀ v, p.2.data ≠ .cell v
  hok : HOk X.prog X.w H s.heap
  len : σ.length = X.N.length
section
variable {X : Cx} {pins : List (Addr × Obj)} {σ : List (Option V)} {H H' : Hp} {s : Shared} {h' : Heap}
theorem Cx.Ok.nofr (ok : X.Ok) {b : Addr} {o : Obj} (e : X.base.get? b = some o) : b ∉ X.fs := fun hb => by
  have := (ok.funs.mem hb).1
  rw [e] at this; cases this
theorem Inv.bs (I : Inv X pins σ H s) : ∀ b o, X.base.get? b = some o → s.heap.get? b = some o ∧ H b = none := fun b o e =>
  ⟨I.base.keep b o (I.ok.bs b o e).1 (I.ok.bs b o e).2 (I.ok.nofr e) (I.ok.noex b o e), I.base.free b o (I.ok.bs b o e).1 (I.ok.bs b o e).2 (I.ok.noex b o e)⟩
theorem Inv.bk (I : Inv X pins σ H s) : ∀ b o, X.base.get? b = some o → s.heap.get? b = some o := fun b o e => (I.bs b o e).1
theorem Inv.mod (I : Inv X pins σ H s) : Mod X.K X.mg X.base := I.ok.mod
theorem Inv.kIn (I : Inv X pins σ H s) : X.K.In s.heap := I.ok.mod.kin.keeps I.bk
theorem Inv.fr (I : Inv X pins σ H s) : ∃ m, Fr X.base X.env.locals s.heap m :=
  let ⟨m, hn, _⟩ := I.loc
  ⟨m, hn, I.bk, Nat.le_trans I.ok.bsz I.ok.above⟩
theorem Inv.lt (I : Inv X pins σ H s) : X.env.locals < s.heap.objs.size := let ⟨_, hn, _⟩ := I.loc; hn.lt
theorem Inv.sz (I : Inv X pins σ H s) : X.s₀.heap.objs.size ≤ s.heap.objs.size := Nat.le_trans I.ok.above (Nat.le_of_lt I.lt)
theorem Inv.nofs (I : Inv X pins σ H s) {a : Addr} (h : s.heap.objs.size ≤ a) : a ∉ X.fs := fun hb => by
  obtain ⟨_, o, ho, _⟩ := I.ok.funs.mem hb
  exact absurd (Nat.lt_of_lt_of_le (Heap.lt_size ho) (Nat.le_trans I.sz h)) (Nat.lt_irrefl _)
theorem Inv.cne (I : Inv X pins σ H s) : ∀ x c, X.env.cells.lookup x = some c → c ≠ X.env.locals := fun x c e z => by
  obtain ⟨v, o, ho, hd⟩ := I.cell x c e
  obtain ⟨m, ⟨o', es, ep, ho', hd', _⟩, _⟩ := I.loc
  rw [z, ho'] at ho; cases ho; rw [hd'] at hd; cases hd
theorem Inv.funs (I : Inv X pins σ H s) : s.heap.FunFrames X.base X.outer := by
  have all : ∀ (l : List Env), (∀ b ∈ frs l, b ∈ X.fs) → X.s₀.heap.FunFrames X.base l → s.heap.FunFrames X.base l := by
    intro l
    induction l with
    | nil => intro _ _; trivial
    | cons env r ih =>
      intro hs hl
      obtain ⟨hk, ⟨L, o, hf, hn, ho, hd⟩, hr⟩ := hl
      have hL : L ∈ X.fs := hs L (by unfold frs; rw [List.filterMap_cons, hf]; exact List.mem_cons_self)
      obtain ⟨sl, e⟩ := I.base.slot L o ho (I.ok.frf L hL) hL fun z => I.ok.exfs L z hL
      exact ⟨hk, ⟨L, _, hf, hn, e, hd⟩, ih (fun b hb => hs b (by unfold frs; rw [List.filterMap_cons, hf]; exact List.mem_cons_of_mem _ hb)) hr⟩
  exact all X.outer (fun _ hb => hb) I.ok.funs
theorem Inv.stack (I : Inv X pins σ H s) : s.heap.FunFrames X.base X.stack := by
  rcases I.ok.stk with e | ⟨e, hf⟩
  · rw [e]; exact I.funs
  · rw [e]
    obtain ⟨m, hn, _⟩ := I.loc
    refine .cons (by rw [I.ok.kind]; decide) hf hn ?_ I.funs
    exact Heap.get?_none_of_le (Nat.le_trans I.ok.bsz I.ok.above)
theorem Inv.stkSub (I : Inv X pins σ H s) : ∀ b ∈ frs X.stack, b ∈ X.env.locals :: X.fs := fun b hb => by
  rcases I.ok.stk with e | ⟨e, hf⟩
  · rw [e] at hb; exact List.mem_cons_of_mem _ hb
  · rw [e] at hb
    unfold frs at hb
    rw [List.filterMap_cons, hf] at hb
    exact hb
theorem Inv.stkFree (I : Inv X pins σ H s) : ∀ b ∈ frs X.stack, H b = none := fun b hb => by
  rcases List.mem_cons.mp (I.stkSub b hb) with e | hb
  · rw [e]; exact I.free
  · obtain ⟨_, o, ho, _⟩ := I.ok.funs.mem hb
    exact I.base.free b o ho (I.ok.frf b hb) fun z => I.ok.exfs b z hb
theorem Inv.step {g' : Array GenState} {t' : Nat} {d' : Drawn} {ch : List Addr} (I : Inv X pins σ H s)
    (hch : ∀ b ∈ ch, (b ∈ X.ex ∨ X.s₀.heap.objs.size ≤ b) ∧ b ≠ X.env.locals ∧ (∀ x c, X.env.cells.lookup x = some c → c ≠ b) ∧ ∀ p ∈ X.pn ++ pins, p.1 ≠ b)
    (keep : ∀ b o, b ≠ X.env.locals → b ∉ X.fs → b ∉ ch → s.heap.get? b = some o → H b = none → h'.get? b = some o)
    (slot : ∀ b o, b ≠ X.env.locals → b ∈ X.fs → b ∉ ch → s.heap.get? b = some o → H b = none → ∃ sl, h'.get? b = some { o with slots := sl }) (free : ∀ b o, b ∉ ch → s.heap.get? b = some o → H b = none → H' b = none)
    (there : ∀ b o, b ∉ ch → s.heap.get? b = some o → ∃ o', h'.get? b = some o')
    (tups : ∀ b xs, H b = some (.tup xs) → H' b = some (.tup xs)) (frzs : ∀ b o u, H b = some (.frz o u) → H' b = some (.frz o u)) (tbls : ∀ b ps, H b = some (.tbl ps) → ∃ more, H' b = some (.tbl (ps ++ more)))
    (ns : ∀ m, s.heap.Ns X.env.locals m → h'.Ns X.env.locals m) (hok : HOk X.prog X.w H' h') (hg : AllBare g') :
    Inv X pins σ H' { s with heap := h', gens := g', drawn := d', toks := t' } := by
  have neL : ∀ b o, X.s₀.heap.get? b = some o → b ≠ X.env.locals := fun b o e => Nat.ne_of_lt (Nat.lt_of_lt_of_le (Heap.lt_size e) I.ok.above)
  have neC : ∀ b o, X.s₀.heap.get? b = some o → b ∉ X.ex → b ∉ ch := fun b o e hx hb => by
    rcases (hch b hb).1 with z | z
    · exact hx z
    · exact absurd (Nat.lt_of_lt_of_le (Heap.lt_size e) z) (Nat.lt_irrefl _)
  have cellK : ∀ x c, X.env.cells.lookup x = some c → ∀ v, s.heap.IsCell c v → h'.IsCell c v := fun x c e v ⟨o, ho, hd⟩ => by
    have nch : c ∉ ch := fun z => (hch c z).2.2.1 x c e rfl
    by_cases hc : c ∈ X.fs
    · obtain ⟨sl, q⟩ := slot c o (I.cne x c e) hc nch ho (I.freeC x c e)
      exact ⟨_, q, hd⟩
    · exact ⟨o, keep c o (I.cne x c e) hc nch ho (I.freeC x c e), hd⟩
  refine ⟨I.ok, I.os, hg, ⟨fun b o e n hb hx => ?_, fun b o e n hb hx => ?_, fun b o e n hx => ?_, fun b o e hx => ?_, fun b xs e => tups b xs (I.base.tups b xs e), fun b o xs e => frzs b o xs (I.base.frzs b o xs e), fun b ps e => ?_⟩, ?_, fun x c e => ?_, ?_, fun x c e => ?_, fun p hp => ?_, hok, I.len⟩
  · exact keep b o (neL b o e) hb (neC b o e hx) (I.base.keep b o e n hb hx) (I.base.free b o e n hx)
  · obtain ⟨sl, e1⟩ := I.base.slot b o e n hb hx
    obtain ⟨sl', e2⟩ := slot b _ (neL b o e) hb (neC b o e hx) e1 (I.base.free b o e n hx)
    exact ⟨sl', e2⟩
  · obtain ⟨o', e1⟩ := I.base.there b o e hx
    exact free b o' (neC b o e hx) e1 (I.base.free b o e n hx)
  · obtain ⟨o', e1⟩ := I.base.there b o e hx
    exact there b o' (neC b o e hx) e1
  · obtain ⟨m1, e1⟩ := I.base.tbls b ps e
    obtain ⟨m2, e2⟩ := tbls b _ e1
    exact ⟨m1 ++ m2, by rw [e2, Array.append_assoc]⟩
  · obtain ⟨m, hn, hl⟩ := I.loc
    refine ⟨m, ns m hn, fun i x v e1 e2 e3 => ?_⟩
    obtain ⟨u, r, l⟩ := hl i x v e1 e2 e3
    refine ⟨u, r, ?_⟩
    rcases l with l | ⟨k, c, e, z⟩
    · exact .inl l
    · exact .inr ⟨k, c, e, cellK x c e _ z⟩
  · obtain ⟨v, z⟩ := I.cell x c e
    exact ⟨v, cellK x c e v z⟩
  · obtain ⟨m, ⟨o, _, _, ho, _⟩, _⟩ := I.loc
    exact free _ o (fun z => (hch _ z).2.1 rfl) ho I.free
  · obtain ⟨v, o, ho, hd⟩ := I.cell x c e
    exact free c o (fun z => (hch c z).2.2.1 x c e rfl) ho (I.freeC x c e)
  · obtain ⟨e, n, ne, nf, d⟩ := I.pin p hp
    have nch : p.1 ∉ ch := fun z => (hch p.1 z).2.2.2 p hp rfl
    exact ⟨keep p.1 p.2 ne nf nch e n, free p.1 p.2 nch e n, ne, nf, d⟩
theorem Inv.un {t' : Nat} (I : Inv X pins σ H s) (u : Un X.fs [] H H' s.heap h') (hok : HOk X.prog X.w H' h') : Inv X pins σ H' { s with heap := h', toks := t' } := by
  obtain ⟨m, ⟨o, es, ep, ho, r⟩, _⟩ := id I.loc
  obtain ⟨sl, hL⟩ := u.any ho I.free (by simp)
  exact I.step (g' := s.gens) (d' := s.drawn) (ch := []) (fun _ z => nomatch z) (fun b o _ hb _ e n => u.keep b o e n hb (by simp)) (fun b o _ hb _ e n => u.slot b o e n hb (by simp)) (fun b o _ e n => u.free b o e n (by simp)) (fun b o _ e => u.there b o e (by simp)) u.tups u.frzs u.tbls (fun m' hm => by
    obtain ⟨o', es', ep', ho', r'⟩ := hm
    rw [ho] at ho'; cases ho'
    exact ⟨_, es', ep', hL, r'⟩) hok I.bare
theorem Inv.call {g' : Array GenState} {t' : Nat} {d' : Drawn} {ch : List Addr} (I : Inv X pins σ H s) (u : Un (frs X.stack) ch H H' s.heap h') (hok : HOk X.prog X.w H' h') (hg : AllBare g')
    (hch : ∀ b ∈ ch, (b ∈ X.ex ∨ X.s₀.heap.objs.size ≤ b) ∧ b ≠ X.env.locals ∧ (∀ x c, X.env.cells.lookup x = some c → c ≠ b) ∧ ∀ p ∈ X.pn ++ pins, p.1 ≠ b) :
    Inv X pins σ H' { s with heap := h', gens := g', drawn := d', toks := t' } := by
  obtain ⟨m, ⟨o, es, ep, ho, r⟩, _⟩ := id I.loc
  obtain ⟨sl, hL⟩ := u.any ho I.free fun z => (hch _ z).2.1 rfl
  exact I.step (ch := ch) hch (fun b o hL hb hc e n => u.keep b o e n (fun z => (List.mem_cons.mp (I.stkSub b z)).elim hL hb) hc) (fun b o _ _ hc e n => u.any e n hc) (fun b o hc e n => u.free b o e n hc) (fun b o hc e => u.there b o e hc) u.tups u.frzs u.tbls (fun m' hm => by
    obtain ⟨o', es', ep', ho', r'⟩ := hm
    rw [ho] at ho'; cases ho'
    exact ⟨_, es', ep', hL, r'⟩) hok hg
theorem Inv.turned {t' : Nat} {it : Addr} (I : Inv X pins σ H s) (k : ∀ b o, b ≠ it → s.heap.get? b = some o → h'.get? b = some o) (hn : H it = none) (hL : it ≠ X.env.locals)
    (h1 : it ∈ X.ex ∨ X.s₀.heap.objs.size ≤ it) (h2 : ∀ x c, X.env.cells.lookup x = some c → c ≠ it) (h3 : ∀ p ∈ X.pn ++ pins, p.1 ≠ it) : Inv X pins σ H { s with heap := h', toks := t' } := by
  have nit : ∀ b u, H b = some u → b ≠ it := fun b u e z => by rw [z, hn] at e; cases e
  refine I.step (g' := s.gens) (d' := s.drawn) (ch := [it]) (fun b hb => ?_) (fun b o _ _ hc e _ => k b o (fun z => hc (by simp [z])) e) (fun b o _ _ hc e _ => ⟨o.slots, k b o (fun z => hc (by simp [z])) e⟩) (fun _ _ _ _ n => n)
    (fun b o hc e => ⟨o, k b o (fun z => hc (by simp [z])) e⟩) (fun _ _ e => e) (fun _ _ _ e => e) (fun b ps e => ⟨#[], by rw [e]; simp⟩) (fun m hm => ?_) (fun b u e => ?_) I.bare
  · have e : b = it := by simpa using hb
    subst e
    exact ⟨h1, hL, h2, h3⟩
  · obtain ⟨o, es, ep, ho, r⟩ := hm
    exact ⟨o, es, ep, k _ o (Ne.symm hL) ho, r⟩
  · refine (I.hok b u e).stay (fun c v hc q => k c v ?_ q) (fun _ q => q) fun _ _ q => q
    rcases hc with z | z
    · rw [z]; exact nit b u e
    · exact nit c _ z
theorem Inv.tok (I : Inv X pins σ H s) (t : Nat) : Inv X pins σ H { s with toks := t } := I.un (h' := s.heap) (t' := t) Un.refl I.hok
theorem Inv.kept {t' : Nat} (I : Inv X pins σ H s) (k : ∀ b u, s.heap.get? b = some u → h'.get? b = some u) : Inv X pins σ H { s with heap := h', toks := t' } := I.un (Un.kept k) (I.hok.kept k)
theorem Inv.laid {a : Addr} {o : HO} {t' : Nat} (I : Inv X pins σ H s) (k : ∀ b u, s.heap.get? b = some u → h'.get? b = some u) (hp : s.heap.objs.size ≤ a) (new : ObjOk X.prog X.w (upd H a o) h' a o) :
    Inv X pins σ (upd H a o) { s with heap := h', toks := t' } := I.un (Un.laid k hp (I.hok.fresh hp)) (I.hok.laid k hp new)
theorem Inv.write {x e : Addr} {o : HO} {t' : Nat} (I : Inv X pins σ H s) (mu : Mut (H x)) (he : e = x ∨ H e = some (.own x)) (k : ∀ b u, b ≠ e → s.heap.get? b = some u → h'.get? b = some u) (heo : ∃ u, h'.get? e = some u)
    (new : ObjOk X.prog X.w (upd H x o) h' x o) : Inv X pins σ (upd H x o) { s with heap := h', toks := t' } := I.un (Un.write mu he k heo) (I.hok.write mu he k heo new)
theorem Inv.weak {σ' : List (Option V)} (I : Inv X pins σ H s) (hl : σ'.length = σ.length) (w : ∀ (i : Nat) v, σ'[i]? = some (some v) → σ[i]? = some (some v)) : Inv X pins σ' H s :=
  ⟨I.ok, I.os, I.bare, I.base, let ⟨m, hn, hl'⟩ := I.loc; ⟨m, hn, fun i x v e1 e2 e3 => hl' i x v e1 (w i v e2) e3⟩, I.cell, I.free, I.freeC, I.pin, I.hok, hl.trans I.len⟩
theorem Inv.pins_of {pins' : List (Addr × Obj)} (I : Inv X pins σ H s) (h : ∀ p ∈ pins', s.heap.get? p.1 = some p.2 ∧ H p.1 = none ∧ p.1 ≠ X.env.locals ∧ p.1 ∉ X.fs ∧ ∀ v, p.2.data ≠ .cell v) : Inv X pins' σ H s :=
  ⟨I.ok, I.os, I.bare, I.base, I.loc, I.cell, I.free, I.freeC, fun p hp => (List.mem_append.mp hp).elim (fun z => I.pin p (List.mem_append_left _ z)) (h p), I.hok, I.len⟩
theorem nodup_ix {N : List Str} (hN : N.Nodup) {i j : Nat} {x : Str} (a : N[i]? = some x) (b : N[j]? = some x) : i = j := by
  obtain ⟨h1, e1⟩ := List.getElem?_eq_some_iff.mp a
  obtain ⟨h2, e2⟩ := List.getElem?_eq_some_iff.mp b
  exact (List.getElem_inj hN).mp (e1.trans e2.symm)
theorem store_ok2 {M : Model} {A : Around} {E : Value → Shared → Prop} {i : Nat} {x : Str} {v : V} {u : Value} {Q : Unit → Shared → Prop} (I : Inv X pins σ H s) (hN : X.N.Nodup) (hi : X.N[i]? = some x) (hx : Loc X.env.scope x) (r : RelV v u)
    (h : ∀ s', Inv X pins (σ.set i (some v)) H s' → (∃ a, Heap.SameBut a s.heap s'.heap ∧ (a = X.env.locals ∨ X.env.cells.lookup x = some a)) → Q () s') (hf : X.fn x = true ∨ X.env.scope.names.lookup x = some .local := by first | exact .inl rfl | exact .inr rfl | assumption) : wpAny M A (storeName X.env x u) Q E s := by
  obtain ⟨m, hn, hl⟩ := id I.loc
  have hcls : (X.env.scope.kind == .class || (X.env.scope.kind == .module && X.env.locals != X.env.globals)) = false := by rw [I.ok.kind]; rfl
  have hiσ : i < σ.length := by rw [I.len]; exact (List.getElem?_eq_some_iff.mp hi).1
  have cne := I.cne
  have tracked : ∀ {a : Addr} {h' : Heap}, (∃ o, s.heap.get? a = some o ∧ H a = none) → Heap.SameBut a s.heap h' → HOk X.prog X.w H h' := fun {a h'} ha hs b ob e => by
    obtain ⟨_, _, hfree⟩ := ha
    refine (I.hok b ob e).stay (fun c w' hc q => (hs.2 c ?_).trans q) (fun _ q => q) fun _ _ q => q
    rintro rfl
    rcases hc with rfl | hc
    · rw [hfree] at e; cases e
    · rw [hfree] at hc; cases hc
  rcases hx with hk | hk
  · refine wpAny_storeName_local hk hn (fun h' hn' hs => ?_) hcls
    obtain ⟨oL, _, _, hoL, _⟩ := id hn
    refine h _ ⟨I.ok, I.os, I.bare, ⟨fun b o e n hb hx => ?_, fun b o e n hb hx => ?_, I.base.free, fun b o e hx => ?_, I.base.tups, I.base.frzs, I.base.tbls⟩, ⟨_, hn', fun j y v' e1 e2 e3 => ?_⟩, fun y c e => ?_, I.free, I.freeC, fun p hp => ?_, tracked ⟨oL, hoL, I.free⟩ hs, by simpa using I.len⟩ ⟨_, hs, .inl rfl⟩
    · exact (hs.2 b (Nat.ne_of_lt (Nat.lt_of_lt_of_le (Heap.lt_size e) I.ok.above))).trans (I.base.keep b o e n hb hx)
    · obtain ⟨sl, e1⟩ := I.base.slot b o e n hb hx
      exact ⟨sl, (hs.2 b (Nat.ne_of_lt (Nat.lt_of_lt_of_le (Heap.lt_size e) I.ok.above))).trans e1⟩
    · obtain ⟨o', e1⟩ := I.base.there b o e hx
      exact ⟨o', (hs.2 b (Nat.ne_of_lt (Nat.lt_of_lt_of_le (Heap.lt_size e) I.ok.above))).trans e1⟩
    · by_cases hj : j = i
      · subst hj
        rw [hi] at e1; cases e1
        rw [List.getElem?_set_self hiσ] at e2
        cases e2
        exact ⟨u, r, .inl ⟨hk, by simp⟩⟩
      · rw [List.getElem?_set_ne (Ne.symm hj)] at e2
        obtain ⟨u', r', q⟩ := hl j y v' e1 e2 e3
        refine ⟨u', r', ?_⟩
        rcases q with ⟨k, e⟩ | ⟨k, c, e, z⟩
        · refine .inl ⟨k, ?_⟩
          have : y ≠ x := fun e => hj (nodup_ix hN e1 (e ▸ hi))
          simp [this, e]
        · exact .inr ⟨k, c, e, z.sameBut hs (cne y c e)⟩
    · obtain ⟨w', z⟩ := I.cell y c e
      exact ⟨w', z.sameBut hs (cne y c e)⟩
    · obtain ⟨e, n, ne, nf, d⟩ := I.pin p hp
      exact ⟨(hs.2 p.1 ne).trans e, n, ne, nf, d⟩
  · have hfn : X.fn x = true := by
      rcases hf with z | z
      · exact z
      · rw [z] at hk; cases hk
    obtain ⟨c, hc⟩ := I.ok.has x (.inl hk)
    obtain ⟨w', z⟩ := I.cell x c hc
    refine wpAny_storeName_cell I.ok.kind hk hc z (fun h' hc' hs => ?_)
    obtain ⟨oc, hoc, hocd⟩ := id z
    refine h { s with heap := h' } ⟨I.ok, I.os, I.bare, ⟨fun b o e n hb hx => ?_, fun b o e n hb hx => ?_, I.base.free, fun b o e hx => ?_, I.base.tups, I.base.frzs, I.base.tbls⟩, ⟨m, hn.sameBut hs (Ne.symm (cne x c hc)), fun j y v' e1 e2 e3 => ?_⟩, fun y c' e => ?_, I.free, I.freeC, fun p hp => ?_, tracked ⟨oc, hoc, I.freeC x c hc⟩ hs, by simpa using I.len⟩ ⟨c, hs, .inr hc⟩
    · exact (hs.2 b (Nat.ne_of_lt (Nat.lt_of_lt_of_le (Heap.lt_size e) (I.ok.cab x c hfn hc)))).trans (I.base.keep b o e n hb hx)
    · obtain ⟨sl, e1⟩ := I.base.slot b o e n hb hx
      exact ⟨sl, (hs.2 b (Nat.ne_of_lt (Nat.lt_of_lt_of_le (Heap.lt_size e) (I.ok.cab x c hfn hc)))).trans e1⟩
    · obtain ⟨o', e1⟩ := I.base.there b o e hx
      exact ⟨o', (hs.2 b (Nat.ne_of_lt (Nat.lt_of_lt_of_le (Heap.lt_size e) (I.ok.cab x c hfn hc)))).trans e1⟩
    · by_cases hj : j = i
      · subst hj
        rw [hi] at e1; cases e1
        rw [List.getElem?_set_self hiσ] at e2
        cases e2
        exact ⟨u, r, .inr ⟨.inl hk, c, hc, hc'⟩⟩
      · rw [List.getElem?_set_ne (Ne.symm hj)] at e2
        obtain ⟨u', r', q⟩ := hl j y v' e1 e2 e3
        refine ⟨u', r', ?_⟩
        rcases q with q | ⟨k, c', e, z'⟩
        · exact .inl q
        · refine .inr ⟨k, c', e, z'.sameBut hs ?_⟩
          rintro rfl
          exact hj (nodup_ix hN e1 (I.ok.inj _ _ _ e hc ▸ hi))
    · by_cases hcc : c' = c
      · subst hcc; exact ⟨_, hc'⟩
      · obtain ⟨w2, z2⟩ := I.cell y c' e
        exact ⟨w2, z2.sameBut hs hcc⟩
    · obtain ⟨e, n, ne, nf, d⟩ := I.pin p hp
      refine ⟨(hs.2 p.1 ?_).trans e, n, ne, nf, d⟩
      intro q
      rw [q, hoc] at e
      have q' : oc = p.2 := Option.some.inj e
      exact d w' (by rw [← q']; exact hocd)
theorem store_ok {M : Model} {A : Around} {E : Value → Shared → Prop} {i : Nat} {x : Str} {v : V} {u : Value} {Q : Unit → Shared → Prop} (I : Inv X pins σ H s) (hN : X.N.Nodup) (hi : X.N[i]? = some x) (hx : Loc X.env.scope x) (r : RelV v u)
    (h : ∀ s', Inv X pins (σ.set i (some v)) H s' → Q () s') (hf : X.fn x = true ∨ X.env.scope.names.lookup x = some .local := by first | exact .inl rfl | exact .inr rfl | assumption) : wpAny M A (storeName X.env x u) Q E s :=
  store_ok2 I hN hi hx r (fun s' I' _ => h s' I') hf
theorem Inv.call' {s' : Shared} {ch : List Addr} (I : Inv X pins σ H s) (ho : s'.os = s.os) (u : Un (frs X.stack) ch H H' s.heap s'.heap) (hok : HOk X.prog X.w H' s'.heap) (hg : AllBare s'.gens)
    (hch : ∀ b ∈ ch, (b ∈ X.ex ∨ X.s₀.heap.objs.size ≤ b) ∧ b ≠ X.env.locals ∧ (∀ x c, X.env.cells.lookup x = some c → c ≠ b) ∧ ∀ p ∈ X.pn ++ pins, p.1 ≠ b) : Inv X pins σ H' s' := by
  obtain ⟨h', g', d', t', o'⟩ := s'
  have e : o' = s.os := ho
  subst e
  exact I.call (g' := g') (t' := t') (d' := d') u hok hg hch
end
noncomputable abbrev XK := Value → Option Addr → Hp → Prop
noncomputable abbrev St := List (Option V)
noncomputable abbrev VK := V → Hp → Prop
noncomputable abbrev TE := St → Hp → VK → Prop
noncomputable abbrev TT := St → Hp → (Bool → Hp → Prop) → Prop
noncomputable abbrev TA := St → Hp → (List V → Hp → Prop) → Prop
structure Ends where
  nx : St → Hp → Prop
  rt : VK
  bk : St → Hp → Prop := fun _ _ => False
  ct : St → Hp → Prop := fun _ _ => False
noncomputable abbrev TS := Ends → St → Hp → Prop
noncomputable def EP (X : Cx) (pins : List (Addr × Obj)) (σ : St) (Q : VK) (u : Value) (s' : Shared) : Prop := ∃ v H', Inv X pins σ H' s' ∧ RelV v u ∧ Q v H'
noncomputable def TP (X : Cx) (pins : List (Addr × Obj)) (σ : St) (Q : Bool → Hp → Prop) (b : Bool) (s' : Shared) : Prop := ∃ H', Inv X pins σ H' s' ∧ Q b H'
noncomputable def AP (X : Cx) (pins : List (Addr × Obj)) (σ : St) (Q : List V → Hp → Prop) (us : List Value) (s' : Shared) : Prop := ∃ vs H', Inv X pins σ H' s' ∧ Vals vs us ∧ Q vs H'
noncomputable def SP (X : Cx) (pins : List (Addr × Obj)) (D : Ends) (f : Flow) (s' : Shared) : Prop :=
  match f with
  | .next => ∃ σ' H', Inv X pins σ' H' s' ∧ D.nx σ' H'
  | .brk => ∃ σ' H', Inv X pins σ' H' s' ∧ D.bk σ' H'
  | .cont => ∃ σ' H', Inv X pins σ' H' s' ∧ D.ct σ' H'
  | .ret u => ∃ v σ' H', Inv X pins σ' H' s' ∧ RelV v u ∧ D.rt v H'
noncomputable def PE (X : Cx) (e : Expr) (t : TE) : Prop :=
  ∀ (pins : List (Addr × Obj)) (s : Shared) (σ : St) (H : Hp) (Q : VK), Inv X pins σ H s → t σ H Q → wpAny (model X.prog X.w) X.A (eval e X.env) (EP X pins σ Q) X.xe s
noncomputable def PT (X : Cx) (e : Expr) (t : TT) : Prop :=
  ∀ (pins : List (Addr × Obj)) (s : Shared) (σ : St) (H : Hp) (Q : Bool → Hp → Prop), Inv X pins σ H s → t σ H Q → wpAny (model X.prog X.w) X.A (isTrue e X.env (eval e X.env)) (TP X pins σ Q) X.xe s
noncomputable def PW (X : Cx) (e : Expr) (t : TT) : Prop :=
  ∀ (whole : Sem Value) (pins : List (Addr × Obj)) (s : Shared) (σ : St) (H : Hp) (Q : Bool → Hp → Prop), Inv X pins σ H s → t σ H Q → wpAny (model X.prog X.w) X.A (isTrue e X.env whole) (TP X pins σ Q) X.xe s
noncomputable def PA (X : Cx) (es : List Expr) (t : TA) : Prop :=
  ∀ (pos : Pos) (pins : List (Addr × Obj)) (s : Shared) (σ : St) (H : Hp) (Q : List V → Hp → Prop), Inv X pins σ H s → t σ H Q → wpAny (model X.prog X.w) X.A (spliced (backTo pos (starEach es X.env))) (AP X pins σ Q) X.xe s
noncomputable def PS (X : Cx) (st : Stmt) (t : TS) : Prop :=
  ∀ (pins : List (Addr × Obj)) (s : Shared) (σ : St) (H : Hp) (D : Ends), Inv X pins σ H s → t D σ H → wpAny (model X.prog X.w) X.A (exec st X.env) (SP X pins D) X.xe s
noncomputable def PSs (X : Cx) (st : List Stmt) (t : TS) : Prop :=
  ∀ (pins : List (Addr × Obj)) (s : Shared) (σ : St) (H : Hp) (D : Ends), Inv X pins σ H s → t D σ H → wpAny (model X.prog X.w) X.A (execs st X.env) (SP X pins D) X.xe s
theorem thn {α : Type} {t : Sem α} {Q Q' : α → Shared → Prop} {M : Model} {A : Around} {E : Value → Shared → Prop} {s : Shared} (h : wpAny M A t Q E s) (hQ : ∀ a s, Q a s → Q' a s) : wpAny M A t Q' E s := wpAny_mono h hQ fun _ _ x => x
end L2
namespace L2
open PySem PySem.Spec PyProof.Rows
section
variable {X : Cx}
theorem bin {a b : Expr} {ta tb : TE} (ha : PE X a ta) (hb : PE X b tb) {pins : List (Addr × Obj)} {s : Shared} {σ : St} {H : Hp} {R : V → V → Hp → Prop} (I : Inv X pins σ H s) (h : ta σ H fun x H1 => tb σ H1 fun y H2 => R x y H2)
    {α : Type} {Q : α → Shared → Prop} {f : Value → Value → Sem α}
    (hf : ∀ v u s2 x y H2, Inv X pins σ H2 s2 → RelV x v → RelV y u → R x y H2 → wpAny (model X.prog X.w) X.A (f v u) Q X.xe s2) :
    wpAny (model X.prog X.w) X.A (eval a X.env) (fun v s₁ => wpAny (model X.prog X.w) X.A (eval b X.env) (fun u s₂ => wpAny (model X.prog X.w) X.A (f v u) Q X.xe s₂) X.xe s₁) X.xe s := by
  refine thn (ha pins s σ H _ I h) fun v s1 ⟨x, H1, I1, r1, q1⟩ => ?_
  refine thn (hb pins s1 σ H1 _ I1 q1) fun u s2 ⟨y, H2, I2, r2, q2⟩ => ?_
  exact hf v u s2 x y H2 I2 r1 r2 q2
noncomputable def tVar (i : Nat) : TE := fun σ H Q => ∃ v, σ[i]? = some (some v) ∧ Q v H
noncomputable def tC (v : V) : TE := fun _ H Q => Q v H
theorem pe_var {i : Nat} {x : Str} {pos : Pos} (hN : X.N[i]? = some x) (hv : Vis X.env.scope x) (hd : (x == ("__debug__" : Str)) = false := by decide) (hcd : (x == ("__classdict__" : Str)) = false := by decide) : PE X (.Name x pos) (tVar i) := by
  intro pins s σ H Q I h
  obtain ⟨v, e, h⟩ := h
  obtain ⟨m, hn, hl⟩ := I.loc
  obtain ⟨u, r, l⟩ := hl i x v hN e hv
  have fin : EP X pins σ Q u s := ⟨v, H, I, r, h⟩
  rcases l with ⟨hk, hm⟩ | ⟨hk, c, hc, hcell⟩
  · exact wpAny_Name (wpAny_loadName_local I.ok.kind hk hn hm fin) hd
  · rcases hk with hk | hk
    · exact wpAny_Name (wpAny_loadName_cell I.ok.kind hk hc hcell fin) hd
    · exact wpAny_Name (wpAny_loadName_free I.ok.kind hk hc hcell fin hcd) hd
theorem pe_int {i j pos} : PE X (.Constant (.int i) j pos) (tC (.int i)) := fun _ _ _ H _ I h => wpAny_Constant_int ⟨.int i, H, I.tok _, ⟨_, rfl⟩, h⟩
theorem pe_bl {b j pos} : PE X (.Constant (.bool b) j pos) (tC (.bl b)) := fun _ _ _ H _ I h => Constant_bool ⟨.bl b, H, I, rfl, h⟩
theorem pe_non {j pos} : PE X (.Constant .none j pos) (tC .non) := fun _ _ _ H _ I h => Constant_none ⟨.non, H, I, rfl, h⟩
theorem pe_str {x j pos} : PE X (.Constant (.str x) j pos) (tC (.str x)) := fun _ _ _ H _ I h => Calls.Constant_str ⟨.str x, H, I.tok _, ⟨_, rfl⟩, h⟩
noncomputable def Gl (X : Cx) (x : Str) : Prop := X.env.kindOf x = some .globalImplicit
theorem ld_glob {E : Value → Shared → Prop} {pins : List (Addr × Obj)} {s : Shared} {σ : St} {H : Hp} {x : Str} {u : Value} {pos : Pos} {Q : Value → Shared → Prop} (I : Inv X pins σ H s) (hg : Gl X x) (hm : X.mg x = some u) (h : Q u s)
    (hd : (x == ("__debug__" : Str)) = false := by decide) : wpAny (model X.prog X.w) X.A (eval (.Name x pos) X.env) Q E s :=
  Calls.Name_function_global I.ok.kind hg (Calls.loadGlobal_global (by rw [I.ok.glob]; exact I.mod.glob.keeps I.bk) hm h) hd
theorem ld_blt {E : Value → Shared → Prop} {pins : List (Addr × Obj)} {s : Shared} {σ : St} {H : Hp} {x : Str} {u : Value} {pos : Pos} {Q : Value → Shared → Prop} (I : Inv X pins σ H s) (hg : Gl X x) (hm : X.mg x = none) (hv : bootBuiltins x = some u) (h : Q u s)
    (hn : x ≠ "__name__" := by decide) (hd : (x == ("__debug__" : Str)) = false := by decide) : wpAny (model X.prog X.w) X.A (eval (.Name x pos) X.env) Q E s := by
  obtain ⟨mb, h1, h2⟩ := I.mod.blt
  exact Calls.Name_function_global I.ok.kind hg (Calls.loadGlobal_builtin (by rw [I.ok.glob]; exact I.mod.glob.keeps I.bk) hm (by rw [I.ok.blt]; exact h1.keeps I.bk) ((h2 x hn).trans hv) h) hd
theorem pe_glob {x : Str} {v : V} {u : Value} {pos : Pos} (hg : Gl X x) (hm : X.mg x = some u) (r : RelV v u) (hd : (x == ("__debug__" : Str)) = false := by decide) : PE X (.Name x pos) (tC v) :=
  fun _ _ _ H _ I h => ld_glob I hg hm ⟨v, H, I, r, h⟩ hd
theorem pe_bltn {x : Str} {v : V} {u : Value} {pos : Pos} (hg : Gl X x) (hm : X.mg x = none) (hv : bootBuiltins x = some u) (r : RelV v u) (hn : x ≠ "__name__" := by decide) (hd : (x == ("__debug__" : Str)) = false := by decide) : PE X (.Name x pos) (tC v) :=
  fun _ _ _ H _ I h => ld_blt I hg hm hv ⟨v, H, I, r, h⟩ hn hd
variable {a b : Expr} {ta tb : TE} {pos : Pos}
noncomputable def PC (X : Cx) (op : CmpOp) (a b : Expr) (t : TE) : Prop :=
  ∀ (pins : List (Addr × Obj)) (s : Shared) (σ : St) (H : Hp) (Q : VK), Inv X pins σ H s → t σ H Q →
    wpAny (model X.prog X.w) X.A (eval a X.env) (fun v s₁ => wpAny (model X.prog X.w) X.A (eval b X.env) (fun u s₂ => wpAny (model X.prog X.w) X.A (compareOp op v u) (EP X pins σ Q) X.xe s₂) X.xe s₁) X.xe s
theorem nobehind (b : Expr) {op : CmpOp} (h : op ≠ .In) (h2 : op ≠ .NotIn) : behindInMarks op b = false := by
  have e1 : (op == CmpOp.In) = false := by cases op <;> first | rfl | exact absurd rfl h
  have e2 : (op == CmpOp.NotIn) = false := by cases op <;> first | rfl | exact absurd rfl h2
  cases b <;> simp [behindInMarks, e1, e2]
noncomputable def tB (t : TE) : TT := fun σ H Q => t σ H fun x H1 => ∃ c, x = .bl c ∧ Q c H1
theorem pt_cmp {op : CmpOp} {t : TE} (h : PC X op a b t) (h1 : behindInMarks op b = false := by first | exact nobehind _ (by decide) (by decide) | rfl) : PT X (.Compare a [op] [b] pos) (tB t) := by
  intro pins s σ H Q I hw
  refine wpAny_isTrue_Compare1 (thn (h pins s σ H _ I hw) fun v s1 h1 => thn h1 fun u s2 h2 => thn h2 fun c s3 ⟨x, H1, I1, r1, q1⟩ => ?_) h1
  obtain ⟨d, rfl, q⟩ := q1
  cases r1
  exact wpAny_truthy_bool ⟨H1, I1, q⟩
theorem pt_val {e : Expr} {t : TE} (h : PE X e t) (he : ∀ whole, isTrue e X.env whole = (do let v ← whole; standAt e.pos; holding [v] (truthy v)) := by intro _; rfl) : PT X e (tB t) := by
  intro pins s σ H Q I hw
  refine isTrue_plain (thn (h pins s σ H _ I hw) fun v s1 ⟨x, H1, I1, r1, q1⟩ => ?_) (he _)
  obtain ⟨d, rfl, q⟩ := q1
  cases r1
  exact wpAny_truthy_bool ⟨H1, I1, q⟩
variable {tA tB' : TT} {rest : List Expr}
noncomputable def tAnd (t u : TT) : TT := fun σ H Q => t σ H fun c H1 => if c = true then u σ H1 Q else Q false H1
noncomputable def tOr (t u : TT) : TT := fun σ H Q => t σ H fun c H1 => if c = true then Q true H1 else u σ H1 Q
noncomputable def tNot (t : TT) : TT := fun σ H Q => t σ H fun c H1 => Q (!c) H1
theorem pw_and1 (ha : PT X a tA) : PW X (.BoolOp .And [a] pos) tA := by
  intro wh pins s σ H Q I h
  refine isTrue_and (thn (ha pins s σ H Q I h) fun c s1 e => ?_)
  cases c with
  | true => exact isTrue_and_nil e
  | false => exact e
theorem pw_or1 (ha : PT X a tA) : PW X (.BoolOp .Or [a] pos) tA := by
  intro wh pins s σ H Q I h
  refine isTrue_or (thn (ha pins s σ H Q I h) fun c s1 e => ?_)
  cases c with
  | false => exact isTrue_or_nil e
  | true => exact e
theorem pw_and (ha : PT X a tA) (hb : PW X (.BoolOp .And (b :: rest) pos) tB') : PW X (.BoolOp .And (a :: b :: rest) pos) (tAnd tA tB') := by
  intro wh pins s σ H Q I h
  refine isTrue_and (thn (ha pins s σ H _ I h) fun c s1 ⟨H1, I1, q1⟩ => ?_)
  cases c with
  | true => exact hb wh pins s1 σ H1 Q I1 q1
  | false => exact ⟨H1, I1, q1⟩
theorem pw_or (ha : PT X a tA) (hb : PW X (.BoolOp .Or (b :: rest) pos) tB') : PW X (.BoolOp .Or (a :: b :: rest) pos) (tOr tA tB') := by
  intro wh pins s σ H Q I h
  refine isTrue_or (thn (ha pins s σ H _ I h) fun c s1 ⟨H1, I1, q1⟩ => ?_)
  cases c with
  | true => exact ⟨H1, I1, q1⟩
  | false => exact hb wh pins s1 σ H1 Q I1 q1
theorem pt_not (ha : PT X a tA) : PT X (.UnaryOp .Not a pos) (tNot tA) := by
  intro pins s σ H Q I h
  exact isTrue_not (ha pins s σ H (fun c H1 => Q (!c) H1) I h)
noncomputable def tOrV (ta tb : TE) : TE := fun σ H Q => ta σ H fun x H1 => ∃ c, x = .bl c ∧ if c = true then Q (.bl true) H1 else tb σ H1 Q
noncomputable def tNotV (ta : TE) : TE := fun σ H Q => ta σ H fun x H1 => ∃ c, x = .bl c ∧ Q (.bl (!c)) H1
theorem pe_one {op} {t : TE} (h : PE X a t) : PE X (.BoolOp op [a] pos) t := fun pins s σ H Q I hw => BoolOp_one (h pins s σ H Q I hw)
theorem pe_or (ha : PE X a ta) (hb : PE X (.BoolOp .Or (b :: rest) pos) tb) : PE X (.BoolOp .Or (a :: b :: rest) pos) (tOrV ta tb) := by
  intro pins s σ H Q I h
  refine BoolOp_or (thn (ha pins s σ H _ I h) fun v s1 ⟨x, H1, I1, r1, q1⟩ => ?_)
  obtain ⟨c, rfl, q1⟩ := q1
  cases r1
  refine wpAny_truthy_bool ?_
  cases c with
  | false => exact hb pins s1 σ H1 Q I1 q1
  | true => exact ⟨.bl true, H1, I1, rfl, q1⟩
theorem pe_not (ha : PE X a ta) : PE X (.UnaryOp .Not a pos) (tNotV ta) := by
  intro pins s σ H Q I h
  refine UnaryOp_ (thn (ha pins s σ H _ I h) fun v s1 ⟨x, H1, I1, r1, q1⟩ => ?_)
  obtain ⟨c, rfl, q1⟩ := q1
  cases r1
  exact not_of (wpAny_truthy_bool ⟨.bl (!c), H1, I1, rfl, q1⟩)
end
end L2
namespace L2
open PySem PySem.Spec PyProof.Rows
noncomputable def SqL (K : PySem.W.Frag) (H : Hp) (a : Addr) (xs : List V) : Prop :=
  Rd H a (.lst xs) ∨
    ∃ (o : Obj) (its : Array Value) (n : Nat), K.lookup a = some o ∧ o.cls = .type "list" ∧ o.dict = none ∧ o.data = .seq its n ∧ its.size ≤ sizeLine ∧ Vals xs its.toList
noncomputable def SqT (K : PySem.W.Frag) (H : Hp) (a : Addr) (xs : List V) : Prop :=
  Rd H a (.tup xs) ∨
    ∃ (o : Obj) (its : Array Value) (n : Nat), K.lookup a = some o ∧ o.cls = .type "tuple" ∧ o.data = .seq its n ∧ its.size ≤ sizeLine ∧ Vals xs its.toList
noncomputable def absV : Value → Option V
  | .none => some .non
  | .bool b => some (.bl b)
  | .int i _ => some (.int i)
  | .str x _ => some (.str x)
  | .bytes b _ => some (.byt b)
  | .float b _ => some (.flt b)
  | .ref a => some (.ref a)
  | .type n => some (.ty n)
  | _ => none
theorem RelV.abs {x : V} {u : Value} (r : RelV x u) : absV u = some x := by
  cases x with
  | non => cases r; rfl
  | bl _ => cases r; rfl
  | int _ => obtain ⟨t, rfl⟩ := r; rfl
  | str _ => obtain ⟨t, rfl⟩ := r; rfl
  | byt _ => obtain ⟨t, rfl⟩ := r; rfl
  | flt _ => obtain ⟨t, rfl⟩ := r; rfl
  | ref _ => cases r; rfl
  | ty _ => cases r; rfl
theorem RelV.inj {x y : V} {u : Value} (r : RelV x u) (q : RelV y u) : x = y := Option.some.inj (r.abs.symm.trans q.abs)
theorem Vals.inj : ∀ {xs ys : List V} {us : List Value}, Vals xs us → Vals ys us → xs = ys
  | _, _, _, .nil, .nil => rfl
  | _, _, _, .cons r t, .cons r' t' => by rw [r.inj r', Vals.inj t t']
section
variable {X : Cx} {pins : List (Addr × Obj)} {σ : St} {H : Hp} {s : Shared} {a : Addr} {xs ys : List V}
theorem SqL.of {K : PySem.W.Frag} (h : H a = some (.lst xs)) : SqL K H a xs := .inl (.inl h)
theorem SqT.of {K : PySem.W.Frag} (h : H a = some (.tup xs)) : SqT K H a xs := .inl (.inl h)
theorem Inv.list (I : Inv X pins σ H s) (h : SqL X.K H a xs) : ∃ its : List Value, Vals xs its ∧ PlainL s.heap a its.toArray ∧ xs.length ≤ sizeLine := by
  rcases h with h | ⟨o, its, n, hk, hc, hd, hs, hz, r⟩
  · obtain ⟨z, its, n, r, e⟩ := h.ok I.hok
    exact ⟨its, r, ⟨_, n, e, rfl, rfl, rfl⟩, z⟩
  · refine ⟨its.toList, r, ⟨o, n, I.kIn a o hk, hc, hd, by simpa using hs⟩, ?_⟩
    have e := r.length
    simp only [Array.length_toList] at e
    omega
theorem Inv.tuple (I : Inv X pins σ H s) (h : SqT X.K H a xs) : ∃ its : List Value, Vals xs its ∧ IsTup s.heap a its.toArray ∧ xs.length ≤ sizeLine := by
  rcases h with h | ⟨o, its, n, hk, hc, hs, hz, r⟩
  · obtain ⟨z, its, r, p⟩ := h.ok I.hok
    exact ⟨its, r, p, z⟩
  · refine ⟨its.toList, r, ⟨o, I.kIn a o hk, hc, n, by simpa using hs⟩, ?_⟩
    have e := r.length
    simp only [Array.length_toList] at e
    omega
theorem Inv.list_inj (I : Inv X pins σ H s) (h : SqL X.K H a xs) (h' : SqL X.K H a ys) : xs = ys := by
  obtain ⟨its, r, ⟨o, n, e, _, _, d⟩, _⟩ := I.list h
  obtain ⟨its', r', ⟨o', n', e', _, _, d'⟩, _⟩ := I.list h'
  rw [e] at e'; cases e'
  rw [d] at d'
  injection d' with d1 _
  have : its = its' := by simpa using congrArg Array.toList d1
  subst this
  exact r.inj r'
theorem Inv.tuple_inj (I : Inv X pins σ H s) (h : SqT X.K H a xs) (h' : SqT X.K H a ys) : xs = ys := by
  obtain ⟨its, r, ⟨o, e, _, n, d⟩, _⟩ := I.tuple h
  obtain ⟨its', r', ⟨o', e', _, n', d'⟩, _⟩ := I.tuple h'
  rw [e] at e'; cases e'
  rw [d] at d'
  injection d' with d1 _
  have : its = its' := by simpa using congrArg Array.toList d1
  subst this
  exact r.inj r'
end
noncomputable abbrev Cx.wish (X : Cx) (E : Value → Shared → Prop) : Cx := { X with xe := E }
noncomputable abbrev Cx.nox (X : Cx) : Cx := X.wish fun _ _ => False
theorem Cx.Ok.wish {X : Cx} (ok : X.Ok) (E : Value → Shared → Prop) : (X.wish E).Ok :=
  ⟨ok.mod, ok.kind, ok.glob, ok.blt, ok.above, ok.inj, ok.has, ok.cab, ok.hd, ok.frames, ok.stk, ok.exf, ok.bs, ok.bsz, ok.noex, ok.exfs, ok.funs, ok.frf⟩
theorem Cx.Ok.unwish {X : Cx} {E : Value → Shared → Prop} (ok : (X.wish E).Ok) : X.Ok :=
  ⟨ok.mod, ok.kind, ok.glob, ok.blt, ok.above, ok.inj, ok.has, ok.cab, ok.hd, ok.frames, ok.stk, ok.exf, ok.bs, ok.bsz, ok.noex, ok.exfs, ok.funs, ok.frf⟩
section
variable {X : Cx} {pins : List (Addr × Obj)} {σ : St} {H : Hp} {s : Shared} {E : Value → Shared → Prop}
theorem Inv.wish (I : Inv X pins σ H s) (E : Value → Shared → Prop) : Inv (X.wish E) pins σ H s := ⟨I.ok.wish E, I.os, I.bare, I.base, I.loc, I.cell, I.free, I.freeC, I.pin, I.hok, I.len⟩
theorem Inv.unwish (I : Inv (X.wish E) pins σ H s) : Inv X pins σ H s := ⟨I.ok.unwish, I.os, I.bare, I.base, I.loc, I.cell, I.free, I.freeC, I.pin, I.hok, I.len⟩
theorem SP.unwish {D : Ends} {f : Flow} {s' : Shared} (h : SP (X.wish E) pins D f s') : SP X pins D f s' := by
  cases f with
  | next => obtain ⟨σ', H', I, q⟩ := h; exact ⟨σ', H', I.unwish, q⟩
  | brk => obtain ⟨σ', H', I, q⟩ := h; exact ⟨σ', H', I.unwish, q⟩
  | cont => obtain ⟨σ', H', I, q⟩ := h; exact ⟨σ', H', I.unwish, q⟩
  | ret u => obtain ⟨v, σ', H', I, r, q⟩ := h; exact ⟨v, σ', H', I.unwish, r, q⟩
theorem PSs.nox {st : List Stmt} {t : TS} (h : PSs X.nox st t) : PSs X st t := fun pins s σ H D I hw =>
  wpAny_mono (h pins s σ H D (I.wish _) hw) (fun _ _ q => q.unwish) fun _ _ z => False.elim z
end
section
variable {X : Cx} {st : Stmt} {rest : List Stmt} {t u : TS} {e : Expr} {te : TE} {pos : Pos}
noncomputable def tNext : TS := fun D σ H => D.nx σ H
noncomputable def tSeq (t u : TS) : TS := fun D σ H => t { D with nx := u D } σ H
theorem pss_nil : PSs X [] tNext := fun _ _ σ H _ I h => wpAny_execs_nil ⟨σ, H, I, h⟩
theorem pss_cons (h1 : PS X st t) (h2 : PSs X rest u) : PSs X (st :: rest) (tSeq t u) := by
  intro pins s σ H D I h
  refine wpAny_execs_cons (thn (h1 pins s σ H { D with nx := u D } I h) fun f s1 q => ?_)
  cases f with
  | next =>
    obtain ⟨σ', H', I', q⟩ := q
    exact h2 pins s1 σ' H' D I' q
  | ret v => exact q
  | brk => exact q
  | cont => exact q
theorem pss_one (h1 : PS X st t) : PSs X [st] t := by
  intro pins s σ H D I h
  refine wpAny_execs_cons (thn (h1 pins s σ H D I h) fun f s1 q => ?_)
  cases f with
  | next => exact wpAny_execs_nil q
  | ret v => exact q
  | brk => exact q
  | cont => exact q
theorem Inv.quiet {pins : List (Addr × Obj)} {σ : St} {H : Hp} {s : Shared} (I : Inv X pins σ H s) : interactive X.env = false := by simp [interactive, I.ok.kind]
noncomputable def tDrop (te : TE) : TS := fun D σ H => te σ H fun _ H1 => D.nx σ H1
theorem ps_expr (he : PE X e te) (hs : swapsWith e none pos.line X.env = pure false := by rfl) : PS X (.Expr e pos) (tDrop te) := by
  intro pins s σ H D I h
  exact wpAny_Expr_any (thn (he pins s σ H _ I h) fun v s1 ⟨x, H1, I1, r1, q1⟩ => ⟨σ, H1, I1, q1⟩) I.quiet hs
noncomputable def tRet (te : TE) : TS := fun D σ H => te σ H D.rt
theorem ps_ret (he : PE X e te) : PS X (.Return (some e) pos) (tRet te) := by
  intro pins s σ H D I h
  exact wpAny_Return_some (thn (he pins s σ H _ I h) fun v s1 ⟨x, H1, I1, r1, q1⟩ => ⟨x, σ, H1, I1, r1, q1⟩)
noncomputable def tIfS (c : TT) (t u : TS) : TS := fun D σ H => c σ H fun b H1 => if b = true then t D σ H1 else u D σ H1
theorem ps_if {c : Expr} {a b : List Stmt} {tc : TT} (hc : PT X c tc) (ha : PSs X a t) (hb : PSs X b u) : PS X (.If c a b pos) (tIfS tc t u) := by
  intro pins s σ H D I h
  refine wpAny_If (thn (hc pins s σ H _ I h) fun d s1 ⟨H1, I1, q1⟩ => ?_)
  cases d with
  | true => exact ha pins s1 σ H1 D I1 q1
  | false => exact hb pins s1 σ H1 D I1 q1
end
noncomputable abbrev TG := V → St → Hp → (St → Hp → Prop) → Prop
noncomputable abbrev TGs := List V → St → Hp → (St → Hp → Prop) → Prop
noncomputable def PG (X : Cx) (target : Expr) (t : TG) : Prop :=
  ∀ (pins : List (Addr × Obj)) (s : Shared) (σ : St) (H : Hp) (v : V) (u : Value) (Q : St → Hp → Prop), Inv X pins σ H s → RelV v u → t v σ H Q →
    wpAny (model X.prog X.w) X.A (assign target X.env u) (fun _ s' => ∃ σ' H', Inv X pins σ' H' s' ∧ Q σ' H') X.xe s
noncomputable def PGs (X : Cx) (ts : List Expr) (t : TGs) : Prop :=
  ∀ (pins : List (Addr × Obj)) (s : Shared) (σ : St) (H : Hp) (vs : List V) (us : List Value) (Q : St → Hp → Prop), Inv X pins σ H s → Vals vs us → t vs σ H Q →
    wpAny (model X.prog X.w) X.A (assignInOrder ((assignEach ts X.env).map (·.2)) us) (fun _ s' => ∃ σ' H', Inv X pins σ' H' s' ∧ Q σ' H') X.xe s
noncomputable abbrev TSet := V → V → V → Hp → (Hp → Prop) → Prop
noncomputable def PSet (X : Cx) (t : TSet) : Prop :=
  ∀ (pins : List (Addr × Obj)) (s : Shared) (σ : St) (H : Hp) (o i v : V) (ov iv u : Value) (Q : Hp → Prop), Inv X pins σ H s → RelV o ov → RelV i iv → RelV v u → t o i v H Q →
    wpAny (model X.prog X.w) X.A (setItem ov iv u) (fun _ s' => ∃ H', Inv X pins σ H' s' ∧ Q H') X.xe s
noncomputable abbrev TIp := V → V → Hp → VK → Prop
noncomputable def PIp (X : Cx) (op : Operator) (t : TIp) : Prop :=
  ∀ (pins : List (Addr × Obj)) (s : Shared) (σ : St) (H : Hp) (x y : V) (v u : Value) (Q : VK), Inv X pins σ H s → RelV x v → RelV y u → t x y H Q →
    wpAny (model X.prog X.w) X.A (inplaceOp op v u) (EP X pins σ Q) X.xe s
section
variable {X : Cx} {pos : Pos}
noncomputable def gName (i : Nat) : TG := fun v σ H Q => Q (σ.set i (some v)) H
theorem pg_name {i : Nat} {x : Str} (hN : X.N.Nodup) (hi : X.N[i]? = some x) (hx : Loc X.env.scope x) (hf : X.fn x = true ∨ X.env.scope.names.lookup x = some .local := by first | exact .inl rfl | exact .inr rfl | assumption) : PG X (.Name x pos) (gName i) := by
  intro pins s σ H v u Q I r h
  exact wpAny_assign_Name (store_ok I hN hi hx r (fun s' I' => ⟨_, H, I', h⟩) hf)
noncomputable def gNil : TGs := fun vs σ H Q => vs = [] ∧ Q σ H
noncomputable def gCons (t : TG) (u : TGs) : TGs := fun vs σ H Q => ∃ v r, vs = v :: r ∧ t v σ H fun σ' H' => u r σ' H' Q
theorem pgs_nil : PGs X [] gNil := by
  intro pins s σ H vs us Q I r h
  obtain ⟨e, h⟩ := h
  subst e
  cases r
  exact assignInOrder_nil ⟨σ, H, I, h⟩
theorem pgs_cons {e : Expr} {es : List Expr} {t : TG} {u : TGs} (h1 : PG X e t) (h2 : PGs X es u)
    (hs : (assignEach (e :: es) X.env).map (·.2) = assign e X.env :: (assignEach es X.env).map (·.2) := by rfl) : PGs X (e :: es) (gCons t u) := by
  intro pins s σ H vs us Q I r h
  obtain ⟨v, vr, e1, h⟩ := h
  subst e1
  cases r with
  | cons r rr =>
    rw [hs]
    refine assignInOrder_cons (thn (h1 pins s σ H _ _ _ I r h) fun _ s1 ⟨σ1, H1, I1, q1⟩ => ?_)
    exact h2 pins s1 σ1 H1 _ _ Q I1 rr q1
noncomputable def gTup (K : PySem.W.Frag) (n : Nat) (t : TGs) : TG := fun v σ H Q => ∃ a xs, v = .ref a ∧ SqT K H a xs ∧ xs.length = n ∧ t xs σ H Q
theorem pg_tup {es : List Expr} {k : Nat} {t : TGs} {n : Nat} (hc : X.calm = true) (h : PGs X es t)
    (hn : (assignEach es X.env).length = n := by rfl) (hst : (assignEach es X.env).findIdx? (·.1) = none := by rfl) : PG X (.Tuple es k pos) (gTup X.K n t) := by
  intro pins s σ H v u Q I r hw
  obtain ⟨a, xs, e1, hq, hl, hw⟩ := hw
  subst e1
  cases r
  obtain ⟨its, rv, ht, hz⟩ := I.tuple hq
  refine assign_Tuple_tuple (I.ok.hd hc) ht (by simp [hn, ← hl, rv.length]) hst fun h' hx => ?_
  have I1 : Inv X pins σ H { s with heap := h' } := I.kept (t' := s.toks) fun b o e => hx b o (Nat.ne_of_lt (Heap.lt_size e)) e
  exact h pins _ σ H xs _ Q I1 (by simpa using rv) hw
noncomputable def gSub (to ti : TE) (t : TSet) : TG := fun v σ H Q => to σ H fun o H1 => ti σ H1 fun i H2 => t o i v H2 fun H3 => Q σ H3
theorem pg_sub {o i : Expr} {to ti : TE} {t : TSet} (ho : PE X o to) (hi : PE X i ti) (hs : PSet X t)
    (ha : ∀ v, assign (.Subscript o i pos) X.env v = (do
      let ov ← holding [v] (eval o X.env)
      let iv ← holding [v, ov] (eval i X.env)
      standAt pos
      holding [v, ov, iv] (setItem ov iv v)
      release [v, ov, iv] []) := by intro _; rfl) : PG X (.Subscript o i pos) (gSub to ti t) := by
  intro pins s σ H v u Q I r h
  rw [ha]
  refine wpAny_bind (wpAny_holding (thn (ho pins s σ H _ I h) fun ov s1 ⟨x, H1, I1, r1, q1⟩ => ?_))
  refine wpAny_bind (wpAny_holding (thn (hi pins s1 σ H1 _ I1 q1) fun iv s2 ⟨y, H2, I2, r2, q2⟩ => ?_))
  refine wpAny_bind (wpAny_standAt (wpAny_bind (wpAny_holding (thn (hs pins s2 σ H2 x y v ov iv u _ I2 r1 r2 r q2) fun _ s3 ⟨H3, I3, q3⟩ => ?_))))
  exact wpAny_release ⟨σ, H3, I3, q3⟩
noncomputable def tAsg (te : TE) (g : TG) : TS := fun D σ H => te σ H fun x H1 => g x σ H1 D.nx
theorem ps_asg {tg e : Expr} {te : TE} {g : TG} (he : PE X e te) (hg : PG X tg g) (hs : swapsWithSole [tg] e pos.line X.env = pure false := by rfl) (hw : swappedStores [tg] e X.env = pure none := by rfl)
    (h1 : (assignEach [tg] X.env).map (·.2) = [assign tg X.env] := by rfl) : PS X (.Assign [tg] e pos) (tAsg te g) := by
  intro pins s σ H D I h
  refine wpAny_Assign_stores (thn (he pins s σ H _ I h) fun v s1 ⟨x, H1, I1, r1, q1⟩ => ?_) hs hw
  rw [h1]
  exact thn (hg pins s1 σ H1 x v _ I1 r1 q1) fun _ s2 q => q
theorem ps_set {i : Nat} {x : Str} {e : Expr} {te : TE} {pos' : Pos} (hN : X.N.Nodup) (hi : X.N[i]? = some x) (hx : Loc X.env.scope x) (he : PE X e te) (hs : swapsWith e (some (.Name x pos')) pos.line X.env = pure false := by rfl) (hf : X.fn x = true ∨ X.env.scope.names.lookup x = some .local := by first | exact .inl rfl | exact .inr rfl | assumption) :
    PS X (.Assign [.Name x pos'] e pos) (tAsg te (gName i)) := by
  intro pins s σ H D I h
  refine wpAny_Assign_Name (thn (he pins s σ H _ I h) fun v s1 ⟨y, H1, I1, r1, q1⟩ => ?_) hs
  exact store_ok I1 hN hi hx r1 (fun s2 I2 => ⟨_, H1, I2, q1⟩) hf
noncomputable def tAug (i : Nat) (te : TE) (ti : TIp) : TS := fun D σ H => ∃ x, σ[i]? = some (some x) ∧ te σ H fun y H1 => ti x y H1 fun z H2 => D.nx (σ.set i (some z)) H2
theorem ps_aug {i : Nat} {x : Str} {e : Expr} {te : TE} {op : Operator} {ti : TIp} {pos' : Pos} (hN : X.N.Nodup) (hi : X.N[i]? = some x) (hx : Loc X.env.scope x) (he : PE X e te) (ho : PIp X op ti) (hf : X.fn x = true ∨ X.env.scope.names.lookup x = some .local := by first | exact .inl rfl | exact .inr rfl | assumption) :
    PS X (.AugAssign (.Name x pos') op e pos) (tAug i te ti) := by
  intro pins s σ H D I h
  obtain ⟨v, e1, h⟩ := h
  obtain ⟨m, hn, hl⟩ := I.loc
  have vis : Vis X.env.scope x := by rcases hx with k | k; exact .inl k; exact .inr (.inl k)
  obtain ⟨u, r, l⟩ := hl i x v hi e1 vis
  refine wpAny_AugAssign_Name ?_
  have go : wpAny (model X.prog X.w) X.A (eval e X.env) (fun w s₂ => wpAny (model X.prog X.w) X.A (inplaceOp op u w) (fun r s₃ => wpAny (model X.prog X.w) X.A (storeName X.env x r) (fun _ => SP X pins D .next) X.xe s₃) X.xe s₂) X.xe s := by
    refine thn (he pins s σ H _ I h) fun w s1 ⟨y, H1, I1, r1, q1⟩ => ?_
    refine thn (ho pins s1 σ H1 v y u w _ I1 r r1 q1) fun z s2 ⟨zv, H2, I2, r2, q2⟩ => ?_
    exact store_ok I2 hN hi hx r2 (fun s3 I3 => ⟨_, H2, I3, q2⟩) hf
  rcases l with ⟨hk, hm⟩ | ⟨hk, c, hc, hcell⟩
  · exact wpAny_loadName_local I.ok.kind hk hn hm go
  · rcases hk with hk | hk
    · exact wpAny_loadName_cell I.ok.kind hk hc hcell go
    · rcases hx with k | k
      · have : X.env.scope.names.lookup x = some .free := hk
        rw [k] at this; cases this
      · have : X.env.scope.names.lookup x = some .free := hk
        rw [k] at this; cases this
end
section
variable {X : Cx} {pos : Pos}
noncomputable def tWhile (c : TT) (tb : TS) : TS := fun D σ H => ∃ W : Nat → St → Hp → Prop, (∃ m, W m σ H) ∧ ∀ m σ H, W m σ H →
  c σ H fun b H1 => if b = true then ∃ N : St → Hp → Prop, (∀ σ' H', N σ' H' → ∃ m', m' < m ∧ W m' σ' H') ∧ tb { D with nx := N, ct := N, bk := D.nx } σ H1 else D.nx σ H1
theorem ps_while {c : Expr} {body : List Stmt} {tc : TT} {tb : TS} (hp : PassesOwn (model X.prog X.w) X.A X.env X.xe) (hc : PT X c tc) (hb : PSs X body tb) : PS X (.While c body [] pos) (tWhile tc tb) := by
  intro pins s σ H D I h
  obtain ⟨W, ⟨m0, w0⟩, turn⟩ := h
  refine wpAny_While (codeAny_whileLoop (fun n s' => ∃ σ' H', Inv X pins σ' H' s' ∧ W n σ' H') ?_ m0 ⟨σ, H, I, w0⟩)
  rintro n s1 ⟨σ1, H1, I1, w1⟩
  refine wpAny_passesOwn hp (thn (hc pins s1 σ1 H1 _ I1 (turn n σ1 H1 w1)) fun b s2 ⟨H2, I2, q2⟩ => ?_)
  cases b with
  | true =>
    obtain ⟨N, hN, q2⟩ := q2
    rw [if_pos rfl]
    refine wpAny_passesOwn hp (thn (hb pins s2 σ1 H2 _ I2 q2) fun f s3 q3 => ?_)
    cases f with
    | next =>
      obtain ⟨σ3, H3, I3, n3⟩ := q3
      obtain ⟨m', hm, w3⟩ := hN σ3 H3 n3
      exact ⟨m', hm, σ3, H3, I3, w3⟩
    | cont =>
      obtain ⟨σ3, H3, I3, n3⟩ := q3
      obtain ⟨m', hm, w3⟩ := hN σ3 H3 n3
      exact ⟨m', hm, σ3, H3, I3, w3⟩
    | brk => exact q3
    | ret v => exact q3
  | false =>
    rw [if_neg Bool.false_ne_true]
    exact wpAny_execs_nil ⟨σ1, H2, I2, q2⟩
end
structure It where
  go : Nat → Hp → Prop
  yld : Nat → Hp → V → Hp → Prop
  stop : Nat → Hp → Prop
noncomputable def FpOk (X : Cx) (pins : List (Addr × Obj)) (H : Hp) (b : Addr) : Prop :=
  H b = none ∧ b ≠ X.env.locals ∧ b ∉ X.fs ∧ (b ∈ X.ex ∨ X.s₀.heap.objs.size ≤ b) ∧ (∀ x c, X.env.cells.lookup x = some c → c ≠ b) ∧ ∀ p ∈ X.pn ++ pins, p.1 ≠ b
theorem Inv.fpOk {X : Cx} {pins : List (Addr × Obj)} {σ : St} {H H' : Hp} {s : Shared} {b : Addr} (I : Inv X pins σ H s) (hb : s.heap.objs.size ≤ b) (hn : H' b = none) : FpOk X pins H' b := by
  refine ⟨hn, Nat.ne_of_gt (Nat.lt_of_lt_of_le I.lt hb), I.nofs hb, .inr (Nat.le_trans I.sz hb), fun x c e z => ?_, fun p hp z => ?_⟩
  · obtain ⟨v, q⟩ := I.cell x c e
    exact absurd (Nat.lt_of_lt_of_le q.lt (by rw [z]; exact hb)) (Nat.lt_irrefl _)
  · exact absurd (Nat.lt_of_lt_of_le (Heap.lt_size (I.pin p hp).1) (by rw [z]; exact hb)) (Nat.lt_irrefl _)
structure Turn (P : Program) (w : World) (K : PySem.W.Frag) (tg : Expr) (J : It) (fp : List Addr) (it : Addr) (tn : Nat → Heap → Prop) : Prop where
  mem : it ∈ fp
  obj : ∀ i h, tn i h → ∀ b ∈ fp, ∃ o, h.get? b = some o ∧ ∀ v, o.data ≠ .cell v
  keep : ∀ i h h', tn i h → (∀ b ∈ fp, ∀ o, h.get? b = some o → h'.get? b = some o) → tn i h'
  item : ∀ (X : Cx), X.prog = P → X.w = w → X.K = K → X.calm = true → ∀ (i : Nat) (pins : List (Addr × Obj)) (s : Shared) (σ : St) (H : Hp) (E : Value → Shared → Prop), Inv X pins σ H s → (∀ b ∈ fp, FpOk X pins H b) → tn i s.heap → J.go i H →
    wpAny (model P w) X.A (pyNext (.ref it)) (fun r s1 => ∃ u, r = some u ∧
      wpAny (model P w) X.A (letOwnedTupleGo tg (.ref it) u) (fun _ s2 => ∃ x H', Inv X pins σ H' s2 ∧ RelV x u ∧ J.yld i H x H' ∧ tn (i + 1) s2.heap ∧ ∀ b ∈ fp, H' b = none) E s1) E s
  done : ∀ (X : Cx), X.prog = P → X.w = w → X.K = K → X.calm = true → ∀ (i : Nat) (pins : List (Addr × Obj)) (s : Shared) (σ : St) (H : Hp) (E : Value → Shared → Prop), Inv X pins σ H s → (∀ b ∈ fp, FpOk X pins H b) → tn i s.heap → J.stop i H →
    wpAny (model P w) X.A (pyNext (.ref it)) (fun r s1 => r = none ∧ Inv X pins σ H s1) E s
  self : ∀ (A : Around) (i : Nat) (s : Shared) (Q : Value → Shared → Prop) (E : Value → Shared → Prop), tn i s.heap → Q (.ref it) s → wpAny (model P w) A (pyIter (.ref it)) Q E s
noncomputable abbrev TI := St → Hp → (It → Hp → Prop) → Prop
noncomputable def PIE (X : Cx) (pins : List (Addr × Obj)) (σ : St) (tg : Expr) (R : It → Hp → Prop) (itv : Value) (s2 : Shared) : Prop :=
  ∃ (it : Addr) (fp : List Addr) (tn : Nat → Heap → Prop) (J : It) (H' : Hp), itv = .ref it ∧ Inv X pins σ H' s2 ∧ Turn X.prog X.w X.K tg J fp it tn ∧ tn 0 s2.heap ∧ (∀ b ∈ fp, FpOk X pins H' b) ∧ R J H'
noncomputable def PI (X : Cx) (tg iter : Expr) (wi : TI) : Prop :=
  ∀ (pins : List (Addr × Obj)) (s : Shared) (σ : St) (H : Hp) (R : It → Hp → Prop), Inv X pins σ H s → wi σ H R →
    wpAny (model X.prog X.w) X.A (eval iter X.env) (fun v s1 => wpAny (model X.prog X.w) X.A (pyIter v) (PIE X pins σ tg R) X.xe s1) X.xe s
theorem go_of {M : Model} {A : Around} {E : Value → Shared → Prop} {s : Shared} {tg : Expr} {it : Addr} {u : Value} {o : Obj} {n : String} {vs : Array Value} {Q : Unit → Shared → Prop} (ho : s.heap.get? it = some o) (hc : o.cls = .type n) (hd : o.data = .fields vs)
    (hn : ["enumerate", "zip", "dict_itemiterator", "dict_reverseitemiterator", "odict_iterator", "itertools.zip_longest", "itertools.pairwise"].contains n = false) (hQ : Q () s) : wpAny M A (letOwnedTupleGo tg (.ref it) u) Q E s := by
  unfold letOwnedTupleGo
  cases tg <;> first
    | exact wpAny_pure hQ
    | (cases u <;> first
        | exact wpAny_pure hQ
        | (refine wpAny_bind (wpAny_load ho ?_)
           rw [hc, hd]
           show wpAny M A (if (["enumerate", "zip", "dict_itemiterator", "dict_reverseitemiterator", "odict_iterator", "itertools.zip_longest", "itertools.pairwise"].contains n && vs[0]? == some (rawInt _)) = true then _ else _) Q E s
           rw [if_neg (by intro h; rw [hn, Bool.false_and] at h; cases h)]
           exact wpAny_pure hQ))
noncomputable def Itl (K : PySem.W.Frag) (a : Addr) : It :=
  ⟨fun i H => ∃ xs x, SqL K H a xs ∧ xs[i]? = some x, fun i H x H' => H' = H ∧ ∀ xs, SqL K H a xs → xs[i]? = some x, fun i H => ∃ xs, SqL K H a xs ∧ xs.length ≤ i⟩
noncomputable def Itt (K : PySem.W.Frag) (a : Addr) : It :=
  ⟨fun i H => ∃ xs x, SqT K H a xs ∧ xs[i]? = some x, fun i H x H' => H' = H ∧ ∀ xs, SqT K H a xs → xs[i]? = some x, fun i H => ∃ xs, SqT K H a xs ∧ xs.length ≤ i⟩
noncomputable def Itr (lo : Int) (n : Nat) : It := ⟨fun i _ => i < n, fun i H x H' => H' = H ∧ x = .int (lo + i), fun i _ => n ≤ i⟩
theorem turn_list {P : Program} {w : World} {K : PySem.W.Frag} {tg : Expr} (a it : Addr) : Turn P w K tg (Itl K a) [it] it (fun i h => h.IsListIter it a i) where
  mem := by simp
  obj := fun i h st b hb => by
    have e : b = it := by simpa using hb
    subst e
    obtain ⟨o, e, c, d⟩ := st
    exact ⟨o, e, fun v z => by rw [d] at z; cases z⟩
  keep := fun i h h' st k => st.at fun o e => k it (by simp) o e
  item := by
    intro X hP hw hK hc i pins s σ H E I hf st hg
    subst hP hw hK
    obtain ⟨xs, x, hq, hx⟩ := hg
    obtain ⟨its, rv, p, hz⟩ := I.list hq
    obtain ⟨u, hu, ru⟩ := rv.get hx
    obtain ⟨f0, f1, f2, f3, f4, f5⟩ := hf it (by simp)
    refine wpAny_pyNext_list_item st p.isList (x := u) (by simpa using hu) fun h' st' sb => ?_
    have I1 : Inv X pins σ H { s with heap := h' } := I.turned (t' := s.toks) (fun b o hb e => (sb.2 b hb).trans e) f0 f1 f3 f4 f5
    obtain ⟨o, e, c, d⟩ := id st'
    exact ⟨u, rfl, go_of (s := { s with heap := h' }) e c d (by decide) ⟨x, H, I1, ru, ⟨rfl, fun ys hy => by rw [I.list_inj hy hq]; exact hx⟩, st', fun b hb => (hf b hb).1⟩⟩
  done := by
    intro X hP hw hK hc i pins s σ H E I hf st hg
    subst hP hw hK
    obtain ⟨xs, hq, hx⟩ := hg
    obtain ⟨its, rv, p, hz⟩ := I.list hq
    obtain ⟨f0, f1, f2, f3, f4, f5⟩ := hf it (by simp)
    have hl := rv.length
    exact wpAny_pyNext_list_end (I.ok.hd hc) st p.isList (by simp; omega) fun h' eb => ⟨rfl, I.turned (t' := s.toks) (fun b o hb e => eb b o hb e) f0 f1 f3 f4 f5⟩
  self := fun _ _ _ _ _ st h => wpAny_pyIter_listiter st h
theorem turn_tuple {P : Program} {w : World} {K : PySem.W.Frag} {tg : Expr} (a it : Addr) : Turn P w K tg (Itt K a) [it] it (fun i h => h.IsTupleIter it a i) where
  mem := by simp
  obj := fun i h st b hb => by
    have e : b = it := by simpa using hb
    subst e
    obtain ⟨o, e, c, d⟩ := st
    exact ⟨o, e, fun v z => by rw [d] at z; cases z⟩
  keep := fun i h h' st k => st.at fun o e => k it (by simp) o e
  item := by
    intro X hP hw hK hc i pins s σ H E I hf st hg
    subst hP hw hK
    obtain ⟨xs, x, hq, hx⟩ := hg
    obtain ⟨its, rv, p, hz⟩ := I.tuple hq
    obtain ⟨u, hu, ru⟩ := rv.get hx
    obtain ⟨f0, f1, f2, f3, f4, f5⟩ := hf it (by simp)
    refine wpAny_pyNext_tuple_item st (show s.heap.IsTuple a its.toArray from p) (x := u) (by simpa using hu) fun h' st' sb => ?_
    have I1 : Inv X pins σ H { s with heap := h' } := I.turned (t' := s.toks) (fun b o hb e => (sb.2 b hb).trans e) f0 f1 f3 f4 f5
    obtain ⟨o, e, c, d⟩ := id st'
    exact ⟨u, rfl, go_of (s := { s with heap := h' }) e c d (by decide) ⟨x, H, I1, ru, ⟨rfl, fun ys hy => by rw [I.tuple_inj hy hq]; exact hx⟩, st', fun b hb => (hf b hb).1⟩⟩
  done := by
    intro X hP hw hK hc i pins s σ H E I hf st hg
    subst hP hw hK
    obtain ⟨xs, hq, hx⟩ := hg
    obtain ⟨its, rv, p, hz⟩ := I.tuple hq
    obtain ⟨f0, f1, f2, f3, f4, f5⟩ := hf it (by simp)
    have hl := rv.length
    exact wpAny_pyNext_tuple_end (I.ok.hd hc) st (show s.heap.IsTuple a its.toArray from p) (by simp; omega) fun h' eb => ⟨rfl, I.turned (t' := s.toks) (fun b o hb e => eb b o hb e) f0 f1 f3 f4 f5⟩
  self := fun _ _ _ _ _ st h => wpAny_pyIter_tupleiter st h
theorem turn_range {P : Program} {w : World} {K : PySem.W.Frag} {tg : Expr} (it : Addr) (lo : Int) (n : Nat) : Turn P w K tg (Itr lo n) [it] it (fun i h => IsRangeIter h it (lo + (i : Nat) * 1) ((n : Int) - (i : Nat)) 1) where
  mem := by simp
  obj := fun i h st b hb => by
    have e : b = it := by simpa using hb
    subst e
    exact ⟨_, st, fun v z => by
      have z' : Data.fields _ = Data.cell v := z
      cases z'⟩
  keep := fun i h h' st k => k it (by simp) _ st
  item := by
    intro X hP hw hK hc i pins s σ H E I hf st hg
    subst hP hw hK
    obtain ⟨f0, f1, f2, f3, f4, f5⟩ := hf it (by simp)
    have W := Walks.range (prog := X.prog) (w := X.w) (I.ok.hd hc) it lo 1 n
    refine W.item i s _ _ hg st fun v h' tk hv st' kk => ?_
    obtain ⟨t, rfl⟩ := hv
    have I1 : Inv X pins σ H { s with heap := h', toks := tk } := I.turned (fun b o hb e => kk b o (by simpa using hb) e) f0 f1 f3 f4 f5
    refine ⟨_, rfl, go_of (s := { s with heap := h', toks := tk }) (n := "range_iterator") st' rfl rfl (by decide) ⟨.int (lo + i), H, I1, ⟨t, ?_⟩, ⟨rfl, rfl⟩, st', fun b hb => (hf b hb).1⟩⟩
    rw [Int.mul_one]
  done := by
    intro X hP hw hK hc i pins s σ H E I hf st hg
    subst hP hw hK
    obtain ⟨f0, f1, f2, f3, f4, f5⟩ := hf it (by simp)
    exact wpAny_pyNext_range_end (I.ok.hd hc) st (by have : n ≤ i := hg; omega) fun h' eb => ⟨rfl, I.turned (t' := s.toks) (fun b o hb e => eb b o hb e) f0 f1 f3 f4 f5⟩
  self := fun _ _ _ _ _ st h => wpAny_pyIter_rangeiter st h
end L2
namespace L2
open PySem PySem.Spec PyProof.Rows
section
variable {X : Cx} {tg : Expr}
noncomputable def iList (K : PySem.W.Frag) (tl : TE) : TI := fun σ H R => tl σ H fun x H1 => ∃ a, x = .ref a ∧ (∃ xs, SqL K H1 a xs) ∧ R (Itl K a) H1
noncomputable def iTup (K : PySem.W.Frag) (tl : TE) : TI := fun σ H R => tl σ H fun x H1 => ∃ a, x = .ref a ∧ (∃ xs, SqT K H1 a xs) ∧ R (Itt K a) H1
theorem pi_list {l : Expr} {tl : TE} (hl : PE X l tl) : PI X tg l (iList X.K tl) := by
  intro pins s σ H R I h
  refine thn (hl pins s σ H _ I h) fun v s1 ⟨x, H1, I1, r1, q1⟩ => ?_
  obtain ⟨a, e, ⟨xs, hq⟩, q⟩ := q1
  subst e
  cases r1
  obtain ⟨its, rv, p, hz⟩ := I1.list hq
  refine wpAny_pyIter_list p.isList ?_
  refine ⟨s1.heap.objs.size, [s1.heap.objs.size], _, _, H1, rfl, I1.kept (t' := s1.toks) fun b o e => Heap.get?_push_of_some _ e, turn_list a _, ⟨_, Heap.get?_push_size _ rfl, rfl, rfl⟩, fun b hb => ?_, q⟩
  have e : b = s1.heap.objs.size := by simpa using hb
  subst e
  exact I1.fpOk (Nat.le_refl _) (I1.hok.fresh (Nat.le_refl _))
theorem pi_tup {l : Expr} {tl : TE} (hl : PE X l tl) : PI X tg l (iTup X.K tl) := by
  intro pins s σ H R I h
  refine thn (hl pins s σ H _ I h) fun v s1 ⟨x, H1, I1, r1, q1⟩ => ?_
  obtain ⟨a, e, ⟨xs, hq⟩, q⟩ := q1
  subst e
  cases r1
  obtain ⟨its, rv, p, hz⟩ := I1.tuple hq
  refine wpAny_pyIter_tuple (show s1.heap.IsTuple a its.toArray from p) ?_
  refine ⟨s1.heap.objs.size, [s1.heap.objs.size], _, _, H1, rfl, I1.kept (t' := s1.toks) fun b o e => Heap.get?_push_of_some _ e, turn_tuple a _, ⟨_, Heap.get?_push_size _ rfl, rfl, rfl⟩, fun b hb => ?_, q⟩
  have e : b = s1.heap.objs.size := by simpa using hb
  subst e
  exact I1.fpOk (Nat.le_refl _) (I1.hok.fresh (Nat.le_refl _))
theorem range_it {pins : List (Addr × Obj)} {σ : St} {H : Hp} {s : Shared} {R : It → Hp → Prop} {E : Value → Shared → Prop} {lo hi : Int} {t u v : Tok} {tk : Nat} (I : Inv X pins σ H s) (h1 : -(2 ^ 62) ≤ lo) (h2 : lo < 2 ^ 62) (h3 : -(2 ^ 62) ≤ hi) (h4 : hi < 2 ^ 62)
    (q : R (Itr lo (hi - lo).toNat) H) : wpAny (model X.prog X.w) X.A (pyIter (.ref s.heap.objs.size)) (PIE X pins σ tg R) E { s with heap := s.heap.push { cls := .type "range", data := .fields #[.int lo t, .int hi u, .int 1 v] }, toks := tk } := by
  refine wpAny_pyIter_range (IsRange.new ..) (small_one h1 h2 h3 h4) ?_
  have I1 : Inv X pins σ H { s with heap := s.heap.push { cls := .type "range", data := .fields #[.int lo t, .int hi u, .int 1 v] }, toks := tk } := I.kept fun b o e => Heap.get?_push_of_some _ e
  refine ⟨(s.heap.push { cls := .type "range", data := .fields #[.int lo t, .int hi u, .int 1 v] }).objs.size, [(s.heap.push { cls := .type "range", data := .fields #[.int lo t, .int hi u, .int 1 v] }).objs.size], _, _, H, rfl,
    I1.kept (t' := tk) fun b o e => Heap.get?_push_of_some _ e, turn_range _ lo (hi - lo).toNat, ?_, fun b hb => ?_, q⟩
  · have e1 : lo + ((0 : Nat) : Int) * 1 = lo := by simp
    have e2 : (((hi - lo).toNat : Nat) : Int) - ((0 : Nat) : Int) = Builtin.Range.rangeSize lo hi 1 := by rw [rangeSize_one]; split <;> omega
    show IsRangeIter _ _ (lo + ((0 : Nat) : Int) * 1) ((((hi - lo).toNat : Nat) : Int) - ((0 : Nat) : Int)) 1
    rw [e1, e2]
    exact Heap.get?_push_size _ rfl
  · have e : b = (s.heap.push { cls := .type "range", data := .fields #[.int lo t, .int hi u, .int 1 v] }).objs.size := by simpa using hb
    subst e
    exact I1.fpOk (Nat.le_refl _) (I1.hok.fresh (Nat.le_refl _))
noncomputable def iRng1 (ta : TA) : TI := fun σ H R => ta σ H fun vs H1 => ∃ j : Int, vs = [.int j] ∧ -(2 ^ 62) ≤ j ∧ j < 2 ^ 62 ∧ R (Itr 0 j.toNat) H1
theorem pi_range1 {a : Expr} {ta : TA} {p pos : Pos} (hg : Gl X "range") (hm : X.mg "range" = none) (ha : PA X [a] ta) (hs : starEach [a] X.env = [(false, eval a X.env)] := by rfl) : PI X tg (.Call (.Name "range" p) [a] [] pos) (iRng1 ta) := by
  intro pins s σ H R I h
  refine Call_ (ld_blt I hg hm boot_range (PyProof.Rows.callWith_type1 (thn (ha pos pins s σ H _ I h) fun us s1 ⟨vs, H1, I1, r1, q1⟩ => ?_) hs rfl))
  obtain ⟨j, e, q1, q2, q⟩ := q1
  subst e
  cases r1 with
  | cons r rr =>
    cases rr
    obtain ⟨t, rfl⟩ := r
    exact call_range_1 (range_it I1 (by omega) (by omega) q1 q2 (by simpa using q))
noncomputable def tFor (wi : TI) (g : TG) (tb : TS) : TS := fun D σ H => wi σ H fun J H1 => ∃ W : Nat → Nat → St → Hp → Prop, (∃ m, W 0 m σ H1) ∧ ∀ i m σ H, W i m σ H →
  (J.stop i H ∧ D.nx σ H) ∨ (J.go i H ∧ ∃ N : St → Hp → Prop, (∀ σ' H', N σ' H' → ∃ m', m' < m ∧ W (i + 1) m' σ' H') ∧ ∀ x H', J.yld i H x H' → g x σ H' fun σ2 H2 => tb { D with nx := N, ct := N, bk := D.nx } σ2 H2)
noncomputable def pinsAt (fp : List Addr) (h : Heap) : List (Addr × Obj) := fp.filterMap fun b => (h.get? b).map fun o => (b, o)
theorem mem_pinsAt {fp : List Addr} {h : Heap} {b : Addr} {o : Obj} (hb : b ∈ fp) (e : h.get? b = some o) : (b, o) ∈ pinsAt fp h := List.mem_filterMap.mpr ⟨b, hb, by rw [e]; rfl⟩
theorem of_pinsAt {fp : List Addr} {h : Heap} {p : Addr × Obj} (hp : p ∈ pinsAt fp h) : p.1 ∈ fp ∧ h.get? p.1 = some p.2 := by
  obtain ⟨b, hb, e⟩ := List.mem_filterMap.mp hp
  cases q : h.get? b with
  | none => rw [q] at e; cases e
  | some o =>
    rw [q] at e
    have e' : (b, o) = p := Option.some.inj e
    subst e'
    exact ⟨hb, q⟩
theorem Inv.pinned {pins : List (Addr × Obj)} {σ : St} {H : Hp} {s : Shared} {fp : List Addr} (I : Inv X pins σ H s) (hf : ∀ b ∈ fp, FpOk X pins H b) (ho : ∀ b ∈ fp, ∃ o, s.heap.get? b = some o ∧ ∀ v, o.data ≠ .cell v) : Inv X (pins ++ pinsAt fp s.heap) σ H s :=
  I.pins_of fun p hp => (List.mem_append.mp hp).elim (fun z => I.pin p (List.mem_append_right _ z)) fun z => by
    obtain ⟨hb, e⟩ := of_pinsAt z
    obtain ⟨f0, f1, f2, _⟩ := hf p.1 hb
    obtain ⟨o, e', d⟩ := ho p.1 hb
    rw [e] at e'; cases e'
    exact ⟨e, f0, f1, f2, d⟩
theorem Inv.unpinned {pins pl : List (Addr × Obj)} {σ : St} {H : Hp} {s : Shared} (I : Inv X (pins ++ pl) σ H s) : Inv X pins σ H s := I.pins_of fun p hp => I.pin p (List.mem_append_right _ (List.mem_append_left _ hp))
theorem ps_for {iter : Expr} {body : List Stmt} {wi : TI} {g : TG} {tb : TS} {pos : Pos} (hp : PassesOwn (model X.prog X.w) X.A X.env X.xe) (hc : X.calm = true) (hi : PI X tg iter wi) (hg : PG X tg g) (hb : PSs X body tb)
    (hs : ∀ x, foldedSetIterable iter X.env x = pure x := by intro _; rfl) : PS X (.For tg iter body [] pos) (tFor wi g tb) := by
  intro pins s σ H D I h
  refine wpAny_For (thn (hi pins s σ H _ I h) fun v s1 h1 => thn h1 fun itv s2 h2 => ?_) hs
  obtain ⟨it, fp, tn, J, H2, e, I2, T, st2, f2, W, ⟨m0, w0⟩, turn⟩ := h2
  subst e
  have stat : ∀ {H' : Hp}, (∀ b ∈ fp, H' b = none) → ∀ b ∈ fp, FpOk X pins H' b := fun hn b hb => ⟨hn b hb, (f2 b hb).2⟩
  refine codeAny_forLoop_any (fun n s' => ∃ i σ' H', Inv X pins σ' H' s' ∧ tn i s'.heap ∧ (∀ b ∈ fp, H' b = none) ∧ W i n σ' H') ?_ m0 ⟨0, σ, H2, I2, st2, fun b hb => (f2 b hb).1, w0⟩
  rintro n s3 ⟨i, σ3, H3, I3, st3, fr3, w3⟩
  rcases turn i n σ3 H3 w3 with ⟨stop, qn⟩ | ⟨go, N, hN, step⟩
  · refine wpAny_passesOwn hp (thn (T.done X rfl rfl rfl hc i pins s3 σ3 H3 X.xe I3 (stat fr3) st3 stop) fun r s4 ⟨hr, I4⟩ => ?_)
    subst hr
    exact wpAny_execs_nil ⟨σ3, H3, I4, qn⟩
  · refine wpAny_passesOwn hp (thn (T.item X rfl rfl rfl hc i pins s3 σ3 H3 X.xe I3 (stat fr3) st3 go) fun r s4 ⟨u, hr, h4⟩ => ?_)
    subst hr
    refine wpAny_passesOwn hp (thn h4 fun _ s5 ⟨x, H5, I5, r5, y5, st5, fr5⟩ => ?_)
    have I5' := I5.pinned (stat fr5) (T.obj _ _ st5)
    refine wpAny_passesOwn hp (thn (hg _ s5 σ3 H5 x u _ I5' r5 (step x H5 y5)) fun _ s6 ⟨σ6, H6, I6, q6⟩ => ?_)
    refine wpAny_passesOwn hp (thn (hb _ s6 σ6 H6 _ I6 q6) fun f s7 q7 => ?_)
    have again : ∀ {σ7 : St} {H7 : Hp}, Inv X (pins ++ pinsAt fp s5.heap) σ7 H7 s7 → N σ7 H7 → ∃ m, m < n ∧ ∃ i σ' H', Inv X pins σ' H' s7 ∧ tn i s7.heap ∧ (∀ b ∈ fp, H' b = none) ∧ W i m σ' H' := fun {σ7 H7} I7 n7 => by
      obtain ⟨m', hm, w7⟩ := hN σ7 H7 n7
      refine ⟨m', hm, i + 1, σ7, H7, I7.unpinned, T.keep _ _ _ st5 fun b hb o e => (I7.pin (b, o) (List.mem_append_right _ (List.mem_append_right _ (mem_pinsAt hb e)))).1, fun b hb => ?_, w7⟩
      obtain ⟨o, e, d⟩ := T.obj _ _ st5 b hb
      exact (I7.pin (b, o) (List.mem_append_right _ (List.mem_append_right _ (mem_pinsAt hb e)))).2.1
    cases f with
    | next => obtain ⟨σ7, H7, I7, n7⟩ := q7; exact again I7 n7
    | cont => obtain ⟨σ7, H7, I7, n7⟩ := q7; exact again I7 n7
    | brk => obtain ⟨σ7, H7, I7, q7⟩ := q7; exact ⟨σ7, H7, I7.unpinned, q7⟩
    | ret v => obtain ⟨x7, σ7, H7, I7, r7, q7⟩ := q7; exact ⟨x7, σ7, H7, I7.unpinned, r7, q7⟩
end
end L2
namespace L2
open PySem PySem.Spec PyProof.Rows
noncomputable abbrev R2 := V → V → Hp → VK → Prop
noncomputable def OpR (X : Cx) (f : Value → Value → Sem Value) (r : R2) : Prop :=
  ∀ (pins : List (Addr × Obj)) (s : Shared) (σ : St) (H : Hp) (x y : V) (v u : Value) (Q : VK), Inv X pins σ H s → RelV x v → RelV y u → r x y H Q →
    wpAny (model X.prog X.w) X.A (f v u) (EP X pins σ Q) X.xe s
noncomputable def CallR (X : Cx) (f : Value) (r : List V → Hp → VK → Prop) : Prop :=
  ∀ (pins : List (Addr × Obj)) (s : Shared) (σ : St) (H : Hp) (xs : List V) (us : List Value) (Q : VK), Inv X pins σ H s → Vals xs us → r xs H Q →
    wpAny (model X.prog X.w) X.A (call f us) (EP X pins σ Q) X.xe s
noncomputable def tOp (r : R2) (ta tb : TE) : TE := fun σ H Q => ta σ H fun x H1 => tb σ H1 fun y H2 => r x y H2 Q
noncomputable def rI (C : Int → Int → Prop) (g : Int → Int → V) : R2 := fun x y H Q => ∃ i j, x = .int i ∧ y = .int j ∧ C i j ∧ Q (g i j) H
noncomputable def rI0 (g : Int → Int → V) : R2 := fun x y H Q => ∃ i j, x = .int i ∧ y = .int j ∧ Q (g i j) H
section
variable {X : Cx} {a b c : Expr} {ta tb tc : TE} {pos : Pos}
theorem binT (ha : PE X a ta) (hb : PE X b tb) {pins : List (Addr × Obj)} {s : Shared} {σ : St} {H : Hp} {R : V → V → Hp → Prop} (I : Inv X pins σ H s)
    (h : ta σ H fun x H1 => tb σ H1 fun y H2 => R x y H2) {Q : Value → Shared → Prop} {f : Value → Value → Sem Value}
    (hf : ∀ v u s2 x y H2, Inv X pins σ H2 s2 → RelV x v → RelV y u → R x y H2 → wpAny (model X.prog X.w) X.A (f v u) Q X.xe s2) :
    wpAny (model X.prog X.w) X.A (eval a X.env) (fun v s₁ => wpAny (model X.prog X.w) X.A (eval b X.env) (fun u s₂ => wpAny (model X.prog X.w) X.A (f v u) Q X.xe s₂) X.xe s₁) X.xe s := by
  refine thn (ha pins s σ H _ I h) fun v s1 ⟨x, H1, I1, r1, q1⟩ => ?_
  refine thn (hb pins s1 σ H1 _ I1 q1) fun u s2 ⟨y, H2, I2, r2, q2⟩ => ?_
  exact hf v u s2 x y H2 I2 r1 r2 q2
theorem pe_op {op : Operator} {r : R2} (ho : OpR X (binaryOp op) r) (ha : PE X a ta) (hb : PE X b tb) : PE X (.BinOp a op b pos) (tOp r ta tb) := by
  intro pins s σ H Q I h
  exact wpAny_BinOp (binT ha hb I h fun v u s2 x y H2 I2 rx ry q => ho pins s2 σ H2 x y v u Q I2 rx ry q)
theorem opI {f : Value → Value → Sem Value} {C : Int → Int → Prop} {g : Int → Int → Int}
    (rule : ∀ (i j : Int) (t u : Tok) (s : Shared) (Q : Value → Shared → Prop) (E : Value → Shared → Prop), C i j → Q (.int (g i j) s.toks) { s with toks := s.toks + 1 } → wpAny (model X.prog X.w) X.A (f (.int i t) (.int j u)) Q E s) :
    OpR X f (rI C fun i j => .int (g i j)) := by
  intro pins s σ H x y v u Q I rx ry h
  obtain ⟨i, j, rfl, rfl, hc, q⟩ := h
  obtain ⟨t, rfl⟩ := rx
  obtain ⟨t', rfl⟩ := ry
  exact rule i j t t' s _ _ hc ⟨.int (g i j), H, I.tok _, ⟨_, rfl⟩, q⟩
theorem opB0 {f : Value → Value → Sem Value} {g : Int → Int → Bool}
    (rule : ∀ (i j : Int) (t u : Tok) (s : Shared) (Q : Value → Shared → Prop) (E : Value → Shared → Prop), Q (.bool (g i j)) s → wpAny (model X.prog X.w) X.A (f (.int i t) (.int j u)) Q E s) :
    OpR X f (rI0 fun i j => .bl (g i j)) := by
  intro pins s σ H x y v u Q I rx ry h
  obtain ⟨i, j, rfl, rfl, q⟩ := h
  obtain ⟨t, rfl⟩ := rx
  obtain ⟨t', rfl⟩ := ry
  exact rule i j t t' s _ _ ⟨.bl (g i j), H, I, rfl, q⟩
noncomputable def CMul (i j : Int) : Prop := (-(2 ^ 64) < i ∧ i < 2 ^ 64) ∨ (-(2 ^ 64) < j ∧ j < 2 ^ 64)
theorem CMul.ok {i j : Int} (h : CMul i j) : IntMulOk i j := by
  rcases h with ⟨h1, h2⟩ | ⟨h1, h2⟩
  · exact .of_left (intBits_le_64 h1 h2)
  · exact .of_right (intBits_le_64 h1 h2)
theorem op_mod : OpR X (binaryOp .Mod) (rI (fun _ j => 0 < j) fun i j => .int (i % j)) := opI fun i j _ _ _ _ _ hc q => by
  have h1 : (0 : Int) < j := hc
  exact mod_int' (by omega) (by rw [Int.fmod_eq_emod_of_nonneg i (by omega)]; exact q)
theorem iop_mul : OpR X (inplaceOp .Mult) (rI CMul fun i j => .int (i * j)) := opI fun _ _ _ _ _ _ _ hc q => imul_int q hc.ok
end
section
variable {X : Cx} {a b c : Expr} {ta tb tc : TE} {pos : Pos}
theorem op_lt : OpR X (compareOp .Lt) (rI0 fun i j => .bl (decide (i < j))) := opB0 fun _ _ _ _ _ _ _ q => lt_int q
theorem op_gt : OpR X (compareOp .Gt) (rI0 fun i j => .bl (decide (j < i))) := opB0 fun _ _ _ _ _ _ _ q => gt_int q
theorem pe_cmpR {op : CmpOp} {r : R2} (ho : OpR X (compareOp op) r) (ha : PE X a ta) (hb : PE X b tb) (hm : behindInMarks op b = false) : PE X (.Compare a [op] [b] pos) (tOp r ta tb) := by
  intro pins s σ H Q I h
  exact wpAny_Compare1 (binT ha hb I h fun v u s2 x y H2 I2 rx ry q => ho pins s2 σ H2 x y v u Q I2 rx ry q) hm
noncomputable def tTest (t : TE) : TT := fun σ H Q => t σ H fun x H' => ∃ k, x = .bl k ∧ Q k H'
theorem pt_cmpR {op : CmpOp} {r : R2} (ho : OpR X (compareOp op) r) (ha : PE X a ta) (hb : PE X b tb) (hm : behindInMarks op b = false) : PT X (.Compare a [op] [b] pos) (tTest (tOp r ta tb)) := by
  intro pins s σ H Q I h
  refine wpAny_isTrue_Compare1 (thn (ha pins s σ H _ I h) fun v s1 ⟨x, H1, I1, r1, q1⟩ => thn (hb pins s1 σ H1 _ I1 q1) fun u s2 ⟨y, H2, I2, r2, q2⟩ =>
    thn (ho pins s2 σ H2 x y v u _ I2 r1 r2 q2) fun c s3 ⟨z, H3, I3, r3, k, e, q3⟩ => ?_) hm
  subst e
  cases r3
  exact wpAny_truthy_bool ⟨H3, I3, q3⟩
theorem line63 : (sizeLine : Nat) < 2 ^ 63 := by rw [sizeLine_eq]; decide
theorem vals1 {x : V} {us : List Value} (r : Vals [x] us) : ∃ u, us = [u] ∧ RelV x u := by
  cases r with
  | cons r1 r2 => cases r2; exact ⟨_, rfl, r1⟩
theorem vals2 {x y : V} {us : List Value} (r : Vals [x, y] us) : ∃ u w', us = [u, w'] ∧ RelV x u ∧ RelV y w' := by
  cases r with
  | cons r1 r2 =>
    cases r2 with
    | cons r3 r4 => cases r4; exact ⟨_, _, rfl, r1, r3⟩
theorem call_min2 (hc : X.calm = true) : CallR X (.builtin "min") (fun xs H Q => ∃ i j, xs = [.int i, .int j] ∧ Q (.int (if j < i then j else i)) H) := by
  intro pins s σ H xs us Q I r h
  obtain ⟨i, j, rfl, q⟩ := h
  obtain ⟨u, w', rfl, ⟨t, rfl⟩, ⟨t', rfl⟩⟩ := vals2 r
  refine min_two_ints (I.ok.hd hc) fun h' tk k => ⟨_, H, I.kept k, ?_, q⟩
  by_cases hj : j < i
  · rw [if_pos hj, if_pos hj]; exact ⟨_, rfl⟩
  · rw [if_neg hj, if_neg hj]; exact ⟨_, rfl⟩
theorem call_int1 : CallR X (.type "int") (fun xs H Q => (∃ i, xs = [.int i] ∧ Q (.int i) H) ∨ ∃ k, xs = [.bl k] ∧ Q (.int (if k then 1 else 0)) H) := by
  intro pins s σ H xs us Q I r h
  rcases h with ⟨i, rfl, q⟩ | ⟨k, rfl, q⟩
  · obtain ⟨u, rfl, t, rfl⟩ := vals1 r
    exact call_int_int ⟨.int i, H, I, ⟨_, rfl⟩, q⟩
  · obtain ⟨u, rfl, r1⟩ := vals1 r
    cases r1
    exact call_int_bool ⟨.int (if k then 1 else 0), H, I.tok _, ⟨_, rfl⟩, q⟩
end
end L2
namespace L2
open PySem PySem.Spec PyProof.Rows
structure ObjM (h : Heap) (x dx C : Addr) (mA : Str → Option Value) : Prop where
  obj : h.get? x = some (PySem.W.instObj C dx)
  ns : h.Ns1 dx mA
  ne : dx ≠ x
theorem lookIn_ns {h : Heap} {dx : Addr} {mA : Str → Option Value} (n : h.Ns1 dx mA) : ∃ od, h.get? dx = some od ∧ ∀ name, PySem.W.lookIn name od = some (mA name) := by
  obtain ⟨o, es, ep, ho, hd, hk, _, hm⟩ := n
  refine ⟨o, ho, fun name => ?_⟩
  have e := hm name
  unfold nsFind findBy at e
  rw [← Array.find?_toList] at e
  unfold PySem.W.lookIn
  rw [hd]
  dsimp only
  split
  · rename_i y q
    rw [q] at e
    exact congrArg some e
  · rename_i q
    rw [q] at e
    have a : es.toList.any (·.refKey) = false := by
      rw [List.any_eq_false]
      intro y hy
      obtain ⟨z, t, hkey⟩ := hk y (Array.mem_toList_iff.mp hy)
      simp [DictEntry.refKey, hkey]
    have a' : ¬ es.toList.any (·.refKey) = true := by rw [a]; exact Bool.false_ne_true
    rw [if_neg a']
    exact congrArg some e
theorem ObjM.look {h : Heap} {x dx C : Addr} {mA : Str → Option Value} (I : ObjM h x dx C mA) : ∃ od, PySem.W.InstAt h x (PySem.W.instObj C dx) C (some od) ∧ ∀ name, PySem.W.lookIn name od = some (mA name) :=
  let ⟨od, ho, hl⟩ := lookIn_ns I.ns
  ⟨od, ⟨I.obj, rfl, rfl, ho⟩, hl⟩
section
variable {prog : Program} {w : World} {A : Around} {E : Value → Shared → Prop} {s : Shared} {K : PySem.W.Frag} {x dx C f : Addr} {mA : Str → Option Value} {name : Str} {v : Value}
end
theorem RelO.some_of {v : V} {o : Option Value} (r : RelO (some v) o) : ∃ u, o = some u ∧ RelV v u := by
  cases o with
  | none => exact (show False from r).elim
  | some u => exact ⟨u, rfl, r⟩
section
variable {P : Program} {w : World} {H H' : Hp} {h h' : Heap} {a C dx : Addr} {fs fs' : List (Str × V)}
theorem ins_get (hok : HOk P w H h) (e : H a = some (.ins C dx fs)) : ∃ mA, ObjM h a dx C mA ∧ (∀ f, RelO (fs.lookup f) (mA f)) ∧ PySem.Within mA (fs.map (·.1)) ∧ fs.length ≤ 1000 ∧ H dx = some (.own a) := by
  obtain ⟨d, z, ne, ob, mA, n, r, q⟩ := (show ObjOk P w H h a (.ins C dx fs) from hok a _ e)
  exact ⟨mA, ⟨ob, n, ne⟩, r, q, z, d⟩
end
structure Cls (K : PySem.W.Frag) (C : Addr) : Prop where
  pg : PySem.W.plainGet K C Str.empty = true
  hd : PySem.W.hasDictIn K C = true
  po : PySem.W.plainOver K C = true
  sa : PySem.W.findIn K (.ref C) "__setattr__" = some (some (.builtin "object.__setattr__"))
theorem Cls.get {K : PySem.W.Frag} {C : Addr} (c : Cls K C) (f : Str) : PySem.W.plainGet K C f = true := c.pg
structure Con (K : PySem.W.Frag) (C : Addr) (f : Str) (v : V) (u : Value) : Prop where
  at_ : PySem.W.findIn K (.ref C) f = some (some u)
  rel : RelV v u
  get : PySem.W.specialIn K u "__get__" = some none
  cp : PySem.W.copiedNames.contains f = false
structure Meth (K : PySem.W.Frag) (C : Addr) (m : Str) (f : Addr) : Prop where
  at_ : PySem.W.findIn K (.ref C) m = some (some (.ref f))
  fn : PySem.W.isFn K (.ref f) = true
  kp : PySem.W.keepIn K (.ref f) = true
section
variable {X : Cx} {pins : List (Addr × Obj)} {σ : St} {H : Hp} {s : Shared} {a C dx : Addr} {fs : List (Str × V)} {f : Str} {v : V} {A : Around} {E : Value → Shared → Prop}
end
section
variable {X : Cx} {o e value : Expr} {f : Str} {pos pos' tpos : Pos} {ta tv : TE}
end
section
variable {X : Cx} {pins : List (Addr × Obj)} {σ : St} {H : Hp} {s : Shared} {A : Around} {E : Value → Shared → Prop} {Q : Value → Shared → Prop} {c : Value} {b : Bool}
inductive TyOf (K : PySem.W.Frag) (H : Hp) : V → Value → Prop where
  | non : TyOf K H .non (.type "NoneType")
  | bl (x : Bool) : TyOf K H (.bl x) (.type "bool")
  | int (i : Int) : TyOf K H (.int i) (.type "int")
  | str (x : Str) : TyOf K H (.str x) (.type "str")
  | flt (x : UInt64) : TyOf K H (.flt x) (.type "float")
  | lst {a : Addr} {xs : List V} (e : H a = some (.lst xs)) : TyOf K H (.ref a) (.type "list")
  | frz {a : Addr} {o : Obj} {xs : List V} (e : H a = some (.frz o (.lst xs))) : TyOf K H (.ref a) (.type "list")
  | tup {a : Addr} {xs : List V} (e : H a = some (.tup xs)) : TyOf K H (.ref a) (.type "tuple")
  | dK {a : Addr} {kvs : List (Key × V)} (e : H a = some (.dK kvs)) : TyOf K H (.ref a) (.type "dict")
  | dT {a : Addr} {kvs : List (List Key × V)} (e : H a = some (.dT kvs)) : TyOf K H (.ref a) (.type "dict")
  | ins {a C dx : Addr} {fs : List (Str × V)} (e : H a = some (.ins C dx fs)) (cl : Cls K C) (ha : PySem.W.findIn K (.ref C) "__class__" = some (some (.builtin "object.__class__")))
      (hn : PySem.W.specialIn K (.builtin "object.__class__") "__get__" = some (some (.builtin "getset_descriptor.__get__"))) (htk : PySem.W.takesIn K (.builtin "object.__class__") = some true)
      (hm : PySem.W.mroIn K C (.type "object") = some true) : TyOf K H (.ref a) (.ref C)
theorem isinst_ok {x : V} {u t : Value} (I : Inv X pins σ H s) (rx : RelV x u) (ty : TyOf X.K H x t) (e : PySem.W.kitOne X.K t c = some b) (h : ∀ tk, Q (.bool b) { s with toks := tk }) :
    wpAny (model X.prog X.w) A (call (.builtin "isinstance") [u, c]) Q E s := by
  cases ty with
  | non => cases (show u = Value.none from rx); exact PySem.W.kia_one PySem.W.kitx_none I.kIn True.intro e (fun z => nomatch z) h
  | bl y => cases (show u = Value.bool y from rx); exact PySem.W.kia_one PySem.W.kitx_bool I.kIn True.intro e (fun z => nomatch z) h
  | int i => obtain ⟨t, q⟩ := (show ∃ t, u = Value.int i t from rx); cases q; exact PySem.W.kia_one PySem.W.kitx_int I.kIn True.intro e (fun z => nomatch z) h
  | str y => obtain ⟨t, q⟩ := (show ∃ t, u = Value.str y t from rx); cases q; exact PySem.W.kia_one PySem.W.kitx_str I.kIn True.intro e (fun z => nomatch z) h
  | flt y => obtain ⟨t, q⟩ := (show ∃ t, u = Value.float y t from rx); cases q; exact PySem.W.kia_one PySem.W.kitx_float I.kIn True.intro e (fun z => nomatch z) h
  | @lst a xs ea =>
    cases (show u = Value.ref a from rx)
    obtain ⟨_, _, n, _, h1⟩ := (show ObjOk X.prog X.w H s.heap a (.lst xs) from I.hok a _ ea)
    exact PySem.W.kia_one PySem.W.kitx_list I.kIn ⟨_, h1, rfl⟩ e (fun z => nomatch z) h
  | @frz a ob xs ea =>
    cases (show u = Value.ref a from rx)
    obtain ⟨_, _, _, n, _, h1⟩ := (show ObjOk X.prog X.w H s.heap a (.frz ob (.lst xs)) from I.hok a _ ea)
    exact PySem.W.kia_one PySem.W.kitx_list I.kIn ⟨_, h1, rfl⟩ e (fun z => nomatch z) h
  | @tup a xs ea =>
    cases (show u = Value.ref a from rx)
    obtain ⟨_, _, _, p⟩ := (show ObjOk X.prog X.w H s.heap a (.tup xs) from I.hok a _ ea)
    obtain ⟨o, h1, h2, _⟩ := p
    exact PySem.W.kia_one PySem.W.kitx_tuple I.kIn ⟨o, h1, h2⟩ e (fun z => nomatch z) h
  | @dK a kvs ea =>
    cases (show u = Value.ref a from rx)
    obtain ⟨_, _, vs, _, p⟩ := (show ObjOk X.prog X.w H s.heap a (.dK kvs) from I.hok a _ ea)
    obtain ⟨o, es, ep, h1, h2, _⟩ := p
    exact PySem.W.kia_one PySem.W.kitx_dict I.kIn ⟨o, h1, h2.1⟩ e (fun z => nomatch z) h
  | @dT a kvs ea =>
    cases (show u = Value.ref a from rx)
    obtain ⟨_, _, xs, _, o, es, ep, h1, h2, _⟩ := (show ObjOk X.prog X.w H s.heap a (.dT kvs) from I.hok a _ ea)
    exact PySem.W.kia_one PySem.W.kitx_dict I.kIn ⟨o, h1, h2.1⟩ e (fun z => nomatch z) h
  | @ins a C dx fs ea cl ha hn htk hm =>
    cases (show u = Value.ref a from rx)
    obtain ⟨mA, O, _⟩ := ins_get I.hok ea
    obtain ⟨od, J, _⟩ := O.look
    exact PySem.W.kia_one (PySem.W.kitx_own (cl.get _) cl.hd ha hn htk hm) I.kIn J e (fun z => nomatch z) h
end
end L2
namespace L2
open PySem PySem.Spec PyProof.Rows
structure Room (k : Nat) (A : Around) : Prop where
  hd : A.handled = none
  dp : A.depth + 3 * k + 5 < recursionLimit
  un : A.units + 16 * k + 200 < cLine
theorem Room.mono {j k : Nat} {A : Around} (r : Room k A) (h : j ≤ k) : Room j A := ⟨r.hd, by have := r.dp; omega, by have := r.un; omega⟩
theorem Room.deeper {k : Nat} {A : Around} (r : Room (k + 1) A) (env : Env) : Room k (A.deeper env) :=
  ⟨r.hd, by have := r.dp; show A.depth + 1 + 3 * k + 5 < _; omega, by have := r.un; show A.units + 3 + 16 * k + 200 < _; omega⟩
theorem Room.depth {k : Nat} {A : Around} (r : Room k A) : A.depth < recursionLimit := by have := r.dp; omega
theorem Room.units {k : Nat} {A : Around} (r : Room k A) : A.units + 64 < cLine := by have := r.un; omega
noncomputable def tNil : TA := fun _ H Q => Q [] H
noncomputable def tCons (ta : TE) (tr : TA) : TA := fun σ H Q => ta σ H fun x H1 => tr σ H1 fun xs H2 => Q (x :: xs) H2
section
variable {X : Cx} {e : Expr} {es : List Expr} {te : TE} {t : TA} {pos : Pos}
theorem pa_nil : PA X [] tNil := fun _ _ _ _ H Q I h => Calls.spliced_nil ⟨[], H, I, .nil, h⟩
theorem pa_cons (ha : PE X e te) (hr : PA X es t) (hs : starEach (e :: es) X.env = (false, eval e X.env) :: starEach es X.env := by rfl) : PA X (e :: es) (tCons te t) := by
  intro pos pins s σ H Q I h
  rw [hs]
  show wpAny _ _ (spliced ((false, eval e X.env) :: backTo pos (starEach es X.env))) _ _ s
  refine Calls.spliced_cons (thn (ha pins s σ H _ I h) fun u s1 ⟨x, H1, I1, r1, q1⟩ => ?_)
  exact thn (hr pos pins s1 σ H1 _ I1 q1) fun us s2 ⟨xs, H2, I2, r2, q2⟩ => ⟨x :: xs, H2, I2, .cons r1 r2, q2⟩
noncomputable def tTup (t : TA) : TE := fun σ H Q => t σ H fun xs H1 => xs.length ≤ sizeLine ∧ ∀ p, H1 p = none → Q (.ref p) (upd H1 p (.tup xs))
noncomputable def tLst (t : TA) : TE := fun σ H Q => t σ H fun xs H1 => xs.length ≤ sizeLine ∧ ∀ p, H1 p = none → Q (.ref p) (upd H1 p (.lst xs))
theorem pe_tup {x1} (h : PA X es t) : PE X (.Tuple es x1 pos) (tTup t) := by
  intro pins s σ H Q I hq
  refine wpAny_Tuple_spliced (thn (h pos pins s σ H _ I hq) fun us s1 ⟨xs, H1, I1, r, z, q⟩ => ⟨by rw [← r.length]; exact z, ?_⟩)
  have hf : H1 s1.heap.objs.size = none := I1.hok.fresh (Nat.le_refl _)
  refine ⟨.ref s1.heap.objs.size, upd H1 s1.heap.objs.size (.tup xs), I1.laid (t' := s1.toks) (fun b u e => Heap.get?_push_of_some _ e) (Nat.le_refl _) ?_, rfl, q _ hf⟩
  exact ⟨z, us, r, ⟨_, Heap.get?_push_size _ rfl, rfl, _, rfl⟩⟩
theorem pe_lst (h : PA X es t) : PE X (.List es pos) (tLst t) := by
  intro pins s σ H Q I hq
  refine wpAny_List_spliced (thn (h pos pins s σ H _ I hq) fun us s1 ⟨xs, H1, I1, r, z, q⟩ => ⟨by rw [← r.length]; exact z, ?_⟩)
  have hf : H1 s1.heap.objs.size = none := I1.hok.fresh (Nat.le_refl _)
  refine ⟨.ref s1.heap.objs.size, upd H1 s1.heap.objs.size (.lst xs), I1.laid (t' := s1.toks) (fun b u e => Heap.get?_push_of_some _ e) (Nat.le_refl _) ?_, rfl, q _ hf⟩
  exact ⟨z, us, 0, r, Heap.get?_push_size _ rfl⟩
end
noncomputable abbrev Sp := List V → Hp → VK → XK → Prop
noncomputable abbrev CXT := List Env → Hp → Shared → XK → Value → Shared → Prop
structure Env0 (P : Program) (w : World) (K : PySem.W.Frag) (mg : Str → Option Value) (base : Heap) (A : Around) (outer : List Env) (s : Shared) (H : Hp) : Prop where
  frames : A.frames = some outer
  mod : Mod K mg base
  bs : ∀ b o, base.get? b = some o → s.heap.get? b = some o ∧ H b = none
  bsz : base.objs.size ≤ s.heap.objs.size
  funs : s.heap.FunFrames base outer
  frf : ∀ b ∈ frs outer, H b = none
  hok : HOk P w H s.heap
  bare : AllBare s.gens
noncomputable def CE (outer : List Env) (P : Program) (w : World) (H : Hp) (s : Shared) (Q : VK) (u : Value) (s' : Shared) : Prop :=
  ∃ v H', s'.os = s.os ∧ AllBare s'.gens ∧ Un (frs outer) [] H H' s.heap s'.heap ∧ HOk P w H' s'.heap ∧ RelV v u ∧ Q v H'
noncomputable def CR (CX : CXT) (outer : List Env) (P : Program) (w : World) (H : Hp) (s : Shared) (Q : VK) (E : XK) (r : Result) (s' : Shared) : Prop :=
  match r with
  | .ok (.ret u) => CE outer P w H s Q u s'
  | .ok _ => False
  | .error e => CX outer H s E e s'
structure FnOk (P : Program) (w : World) (K : PySem.W.Frag) (mg : Str → Option Value) (base : Heap) (CX : CXT) (k : Nat) (f : Addr) (fd : FuncData) (ps : List Str) (sp : Sp) : Prop where
  len : ∀ vs H Q E, sp vs H Q E → vs.length = ps.length
  run : ∀ (A : Around) (outer : List Env) (s : Shared) (H : Hp) (args : Args) (us : List Value) (vs : List V) (Q : VK) (E : XK), Room k A → Env0 P w K mg base A outer s H → BindsTo s fd args (ps.zip us) → Vals vs us → sp vs H Q E →
    codeAny (model P w) A (.call (.ref f) args) (CR CX outer P w H s Q E) s
section
variable {X : Cx} {pins : List (Addr × Obj)} {σ : St} {H : Hp} {s s' : Shared}
theorem Inv.env0 (I : Inv X pins σ H s) : Env0 X.prog X.w X.K X.mg X.base X.A X.stack s H :=
  ⟨I.ok.frames, I.ok.mod, I.bs, Nat.le_trans I.ok.bsz I.sz, I.stack, I.stkFree, I.hok, I.bare⟩
theorem Inv.after {Q : VK} {u : Value} (I : Inv X pins σ H s) (h : CE X.stack X.prog X.w H s Q u s') : EP X pins σ Q u s' := by
  obtain ⟨v, H', os, bare, un, hok, r, q⟩ := h
  obtain ⟨hh, g, d, t, os'⟩ := s'
  obtain rfl : os' = s.os := os
  exact ⟨v, H', I.call (h' := hh) (g' := g) (d' := d) (t' := t) (ch := []) un hok bare (fun b z => absurd z (by simp)), r, q⟩
end
noncomputable def tCall (sp : Sp) (dvs : List V) (E : XK) (t : TA) : TE := fun σ H Q => t σ H fun vs H1 => sp (vs ++ dvs) H1 Q E
noncomputable def Binds (K : PySem.W.Frag) (fd : FuncData) (ps : List Str) (ds : List Value) : Prop :=
  ∀ (s : Shared) (us : List Value), K.In s.heap → (us ++ ds).length = ps.length → BindsTo s fd ⟨us, []⟩ (ps.zip (us ++ ds))
theorem Binds.all {K : PySem.W.Frag} {fd : FuncData} {ps : List Str} (h : ∀ us : List Value, us.length = ps.length → bindArgs fd ⟨us, []⟩ = pure (ps.zip us)) : Binds K fd ps [] := fun s us _ hl => by
  rw [List.append_nil] at hl ⊢
  exact .of_eq (h us hl)
noncomputable def Passes (CX : CXT) (X : Cx) (E : XK) : Prop := ∀ (pins : List (Addr × Obj)) (σ : St) (H : Hp) (s : Shared) (e : Value) (s' : Shared), Inv X pins σ H s → CX X.stack H s E e s' → X.xe e s'
section
variable {X : Cx} {CX : CXT} {k : Nat} {f C : Addr} {fd : FuncData} {ps : List Str} {sp : Sp} {dvs : List V} {ds : List Value} {E : XK} {x m : Str} {p pos apos : Pos} {e o : Expr} {es : List Expr} {ta : TE} {t : TA}
theorem run_fn {pins : List (Addr × Obj)} {σ : St} {H : Hp} {s : Shared} {Q : VK} {us : List Value} {vs : List V} (F : FnOk X.prog X.w X.K X.mg X.base CX k f fd ps sp) (hr : Room k X.A) (hb : Binds X.K fd ps ds) (hd : Vals dvs ds) (hx : Passes CX X E)
    (I : Inv X pins σ H s) (r : Vals vs us) (h : sp (vs ++ dvs) H Q E) : wpAny (model X.prog X.w) X.A (call (.ref f) us) (EP X pins σ Q) X.xe s := by
  have r2 : Vals (vs ++ dvs) (us ++ ds) := r.append hd
  have hl : (us ++ ds).length = ps.length := by rw [← r2.length]; exact F.len _ _ _ _ h
  refine wpAny_call (codeAny_mono (F.run X.A X.stack s H ⟨us, []⟩ (us ++ ds) (vs ++ dvs) Q E hr I.env0 (hb s us I.kIn hl) r2 h) fun r s' hq => ?_)
  cases r with
  | error e => exact hx pins σ H s e s' I hq
  | ok fl =>
    cases fl with
    | ret u => exact I.after hq
    | next => exact False.elim hq
    | brk => exact False.elim hq
    | cont => exact False.elim hq
theorem pe_call (F : FnOk X.prog X.w X.K X.mg X.base CX k f fd ps sp) (hr : Room k X.A) (hg : Gl X x) (hm : X.mg x = some (.ref f)) (hk : PySem.W.keepIn X.K (.ref f) = true) (hb : Binds X.K fd ps ds) (hd : Vals dvs ds) (hx : Passes CX X E)
    (ha : PA X (e :: es) t) (hdb : (x == ("__debug__" : Str)) = false := by decide) (he : starEach (e :: es) X.env = (false, eval e X.env) :: starEach es X.env := by rfl) (hpl : (backTo pos (starEach es X.env)).any (·.1) = false := by rfl) :
    PE X (.Call (.Name x p) (e :: es) [] pos) (tCall sp dvs E t) := by
  intro pins s σ H Q I h
  refine wpAny_Call_Name_kw (ld_glob I hg hm ?_ hdb)
  refine PySem.W.callWith_K (h₀ := X.base) I.ok.mod.kin hk (thn (ha pos pins s σ H _ I h) fun us s1 ⟨vs, H1, I1, r, q⟩ => ⟨I1.kIn, ?_⟩) he hpl
  exact run_fn F hr hb hd hx I1 r q
structure Mk (K : PySem.W.Frag) (C f : Addr) : Prop where
  makes : PySem.W.makesIn K C = true
  init : PySem.W.findIn K (.ref C) "__init__" = some (some (.ref f))
  fn : PySem.W.isFn K (.ref f) = true
  kp : PySem.W.keepIn K (.ref C) = true
end
section
variable {X : Cx} {CX : CXT} {k : Nat} {f C : Addr} {fd : FuncData} {ps ks : List Str} {sp : Sp} {E : XK} {x m : Str} {p pos apos kpos : Pos} {e o : Expr} {es : List Expr} {kws : List Keyword} {te ta : TE} {t tk : TA} {nm : Option Str}
structure KBinds (K : PySem.W.Frag) (fd : FuncData) (ps ks : List Str) (g : List Value → List Value → List Value) (gV : List V → List V → List V) : Prop where
  to : ∀ (s : Shared) (us ws : List Value), K.In s.heap → (g us ws).length = ps.length → BindsTo s fd ⟨us, ks.zip ws⟩ (ps.zip (g us ws))
  rel : ∀ {vs : List V} {us : List Value} {zs : List V} {ws : List Value}, Vals vs us → Vals zs ws → Vals (gV vs zs) (g us ws)
variable {g : List Value → List Value → List Value} {gV : List V → List V → List V}
end
structure FnScope (N P : List Str) (sc : Scope) : Prop where
  kind : sc.kind = .function
  co : sc.isCoroutine = false
  gen : sc.isGenerator = false
  nd : N.Nodup
  pre : N.take P.length = P
  par : ∀ x ∈ P, sc.names.lookup x = some .local ∨ sc.names.lookup x = some .cell
  nofree : ∀ y ∈ sc.names, y.2 ≠ .free
theorem bindL_out {kindOf : Str → Option NameKind} {x : Str} : ∀ {binds : List (Str × Value)} {m : Str → Option Value}, (∀ v, (x, v) ∉ binds) → bindL kindOf binds m x = m x
  | [], _, _ => rfl
  | (n, v) :: r, m, h => by
    unfold bindL
    rw [bindL_out fun w hw => h w (List.mem_cons_of_mem _ hw)]
    split
    · have : x ≠ n := by rintro rfl; exact h v List.mem_cons_self
      simp [this]
    · rfl
theorem bindC_out {kindOf : Str → Option NameKind} {x : Str} : ∀ {binds : List (Str × Value)} {m : Str → Option Value}, (∀ v, (x, v) ∉ binds) → bindC kindOf binds m x = m x
  | [], _, _ => rfl
  | (n, v) :: r, m, h => by
    unfold bindC
    rw [bindC_out fun w hw => h w (List.mem_cons_of_mem _ hw)]
    split
    · rfl
    · have : x ≠ n := by rintro rfl; exact h v List.mem_cons_self
      simp [this]
theorem bindL_get {kindOf : Str → Option NameKind} {x : Str} {v : Value} : ∀ {P : List Str} {vs : List Value} {i : Nat} {m : Str → Option Value}, P.Nodup → P[i]? = some x → vs[i]? = some v → kindOf x = some .local →
    bindL kindOf (P.zip vs) m x = some v
  | [], _, _, _, _, h, _, _ => by simp at h
  | _ :: _, [], _, _, _, _, h, _ => by simp at h
  | p :: P, w :: vs, 0, m, nd, h1, h2, hk => by
    simp at h1 h2; subst h1; subst h2
    show bindL kindOf ((p, w) :: P.zip vs) m p = _
    unfold bindL
    rw [bindL_out fun v hv => (List.nodup_cons.mp nd).1 (List.of_mem_zip hv).1, if_pos hk]
    simp
  | p :: P, w :: vs, i + 1, m, nd, h1, h2, hk => by
    show bindL kindOf ((p, w) :: P.zip vs) m x = _
    unfold bindL
    exact bindL_get (i := i) (List.nodup_cons.mp nd).2 (by simpa using h1) (by simpa using h2) hk
theorem bindC_get {kindOf : Str → Option NameKind} {x : Str} {v : Value} : ∀ {P : List Str} {vs : List Value} {i : Nat} {m : Str → Option Value}, P.Nodup → P[i]? = some x → vs[i]? = some v → kindOf x ≠ some .local →
    bindC kindOf (P.zip vs) m x = some v
  | [], _, _, _, _, h, _, _ => by simp at h
  | _ :: _, [], _, _, _, _, h, _ => by simp at h
  | p :: P, w :: vs, 0, m, nd, h1, h2, hk => by
    simp at h1 h2; subst h1; subst h2
    show bindC kindOf ((p, w) :: P.zip vs) m p = _
    unfold bindC
    rw [bindC_out fun v hv => (List.nodup_cons.mp nd).1 (List.of_mem_zip hv).1, if_neg hk]
    simp
  | p :: P, w :: vs, i + 1, m, nd, h1, h2, hk => by
    show bindC kindOf ((p, w) :: P.zip vs) m x = _
    unfold bindC
    exact bindC_get (i := i) (List.nodup_cons.mp nd).2 (by simpa using h1) (by simpa using h2) hk
noncomputable def start (N : List Str) (vs : List V) : St := vs.map some ++ List.replicate (N.length - vs.length) none
noncomputable def cxOf (CX : CXT) (P : Program) (w : World) (K : PySem.W.Frag) (mg : Str → Option Value) (base : Heap) (N : List Str) (qual : Str) (scope : Scope) (f : Addr) (cd : Value) (A : Around) (outer : List Env) (s : Shared) (H : Hp) (E : XK) : Cx where
  prog := P
  w := w
  K := K
  mg := mg
  base := base
  A := A.deeper (envOfC qual scope s.heap.objs.size f cd)
  N := N
  s₀ := s
  H₀ := H
  env := envOfC qual scope s.heap.objs.size f cd
  outer := outer
  stack := envOfC qual scope s.heap.objs.size f cd :: outer
  ex := []
  calm := true
  fn := fun _ => true
  pn := []
  xe := fun e s' => wpAny (model P w) (A.deeper (envOfC qual scope s.heap.objs.size f cd)) (leaving (envOfC qual scope s.heap.objs.size f cd) e) (fun _ s'' => CX outer H s E e s'') (fun e' s'' => CX outer H s E e' s'') s'
theorem cell_has {sc : Scope} {n : Nat} {x : Str} (h : sc.names.lookup x = some .cell) : ∃ c, (cellsFrom n sc.names []).lookup x = some c := by
  have q := PySem.W.cellsFrom_some sc.names n [] (.inl h)
  exact Option.isSome_iff_exists.mp q
theorem inv_start {CX : CXT} {P : Program} {w : World} {K : PySem.W.Frag} {mg : Str → Option Value} {base : Heap} {N ps : List Str} {qual : Str} {scope : Scope} {f : Addr} {cd : Value} {A : Around} {outer : List Env} {s s1 : Shared} {H : Hp} {E : XK} {us : List Value} {vs : List V}
    (S : FnScope N ps scope) (hd : A.handled = none) (e0 : Env0 P w K mg base A outer s H) (hl : vs.length = ps.length) (r : Vals vs us)
    (x : InCallC s s.heap.objs.size (bindL (envOfC qual scope s.heap.objs.size f cd).kindOf (ps.zip us) fun _ => none) (cellsFrom (s.heap.objs.size + 1) scope.names []) (bindC (envOfC qual scope s.heap.objs.size f cd).kindOf (ps.zip us) fun _ => none) s1) :
    Inv (cxOf CX P w K mg base N qual scope f cd A outer s H E) [] (start N vs) H s1 := by
  have hpl : ps.length ≤ N.length := by have := congrArg List.length S.pre; rw [List.length_take] at this; omega
  obtain ⟨h1, tk, rfl, hk⟩ := x.done
  have noA : ∀ b : Addr, b ∉ (cxOf CX P w K mg base N qual scope f cd A outer s H E).ex := fun b z => absurd (show b ∈ ([] : List Addr) from z) (by simp)
  refine ⟨⟨e0.mod, S.kind, rfl, rfl, Nat.le_refl _, fun y z c h1 h2 => ?_, fun y hy => ?_, fun y c _ h => ?_, fun _ => hd, Around.frames_deeper e0.frames, .inr ⟨rfl, rfl⟩, fun b z => absurd z (noA b), e0.bs, e0.bsz, fun b _ _ => noA b, fun b z => absurd z (noA b), e0.funs, e0.frf⟩,
    rfl, e0.bare, Un.kept hk, ⟨_, x.toInCall.ns, fun i y v h1 h2 h3 => ?_⟩, fun y c h => ⟨_, x.cell y c h⟩, e0.hok.fresh (Nat.le_refl _), fun y c h => ?_, fun p hp => absurd (show p ∈ ([] : List (Addr × Obj)) from hp) (by simp), e0.hok.kept hk, ?_⟩
  · exact name_of_addr x.apart (PySem.mem_of_lookup h1) (PySem.mem_of_lookup h2)
  · have hy : scope.names.lookup y = some .cell ∨ scope.names.lookup y = some .free := hy
    rcases hy with hy | hy
    · exact cell_has hy
    · exact absurd rfl (S.nofree _ (PySem.mem_of_lookup hy))
  · exact Nat.le_of_lt (x.above y c (PySem.mem_of_lookup h))
  · have hi : i < vs.length := by
      unfold start at h2
      by_cases hi : i < vs.length
      · exact hi
      · rw [List.getElem?_append_right (by simpa using hi)] at h2
        rw [List.getElem?_replicate] at h2
        split at h2 <;> cases h2
    have ha : vs[i]? = some v := by
      unfold start at h2
      rw [List.getElem?_append_left (by simpa using hi), List.getElem?_map] at h2
      cases e : vs[i]? with
      | none => rw [e] at h2; cases h2
      | some a => rw [e] at h2; cases h2; rfl
    obtain ⟨u, hu, rv⟩ := r.get ha
    have hp : ps[i]? = some y := by
      rw [← S.pre, List.getElem?_take_of_lt (by omega)]; exact h1
    have ndP : ps.Nodup := by rw [← S.pre]; exact S.nd.sublist (List.take_sublist _ _)
    refine ⟨u, rv, ?_⟩
    rcases S.par y (List.mem_of_getElem? hp) with k | k
    · exact .inl ⟨k, bindL_get ndP hp hu k⟩
    · obtain ⟨c, e⟩ := cell_has (n := s.heap.objs.size + 1) k
      refine .inr ⟨.inl k, c, e, ?_⟩
      have q := x.cell y c e
      rw [bindC_get ndP hp hu (by show scope.names.lookup y ≠ _; rw [k]; decide)] at q
      exact q
  · exact e0.hok.fresh (Nat.le_of_lt (x.above y c (PySem.mem_of_lookup h)))
  · unfold start
    show _ = N.length
    rw [List.length_append, List.length_map, List.length_replicate]
    omega
theorem fn_of {CX : CXT} {P : Program} {w : World} {K : PySem.W.Frag} {mg : Str → Option Value} {base : Heap} {k : Nat} {f : Addr} {name qual : Str} {params : Arguments} {body : List Stmt} {scope : Scope} {dV kV doc pm cdv ct oc : Value} {an od : Option Addr}
    {osl : Array (Option Value)} {N ps : List Str} {sp : Sp} (lk : K.lookup f = some ⟨oc, od, .func (PySem.W.fnOf name qual params body scope dV kV doc pm an cdv ct), osl⟩) (hcd : PySem.W.codeIn K cdv qual = true) (S : FnScope N ps scope)
    (len : ∀ vs H Q E, sp vs H Q E → vs.length = ps.length)
    (hbody : ∀ (A : Around) (outer : List Env) (s : Shared) (H : Hp) (vs : List V) (Q : VK) (E : XK), Room k (A.deeper (envOfC qual scope s.heap.objs.size f cdv)) → sp vs H Q E →
      ∃ t, PSs (cxOf CX P w K mg base N qual scope f cdv A outer s H E) body t ∧ t { nx := fun _ H' => Q .non H', rt := Q } (start N vs) H) :
    FnOk P w K mg base CX (k + 1) f (PySem.W.fnOf name qual params body scope dV kV doc pm an cdv ct) ps sp := by
  refine ⟨len, fun A outer s H args us vs Q E hr e0 hb r hsp => ?_⟩
  have hl := len _ _ _ _ hsp
  have KX : K.In s.heap := e0.mod.kin.keeps fun b o e => (e0.bs b o e).1
  have lim : s.heap.NoLimit := e0.mod.nolimit.keeps fun b o e => (e0.bs b o e).1
  have hkind : ∀ y ∈ ps.zip us, scope.names.lookup y.1 = some .local ∨ (scope.names.lookup y.1 = some .cell ∧ ((cellsFrom (s.heap.objs.size + 1) scope.names []).lookup y.1).isSome = true) := fun ⟨n, v⟩ hy => by
    rcases S.par n (List.of_mem_zip hy).1 with q | q
    · exact .inl q
    · exact .inr ⟨q, PySem.W.cellsFrom_some _ _ _ (.inl q)⟩
  refine codeAny_call_function hr.depth (KX _ _ lk) rfl S.co S.gen rfl (PySem.W.codeRec_of KX hcd) (hb _ _ _ _ ?_)
  refine wpAny_newFunctionEnv_cells S.kind hkind fun env he s1 x => ?_
  subst he
  refine ⟨lim.keeps x.toInCall.keep, codeAny_func ?_⟩
  obtain ⟨t, ht, hq⟩ := hbody A outer s H vs Q E (hr.deeper _) hsp
  have I : Inv (cxOf CX P w K mg base N qual scope f cdv A outer s H E) [] (start N vs) H s1 := inv_start S hr.hd e0 hl r x
  refine wpAny_mono (ht [] s1 (start N vs) H _ I hq) (fun fl s' hs => ?_) fun e s' hs => hs
  have fin : ∀ {σ' : St} {H' : Hp} {v : V} {u : Value}, Inv (cxOf CX P w K mg base N qual scope f cdv A outer s H E) [] σ' H' s' → RelV v u → Q v H' → CE outer P w H s Q u s' :=
    fun {σ' H' v u} J rv q => ⟨v, H', J.os, J.bare, J.base, J.hok, rv, q⟩
  cases fl with
  | ret u =>
    obtain ⟨v, σ', H', J, rv, q⟩ := hs
    exact fin J rv q
  | next =>
    obtain ⟨σ', H', J, q⟩ := hs
    exact fin (v := V.non) (u := Value.none) J rfl q
  | brk =>
    obtain ⟨_, _, _, q⟩ := hs
    exact False.elim q
  | cont =>
    obtain ⟨_, _, _, q⟩ := hs
    exact False.elim q
end L2
namespace L2
open PySem PySem.Spec PyProof.Rows
section
variable {X : Cx} {x : Str} {p pos : Pos} {e : Expr} {es : List Expr} {t : TA} {id T : String} {r : List V → Hp → VK → Prop}
noncomputable def tCB (r : List V → Hp → VK → Prop) (t : TA) : TE := fun σ H Q => t σ H fun vs H1 => r vs H1 Q
theorem pe_callB (hc : CallR X (.builtin id) r) (hg : Gl X x) (hm : X.mg x = none) (hv : bootBuiltins x = some (.builtin id)) (ha : PA X (e :: es) t) (hn : x ≠ "__name__" := by decide) (hdb : (x == ("__debug__" : Str)) = false := by decide)
    (he : starEach (e :: es) X.env = (false, eval e X.env) :: starEach es X.env := by rfl) (hpl : (backTo pos (starEach es X.env)).any (·.1) = false := by rfl) : PE X (.Call (.Name x p) (e :: es) [] pos) (tCB r t) := by
  intro pins s σ H Q I h
  refine wpAny_Call_Name_kw (ld_blt I hg hm hv ?_ hn hdb)
  exact PyProof.Rows.callWith_builtin1 (thn (ha pos pins s σ H _ I h) fun us s1 ⟨vs, H1, I1, r1, q1⟩ => hc pins s1 σ H1 vs us Q I1 r1 q1) he hpl
theorem pe_callTy (hc : CallR X (.type T) r) (hg : Gl X x) (hm : X.mg x = none) (hv : bootBuiltins x = some (.type T)) (ha : PA X (e :: es) t) (hn : x ≠ "__name__" := by decide) (hdb : (x == ("__debug__" : Str)) = false := by decide)
    (he : starEach (e :: es) X.env = (false, eval e X.env) :: starEach es X.env := by rfl) (hpl : (backTo pos (starEach es X.env)).any (·.1) = false := by rfl) : PE X (.Call (.Name x p) (e :: es) [] pos) (tCB r t) := by
  intro pins s σ H Q I h
  refine wpAny_Call_Name_kw (ld_blt I hg hm hv ?_ hn hdb)
  exact PyProof.Rows.callWith_type1 (thn (ha pos pins s σ H _ I h) fun us s1 ⟨vs, H1, I1, r1, q1⟩ => hc pins s1 σ H1 vs us Q I1 r1 q1) he hpl
end
end L2
namespace HT
open PySem PyProof.Rows
section
open PySem.SeqAt
open PySem.AutoSeq1 (wpAny_loadPart')
open PySem.MeetsSeq PySem.MeetsSeq2 PySem.MeetsSeq3
end
section
variable {prog : Program} {w : World} {A : Around} {E : Value → Shared → Prop} {s : Shared}
theorem cat_tup {t b : Addr} {vs ws : List Value} {Q : Value → Shared → Prop} (ht : IsTup s.heap t vs.toArray) (hb : IsTup s.heap b ws.toArray) (hv : vs ≠ [])
    (h1 : ws = [] → Q (.ref t) s) (h2 : ws ≠ [] → Q (.ref s.heap.objs.size) { s with heap := s.heap.push { cls := .type "tuple", data := .seq (vs ++ ws).toArray } })
    (hsz : vs.length + ws.length ≤ sizeLine) : wpAny (model prog w) A (binaryOp .Add (.ref t) (.ref b)) Q E s := by
  obtain ⟨⟨cls, dd, data, sl⟩, ho, hc, n, hd⟩ := id ht
  obtain ⟨⟨cls2, dd2, data2, sl2⟩, ho2, hc2, n2, hd2⟩ := id hb
  simp only at hc hd hc2 hd2
  subst hc hd hc2 hd2
  have e : vs.toArray ++ ws.toArray = (vs ++ ws).toArray := by simp
  by_cases hw : ws = []
  · exact concat_meets ⟨_, ho, rfl⟩ ⟨_, ho2, rfl⟩ noFill_tuple_add seq_tuple_add PySem.F.slot_tuple_add PySem.F.entry_tuple_add (PySem.F.args_tuple_add_2 _ _)
      (tuple_addW1 t b vs.toArray ws.toArray n n2 dd dd2 sl sl2 (by simpa using hv) (by simp [hw])) ⟨ho, ho2, h1 hw⟩
  · refine concat_meets ⟨_, ho, rfl⟩ ⟨_, ho2, rfl⟩ noFill_tuple_add seq_tuple_add PySem.F.slot_tuple_add PySem.F.entry_tuple_add (PySem.F.args_tuple_add_2 _ _)
      (tuple_addW2 t b vs.toArray ws.toArray n n2 dd dd2 sl sl2 (by simpa using hv) (by simpa using hw) (by rw [List.size_toArray, List.size_toArray]; exact hsz)) ⟨ho, ho2, ?_⟩
    rw [e]
    exact h2 hw
noncomputable def sIx (n d : Nat) : Option Int → Nat
  | none => d
  | some v => if v < 0 then (v + (n : Int)).toNat else min v.toNat n
theorem sIx_none (n d : Nat) : sIx n d none = d := rfl
theorem sIx_nat (n d k : Nat) : sIx n d (some (k : Int)) = min k n := by
  show (if (k : Int) < 0 then ((k : Int) + (n : Int)).toNat else min (k : Int).toNat n) = min k n
  rw [if_neg (by omega), Int.toNat_natCast]
theorem sIx_le (n d : Nat) (hd : d ≤ n) (o : Option Int) : sIx n d o ≤ n := by
  cases o with
  | none => exact hd
  | some v =>
    show (if v < 0 then (v + (n : Int)).toNat else min v.toNat n) ≤ n
    by_cases hv : v < 0
    · rw [if_pos hv]; omega
    · rw [if_neg hv]; exact Nat.min_le_right _ _
theorem clip_eq (v : Int) (n d : Nat) : (if v < 0 then max (v + (n : Int)) 0 else min v (n : Int)) = ((sIx n d (some v) : Nat) : Int) := by
  show (if v < 0 then max (v + (n : Int)) 0 else min v (n : Int)) = (((if v < 0 then (v + (n : Int)).toNat else min v.toNat n) : Nat) : Int)
  by_cases hv : v < 0
  · simp only [if_pos hv]; omega
  · simp only [if_neg hv]; omega
theorem adjust_gen (lo hi : Option Int) (n : Nat) : Builtin.Slice.sliceAdjust lo hi 1 (n : Int) = (((sIx n 0 lo : Nat) : Int), ((sIx n n hi : Nat) : Int)) := by
  have h1 : ¬ ((1 : Int) < 0) := by omega
  unfold Builtin.Slice.sliceAdjust
  simp only [h1, if_false]
  refine Prod.ext ?_ ?_
  · cases lo with
    | none => rfl
    | some v => exact clip_eq v n 0
  · cases hi with
    | none => rfl
    | some v => exact clip_eq v n n
theorem places_gen (i j : Nat) : Builtin.Slice.slicePlaces (i : Int) (j : Int) 1 = j - i := by
  unfold Builtin.Slice.slicePlaces
  have h1 : (1 : Int) > 0 := by omega
  simp only [h1, if_true, Int.ediv_one]
  split <;> omega
theorem slicePart_ {v : Value} {o : Option Int} {Q : Option Int → Shared → Prop} (p : IsPart v o) (h : Q o s) : wpAny (model prog w) A (Builtin.Slice.slicePartIndex v) Q E s := by
  cases p with
  | none => exact slicePart_none h
  | int i t => exact slicePart_int h
theorem sliceApplied_gen {sl : Addr} {vl vu : Value} {lo hi : Option Int} {n : Nat} {Q : Int × Int × Nat → Shared → Prop} (hs : s.heap.IsSliceOf sl vl vu .none) (pl : IsPart vl lo) (pu : IsPart vu hi)
    (h : Q (((sIx n 0 lo : Nat) : Int), 1, sIx n n hi - sIx n 0 lo) s) : wpAny (model prog w) A (Builtin.Slice.sliceApplied (.ref sl) (pure (n : Int))) Q E s := by
  obtain ⟨os, hos, hcs, hds⟩ := id hs
  unfold Builtin.Slice.sliceApplied Builtin.Slice.sliceFields
  refine wpAny_bind (wpAny_bind (wpAny_field hos hds (x := vl) rfl (wpAny_bind (wpAny_field hos hds (x := vu) rfl (wpAny_bind (wpAny_field hos hds (x := .none) rfl (wpAny_pure ?_)))))))
  refine wpAny_bind (slicePart_none ?_)
  show wpAny _ _ (if ((1 : Int) == 0) = true then _ else _) _ _ s
  rw [if_neg (by decide)]
  refine wpAny_bind (slicePart_ pl (wpAny_bind (slicePart_ pu (wpAny_bind (wpAny_pure ?_)))))
  show wpAny _ _ (match Builtin.Slice.sliceAdjust lo hi 1 (n : Int) with | (lo, hi) => pure (lo, (1 : Int), Builtin.Slice.slicePlaces lo hi 1)) _ _ s
  rw [adjust_gen lo hi n]
  show wpAny _ _ (pure (((sIx n 0 lo : Nat) : Int), (1 : Int), Builtin.Slice.slicePlaces ((sIx n 0 lo : Nat) : Int) ((sIx n n hi : Nat) : Int) 1)) _ _ s
  rw [places_gen]
  exact wpAny_pure h
theorem pick_gen (xs : Array Value) (i k : Nat) : ((List.range k).filterMap fun (m : Nat) => xs[((i : Int) + (m : Int) * 1).toNat]?).toArray = ((xs.toList.drop i).take k).toArray := by
  have e : (fun (m : Nat) => xs[((i : Int) + (m : Int) * 1).toNat]?) = fun m => xs[i + m]? := by
    funext m
    have : ((i : Int) + (m : Int) * 1).toNat = i + m := by omega
    rw [this]
  rw [e]
  have := pick_run xs i k
  rw [List.filterMap_map] at this
  have e2 : ((fun x => xs[x]?) ∘ fun x => i + x) = fun m => xs[i + m]? := rfl
  rw [e2] at this
  rw [this]
theorem getItem_tuple_cut {t sl : Addr} {items : Array Value} {vl vu : Value} {lo hi : Option Int} {Q : Value → Shared → Prop} (ht : IsTup s.heap t items) (hs : s.heap.IsSliceOf sl vl vu .none) (pl : IsPart vl lo) (pu : IsPart vu hi)
    (hw : ¬ (sIx items.size 0 lo = 0 ∧ sIx items.size items.size hi = items.size))
    (h : Q (.ref s.heap.objs.size) { s with heap := s.heap.push { cls := .type "tuple", data := .seq ((items.toList.drop (sIx items.size 0 lo)).take (sIx items.size items.size hi - sIx items.size 0 lo)).toArray } })
    (hsz : items.size ≤ sizeLine) : wpAny (model prog w) A (getItem (.ref t) (.ref sl)) Q E s := by
  have htake : sizeOk (.seq ((items.toList.drop (sIx items.size 0 lo)).take (sIx items.size items.size hi - sIx items.size 0 lo)).toArray) := by
    show ((items.toList.drop (sIx items.size 0 lo)).take (sIx items.size items.size hi - sIx items.size 0 lo)).toArray.size ≤ sizeLine
    rw [List.size_toArray, List.length_take, List.length_drop, Array.length_toList]
    omega
  have hj : sIx items.size items.size hi ≤ items.size := sIx_le _ _ (Nat.le_refl _) hi
  obtain ⟨os, hos, hcs, hds⟩ := id hs
  have hTs : s.TypeIs (.ref sl) "slice" := ⟨os, hos, hcs⟩
  unfold getItem
  try with_reducible refine wpAny_holding ?_
  first | refine wpAny_bind (wpAny_pure ?_) | skip
  refine wpAny_bind (wpAny_sequenceKey ht.typeIs (by decide) ?_)
  refine wpAny_bind (wpAny_callSpecial?_slot (name := Str.ofString "__getitem__") ht.typeIs PyProof.Rows.slot_tuple_getitem
    (wpAny_call_entry PyProof.Rows.slot_tuple_getitem ht.typeIs entry_tuple_getitem ?_ (args_tuple_getitem _ _)))
  show wpAny _ _ (Builtin.Tuple.tupleItemsOf (.ref t) >>= _) _ _ s
  refine wpAny_bind (tupleItemsOf_ ht ?_)
  refine wpAny_bind (wpAny_typeOf hTs ?_)
  rw [if_pos (by decide)]
  refine wpAny_bind (sliceApplied_gen hs pl pu ?_)
  have hno : ¬ ((((sIx items.size 0 lo : Nat) : Int) == 0 && (1 : Int) == 1 && (sIx items.size items.size hi - sIx items.size 0 lo) == items.size) = true) := by
    intro q
    rw [Bool.and_eq_true, Bool.and_eq_true] at q
    have q1 : ((sIx items.size 0 lo : Nat) : Int) = 0 := eq_of_beq q.1.1
    have q2 : sIx items.size items.size hi - sIx items.size 0 lo = items.size := eq_of_beq q.2
    exact hw ⟨by omega, by omega⟩
  show wpAny _ _ (if (((sIx items.size 0 lo : Nat) : Int) == 0 && (1 : Int) == 1 && (sIx items.size items.size hi - sIx items.size 0 lo) == items.size) = true then _ else _) _ _ s
  rw [if_neg hno, pick_gen]
  first
    | exact wpAny_bind (m := Builtin.Tuple.tupleExact _) (wpAny_newObj_type (wpAny_pure ⟨_, rfl, wpAny_pure h⟩) htake)
    | exact wpAny_bind (m := Builtin.Tuple.tupleExact _) (wpAny_newObj_type (wpAny_bind (wpAny_pure (wpAny_pure ⟨_, rfl, wpAny_pure h⟩))) htake)
    | exact wpAny_bind (wpAny_bind (m := Builtin.Tuple.tupleExact _) (wpAny_newObj_type (wpAny_pure (wpAny_pure ⟨_, rfl, wpAny_pure h⟩)) htake))
    | exact wpAny_bind (wpAny_bind (m := Builtin.Tuple.tupleExact _) (wpAny_newObj_type (wpAny_pure ⟨_, rfl, wpAny_pure h⟩) htake))
end
end HT
namespace L2
open PySem PySem.Spec PyProof.Rows
noncomputable abbrev TO := St → Hp → (Option Int → Hp → Prop) → Prop
noncomputable def PO (X : Cx) (e : Option Expr) (t : TO) : Prop :=
  ∀ (pins : List (Addr × Obj)) (s : Shared) (σ : St) (H : Hp) (Q : Option Int → Hp → Prop), Inv X pins σ H s → t σ H Q →
    wpAny (model X.prog X.w) X.A (evalPart e X.env) (fun u s' => ∃ o H', Inv X pins σ H' s' ∧ IsPart u o ∧ Q o H') X.xe s
noncomputable def tNoPart : TO := fun _ H Q => Q none H
noncomputable def tPart (t : TE) : TO := fun σ H Q => t σ H fun x H1 => ∃ i, x = .int i ∧ Q (some i) H1
theorem intsAre_of {ns : List Int} : ∀ {us : List Value}, Vals (ns.map V.int) us → IntsAre us ns := by
  induction ns with
  | nil => intro us r; rw [List.map_nil] at r; cases r; exact .nil
  | cons n ns ih =>
    intro us r
    rw [List.map_cons] at r
    cases r with
    | cons r1 r2 =>
      obtain ⟨t, e⟩ := r1
      subst e
      exact .cons n t (ih r2)
section
variable {X : Cx} {e : Expr} {te : TE} {lo hi : Option Expr} {tl th : TO} {pos p2 : Pos}
theorem po_none : PO X none tNoPart := by
  intro pins s σ H Q I h
  rw [evalPart_none]
  exact wpAny_pure ⟨none, H, I, .none, h⟩
theorem po_some (h : PE X e te) : PO X (some e) (tPart te) := by
  intro pins s σ H Q I hw
  rw [evalPart_some]
  refine thn (h pins s σ H _ I hw) fun u s1 ⟨x, H1, I1, r1, q1⟩ => ?_
  obtain ⟨i, rfl, q⟩ := q1
  obtain ⟨t, rfl⟩ := r1
  exact ⟨some i, H1, I1, .int i t, q⟩
noncomputable def SlR (X : Cx) (r : V → Option Int → Option Int → Hp → VK → Prop) : Prop :=
  ∀ (pins : List (Addr × Obj)) (s : Shared) (σ : St) (H : Hp) (x : V) (v vl vu : Value) (lo hi : Option Int) (sl : Addr) (Q : VK), Inv X pins σ H s → RelV x v → s.heap.IsSliceOf sl vl vu .none → IsPart vl lo → IsPart vu hi → r x lo hi H Q →
    ∃ T id, typeLookup (.type T) "__getitem__" = pure (some (.builtin id)) ∧ s.TypeIs v T ∧ wpAny (model X.prog X.w) X.A (getItem v (.ref sl)) (EP X pins σ Q) X.xe s
theorem SlR.or {r r' : V → Option Int → Option Int → Hp → VK → Prop} (h : SlR X r) (h' : SlR X r') : SlR X (fun x lo hi H Q => r x lo hi H Q ∨ r' x lo hi H Q) := by
  intro pins s σ H x v vl vu lo hi sl Q I rx hs pl pu q
  rcases q with q | q
  · exact h pins s σ H x v vl vu lo hi sl Q I rx hs pl pu q
  · exact h' pins s σ H x v vl vu lo hi sl Q I rx hs pl pu q
noncomputable def tSl (r : V → Option Int → Option Int → Hp → VK → Prop) (te : TE) (tl th : TO) : TE := fun σ H Q => te σ H fun x H1 => tl σ H1 fun l H2 => th σ H2 fun u H3 => r x l u H3 Q
theorem pe_slice {r : V → Option Int → Option Int → Hp → VK → Prop} (hr : SlR X r) (he : PE X e te) (hl : PO X lo tl) (hu : PO X hi th) : PE X (.Subscript e (.Slice lo hi none p2) pos) (tSl r te tl th) := by
  intro pins s σ H Q I h
  refine Subscript_ (thn (he pins s σ H _ I h) fun v s1 ⟨x, H1, I1, r1, q1⟩ => ?_)
  refine wpAny_Slice (thn (hl pins s1 σ H1 _ I1 q1) fun vl s2 ⟨l, H2, I2, pl, q2⟩ => thn (hu pins s2 σ H2 _ I2 q2) fun vu s3 ⟨u, H3, I3, pu, q3⟩ => ?_)
  rw [evalPart_none]
  refine wpAny_pure ?_
  have I4 : Inv X pins σ H3 { s3 with heap := s3.heap.push { cls := .type "slice", data := .fields #[vl, vu, .none] } } := I3.kept (t' := s3.toks) fun b ob q => Heap.get?_push_of_some _ q
  obtain ⟨T, id, hT, ht, hg⟩ := hr pins { s3 with heap := s3.heap.push { cls := .type "slice", data := .fields #[vl, vu, .none] } } σ H3 x v vl vu l u s3.heap.objs.size Q I4 r1 (Heap.IsSliceOf.new ..) pl pu q3
  show wpAny (model X.prog X.w) X.A (subscriptTail e (.Slice lo hi none p2) v (.ref s3.heap.objs.size)) (EP X pins σ Q) X.xe { s3 with heap := s3.heap.push { cls := .type "slice", data := .fields #[vl, vu, .none] } }
  exact tail_any (ops := [.ref s3.heap.objs.size, v]) ht hT hg (by with_unfolding_all rfl)
noncomputable def cutV (xs : List V) (lo hi : Option Int) : List V := (xs.drop (HT.sIx xs.length 0 lo)).take (HT.sIx xs.length xs.length hi - HT.sIx xs.length 0 lo)
theorem cutV_length (xs : List V) (lo hi : Option Int) : (cutV xs lo hi).length ≤ xs.length := by
  unfold cutV
  rw [List.length_take, List.length_drop]
  omega
noncomputable def rSlT (K : PySem.W.Frag) : V → Option Int → Option Int → Hp → VK → Prop := fun x lo hi H Q => ∃ a xs, x = .ref a ∧ SqT K H a xs ∧
  ¬ (HT.sIx xs.length 0 lo = 0 ∧ HT.sIx xs.length xs.length hi = xs.length) ∧ ∀ p, H p = none → Q (.ref p) (upd H p (.tup (cutV xs lo hi)))
theorem sl_tup : SlR X (rSlT X.K) := by
  intro pins s σ H x v vl vu lo hi sl Q I rx hs pl pu h
  obtain ⟨a, xs, rfl, hx, hw, q⟩ := h
  cases rx
  obtain ⟨its, r, ht, hz⟩ := I.tuple hx
  have hlen : its.toArray.size = xs.length := by rw [List.size_toArray]; exact r.length.symm
  refine ⟨"tuple", _, PyProof.Rows.slot_tuple_getitem.lookup, ht.typeIs, ?_⟩
  refine HT.getItem_tuple_cut ht hs pl pu (by rw [hlen]; exact hw) ?_ (by rw [hlen]; exact hz)
  rw [hlen]
  refine ⟨.ref s.heap.objs.size, _, I.laid (t' := s.toks) (o := .tup (cutV xs lo hi)) (fun b ob q => Heap.get?_push_of_some _ q) (Nat.le_refl _) ?_, rfl, q _ (I.hok.fresh (Nat.le_refl _))⟩
  exact ⟨Nat.le_trans (cutV_length xs lo hi) hz, _, (r.drop (HT.sIx xs.length 0 lo)).take (HT.sIx xs.length xs.length hi - HT.sIx xs.length 0 lo), IsTup.new _ _⟩
noncomputable def rCatT (K : PySem.W.Frag) : R2 := fun x y H Q => ∃ a b xs ys, x = .ref a ∧ y = .ref b ∧ SqT K H a xs ∧ SqT K H b ys ∧ xs ≠ [] ∧ xs.length + ys.length ≤ sizeLine ∧
  (ys = [] → Q (.ref a) H) ∧ (ys ≠ [] → ∀ p, H p = none → Q (.ref p) (upd H p (.tup (xs ++ ys))))
theorem Vals.nil_iff {xs : List V} {us : List Value} (r : Vals xs us) : us = [] ↔ xs = [] := by
  cases r with
  | nil => simp
  | cons _ _ => simp
theorem op_catT : OpR X (binaryOp .Add) (rCatT X.K) := by
  intro pins s σ H x y v u Q I rx ry h
  obtain ⟨a, b, xs, ys, rfl, rfl, ha, hb, hx, hz, q1, q2⟩ := h
  cases rx
  cases ry
  obtain ⟨its, r1, p1, _⟩ := I.tuple ha
  obtain ⟨its2, r2, p2, _⟩ := I.tuple hb
  refine HT.cat_tup p1 p2 (fun z => hx (r1.nil_iff.mp z)) (fun z => ⟨.ref a, H, I, rfl, q1 (r2.nil_iff.mp z)⟩) (fun z => ?_) (by rw [← r1.length, ← r2.length]; exact hz)
  refine ⟨.ref s.heap.objs.size, _, I.laid (t' := s.toks) (o := .tup (xs ++ ys)) (fun b ob q => Heap.get?_push_of_some _ q) (Nat.le_refl _) ?_, rfl, q2 (fun w => z (r2.nil_iff.mpr w)) _ (I.hok.fresh (Nat.le_refl _))⟩
  exact ⟨by rw [List.length_append]; exact hz, _, r1.append r2, IsTup.new _ _⟩
end
end L2
namespace L2
open PySem PySem.Spec PyProof.Rows
noncomputable def ixN (n : Nat) (i : Int) : Option Nat := if 0 ≤ i then (if i < n then some i.toNat else none) else if -(n : Int) ≤ i then some (i + n).toNat else none
noncomputable def atI {α : Type} (xs : List α) (i : Int) : Option α := (ixN xs.length i).bind fun j => xs[j]?
theorem ixN_seq {n : Nat} {i : Int} {j : Nat} (h : ixN n i = some j) : seqIndex? i n = some j ∧ j < n ∧ -(n : Int) ≤ i ∧ i < n := by
  unfold ixN at h
  by_cases h0 : 0 ≤ i
  · rw [if_pos h0] at h
    by_cases h1 : i < n
    · rw [if_pos h1] at h
      have e : i.toNat = j := Option.some.inj h
      exact ⟨by rw [seqIndex_of h0 h1, e], by omega, by omega, h1⟩
    · rw [if_neg h1] at h; cases h
  · rw [if_neg h0] at h
    by_cases h1 : -(n : Int) ≤ i
    · rw [if_pos h1] at h
      have e : (i + n).toNat = j := Option.some.inj h
      exact ⟨by rw [seqIndex_neg (by omega) h1, e], by omega, h1, by omega⟩
    · rw [if_neg h1] at h; cases h
theorem atI_get {α : Type} {xs : List α} {i : Int} {v : α} (h : atI xs i = some v) : ∃ j, seqIndex? i xs.length = some j ∧ xs[j]? = some v ∧ j < xs.length ∧ -(xs.length : Int) ≤ i ∧ i < xs.length := by
  unfold atI at h
  cases e : ixN xs.length i with
  | none => rw [e] at h; cases h
  | some j =>
    rw [e] at h
    obtain ⟨h1, h2, h3, h4⟩ := ixN_seq e
    exact ⟨j, h1, h, h2, h3, h4⟩
theorem atI_nat {α : Type} {xs : List α} {j : Nat} {v : α} (h : xs[j]? = some v) : atI xs (j : Int) = some v := by
  have hj : j < xs.length := (List.getElem?_eq_some_iff.mp h).1
  have e : ixN xs.length (j : Int) = some j := by
    unfold ixN
    rw [if_pos (by omega), if_pos (by omega)]; simp
  unfold atI; rw [e]; exact h
noncomputable def PlainIx (b : Expr) : Prop := ∀ o i, subscripted b false o i = operate [o, i] (getItem o i)
noncomputable def IxR (X : Cx) (r : R2) : Prop :=
  ∀ (value slice : Expr) (pins : List (Addr × Obj)) (s : Shared) (σ : St) (H : Hp) (x y : V) (v u : Value) (Q : VK), Inv X pins σ H s → RelV x v → RelV y u → r x y H Q →
    subscripted slice false v u = operate [v, u] (getItem v u) → wpAny (model X.prog X.w) X.A (subscriptTail value slice v u) (EP X pins σ Q) X.xe s
noncomputable def MtR (X : Cx) (id : String) (r : V → List V → Hp → VK → Prop) : Prop :=
  ∀ (pins : List (Addr × Obj)) (s : Shared) (σ : St) (H : Hp) (x : V) (xs : List V) (v : Value) (us : List Value) (Q : VK), Inv X pins σ H s → RelV x v → Vals xs us → r x xs H Q →
    wpAny (model X.prog X.w) X.A (call (.builtin id) (v :: us)) (EP X pins σ Q) X.xe s
section
variable {X : Cx} {a b : Expr} {ta tb : TE} {pos : Pos}
theorem IxR.or {r r' : R2} (h : IxR X r) (h' : IxR X r') : IxR X (fun x y H Q => r x y H Q ∨ r' x y H Q) := by
  intro value slice pins s σ H x y v u Q I rx ry q hs
  rcases q with q | q
  · exact h value slice pins s σ H x y v u Q I rx ry q hs
  · exact h' value slice pins s σ H x y v u Q I rx ry q hs
theorem pe_ix {r : R2} (hr : IxR X r) (ha : PE X a ta) (hb : PE X b tb) (hs : PlainIx b) : PE X (.Subscript a b pos) (tOp r ta tb) := by
  intro pins s σ H Q I h
  exact Subscript_ (binT ha hb I h fun v u s2 x y H2 I2 rx ry q => hr a b pins s2 σ H2 x y v u Q I2 rx ry q (hs _ _))
noncomputable def rIxL (K : PySem.W.Frag) : R2 := fun x y H Q => ∃ p xs i v, x = .ref p ∧ y = .int i ∧ SqL K H p xs ∧ atI xs i = some v ∧ Q v H
noncomputable def rIxT (K : PySem.W.Frag) : R2 := fun x y H Q => ∃ p xs i v, x = .ref p ∧ y = .int i ∧ SqT K H p xs ∧ atI xs i = some v ∧ Q v H
noncomputable def rIxS : R2 := fun x y H Q => ∃ z i c, x = .str z ∧ y = .int i ∧ z.length ≤ sizeLine ∧ atI z.cps.toList i = some c ∧ Q (.str ⟨#[c]⟩) H
theorem ix_list : IxR X (rIxL X.K) := by
  intro value slice pins s σ H x y v u Q I rx ry h hs
  obtain ⟨p, xs, i, z, rfl, rfl, hq, he, q⟩ := h
  cases rx
  obtain ⟨t, rfl⟩ := ry
  obtain ⟨its, r, pl, hz⟩ := I.list hq
  obtain ⟨j, h1, h2, h3, h4, h5⟩ := atI_get he
  obtain ⟨w, ew, rw'⟩ := r.get h2
  have hl := r.length
  have hn := line63
  have fin : EP X pins σ Q w s := ⟨z, H, I, rw', q⟩
  by_cases h0 : 0 ≤ i
  · have hj : i.toNat = j := by
      rw [seqIndex_of h0 h5] at h1
      exact Option.some.inj h1
    exact item_listR pl.isList h0 (by omega) (by rw [hj]; simpa using ew) fin hs
  · have hj : (i + (its.toArray.size : Int)).toNat = j := by
      rw [seqIndex_neg (by omega) h4] at h1
      rw [List.size_toArray, ← hl]
      exact Option.some.inj h1
    exact subscriptTail_builtinR (x := w) pl.isList.typeIs slot_list_getitem.lookup
      (wpAny_getItem_list_neg (Q := fun r s' => r = w ∧ EP X pins σ Q r s') pl.isList (by omega) (by rw [List.size_toArray] <;> omega) (by omega) (by rw [hj]; simpa using ew) ⟨rfl, fin⟩) hs
theorem ix_tup : IxR X (rIxT X.K) := by
  intro value slice pins s σ H x y v u Q I rx ry h hs
  obtain ⟨p, xs, i, z, rfl, rfl, hq, he, q⟩ := h
  cases rx
  obtain ⟨t, rfl⟩ := ry
  obtain ⟨its, r, pl, hz⟩ := I.tuple hq
  obtain ⟨j, h1, h2, h3, h4, h5⟩ := atI_get he
  obtain ⟨w, ew, rw'⟩ := r.get h2
  have hl := r.length
  have hn := line63
  have fin : EP X pins σ Q w s := ⟨z, H, I, rw', q⟩
  exact subscriptTail_builtinR (x := w) pl.typeIs slot_tuple_getitem.lookup
    (getItem_tuple (j := j) (Q := fun r s' => r = w ∧ EP X pins σ Q r s') pl (by omega) (by omega) (by rw [List.size_toArray, ← hl]; exact h1) (by simpa using ew) ⟨rfl, fin⟩) hs
theorem ix_str : IxR X rIxS := by
  intro value slice pins s σ H x y v u Q I rx ry h hs
  obtain ⟨z, i, c, rfl, rfl, hz, he, q⟩ := h
  obtain ⟨t, rfl⟩ := rx
  obtain ⟨t', rfl⟩ := ry
  obtain ⟨j, h1, h2, h3, h4, h5⟩ := atI_get he
  have hl : z.cps.toList.length = z.length := by simp [Str.length]
  rw [hl] at h1 h4 h5
  have hn := line63
  exact tail_any (typeIs_str s z t) slot_str_getitem.lookup (getItem_str (c := c) (by
    have e1 : decide (i < -(2 ^ 63 : Int)) = false := decide_eq_false (by omega)
    have e2 : decide (i ≥ 2 ^ 63) = false := decide_eq_false (by omega)
    rw [e1, e2, Bool.or_false]) (by rw [h1]; simpa using h2) ⟨.str ⟨#[c]⟩, H, I.tok _, ⟨_, rfl⟩, q⟩) hs
noncomputable def rIx (K : PySem.W.Frag) : R2 := fun x y H Q => rIxL K x y H Q ∨ rIxT K x y H Q ∨ rIxS x y H Q
theorem ix_seq : IxR X (rIx X.K) := ix_list.or (ix_tup.or ix_str)
theorem mapSeq_set (its : List Value) (n j : Nat) (u : Value) : Obj.mapSeq (·.setIfInBounds j u) { cls := .type "list", data := .seq its.toArray n } = { cls := .type "list", data := .seq (its.set j u).toArray n } := by
  simp [Obj.mapSeq]
theorem Inv.lst {pins : List (Addr × Obj)} {σ : St} {H : Hp} {s : Shared} {p : Addr} {xs : List V} (I : Inv X pins σ H s) (h : H p = some (.lst xs)) :
    ∃ (its : List Value) (n : Nat), Vals xs its ∧ s.heap.get? p = some { cls := .type "list", data := .seq its.toArray n } ∧ xs.length ≤ sizeLine := by
  obtain ⟨z, its, n, r, e⟩ := I.hok p _ h
  exact ⟨its, n, r, e, z⟩
theorem Inv.lstUpd {pins : List (Addr × Obj)} {σ : St} {H : Hp} {s : Shared} {p : Addr} {xs ys : List V} {its its' : List Value} {n n' : Nat} {f : Obj → Obj} (I : Inv X pins σ H s) (h : H p = some (.lst xs))
    (ho : s.heap.get? p = some { cls := .type "list", data := .seq its.toArray n }) (hf : f { cls := .type "list", data := .seq its.toArray n } = { cls := .type "list", data := .seq its'.toArray n' }) (r : Vals ys its') (hz : ys.length ≤ sizeLine) (t : Nat) :
    Inv X pins σ (upd H p (.lst ys)) { s with heap := s.heap.update p f, toks := t } := by
  have e : (s.heap.update p f).get? p = some { cls := .type "list", data := .seq its'.toArray n' } := by
    rw [Heap.get?_update_self f ho (by rw [hf] <;> rfl), hf]
  refine I.write (x := p) (e := p) (by rw [h]; trivial) (.inl rfl) (fun b u hb q => (Heap.get?_update_other _ _ (Ne.symm hb)).trans q) ⟨_, e⟩ ?_
  exact ⟨hz, its', n', r, e⟩
noncomputable def rSetL : V → V → V → Hp → (Hp → Prop) → Prop := fun o i v H Q => ∃ p xs k j, o = .ref p ∧ i = .int k ∧ H p = some (.lst xs) ∧ ixN xs.length k = some j ∧ Q (upd H p (.lst (xs.set j v)))
theorem set_list : PSet X rSetL := by
  intro pins s σ H o i v ov iv u Q I ro ri rv h
  obtain ⟨p, xs, k, j, rfl, rfl, hp, hj, q⟩ := h
  cases ro
  obtain ⟨t, rfl⟩ := ri
  obtain ⟨its, n, r, ho, hz⟩ := I.lst hp
  obtain ⟨h1, h2, h3, h4⟩ := ixN_seq hj
  have hl := r.length
  have hn := line63
  have I' : Inv X pins σ (upd H p (.lst (xs.set j v))) { s with heap := s.heap.update p (Obj.mapSeq (·.setIfInBounds j u)) } :=
    I.lstUpd hp ho (mapSeq_set its n j u) (r.set rv j) (by rw [List.length_set]; exact hz) s.toks
  by_cases h0 : 0 ≤ k
  · have hk : k.toNat = j := by
      rw [seqIndex_of h0 h4] at h1
      exact Option.some.inj h1
    exact PySem.W.ki_setAt ho h0 (by omega) (by rw [List.size_toArray, ← hl]; exact h4) (by rw [hk]; exact ⟨_, I', q⟩)
  · have hk : (k + (its.toArray.size : Int)).toNat = j := by
      rw [seqIndex_neg (by omega) h3] at h1
      rw [List.size_toArray, ← hl]
      exact Option.some.inj h1
    exact PySem.W.ki_setBack ho (by omega) (by rw [List.size_toArray, ← hl]; exact h3) (by omega) (by rw [hk]; exact ⟨_, I', q⟩)
theorem slice_bounds (lo hi : Option Int) (n : Nat) : (sliceBounds lo hi none n).1 = ((HT.sIx n 0 lo : Nat) : Int) ∧ (sliceBounds lo hi none n).2.1 = ((HT.sIx n n hi : Nat) : Int) ∧ (sliceBounds lo hi none n).2.2 = 1 := by
  refine ⟨?_, ?_, rfl⟩
  · cases lo with
    | none => simp [sliceBounds, HT.sIx]
    | some i =>
      simp only [sliceBounds, HT.sIx, Option.getD_none, show (1 : Int) > 0 by decide, if_true]
      by_cases h : i < 0
      · simp only [h, if_true] <;> omega
      · simp only [h, if_false] <;> omega
  · cases hi with
    | none => simp [sliceBounds, HT.sIx]
    | some i =>
      simp only [sliceBounds, HT.sIx, Option.getD_none, show (1 : Int) > 0 by decide, if_true]
      by_cases h : i < 0
      · simp only [h, if_true] <;> omega
      · simp only [h, if_false] <;> omega
theorem slicePick_cut (its : List Value) (lo hi : Option Int) : slicePick its.toArray lo hi none = ((its.drop (HT.sIx its.length 0 lo)).take (HT.sIx its.length its.length hi - HT.sIx its.length 0 lo)).toArray := by
  obtain ⟨h1, h2, h3⟩ := slice_bounds lo hi its.toArray.size
  unfold slicePick
  rw [h1, h2, h3]
  simp only [sliceRange_one, pick_run, List.size_toArray] <;> rfl
noncomputable def rSlL (K : PySem.W.Frag) : V → Option Int → Option Int → Hp → VK → Prop := fun x lo hi H Q => ∃ a xs, x = .ref a ∧ SqL K H a xs ∧ ∀ p, H p = none → Q (.ref p) (upd H p (.lst (cutV xs lo hi)))
theorem sl_list : SlR X (rSlL X.K) := by
  intro pins s σ H x v vl vu lo hi sl Q I rx hs pl pu h
  obtain ⟨a, xs, rfl, hx, q⟩ := h
  cases rx
  obtain ⟨its, r, ht, hz⟩ := I.list hx
  have hlen := r.length
  refine ⟨"list", _, slot_list_getitem.lookup, ht.isList.typeIs, ?_⟩
  refine wpAny_getItem_list_slice ht.isList hs pl pu .none (by simp) ?_ (by rw [List.size_toArray] <;> omega)
  rw [slicePick_cut, ← hlen]
  refine ⟨.ref s.heap.objs.size, _, I.laid (t' := s.toks) (o := .lst (cutV xs lo hi)) (fun b ob q => Heap.get?_push_of_some _ q) (Nat.le_refl _) ?_, rfl, q _ (I.hok.fresh (Nat.le_refl _))⟩
  exact ⟨Nat.le_trans (cutV_length xs lo hi) hz, _, 0, (r.drop (HT.sIx xs.length 0 lo)).take (HT.sIx xs.length xs.length hi - HT.sIx xs.length 0 lo), Heap.get?_push_size _ rfl⟩
noncomputable def flatV : V → Bool
  | .non => true
  | .bl _ => true
  | .int _ => true
  | .str _ => true
  | _ => false
noncomputable def eqV : V → V → Bool
  | .non, .non => true
  | .bl a, .bl b => a == b
  | .bl a, .int b => (if a then 1 else 0) == b
  | .int a, .bl b => a == (if b then 1 else 0)
  | .int a, .int b => a == b
  | .str a, .str b => a == b
  | _, _ => false
theorem eqAt_V {A : Around} {s : Shared} {y x : V} {u v : Value} (ry : RelV y u) (rx : RelV x v) (fy : flatV y = true) (fx : flatV x = true) : SeqAt.EqAt A s u v (eqV y x) := by
  cases y with
  | non =>
    cases ry
    cases x with
    | non => cases rx; exact SeqAt.EqAt.same _
    | bl b => cases rx; exact SeqAt.EqAt.none_bool b
    | int b => obtain ⟨t, rfl⟩ := rx; exact SeqAt.EqAt.none_int b t
    | str b => obtain ⟨t, rfl⟩ := rx; exact SeqAt.EqAt.none_str b t
    | _ => exact absurd (show false = true from fx) Bool.false_ne_true
  | bl a =>
    cases ry
    cases x with
    | non => cases rx; exact SeqAt.EqAt.bool_none a
    | bl b => cases rx; exact SeqAt.EqAt.bool_bool a b
    | int b => obtain ⟨t, rfl⟩ := rx; exact SeqAt.EqAt.bool_int a b t
    | str b => obtain ⟨t, rfl⟩ := rx; exact SeqAt.EqAt.bool_str a b t
    | _ => exact absurd (show false = true from fx) Bool.false_ne_true
  | int a =>
    obtain ⟨t', rfl⟩ := ry
    cases x with
    | non => cases rx; exact SeqAt.EqAt.int_none a t'
    | bl b => cases rx; exact SeqAt.EqAt.int_bool a t' b
    | int b => obtain ⟨t, rfl⟩ := rx; exact SeqAt.EqAt.int_int a t' b t
    | str b => obtain ⟨t, rfl⟩ := rx; exact SeqAt.EqAt.int_str a t' b t
    | _ => exact absurd (show false = true from fx) Bool.false_ne_true
  | str a =>
    obtain ⟨t', rfl⟩ := ry
    cases x with
    | non => cases rx; exact SeqAt.EqAt.str_none a t'
    | bl b => cases rx; exact SeqAt.EqAt.str_bool a t' b
    | int b => obtain ⟨t, rfl⟩ := rx; exact SeqAt.EqAt.str_int a t' b t
    | str b => obtain ⟨t, rfl⟩ := rx; exact SeqAt.EqAt.str_str a t' b t
    | _ => exact absurd (show false = true from fx) Bool.false_ne_true
  | _ => exact absurd (show false = true from fy) Bool.false_ne_true
noncomputable def eqU (x : V) (u : Value) : Bool := match u with
  | .none => eqV .non x
  | .bool b => eqV (.bl b) x
  | .int i _ => eqV (.int i) x
  | .str z _ => eqV (.str z) x
  | _ => false
theorem eqU_of {x y : V} {u : Value} (r : RelV y u) (f : flatV y = true) : eqU x u = eqV y x := by
  cases y with
  | non => cases r; rfl
  | bl b => cases r; rfl
  | int i => obtain ⟨t, rfl⟩ := r; rfl
  | str z => obtain ⟨t, rfl⟩ := r; rfl
  | _ => exact absurd (show false = true from f) Bool.false_ne_true
theorem any_eqU {x : V} : ∀ {xs : List V} {us : List Value}, Vals xs us → xs.all flatV = true → us.any (eqU x) = xs.any fun y => eqV y x
  | _, _, .nil, _ => rfl
  | y :: xs, u :: us, .cons r t, f => by
    rw [List.all_cons, Bool.and_eq_true] at f
    rw [List.any_cons, List.any_cons, eqU_of r f.1, any_eqU t f.2]
theorem mem_eqAt {A : Around} {s : Shared} {x : V} {v : Value} (rx : RelV x v) (fx : flatV x = true) : ∀ {xs : List V} {us : List Value}, Vals xs us → xs.all flatV = true → ∀ u ∈ us, SeqAt.EqAt A s u v (eqU x u)
  | _, _, .nil, _ => fun u hu => by cases hu
  | y :: xs, u :: us, .cons r t, f => fun u' hu => by
    rw [List.all_cons, Bool.and_eq_true] at f
    rcases List.mem_cons.mp hu with rfl | hu
    · rw [eqU_of r f.1]; exact eqAt_V r rx f.1 fx
    · exact mem_eqAt rx fx t f.2 u' hu
noncomputable def inV (x : V) (xs : List V) : Bool := xs.any fun y => eqV y x
noncomputable def rIn (K : PySem.W.Frag) (neg : Bool) : R2 := fun x y H Q => ∃ p xs, y = .ref p ∧ (SqL K H p xs ∨ SqT K H p xs) ∧ flatV x = true ∧ xs.all flatV = true ∧ Q (.bl (if neg then !inV x xs else inV x xs)) H
theorem op_in_seq : OpR X (compareOp .In) (rIn X.K false) := by
  intro pins s σ H x y v u Q I rx ry h
  obtain ⟨p, xs, rfl, hq, fx, fs, q⟩ := h
  cases ry
  rcases hq with hq | hq
  · obtain ⟨its, r, pl, hz⟩ := I.list hq
    refine SeqAt.in_listAt (eqU x) pl.isList (fun w hw => mem_eqAt rx fx r fs w (by simpa using hw)) ⟨.bl _, H, I, rfl, ?_⟩
    rw [show its.toArray.any (eqU x) = its.any (eqU x) by simp, any_eqU r fs]
    exact q
  · obtain ⟨its, r, pl, hz⟩ := I.tuple hq
    refine SeqAt.in_tupleAt (eqU x) pl (fun w hw => mem_eqAt rx fx r fs w (by simpa using hw)) ⟨.bl _, H, I, rfl, ?_⟩
    rw [show its.toArray.any (eqU x) = its.any (eqU x) by simp, any_eqU r fs]
    exact q
theorem call_len_seq : CallR X (.builtin "len") (fun xs H Q => ∃ p ys, xs = [.ref p] ∧ (SqL X.K H p ys ∨ SqT X.K H p ys) ∧ Q (.int ys.length) H) := by
  intro pins s σ H xs us Q I r h
  obtain ⟨p, ys, rfl, hq, q⟩ := h
  obtain ⟨u, rfl, rx⟩ := vals1 r
  cases rx
  have hn := line63
  rcases hq with hq | hq
  · obtain ⟨its, r', pl, hz⟩ := I.list hq
    have hlen := r'.length
    exact Calls.call_len_list pl.isList (by simp only [List.size_toArray] <;> omega) ⟨.int ys.length, H, I.tok _, ⟨s.toks + 1, by rw [List.size_toArray, hlen]⟩, q⟩
  · obtain ⟨its, r', pl, hz⟩ := I.tuple hq
    have hlen := r'.length
    exact len_tuple pl (by simp only [List.size_toArray] <;> omega) ⟨.int ys.length, H, I.tok _, ⟨s.toks + 1, by rw [List.size_toArray, hlen]⟩, q⟩
theorem call_tuple_of : CallR X (.type "tuple") (fun xs H Q => ∃ p ys, xs = [.ref p] ∧ ((SqL X.K H p ys ∧ ∀ l, H l = none → Q (.ref l) (upd H l (.tup ys))) ∨ (SqT X.K H p ys ∧ Q (.ref p) H))) := by
  intro pins s σ H xs us Q I r h
  obtain ⟨p, ys, rfl, h⟩ := h
  obtain ⟨u, rfl, rx⟩ := vals1 r
  cases rx
  rcases h with ⟨hq, q⟩ | ⟨hq, q⟩
  · obtain ⟨its, r', pl, hz⟩ := I.list hq
    have hlen := r'.length
    refine call_tuple_list pl.isList (fun h' kp => ?_) (by simp only [List.size_toArray] <;> omega)
    have I1 : Inv X pins σ H { s with heap := h' } := I.kept (t' := s.toks) kp
    have I2 : Inv X pins σ (upd H h'.objs.size (.tup ys)) { s with heap := h'.push { cls := .type "tuple", data := .seq its.toArray } } :=
      I1.laid (t' := s.toks) (fun b o e => Heap.get?_push_of_some _ e) (Nat.le_refl _) (show ObjOk X.prog X.w _ _ _ (.tup ys) from ⟨hz, its, r', IsTup.new _ _⟩)
    exact ⟨.ref h'.objs.size, _, I2, rfl, q _ (I1.hok.fresh (Nat.le_refl _))⟩
  · obtain ⟨its, r', pl, hz⟩ := I.tuple hq
    exact call_tuple_same pl ⟨.ref p, H, I, rfl, q⟩
noncomputable def tyV (K : PySem.W.Frag) (T : String) (x : V) (H : Hp) : Prop := match x with
  | .str _ => T = "str"
  | .int _ => T = "int"
  | .ref p => (T = "list" ∧ ∃ xs, SqL K H p xs) ∨ (T = "tuple" ∧ ∃ o, K.lookup p = some o ∧ o.cls = .type "tuple" ∧ o.dict = none) ∨
      (T = "dict" ∧ ((∃ kvs, H p = some (.dK kvs)) ∨ ∃ kvs, H p = some (.dT kvs))) ∨ (T = "set" ∧ ∃ S n, H p = some (.set S n))
  | _ => False
theorem tyV_is {pins : List (Addr × Obj)} {σ : St} {H : Hp} {s : Shared} {T : String} {x : V} {v : Value} (I : Inv X pins σ H s) (r : RelV x v) (ty : tyV X.K T x H) :
    s.TypeIs v T ∧ ∀ a, v = .ref a → ∃ ob, s.heap.get? a = some ob ∧ ob.dict = none := by
  cases x with
  | str z =>
    obtain ⟨t, rfl⟩ := r
    cases (show T = "str" from ty)
    exact ⟨typeIs_str s z t, fun _ e => nomatch e⟩
  | int i =>
    obtain ⟨t, rfl⟩ := r
    cases (show T = "int" from ty)
    exact ⟨typeIs_int s i t, fun _ e => nomatch e⟩
  | ref p =>
    cases r
    rcases ty with ⟨rfl, xs, hq⟩ | ⟨rfl, o, hk, hc, hd⟩ | ⟨rfl, hk⟩ | ⟨rfl, S, n, hk⟩
    · obtain ⟨its, _, pl, _⟩ := I.list hq
      refine ⟨pl.isList.typeIs, fun a e => ?_⟩
      cases e
      obtain ⟨o, n, e, c, hd, _⟩ := pl
      exact ⟨o, e, hd⟩
    · refine ⟨⟨o, I.kIn p o hk, hc⟩, fun a e => ?_⟩
      cases e
      exact ⟨o, I.kIn _ o hk, hd⟩
    · have z : ∃ o, s.heap.get? p = some o ∧ o.ExactDict := by
        rcases hk with ⟨kvs, hk⟩ | ⟨kvs, hk⟩
        · obtain ⟨_, _, _, _, o, _, _, e, ex, _⟩ := I.hok p _ hk
          exact ⟨o, e, ex⟩
        · obtain ⟨_, _, _, _, o, _, _, e, ex, _⟩ := I.hok p _ hk
          exact ⟨o, e, ex⟩
      obtain ⟨o, e, ex⟩ := z
      refine ⟨⟨o, e, ex.1⟩, fun a e2 => ?_⟩
      cases e2
      exact ⟨o, e, ex.2.1⟩
    · obtain ⟨o, _, _, _, e, ex, _⟩ := I.hok p _ hk
      refine ⟨⟨o, e, ex.1⟩, fun a e2 => ?_⟩
      cases e2
      exact ⟨o, e, ex.2.1⟩
  | _ => exact False.elim ty
noncomputable def tBM0 (K : PySem.W.Frag) (T : String) (r : V → List V → Hp → VK → Prop) (to : TE) : TE := fun σ H Q => to σ H fun x H1 => tyV K T x H1 ∧ r x [] H1 Q
noncomputable def tBM (K : PySem.W.Frag) (T : String) (r : V → List V → Hp → VK → Prop) (to : TE) (t : TA) : TE := fun σ H Q => to σ H fun x H1 => tyV K T x H1 ∧ t σ H1 fun xs H2 => r x xs H2 Q
variable {o e : Expr} {es : List Expr} {to : TE} {t : TA} {name : Str} {apos cpos : Pos} {T id : String} {r : V → List V → Hp → VK → Prop}
theorem pe_bm0 (pa : PlainAttrs T) (slot : Slot T name id) (hty : typeOf (.builtin id) = pure (.type "method_descriptor")) (hm : MtR X id r) (ho : PE X o to)
    (hbase : attributeBase o name X.env (eval o X.env) = eval o X.env := by rfl) (hline : (apos.endLine == cpos.line) = true := by rfl) : PE X (.Call (.Attribute o name apos) [] [] cpos) (tBM0 X.K T r to) := by
  intro pins s σ H Q I h
  refine wpAny_Call_method0_late hbase hline (thn (ho pins s σ H _ I h) fun v s1 ⟨x, H1, I1, r1, ty, q1⟩ => ?_)
  obtain ⟨h1, h2⟩ := tyV_is I1 r1 ty
  exact ⟨T, id, pa, slot, hty, h1, h2, Calls.callWith_builtin rfl (PySem.evalArgs_none (hm pins s1 σ H1 x [] v [] Q I1 r1 .nil q1))⟩
theorem pe_bm (pa : PlainAttrs T) (slot : Slot T name id) (hty : typeOf (.builtin id) = pure (.type "method_descriptor")) (hm : MtR X id r) (ho : PE X o to) (ha : PA X (e :: es) t)
    (hbase : attributeBase o name X.env (eval o X.env) = eval o X.env := by rfl)
    (hfew : ((backTo cpos (starEach (e :: es) X.env)).all (fun x => !x.1) && (backToKw cpos (keywordEach [] X.env)).all (fun x => x.1.isSome)
      && decide ((e :: es).length + ([] : List Keyword).length + (if ([] : List Keyword).isEmpty then 0 else 1) < 30)) = true := by rfl)
    (hline : (apos.endLine == cpos.line) = true := by rfl) (hs : starEach (e :: es) X.env = (false, eval e X.env) :: starEach es X.env := by rfl) (hplain : (backTo cpos (starEach es X.env)).any (·.1) = false := by rfl) :
    PE X (.Call (.Attribute o name apos) (e :: es) [] cpos) (tBM X.K T r to t) := by
  intro pins s σ H Q I h
  refine wpAny_Call_method_late hbase hfew hline rfl (thn (ho pins s σ H _ I h) fun v s1 ⟨x, H1, I1, r1, ty, q1⟩ => ?_)
  obtain ⟨h1, h2⟩ := tyV_is I1 r1 ty
  refine ⟨T, id, pa, slot, hty, h1, h2, ?_⟩
  have hA := ha cpos pins s1 σ H1 _ I1 q1
  rw [hs] at hA ⊢
  refine Calls.callWith_builtin (by show (false || (backTo cpos (starEach es X.env)).any (·.1)) = false; rw [hplain] <;> rfl) (Calls.evalArgs_plain ?_)
  exact thn hA fun us s2 ⟨vs, H2, I2, r2, q2⟩ => hm pins s2 σ H2 x vs v us Q I2 r1 r2 q2
end
end L2
namespace L2
open PySem PySem.Spec PyProof.Rows
noncomputable def MtM (X : Cx) (id : String) (r : V → List V → Hp → VK → Prop) : Prop :=
  ∀ (pins : List (Addr × Obj)) (s : Shared) (σ : St) (H : Hp) (x : V) (xs : List V) (v : Value) (us : List Value) (Q : VK), Inv X pins σ H s → RelV x v → Vals xs us → r x xs H Q →
    wpAny (model X.prog X.w) X.A (call (.builtin id) (v :: us)) (EP X pins σ Q) X.xe s
theorem Vals.one : ∀ {x : V} {us : List Value}, Vals [x] us → ∃ u, us = [u] ∧ RelV x u
  | _, _, .cons r .nil => ⟨_, rfl, r⟩
theorem Vals.zero : ∀ {us : List Value}, Vals [] us → us = []
  | _, .nil => rfl
theorem Vals.dropLast {xs : List V} {us : List Value} (h : Vals xs us) : Vals xs.dropLast us.dropLast := by
  induction h with
  | nil => exact .nil
  | cons r t ih =>
    cases t with
    | nil => exact .nil
    | cons q t' => exact .cons r ih
theorem Vals.rep {xs : List V} {us : List Value} (h : Vals xs us) : ∀ k : Nat, Vals (List.replicate k xs).flatten (List.replicate k us).flatten
  | 0 => .nil
  | k + 1 => by
    rw [List.replicate_succ, List.replicate_succ, List.flatten_cons, List.flatten_cons]
    exact Vals.append h (Vals.rep h k)
theorem erase_last {α : Type} (l : List α) : l.eraseIdx (l.length - 1) = l.dropLast := by
  induction l with
  | nil => rfl
  | cons a r ih =>
    cases r with
    | nil => rfl
    | cons b r =>
      have e : (a :: b :: r).length - 1 = ((b :: r).length - 1) + 1 := by
        have h1 : (a :: b :: r).length = r.length + 2 := rfl
        have h2 : (b :: r).length = r.length + 1 := rfl
        omega
      rw [e, List.eraseIdx_cons_succ, ih]
      all_goals rfl
theorem foldl_rep (its : List Value) : ∀ (k : Nat) (acc : List Value),
    List.foldl (fun x1 x2 => x1 ++ x2) acc.toArray (List.replicate k its.toArray) = (acc ++ (List.replicate k its).flatten).toArray
  | 0, acc => by simp
  | k + 1, acc => by
    have e : acc.toArray ++ its.toArray = (acc ++ its).toArray := by simp
    have e2 : (acc ++ its) ++ (List.replicate k its).flatten = acc ++ (List.replicate (k + 1) its).flatten := by
      rw [List.replicate_succ, List.flatten_cons, List.append_assoc]
    rw [← e2, ← foldl_rep its k (acc ++ its), ← e, List.replicate_succ, List.foldl_cons]
section
variable {X : Cx} {pins : List (Addr × Obj)} {σ : St} {H : Hp} {s : Shared} {l b : Addr} {xs ys zs : List V}
theorem Inv.lset {its its' : List Value} {n : Nat} {f : Array Value → Array Value} {t' : Nat} (I : Inv X pins σ H s) (hH : H l = some (.lst xs))
    (e : s.heap.get? l = some { cls := .type "list", data := .seq its.toArray n }) (hf : f its.toArray = its'.toArray) (hv : Vals ys its') (hz : ys.length ≤ sizeLine) :
    Inv X pins σ (upd H l (.lst ys)) { s with heap := s.heap.update l (Obj.mapSeq f), toks := t' } := by
  have q := PySem.IsL.update e f
  rw [hf] at q
  refine I.write (x := l) (e := l) (by rw [hH]; exact trivial) (.inl rfl) (fun b' u hb hu => (Heap.get?_update_other s.heap (Obj.mapSeq f) (Ne.symm hb)).trans hu) ⟨_, q⟩ ?_
  exact ⟨hz, its', _, hv, q⟩
theorem Inv.lnew {its : List Value} {t' : Nat} (I : Inv X pins σ H s) (hv : Vals ys its) (hz : ys.length ≤ sizeLine) :
    Inv X pins σ (upd H s.heap.objs.size (.lst ys)) { s with heap := s.heap.push { cls := .type "list", data := .seq its.toArray }, toks := t' } :=
  I.laid (fun _ _ q => Heap.get?_push_of_some _ q) (Nat.le_refl _) ⟨hz, its, 0, hv, Heap.get?_push_size _ rfl⟩
theorem Inv.fresh (I : Inv X pins σ H s) : H s.heap.objs.size = none := I.hok.fresh (Nat.le_refl _)
theorem Inv.lstM (I : Inv X pins σ H s) (hH : H l = some (.lst xs)) : xs.length ≤ sizeLine ∧ ∃ (its : List Value) (n : Nat), Vals xs its ∧ xs.length = its.length ∧ s.heap.get? l = some { cls := .type "list", data := .seq its.toArray n } := by
  obtain ⟨z, its, n, r, e⟩ := I.hok l _ hH
  exact ⟨z, its, n, r, r.length, e⟩
theorem notLongL {n : Nat} (h : n ≤ sizeLine) : Builtin.List.listTooLong n = false := by
  unfold Builtin.List.listTooLong
  exact decide_eq_false (by omega)
end
section
variable {X : Cx}
noncomputable def rAppend : V → List V → Hp → VK → Prop := fun x vs H Q => ∃ l xs y, x = .ref l ∧ vs = [y] ∧ H l = some (.lst xs) ∧ xs.length < sizeLine ∧ Q .non (upd H l (.lst (xs ++ [y])))
theorem mt_append : MtM X "list.append" rAppend := by
  intro pins s σ H x vs v us Q I rx rv h
  obtain ⟨l, xs, y, rfl, rfl, hH, hz, q⟩ := h
  cases rx
  obtain ⟨u, rfl, ru⟩ := rv.one
  obtain ⟨z, its, n, r, hl, e⟩ := I.lstM hH
  refine call_meets F.slot_list_append ⟨_, e, rfl⟩ F.entry_list_append (F.args_list_append_2 _ _) (PySem.list_append l its.toArray n u (by rw [List.size_toArray]; omega)) ⟨e, ?_⟩
  refine ⟨.non, _, I.lset (its' := its ++ [u]) hH e (by simp) (r.append (.cons ru .nil)) ?_, rfl, q⟩
  rw [List.length_append, List.length_singleton]
  omega
noncomputable def rExtend : V → List V → Hp → VK → Prop := fun x vs H Q => ∃ l b xs zs, x = .ref l ∧ vs = [.ref b] ∧ H l = some (.lst xs) ∧ H b = some (.lst zs) ∧ xs.length + zs.length ≤ sizeLine ∧ Q .non (upd H l (.lst (xs ++ zs)))
theorem mt_extend : MtM X "list.extend" rExtend := by
  intro pins s σ H x vs v us Q I rx rv h
  obtain ⟨l, b, xs, zs, rfl, rfl, hH, hB, hz, q⟩ := h
  cases rx
  obtain ⟨u, rfl, ru⟩ := rv.one
  cases ru
  obtain ⟨z, its, n, r, hl, e⟩ := I.lstM hH
  obtain ⟨z2, its2, n2, r2, hl2, e2⟩ := I.lstM hB
  have hsz : its.toArray.size + its2.toArray.size ≤ sizeLine := by rw [List.size_toArray, List.size_toArray]; omega
  have hlong : ¬ (!its.toArray.isEmpty && Builtin.List.listTooLong (its.toArray.size + its2.toArray.size)) = true := by
    rw [notLongL hsz, Bool.and_false]
    exact Bool.false_ne_true
  refine call_meets F.slot_list_extend ⟨_, e, rfl⟩ F.entry_list_extend (F.args_list_extend_2 _ _)
    (AutoSeq1.list_extend_list_list_0 l its.toArray n b its2.toArray n2 hlong (by rw [List.size_toArray]; omega) (by omega)) ⟨e, e2, ?_⟩
  refine ⟨.non, _, I.lset (its' := its ++ its2) hH e (by simp) (r.append r2) ?_, rfl, q⟩
  rw [List.length_append]
  omega
noncomputable def rPop : V → List V → Hp → VK → Prop := fun x vs H Q => ∃ l xs y, x = .ref l ∧ vs = [] ∧ H l = some (.lst xs) ∧ xs[xs.length - 1]? = some y ∧ Q y (upd H l (.lst xs.dropLast))
theorem mt_pop : MtM X "list.pop" rPop := by
  intro pins s σ H x vs v us Q I rx rv h
  obtain ⟨l, xs, y, rfl, rfl, hH, hy, q⟩ := h
  cases rx
  have hus := rv.zero
  subst hus
  obtain ⟨z, its, n, r, hl, e⟩ := I.lstM hH
  obtain ⟨u, hu, ru⟩ := r.get hy
  have hy' : its.toArray[its.toArray.size - 1]? = some u := by
    show its.toArray[its.length - 1]? = some u
    rw [← Array.getElem?_toList, ← hl]
    exact hu
  refine call_meets F.slot_list_pop ⟨_, e, rfl⟩ F.entry_list_pop (F.args_list_pop_1 _) (MeetsSeq.list_pop_last l its.toArray n u hy' (by rw [List.size_toArray]; omega)) ⟨e, ?_⟩
  refine ⟨y, _, I.lset (its' := its.dropLast) hH e ?_ r.dropLast ?_, ru, q⟩
  · show its.toArray.eraseIdxIfInBounds (its.toArray.size - 1) = its.dropLast.toArray
    rw [List.size_toArray, List.eraseIdxIfInBounds_toArray, erase_last]
  · rw [List.length_dropLast]
    omega
noncomputable def rCat : R2 := fun x y H Q => ∃ l b xs zs, x = .ref l ∧ y = .ref b ∧ H l = some (.lst xs) ∧ H b = some (.lst zs) ∧ xs.length + zs.length ≤ sizeLine ∧ ∀ p, H p = none → Q (.ref p) (upd H p (.lst (xs ++ zs)))
theorem op_cat : OpR X (binaryOp .Add) rCat := by
  intro pins s σ H x y v u Q I rx ry h
  obtain ⟨l, b, xs, zs, rfl, rfl, hH, hB, hz, q⟩ := h
  cases rx
  cases ry
  obtain ⟨z, its, n, r, hl, e⟩ := I.lstM hH
  obtain ⟨z2, its2, n2, r2, hl2, e2⟩ := I.lstM hB
  refine PySem.P.add_list e e2 ?_ (by rw [List.size_toArray, List.size_toArray]; omega)
  have ea : its.toArray ++ its2.toArray = (its ++ its2).toArray := by simp
  rw [ea]
  exact ⟨.ref _, _, I.lnew (t' := s.toks) (r.append r2) (by rw [List.length_append]; omega), rfl, q _ I.fresh⟩
noncomputable def rRep : R2 := fun x y H Q => ∃ l k xs, x = .ref l ∧ y = .int k ∧ H l = some (.lst xs) ∧ -(2 ^ 63) ≤ k ∧ k < 2 ^ 63 ∧ xs.length * k.toNat ≤ sizeLine ∧
  ∀ p, H p = none → Q (.ref p) (upd H p (.lst (List.replicate k.toNat xs).flatten))
theorem len_rep {α : Type} (xs : List α) (k : Nat) : (List.replicate k xs).flatten.length = k * xs.length := by
  induction k with
  | zero => simp
  | succ k ih => rw [List.replicate_succ, List.flatten_cons, List.length_append, ih, Nat.succ_mul, Nat.add_comm]
theorem op_rep : OpR X (binaryOp .Mult) rRep := by
  intro pins s σ H x y v u Q I rx ry h
  obtain ⟨l, k, xs, rfl, rfl, hH, h1, h2, hz, q⟩ := h
  cases rx
  obtain ⟨t, rfl⟩ := ry
  obtain ⟨z, its, n, r, hl, e⟩ := I.lstM hH
  have hlen : its.toArray.size * k.toNat ≤ sizeLine := by rw [List.size_toArray, ← hl]; exact hz
  have hcap : ¬ its.toArray.size * k.toNat > (2 ^ 63 - 1) / 8 := by
    have : (sizeLine : Nat) ≤ (2 ^ 63 - 1) / 8 := by decide
    omega
  have hfit : ¬ (!Builtin.List.listFitsIndex k) = true := by
    rw [fitsIndex_both h1 h2]
    exact Bool.false_ne_true
  have hlong : ¬ Builtin.List.listTooLong (its.toArray.size * k.toNat) = true := by
    rw [notLongL hlen]
    exact Bool.false_ne_true
  have hnew : List.foldl (fun x1 x2 => x1 ++ x2) #[] (List.replicate (if its.toArray.isEmpty = true then 0 else k.toNat) its.toArray) = (List.replicate k.toNat its).flatten.toArray := by
    have f0 : ∀ m : Nat, List.foldl (fun x1 x2 => x1 ++ x2) #[] (List.replicate m its.toArray) = (List.replicate m its).flatten.toArray := fun m => by
      have := foldl_rep its m []
      rw [List.nil_append] at this
      exact this
    rw [f0]
    cases its with
    | nil => simp
    | cons a r' => rw [if_neg (by simp)]
  refine wpAny_binaryOp_repeat_ref (T := "list") (U := "int") (by decide) ⟨_, e, rfl⟩ (fun s' => typeIs_int s' k t) noFill_list_mul F.fills_int_mul F.slot_int_rmul repeat_list F.slot_int_index.lookup
    (call_meets F.slot_int_rmul (typeIs_int s k t) F.entry_int_rmul (F.args_int_rmul_2 _ _) (int___rmul___int_list k t l its.toArray n)
      ⟨e, rfl, ⟨_, e, rfl⟩, call_meets F.slot_list_mul ⟨_, e, rfl⟩ F.entry_list_mul (F.args_list_mul_2 _ _) (AutoListH.list___mul___list_int_3 l its.toArray n k t hfit hcap hlong) ⟨e, ?_⟩⟩)
  rw [hnew]
  exact ⟨.ref _, _, I.lnew (t' := s.toks) (r.rep k.toNat) (by rw [len_rep, Nat.mul_comm]; exact hz), rfl, q _ I.fresh⟩
end
section
variable {prog : Program} {w : World} {A : Around} {E : Value → Shared → Prop} {s : Shared}
end
section
variable {X : Cx}
end
end L2
namespace Att
open PySem PySem.W PySem.Calls PyProof.Rows
theorem ints_of_wellAll {P : Params} {h : Heap} : ∀ (ns : List Int) (vs : List Value), WellAll P h vs (ns.map WData.int) → IntsAre vs ns := by
  intro ns
  induction ns with
  | nil =>
    intro vs w
    rw [List.map_nil] at w
    cases w
    exact .nil
  | cons n ns ih =>
    intro vs w
    rw [List.map_cons] at w
    cases w with
    | cons a b =>
      cases a
      exact .cons _ _ (ih _ b)
theorem script_of {l : OpenLaw} {n : Nat} (hn : l.most = some n) {P : Params} {h : Heap} {args : List WData} {vals : List Value}
    (hpre : l.row.toRowW.claim.pre args = true) (hwl : WellAll P h vals args) :
    ∃ a vs ns, vals = [Value.ref a] ∧ args = [WData.list (ns.map WData.int)] ∧ h.get? a = some { cls := .type "list", data := .seq vs.toArray } ∧ IntsAre vs ns ∧ ns.length ≤ n := by
  have hsh : WShape.hasAll [] args [.list .int] = true := (pre_splitW hpre).1
  have hc : l.pre.holds [] { args := args } = true := (pre_splitW hpre).2
  obtain ⟨d, r, rfl, h1, h2⟩ := hasAllW_cons hsh
  obtain rfl := hasAllW_nil h2
  obtain ⟨xs, rfl, h3⟩ := hasW_list h1
  obtain ⟨ns, rfl⟩ := items_int h3
  have hlen : ns.length ≤ n := by
    unfold OpenLaw.pre at hc
    have h4 : (WTm.not (.lt (.lit (.int (n : Int))) (.len (.arg 0)))).holds [] { args := [.list (ns.map .int)] } = true := by
      have h4 := (holds_andW hc).1
      rw [hn] at h4
      exact h4
    have h5 := condW_of h4 (w_not (w_lt w_lit (w_len_list (w_arg rfl))))
    rw [List.length_map] at h5
    refine Nat.le_of_not_lt fun q => ?_
    have q' : (n : Int) < ((ns.length : Nat) : Int) := by omega
    first
      | (rw [decide_eq_true q'] at h5; exact absurd h5 (by decide))
      | (simp at h5; omega)
  cases hwl with
  | cons w1 w2 =>
    cases w2
    cases w1 with
    | list ho hall => exact ⟨_, _, ns, rfl, rfl, ho, ints_of_wellAll ns _ hall, hlen⟩
theorem post_true (l : OpenLaw) (args : List WData) : l.row.toRowW.claim.post args (.bool true) args = true :=
  postW_of (r := l.row.toRowW) (X := (true == true))
    (show WShape.has [] (.bool true) .bool = true by first | rfl | decide | simp [WShape.has, WShape.arms, WShape.armsAll])
    (show (WTm.eq .res (.lit (.bool true))).value [] { args := args, res := some (.bool true), after := args } = some (.bool (true == true)) from w_eq_bool (w_res rfl) w_lit) rfl
theorem attach_call {l : OpenLaw} {n : Nat} {q : Program} {loose : List Str} {XP : (Str → Option Value) → Heap → Prop} {YP : World → Heap → Prop} {d : DefRec}
    (hn : l.most = some n) (hdf : d.params.defaults = [])
    (call : ∀ (w : World) (s₀ s₁ : Shared) (mg mb : Str → Option Value) (fa : Addr) (o : Obj) (pm cd doc : Value) (a : Addr) (vs : List Value) (ns : List Int),
      Ground q loose [] XP w s₀ mg mb s₁.heap → YP w s₁.heap →
      s₁.heap.get? fa = some o → o.data = .func (docDef d.name d.params d.body d.scope pm cd doc) → s₁.heap.CodeRec cd d.name → mg d.name = some (.ref fa) →
      s₁.heap.get? a = some { cls := .type "list", data := .seq vs.toArray } → IntsAre vs ns → ns.length ≤ n → s₁.gens = #[] →
      codeAny (model l.prog w) callerA (.call (.ref fa) ⟨[.ref a], []⟩) (fun r s' => r = .ok (.ret (.bool true)) ∧ OldK s₁.heap s'.heap ∧ s'.os = s₁.os ∧ AllBare s'.gens) s₁) :
    WalkO q loose XP YP l.row.toRowW d [] (fun f vs => PySem.call f vs) := by
  intro w s₀ s₁ mg mb G Y fa o pm cd doc dV kV ho hd hcd hD hmg hg args vals as hpre hlay hrd hwl hlo
  obtain rfl : dV = .none := Dflts.none hD hdf
  obtain rfl : kV = .none := Dflts.noKw hD
  obtain ⟨a, vs, ns, rfl, rfl, hobj, hints, hlen⟩ := script_of hn hpre hwl
  refine enter_call (codeAny_mono (call w s₀ s₁ mg mb fa o pm cd doc a vs ns G Y ho (fd_plain hd) hcd hmg hobj hints hlen hg) fun r s' hq => ?_)
  obtain ⟨rfl, h2, h3, h4⟩ := hq
  exact ⟨.inl ⟨.bool true, .bool true, [], rfl, fun _ => rfl, .bool true, post_true l _, fun _ => ⟨List.Pairwise.nil, fun _ hm => (nomatch hm)⟩⟩, h2, h3, h4⟩
section
variable {prog : Program} {w : World} {A : Around} {E : Value → Shared → Prop} {s : Shared} {K : Frag}
end
end Att
namespace L2
open PySem PySem.Spec PyProof.Rows
theorem vals_ints : ∀ {vs : List Value} {ns : List Int}, IntsAre vs ns → Vals (ns.map V.int) vs
  | _, _, .nil => .nil
  | _, _, .cons n t h => .cons ⟨t, rfl⟩ (vals_ints h)
noncomputable def Only (H : Hp) : Prop := ∀ b, H b = none ∨ ∃ o xs, H b = some (.frz o (.lst xs))
theorem law_call {P : Program} {w : World} {K : PySem.W.Frag} {mg mb : Str → Option Value} {CX : CXT} {k : Nat} {fa a : Addr} {fd : FuncData} {x : Str} {sp : Sp} {s₁ : Shared} {vs : List Value} {ns : List Int}
    (KX : K.In s₁.heap) (hns : s₁.heap.Ns mainGlobals mg) (hb : s₁.heap.Ns builtinsNs mb) (hbb : ∀ x : Str, x ≠ "__name__" → mb x = bootBuiltins x) (hlim : s₁.heap.NoLimit) (hg : s₁.gens = #[])
    (ha : s₁.heap.get? a = some { cls := .type "list", data := .seq vs.toArray }) (hi : IntsAre vs ns) (hl : ns.length ≤ sizeLine) (hr : Room k callerA)
    (F : ∀ base : Heap, K.In base → base.Ns mainGlobals mg → FnOk P w K mg base CX k fa fd [x] sp) (hbind : ∀ (s : Shared) (u : Value), BindsTo s fd ⟨[u], []⟩ [(x, u)])
    (hsp : ∀ H : Hp, Only H → SqL K H a (ns.map V.int) → sp [.ref a] H (fun v _ => v = .bl true) fun _ _ _ => False)
    (hCX : ∀ H e s', CX [] H s₁ (fun _ _ _ => False) e s' → False) :
    codeAny (model P w) callerA (.call (.ref fa) ⟨[.ref a], []⟩) (fun r s' => r = .ok (.ret (.bool true)) ∧ OldK s₁.heap s'.heap ∧ s'.os = s₁.os ∧ AllBare s'.gens) s₁ := by
  have rv := vals_ints hi
  have lenV := hi.length
  have core : ∀ H : Hp, Only H → SqL K H a (ns.map V.int) → HOk P w H s₁.heap → (∀ b, H b ≠ none → b = a) → (H a ≠ none → K.lookup a = none) →
      codeAny (model P w) callerA (.call (.ref fa) ⟨[.ref a], []⟩) (fun r s' => r = .ok (.ret (.bool true)) ∧ OldK s₁.heap s'.heap ∧ s'.os = s₁.os ∧ AllBare s'.gens) s₁ := by
    intro H hO hS hok hA hK
    have base_of : ∀ {b : Addr} {o : Obj}, s₁.heap.get? b = some o → H b = none → (hidT s₁.heap H).get? b = some o := fun e n => hidT_get e n
    have noA : ∀ {b : Addr} {o : Obj} {es : Array DictEntry} {ep : Nat}, s₁.heap.get? b = some o → o.data = .dict es ep → H b = none := fun {b o es ep} e d => by
      cases q : H b with
      | none => rfl
      | some u =>
        have e' : b = a := hA b (by rw [q]; simp)
        subst e'
        rw [ha] at e; cases e
        have d' : Data.seq vs.toArray _ = Data.dict es ep := d
        cases d'
    have nsK : ∀ {b : Addr} {m : Str → Option Value}, s₁.heap.Ns b m → (hidT s₁.heap H).Ns b m := fun {b m} ⟨o, es, ep, e, d, r⟩ => ⟨o, es, ep, base_of e (noA e d), d, r⟩
    have hKb : K.In (hidT s₁.heap H) := fun b o e => base_of (KX b o e) (by
      cases q : H b with
      | none => rfl
      | some u =>
        have e' : b = a := hA b (by rw [q]; simp)
        subst e'
        rw [hK (by rw [q]; simp)] at e; cases e)
    have hM : Mod K mg (hidT s₁.heap H) := ⟨hKb, nsK hns, ⟨mb, nsK hb, hbb⟩, let ⟨mc, h1, h2⟩ := hlim; ⟨mc, nsK h1, h2⟩⟩
    have e0 : Env0 P w K mg (hidT s₁.heap H) callerA [] s₁ H := ⟨rfl, hM, fun b o e => of_hidT e, Nat.le_of_eq (hidT_size _ _), trivial, fun b hb => absurd (show b ∈ ([] : List Addr) from hb) (by simp), hok, .of_eq hg⟩
    refine codeAny_mono ((F _ hKb (nsK hns)).run callerA [] s₁ H ⟨[.ref a], []⟩ [.ref a] [.ref a] _ _ hr e0 (hbind s₁ (.ref a)) (.cons rfl .nil) (hsp H hO hS)) fun r s' h => ?_
    cases r with
    | error e => exact (hCX H e s' h).elim
    | ok fl =>
      cases fl with
      | next => exact False.elim h
      | brk => exact False.elim h
      | cont => exact False.elim h
      | ret u =>
        obtain ⟨v, H', os, bare, un, hok', r', q⟩ := h
        have q' : v = .bl true := q
        subst q'
        obtain rfl : u = Value.bool true := r'
        refine ⟨rfl, OldK.of_keep fun b o e => ?_, os, bare⟩
        cases q : H b with
        | none => exact un.keep b o e q (by intro z; exact absurd (show b ∈ ([] : List Addr) from z) (by simp)) (by simp)
        | some u =>
          rcases hO b with z | ⟨ob, xs, z⟩
          · rw [q] at z; cases z
          · have z2 := un.frzs b ob _ z
            obtain ⟨e1, _⟩ := hok b _ z
            obtain ⟨e2, _⟩ := hok' b _ z2
            rw [e] at e1; cases e1
            exact e2
  cases hk : K.lookup a with
  | some o =>
    have e := KX a o hk
    rw [ha] at e
    cases e
    refine core (fun _ => none) (fun _ => .inl rfl) (.inr ⟨_, vs.toArray, _, hk, rfl, rfl, rfl, by rw [List.size_toArray, lenV]; exact hl, by simpa using rv⟩) (fun b u z => by have z' : (none : Option HO) = some u := z; cases z') (fun b z => absurd rfl z) fun z => absurd rfl z
  | none =>
    refine core (fun b => if b = a then some (.frz { cls := .type "list", data := .seq vs.toArray } (.lst (ns.map V.int))) else none) (fun b => ?_) (.inl (.inr ⟨{ cls := .type "list", data := .seq vs.toArray }, if_pos rfl⟩)) (fun b u z => ?_) (fun b z => ?_) fun _ => hk
    · by_cases hb : b = a
      · exact .inr ⟨_, _, if_pos hb⟩
      · exact .inl (if_neg hb)
    · by_cases hb : b = a
      · have z' := (if_pos hb).symm.trans z
        cases z'
        subst hb
        exact ⟨ha, by rw [List.length_map]; exact hl, vs, _, rv, ha⟩
      · have z' := (if_neg hb).symm.trans z
        cases z'
    · by_cases hb : b = a
      · exact hb
      · exact absurd (if_neg hb) z
end L2
namespace L2
open PySem PySem.Spec PyProof.Rows
noncomputable abbrev KOf {K : PySem.W.Frag} {h : Heap} (_ : K.In h) : PySem.W.Frag := K
theorem walk_of {l : PySem.W.OpenLaw} {n k : Nat} {q : Program} {loose : List Str} {XP : (Str → Option Value) → Heap → Prop} {YP : World → Heap → Prop} {d : DefRec} {K : Params → PySem.W.Frag} {CX : World → CXT} {sp : World → Sp} {x : Str}
    (hn : l.most = some n) (hn2 : n ≤ sizeLine) (hdf : d.params.defaults = []) (hr : Room k callerA)
    (hY : ∀ (w : World) (h : Heap), YP w h → (K w.params).In h)
    (F : ∀ (w : World) (mg : Str → Option Value) (fa : Addr) (h : Heap), (K w.params).In h → h.Ns mainGlobals mg → mg d.name = some (.ref fa) →
      ∃ fd : FuncData, (∀ (s : Shared) (u : Value), BindsTo s fd ⟨[u], []⟩ [(x, u)]) ∧
        ∀ base : Heap, (K w.params).In base → base.Ns mainGlobals mg → FnOk l.prog w (K w.params) mg base (CX w) k fa fd [x] (sp w))
    (hsp : ∀ (w : World) (H : Hp) (a : Addr) (ns : List Int), ns.length ≤ n → Only H → SqL (K w.params) H a (ns.map V.int) → sp w [.ref a] H (fun v _ => v = .bl true) fun _ _ _ => False)
    (hCX : ∀ (w : World) (H : Hp) (s : Shared) (e : Value) (s' : Shared), CX w [] H s (fun _ _ _ => False) e s' → False) :
    PySem.W.WalkO q loose XP YP l.row.toRowW d [] (fun f vs => PySem.call f vs) := by
  refine Att.attach_call hn hdf fun w s₀ s₁ mg mb fa o pm cd doc a vs ns G Y ho hd hcd hmg hobj hints hlen hg => ?_
  have KX := hY w _ Y
  obtain ⟨fd, hb, hF⟩ := F w mg fa _ KX G.T.g hmg
  exact law_call KX G.T.g G.T.b G.T.builtins G.T.nolimit hg hobj hints (Nat.le_trans hlen hn2) hr hF hb (fun H hO hS => hsp w H a ns hlen hO hS) fun H e s' => hCX w H s₁ e s'
end L2
namespace L2
open PySem PySem.Spec PyProof.Rows
noncomputable def defArgs (s : Stmt) : Arguments := match s with
  | .FunctionDef _ a _ _ _ _ _ _ _ _ => a
  | _ => { posonlyargs := [], args := [], vararg := none, kwonlyargs := [], kw_defaults := [], kwarg := none, defaults := [] }
noncomputable def defBody (s : Stmt) : List Stmt := match s with
  | .FunctionDef _ _ b _ _ _ _ _ _ _ => b
  | _ => []
noncomputable def defScope (s : Stmt) : Scope := match s with
  | .FunctionDef _ _ _ _ _ _ sc _ _ _ => sc
  | _ => { kind := .function, names := [], isGenerator := false, isCoroutine := false }
noncomputable abbrev CX0 : CXT := fun _ _ _ _ _ _ => False
noncomputable abbrev E0 : XK := fun _ _ _ => False
theorem pass0 {X : Cx} : Passes CX0 X E0 := fun _ _ _ _ _ _ _ h => h.elim
structure Fun (K : PySem.W.Frag) (x qual : Str) (st : Stmt) (f : Addr) (fd : FuncData) : Prop where
  ex : ∃ (oc : Value) (od : Option Addr) (kV doc pm : Value) (an : Option Addr) (cdv ct : Value) (osl : Array (Option Value)),
    fd = PySem.W.fnOf x qual (defArgs st) (defBody st) (defScope st) .none kV doc pm an cdv ct ∧ K.lookup f = some ⟨oc, od, .func fd, osl⟩ ∧ PySem.W.codeIn K cdv qual = true
  kp : PySem.W.keepIn K (.ref f) = true
section
variable {P : Program} {w : World} {K : PySem.W.Frag} {mg : Str → Option Value} {base : Heap}
theorem Fun.ok {x qual : Str} {st : Stmt} {f : Addr} {fd : FuncData} {N ps : List Str} {k : Nat} {sp : Sp} (F : Fun K x qual st f fd) (S : FnScope N ps (defScope st)) (len : ∀ vs H Q E, sp vs H Q E → vs.length = ps.length)
    (hbody : ∀ (cdv : Value) (A : Around) (outer : List Env) (s : Shared) (H : Hp) (vs : List V) (Q : VK) (E : XK), Room k (A.deeper (envOfC qual (defScope st) s.heap.objs.size f cdv)) → sp vs H Q E →
      ∃ t, PSs (cxOf CX0 P w K mg base N qual (defScope st) f cdv A outer s H E).nox (defBody st) t ∧ t { nx := fun _ H' => Q .non H', rt := Q } (start N vs) H) : FnOk P w K mg base CX0 (k + 1) f fd ps sp := by
  obtain ⟨oc, od, kV, doc, pm, an, cdv, ct, osl, rfl, lk, hcd⟩ := F.ex
  refine fn_of lk hcd S len fun A outer s H vs Q E hr hsp => ?_
  obtain ⟨t, h, q⟩ := hbody cdv A outer s H vs Q E hr hsp
  exact ⟨t, h.nox, q⟩
theorem Fun.binds {x qual : Str} {st : Stmt} {f : Addr} {fd : FuncData} {ps : List Str} (F : Fun K x qual st f fd)
    (h : ∀ (kV doc pm : Value) (an : Option Addr) (cdv ct : Value) (us : List Value), us.length = ps.length → bindArgs (PySem.W.fnOf x qual (defArgs st) (defBody st) (defScope st) .none kV doc pm an cdv ct) ⟨us, []⟩ = pure (ps.zip us)) : Binds K fd ps [] := by
  obtain ⟨oc, od, kV, doc, pm, an, cdv, ct, osl, rfl, lk, hcd⟩ := F.ex
  exact .all (h kV doc pm an cdv ct)
theorem fun_mk {x qual : Str} {st : Stmt} {f : Addr} {oc : Value} {od an : Option Addr} {osl : Array (Option Value)} {kV doc pm cdv ct : Value} (l : K.lookup f = some ⟨oc, od, .func (PySem.W.fnOf x qual (defArgs st) (defBody st) (defScope st) .none kV doc pm an cdv ct), osl⟩)
    (c : PySem.W.codeIn K cdv qual = true) (k : PySem.W.keepIn K (.ref f) = true) : Fun K x qual st f (PySem.W.fnOf x qual (defArgs st) (defBody st) (defScope st) .none kV doc pm an cdv ct) := ⟨⟨oc, od, kV, doc, pm, an, cdv, ct, osl, rfl, l, c⟩, k⟩
end
theorem small1000 {n : Nat} (h : n ≤ 1000) : n < sizeLine := Nat.lt_of_le_of_lt h (by decide)
section
variable {X : Cx}
end
theorem iteF {A B : Prop} (h : B) : if false = true then A else B := by
  rw [if_neg Bool.false_ne_true]
  exact h
theorem iteT {A B : Prop} (h : A) : if true = true then A else B := by
  rw [if_pos rfl]
  exact h
end L2
set_option Elab.async false
set_option linter.all false
set_option maxRecDepth 100000
set_option autoImplicit false
namespace L2
open PySem PySem.Spec PyProof.Rows
theorem dict_mapFields (f : Array Value → Array Value) (o : Obj) : (Obj.mapFields f o).dict = o.dict := by
  unfold Obj.mapFields
  split <;> rfl
noncomputable def Trc (B h : Heap) (e : Addr) (x : Value) : Prop := x = .none ∨ ∃ T oT ts y, x = .ref T ∧ B.get? T = none ∧ T ≠ e ∧ h.get? T = some oT ∧ oT.data = .fields ts ∧ ts[3]? = some y
structure Fly (B : Heap) (l : List Env) (e : Addr) (cls : Value) (dx : Option Addr) (h : Heap) : Prop where
  st : B.StaysIn h
  new : B.get? e = none
  ff : h.FunFrames B l
  ob : ∃ oe vs x, h.get? e = some oe ∧ oe.cls = cls ∧ oe.dict = dx ∧ oe.data = .fields vs ∧ vs[1]? = some x ∧ Trc B h e x
section
variable {M : Model} {A : Around} {E : Value → Shared → Prop} {s : Shared} {B : Heap} {l outer : List Env} {env : Env} {e L : Addr} {cls : Value} {dx : Option Addr} {Q : Unit → Shared → Prop}
theorem Fly.recW {h : Heap} {T : Addr} {oT : Obj} {ts : Array Value} (F : Fly B l e cls dx h) (hb : B.get? T = none) (hT : h.get? T = some oT) (hd : oT.data = .fields ts) (g : Array Value → Array Value)
    (hob : ∃ oe vs x, (h.update T (Obj.mapFields g)).get? e = some oe ∧ oe.cls = cls ∧ oe.dict = dx ∧ oe.data = .fields vs ∧ vs[1]? = some x ∧ Trc B (h.update T (Obj.mapFields g)) e x) :
    Fly B l e cls dx (h.update T (Obj.mapFields g)) ∧ h.UpToSlots (h.update T (Obj.mapFields g)) := by
  have other : ∀ b, b ≠ T → (h.update T (Obj.mapFields g)).get? b = h.get? b := fun b hb => Heap.get?_update_other _ _ (Ne.symm hb)
  have noR : ∀ b o, h.get? b = some o → (∀ vs, o.data ≠ .fields vs) → b ≠ T := fun b o q hn z => by
    rw [z, hT] at q; cases q; exact hn ts hd
  exact ⟨⟨fun b o q => (other b fun z => by rw [z, hb] at q; cases q).trans (F.st b o q), F.new, F.ff.of_keeps fun b o q hn => ⟨o, (other b (noR b o q hn)).trans q, rfl⟩, hob⟩, fun b o q hn => ⟨o.slots, (other b (noR b o q hn)).trans q⟩⟩
theorem setFlight_f (F : Fly B l e cls dx s.heap) (h : ∀ h', Fly B l e cls dx h' → s.heap.UpToSlots h' → Q () { s with heap := h' }) : wpAny M A (setFlight (.ref e) none) Q E s := by
  obtain ⟨oe, vs, x, he, hc, hx, hd, h1, tr⟩ := F.ob
  unfold setFlight
  refine wpAny_bind (wpAny_field he hd h1 ?_)
  rcases tr with rfl | ⟨T, oT, ts, y, rfl, hb, hne, hT, hdT, h3⟩
  · rw [if_neg (by decide)]
    exact wpAny_pure (h _ F (.refl _))
  · rw [if_pos (show (Value.ref T != Value.none) = true from by simp)]
    have h3' := (Array.getElem?_eq_some_iff.mp h3).1
    refine wpAny_setField hT hdT h3' ?_
    obtain ⟨F', u⟩ := F.recW hb hT hdT (·.setIfInBounds 3 ((none : Option Addr).elim Value.none fun f => rawInt f))
      ⟨oe, vs, _, (Heap.get?_update_other _ _ hne).trans he, hc, hx, hd, h1, .inr ⟨T, _, _, .none, rfl, hb, hne, Heap.get?_update_self _ hT (Obj.isFreed_of_fields (Obj.data_mapFields hdT _)), Obj.data_mapFields hdT _, by simp [h3']⟩⟩
    exact h _ F' u
theorem entry_f {head : Value} {hadNext : Bool} (hfr : A.frames = some (env :: outer)) (hf : env.frame = some L) (F : Fly B (env :: outer) e cls dx s.heap) (h : ∀ h', Fly B (env :: outer) e cls dx h' → s.heap.UpToSlots h' → Q () { s with heap := h' }) :
    wpAny M A (do let a ← frameOf env; let pl ← entryPlaceOf L hadNext; let b ← EntryCells.newEntry head a .none (rawInt L) .none pl; setField (.ref e) 1 b) Q E s := by
  obtain ⟨oe, vs, x, he, hc, hx, hd, h1, tr⟩ := F.ob
  have hl := F.ff
  have hene : e ∉ (env :: outer).filterMap (·.frame) := fun hm => by
    obtain ⟨_, o, ho, hnf⟩ := hl.mem hm
    rw [he] at ho; cases ho; exact hnf vs hd
  refine wpAny_bind (wpAny_frameOf_fun hfr hl hf fun h₁ hs => ?_)
  refine wpAny_bind (wpAny_entryPlaceOf fun pl hpl => ?_)
  unfold EntryCells.newEntry newFields
  refine wpAny_bind (wpAny_newObj_type ?_ (hpl.sizeOk5 _ _ _ _ _))
  generalize hts : ([head, Value.ref L, Value.none, rawInt L, Value.none] ++ (if pl.isEmpty = true then List.replicate 6 Value.none else pl)) = ts
  have hts3 : ts.toArray[3]? = some (rawInt L) := by rw [← hts]; simp
  have he₁ : h₁.get? e = some oe := (hs.2.1 e hene).trans he
  have hn : h₁.objs.size ≠ e := Nat.ne_of_gt (Heap.lt_size he₁)
  have kb : B.StaysIn h₁ := fun b o q => (hs.2.1 b fun hm => by rw [(hl.mem hm).1] at q; cases q).trans (F.st b o q)
  have he₂ := Heap.get?_push_of_some (h := h₁) { cls := .type "traceback", dict := none, data := .fields ts.toArray } he₁
  refine wpAny_setField he₂ hd (Array.getElem?_eq_some_iff.mp h1).1 (h _ ?_ ?_)
  all_goals
    have keep : ∀ b o, b ≠ e → h₁.get? b = some o → ((h₁.push { cls := .type "traceback", dict := none, data := .fields ts.toArray }).update e (Obj.mapFields (·.setIfInBounds 1 (Value.ref h₁.objs.size)))).get? b = some o := fun b o hbe hb => by
      rw [Heap.get?_update_other _ _ (Ne.symm hbe)]
      exact Heap.get?_push_of_some _ hb
    have noR : ∀ b o, s.heap.get? b = some o → (∀ vs, o.data ≠ .fields vs) → b ≠ e := fun b o q hn z => by
      rw [z, he] at q; cases q; exact hn vs hd
  · refine ⟨fun b o q => keep b o (fun z => by rw [z, F.new] at q; cases q) (kb b o q), F.new, hl.of_keeps fun b o q hn => ?_, ?_⟩
    · obtain ⟨sl, z⟩ := hs.2.2 b o q
      exact ⟨_, keep b _ (noR b o q hn) z, rfl⟩
    · have hd₃ := Obj.data_mapFields hd (·.setIfInBounds 1 (Value.ref h₁.objs.size))
      refine ⟨_, _, _, Heap.get?_update_self _ he₂ (Obj.isFreed_of_fields hd₃), (Obj.cls_mapFields _ _).trans hc, (dict_mapFields _ _).trans hx, hd₃, by simp [(Array.getElem?_eq_some_iff.mp h1).1], .inr ⟨h₁.objs.size, { cls := .type "traceback", dict := none, data := .fields ts.toArray }, ts.toArray, rawInt L, rfl, kb.fresh, hn, ?_, rfl, hts3⟩⟩
      exact (Heap.get?_update_other _ _ (Ne.symm hn)).trans (Heap.get?_push_size h₁ rfl)
  · intro b o q hn
    obtain ⟨sl, z⟩ := hs.2.2 b o q
    exact ⟨sl, keep b _ (noR b o q hn) z⟩
theorem noteFrame_f (hfr : A.frames = some (env :: outer)) (hf : env.frame = some L) (F : Fly B (env :: outer) e cls dx s.heap) (h : ∀ h', Fly B (env :: outer) e cls dx h' → s.heap.UpToSlots h' → Q () { s with heap := h' }) :
    wpAny M A (noteFrame (.ref e) env) Q E s := by
  obtain ⟨oe, vs, x, he, hc, hx, hd, h1, tr⟩ := F.ob
  unfold noteFrame
  simp only [hf]
  refine wpAny_bind (wpAny_field he hd h1 ?_)
  rcases tr with rfl | ⟨T, oT, ts, y, rfl, hb, hne, hT, hdT, h3⟩
  · rw [if_neg (by decide)]
    exact entry_f hfr hf F h
  · rw [if_pos (show (Value.ref T != Value.none) = true from by simp)]
    refine wpAny_bind (wpAny_field hT hdT h3 ?_)
    by_cases hy : (y == rawInt L) = true
    · rw [if_pos hy]
      exact wpAny_pure (h _ F (.refl _))
    · rw [if_neg hy]
      have h3' := (Array.getElem?_eq_some_iff.mp h3).1
      refine wpAny_bind (wpAny_setField hT hdT h3' ?_)
      obtain ⟨F', u⟩ := F.recW hb hT hdT (·.setIfInBounds 3 Value.none)
        ⟨oe, vs, _, (Heap.get?_update_other _ _ hne).trans he, hc, hx, hd, h1, .inr ⟨T, _, _, .none, rfl, hb, hne, Heap.get?_update_self _ hT (Obj.isFreed_of_fields (Obj.data_mapFields hdT _)), Obj.data_mapFields hdT _, by simp [h3']⟩⟩
      exact entry_f hfr hf F' fun h' F'' u' => h h' F'' (u.trans u')
theorem leaving_f (hfr : A.frames = some (env :: outer)) (hf : env.frame = some L) (F : Fly B (env :: outer) e cls dx s.heap) (h : ∀ h', Fly B outer e cls dx h' → s.heap.UpToSlots h' → Q () { s with heap := h' }) :
    wpAny M A (leaving env (.ref e)) Q E s := by
  unfold leaving
  refine wpAny_bind (noteFrame_f hfr hf F fun h1 F1 u1 => ?_)
  refine setFlight_f (s := { s with heap := h1 }) F1 fun h2 F2 u2 => ?_
  exact h h2 ⟨F2.st, F2.new, F2.ff.2.2, F2.ob⟩ (u1.trans u2)
end
end L2
set_option Elab.async false
set_option linter.all false
set_option maxRecDepth 100000
set_option autoImplicit false
namespace L2
open PySem PySem.Spec PyProof.Rows
theorem ObjOk.there {P : Program} {w : World} {H : Hp} {h : Heap} {a : Addr} {o : HO} (x : ObjOk P w H h a o) : ∃ u, h.get? a = some u := by
  cases o with
  | lst xs => obtain ⟨_, _, _, _, e⟩ := x; exact ⟨_, e⟩
  | tup xs => obtain ⟨_, _, _, o, e, _⟩ := x; exact ⟨_, e⟩
  | dK kvs => obtain ⟨_, _, _, _, o, _, _, e, _⟩ := x; exact ⟨_, e⟩
  | dT kvs => obtain ⟨_, _, _, _, o, _, _, e, _⟩ := x; exact ⟨_, e⟩
  | set S n => obtain ⟨o, _, _, _, e, _⟩ := x; exact ⟨_, e⟩
  | ins C dx fs => obtain ⟨_, _, _, e, _⟩ := x; exact ⟨_, e⟩
  | own y => obtain ⟨_, e⟩ := x; exact ⟨_, e⟩
  | xd fs => obtain ⟨_, ⟨_, _, _, e, _⟩, _⟩ := x; exact ⟨_, e⟩
  | rng lo hi => obtain ⟨_, _, _, e⟩ := x; exact ⟨_, e⟩
  | frz ob u => obtain ⟨e, _⟩ := x; exact ⟨_, e⟩
  | tbl ps => exact ⟨_, (show h.get? a = some _ from x)⟩
  | met f y => exact ⟨_, (show h.get? a = some _ from x)⟩
  | ext φ => obtain ⟨_, ⟨_, e⟩, _⟩ := x; exact ⟨_, e⟩
structure Cov (outer : List Env) (H' : Hp) (h B : Heap) : Prop where
  tr : ∀ b o, H' b = some o → ∃ u, B.get? b = some u
  old : ∀ b o, h.get? b = some o → b ∉ frs outer → ∃ u, B.get? b = some u
structure FlyX (P : Program) (w : World) (outer : List Env) (H : Hp) (s : Shared) (C : Value) (dx : Option Addr) (H' : Hp) (e : Value) (s' : Shared) : Prop where
  os : s'.os = s.os
  bare : AllBare s'.gens
  un : Un (frs outer) [] H H' s.heap s'.heap
  hok : HOk P w H' s'.heap
  fly : ∃ a B, e = .ref a ∧ Fly B outer a C dx s'.heap ∧ Cov outer H' s.heap B
noncomputable def CXq (P : Program) (w : World) : CXT := fun outer H s E e s' => ∃ C dx H', FlyX P w outer H s C dx H' e s' ∧ E C dx H'
section
variable {P : Program} {w : World} {outer : List Env} {H H' : Hp} {h0 h h' B base : Heap}
theorem turn_un (u : Un (frs outer) [] H H' h0 h) (c : Cov outer H' h0 B) (st : B.StaysIn h) (st' : B.StaysIn h') (sm : h.UpToSlots h') (ff : h0.FunFrames base outer) (frf : ∀ b ∈ frs outer, H b = none) : Un (frs outer) [] H H' h0 h' where
  keep := fun b o q n hb hx => by
    obtain ⟨v, hv⟩ := c.old b o q hb
    have e1 := u.keep b o q n hb hx
    have e2 := st b v hv
    rw [e1] at e2
    cases e2
    exact st' b o hv
  slot := fun b o q n hb hx => by
    obtain ⟨sl, e1⟩ := u.slot b o q n hb hx
    obtain ⟨_, o', ho', hd⟩ := ff.mem hb
    rw [q] at ho'
    cases ho'
    obtain ⟨sl', e2⟩ := sm b _ e1 hd
    exact ⟨sl', e2⟩
  free := u.free
  there := fun b o q hx => by
    by_cases hb : b ∈ frs outer
    · obtain ⟨sl, e1⟩ := u.slot b o q (frf b hb) hb hx
      obtain ⟨_, o', ho', hd⟩ := ff.mem hb
      rw [q] at ho'
      cases ho'
      obtain ⟨sl', e2⟩ := sm b _ e1 hd
      exact ⟨_, e2⟩
    · obtain ⟨v, hv⟩ := c.old b o q hb
      exact ⟨v, st' b v hv⟩
  tups := u.tups
  frzs := u.frzs
  tbls := u.tbls
theorem turn_hok (x : HOk P w H' h) (c : Cov outer H' h0 B) (st : B.StaysIn h) (st' : B.StaysIn h') : HOk P w H' h' := fun a o e => by
  refine (x a o e).stay (fun b u hb q => ?_) (fun _ q => q) fun _ _ q => q
  have hb : ∃ o', H' b = some o' := by
    rcases hb with rfl | hb
    · exact ⟨_, e⟩
    · exact ⟨_, hb⟩
  obtain ⟨o', hb⟩ := hb
  obtain ⟨v, hv⟩ := c.tr b o' hb
  have e2 := st b v hv
  rw [q] at e2
  cases e2
  exact st' b u hv
end
section
variable {X : Cx} {pins : List (Addr × Obj)} {σ : St} {H H' : Hp} {s s' : Shared} {C : Value} {a : Addr} {dx : Option Addr}
theorem Inv.fly {B h' : Heap} (I : Inv X pins σ H s) (F : FlyX X.prog X.w X.stack H s C dx H' (.ref a) s') (c : Cov X.stack H' s.heap B) (st : B.StaysIn s'.heap) (st' : B.StaysIn h') (sm : s'.heap.UpToSlots h') {t' : Nat} {d' : Drawn} :
    Inv X pins σ H' { s' with heap := h', toks := t', drawn := d' } :=
  I.call' F.os (turn_un F.un c st st' sm I.stack I.stkFree) (turn_hok F.hok c st st') F.bare fun b z => absurd z (by simp)
theorem Inv.madeX {h' : Heap} {vs : List Value} (I : Inv X pins σ H s) (hm : Heap.MadeExcOf s.heap h' a C vs) : FlyX X.prog X.w X.stack H s C none H (.ref a) { s with heap := h' } := by
  have hin : ∀ env ∈ X.stack, ∀ b, env.frame = some b → b ∈ frs X.stack := fun env he b hb => List.mem_filterMap.mpr ⟨env, he, hb⟩
  obtain ⟨t, he, _, _⟩ := hm.there
  have hn : (PySem.W.hideAll s.heap (frs X.stack)).get? a = none := by
    cases q : (PySem.W.hideAll s.heap (frs X.stack)).get? a with
    | none => rfl
    | some o => have := PySem.W.of_hideAll _ q; rw [hm.new] at this; cases this
  refine ⟨rfl, I.bare, Un.kept hm.keeps, I.hok.kept hm.keeps, a, PySem.W.hideAll s.heap (frs X.stack), rfl, ⟨fun b o q => hm.keeps b o (PySem.W.of_hideAll _ q), hn, ?_, ⟨_, _, _, he, rfl, rfl, rfl, rfl, .inl rfl⟩⟩, ?_⟩
  · exact (PySem.W.funFrames_hide I.stack hin).of_keeps fun b o hb _ => ⟨o, hm.keeps b o hb, rfl⟩
  · exact ⟨fun b o q => by
      obtain ⟨u, hu⟩ := (I.hok b o q).there
      exact ⟨u, PySem.W.hideAll_get _ hu fun hm => by rw [I.stkFree b hm] at q; cases q⟩, fun b o q hb => ⟨o, PySem.W.hideAll_get _ q hb⟩⟩
end
noncomputable def wishX (X : Cx) (C : Value) (dx : Option Addr) (H' : Hp) : Prop := ∀ pins σ H s e s', Inv X pins σ H s → FlyX X.prog X.w X.stack H s C dx H' e s' → X.xe e s'
theorem passX {X : Cx} : Passes (CXq X.prog X.w) X (wishX X) := fun pins σ H s e s' I ⟨C, dx, H', F, q⟩ => q pins σ H s e s' I F
section
variable {P : Program} {w : World} {K : PySem.W.Frag} {mg : Str → Option Value} {base : Heap} {N : List Str} {qual : Str} {scope : Scope} {f : Addr} {cd : Value} {A : Around} {outer : List Env} {s : Shared} {H H' : Hp} {E : XK} {C : Value} {dx : Option Addr}
theorem cov_out {X : Cx} {pins : List (Addr × Obj)} {σ : St} {H1 : Hp} {s1 : Shared} {B : Heap} (I : Inv X pins σ H1 s1) (hs : X.stack = X.env :: X.outer) (hf : X.env.frame = some X.env.locals) (hex : X.ex = []) (c : Cov X.stack H' s1.heap B) : Cov X.outer H' X.s₀.heap B where
  tr := c.tr
  old := fun b o q hb => by
    obtain ⟨o1, e1⟩ := I.base.there b o q (by rw [hex]; simp)
    refine c.old b o1 e1 ?_
    rw [hs]
    unfold frs
    rw [List.filterMap_cons, hf]
    intro hm
    rcases List.mem_cons.mp hm with rfl | hm
    · exact absurd (Nat.lt_of_lt_of_le (Heap.lt_size q) I.ok.above) (Nat.lt_irrefl _)
    · exact hb hm
theorem wish_leave (hE : E C dx H') : wishX (cxOf (CXq P w) P w K mg base N qual scope f cd A outer s H E) C dx H' := by
  intro pins σ H1 s1 e s' I F
  have hf : (envOfC qual scope s.heap.objs.size f cd).frame = some (envOfC qual scope s.heap.objs.size f cd).locals := rfl
  obtain ⟨a, B, rfl, fl, c⟩ := F.fly
  refine leaving_f I.ok.frames hf fl fun h'' fl' sm => ?_
  have J : Inv (cxOf (CXq P w) P w K mg base N qual scope f cd A outer s H E) pins σ H' { s' with heap := h'' } := I.fly F c fl.st fl'.st sm
  exact ⟨C, dx, H', ⟨J.os, J.bare, J.base, J.hok, a, B, rfl, fl', cov_out (X := cxOf (CXq P w) P w K mg base N qual scope f cd A outer s H E) I rfl rfl rfl c⟩, hE⟩
end
end L2
set_option Elab.async false
set_option linter.all false
set_option maxRecDepth 100000
set_option autoImplicit false
namespace M
open PySem PySem.Spec PyProof.Rows L2
inductive D where
  | non | bl (b : Bool) | int (i : Int) | str (x : Str) | ty (n : String)
    | tup (ds : List D)
    | fz (ds : List D)
    | loc (n : Nat)
    | own (c : Str)
inductive LObj where
  | lst (ds : List D)
    | dct (kvs : List (Int × D))
    | dcf (kvs : List (Int × D))
    | exc (c : Str) (fs : List (Str × D))
noncomputable abbrev Mem := List LObj
noncomputable def ExcAt (a C : Addr) (dx : Option Addr) : Heap → Prop := fun h => ∃ o vs, h.get? a = some o ∧ o.cls = .ref C ∧ o.dict = dx ∧ o.data = .fields vs
noncomputable abbrev Loc := List (Option D)
section
variable (K : PySem.W.Frag)
noncomputable def FzL (H : Hp) (a : Addr) (vs : List V) : Prop :=
  (∃ o, H a = some (.frz o (.lst vs))) ∨ ∃ (o : Obj) (its : Array Value) (n : Nat), K.lookup a = some o ∧ o.cls = .type "list" ∧ o.dict = none ∧ o.data = .seq its n ∧ its.size ≤ sizeLine ∧ Vals vs its.toList
mutual
noncomputable def RepV (ρ : List Addr) (H : Hp) : D → V → Prop
  | .non, v => v = .non
  | .bl b, v => v = .bl b
  | .int i, v => v = .int i
  | .str x, v => v = .str x
  | .ty n, v => v = .ty n
  | .tup ds, v => ∃ a vs, v = .ref a ∧ H a = some (.tup vs) ∧ RepVs ρ H ds vs
  | .fz ds, v => ∃ a vs, v = .ref a ∧ FzL K H a vs ∧ RepVs ρ H ds vs
  | .loc n, v => ∃ a, v = .ref a ∧ ρ[n]? = some a
  | .own c, v => ∃ a, v = .ref a ∧ PySem.W.nsIn K mainGlobals c = some (some (.ref a))
noncomputable def RepVs (ρ : List Addr) (H : Hp) : List D → List V → Prop
  | [], vs => vs = []
  | d :: ds, vs => ∃ v r, vs = v :: r ∧ RepV ρ H d v ∧ RepVs ρ H ds r
end
noncomputable def RepX (ρ : List Addr) (H : Hp) (fs : List (Str × D)) (dx : Option Addr) : Prop := (fs = [] ∧ dx = none) ∨ ∃ p vs, dx = some p ∧ H p = some (.xd vs) ∧ vs.map (·.1) = fs.map (·.1) ∧ RepVs K ρ H (fs.map (·.2)) (vs.map (·.2))
noncomputable def RepO (ρ : List Addr) (H : Hp) (a : Addr) : LObj → Prop
  | .lst ds => ∃ vs, H a = some (.lst vs) ∧ RepVs K ρ H ds vs
  | .dct kvs => ∃ vs, H a = some (.dK vs) ∧ vs.map (·.1) = kvs.map (fun p => Sum.inl p.1) ∧ RepVs K ρ H (kvs.map (·.2)) (vs.map (·.2))
  | .dcf kvs => ∃ o vs, H a = some (.frz o (.dK vs)) ∧ vs.map (·.1) = kvs.map (fun p => Sum.inl p.1) ∧ RepVs K ρ H (kvs.map (·.2)) (vs.map (·.2))
  | .exc c fs => ∃ C dx, PySem.W.nsIn K mainGlobals c = some (some (.ref C)) ∧ H a = some (.ext (ExcAt a C dx)) ∧ RepX K ρ H fs dx
structure RepH (ρ : List Addr) (H : Hp) (μ : Mem) : Prop where
  nd : ρ.Nodup
  len : ρ.length = μ.length
  at_ : ∀ (n : Nat) a o, ρ[n]? = some a → μ[n]? = some o → RepO K ρ H a o
structure Ext (ρ : List Addr) (H : Hp) (ρ' : List Addr) (H' : Hp) : Prop where
  pre : ∃ more, ρ' = ρ ++ more
  tup : ∀ a vs, H a = some (.tup vs) → H' a = some (.tup vs)
  frz : ∀ a o u, H a = some (.frz o u) → H' a = some (.frz o u)
  xd : ∀ a fs, H a = some (.xd fs) → H' a = some (.xd fs)
noncomputable def RepSt (ρ : List Addr) (H : Hp) (σ : L2.St) (δ : Loc) : Prop := ∀ (i : Nat) d, δ[i]? = some (some d) → ∃ v, σ[i]? = some (some v) ∧ RepV K ρ H d v
end
section
variable {K : PySem.W.Frag} {ρ ρ' ρ'' : List Addr} {H H' H'' : Hp} {μ : Mem} {σ : L2.St} {δ : Loc}
theorem Ext.refl : Ext ρ H ρ H := ⟨⟨[], by simp⟩, fun _ _ h => h, fun _ _ _ h => h, fun _ _ h => h⟩
theorem Ext.trans (a : Ext ρ H ρ' H') (b : Ext ρ' H' ρ'' H'') : Ext ρ H ρ'' H'' := by
  obtain ⟨m, e⟩ := a.pre
  obtain ⟨m', e'⟩ := b.pre
  exact ⟨⟨m ++ m', by rw [e', e, List.append_assoc]⟩, fun _ _ h => b.tup _ _ (a.tup _ _ h), fun _ _ _ h => b.frz _ _ _ (a.frz _ _ _ h), fun _ _ h => b.xd _ _ (a.xd _ _ h)⟩
theorem Ext.get (e : Ext ρ H ρ' H') {n : Nat} {a : Addr} (h : ρ[n]? = some a) : ρ'[n]? = some a := by
  obtain ⟨m, e⟩ := e.pre
  rw [e, List.getElem?_append_left (List.getElem?_eq_some_iff.mp h).1]
  exact h
theorem Ext.fz (e : Ext ρ H ρ' H') {a : Addr} {vs : List V} (h : FzL K H a vs) : FzL K H' a vs := by
  rcases h with ⟨o, h⟩ | h
  · exact .inl ⟨o, e.frz _ _ _ h⟩
  · exact .inr h
mutual
theorem RepV.ext (e : Ext ρ H ρ' H') : ∀ {d : D} {v : V}, RepV K ρ H d v → RepV K ρ' H' d v
  | .non, _, h => by unfold RepV at h ⊢; exact h
  | .bl _, _, h => by unfold RepV at h ⊢; exact h
  | .int _, _, h => by unfold RepV at h ⊢; exact h
  | .str _, _, h => by unfold RepV at h ⊢; exact h
  | .ty _, _, h => by unfold RepV at h ⊢; exact h
  | .tup ds, _, h => by
    unfold RepV at h ⊢
    obtain ⟨a, vs, e1, e2, r⟩ := h
    exact ⟨a, vs, e1, e.tup _ _ e2, RepVs.ext e r⟩
  | .fz ds, _, h => by
    unfold RepV at h ⊢
    obtain ⟨a, vs, e1, e2, r⟩ := h
    exact ⟨a, vs, e1, e.fz e2, RepVs.ext e r⟩
  | .loc n, _, h => by
    unfold RepV at h ⊢
    obtain ⟨a, e1, e2⟩ := h
    exact ⟨a, e1, e.get e2⟩
  | .own c, _, h => by unfold RepV at h ⊢; exact h
theorem RepVs.ext (e : Ext ρ H ρ' H') : ∀ {ds : List D} {vs : List V}, RepVs K ρ H ds vs → RepVs K ρ' H' ds vs
  | [], _, h => by unfold RepVs at h ⊢; exact h
  | d :: ds, _, h => by
    unfold RepVs at h ⊢
    obtain ⟨v, r, e1, h1, h2⟩ := h
    exact ⟨v, r, e1, RepV.ext e h1, RepVs.ext e h2⟩
end
theorem RepSt.ext (e : Ext ρ H ρ' H') (h : RepSt K ρ H σ δ) : RepSt K ρ' H' σ δ := fun i d q =>
  let ⟨v, e1, r⟩ := h i d q
  ⟨v, e1, r.ext e⟩
theorem RepVs.length : ∀ {ds : List D} {vs : List V}, RepVs K ρ H ds vs → ds.length = vs.length
  | [], _, h => by unfold RepVs at h; subst h; rfl
  | d :: ds, _, h => by
    unfold RepVs at h
    obtain ⟨v, r, e1, _, h2⟩ := h
    subst e1
    have := RepVs.length h2
    simp [this]
theorem RepVs.get : ∀ {ds : List D} {vs : List V} {i : Nat} {d : D}, RepVs K ρ H ds vs → ds[i]? = some d → ∃ v, vs[i]? = some v ∧ RepV K ρ H d v
  | [], _, _, _, _, q => by simp at q
  | d :: ds, _, 0, d', h, q => by
    unfold RepVs at h
    obtain ⟨v, r, e1, h1, _⟩ := h
    subst e1
    simp at q
    subst q
    exact ⟨v, by simp, h1⟩
  | d :: ds, _, i + 1, d', h, q => by
    unfold RepVs at h
    obtain ⟨v, r, e1, _, h2⟩ := h
    subst e1
    obtain ⟨w, e2, h3⟩ := RepVs.get (i := i) h2 (by simpa using q)
    exact ⟨w, by simpa using e2, h3⟩
theorem RepVs.cons {d : D} {v : V} {ds : List D} {vs : List V} (h1 : RepV K ρ H d v) (h2 : RepVs K ρ H ds vs) : RepVs K ρ H (d :: ds) (v :: vs) := by
  unfold RepVs
  exact ⟨v, vs, rfl, h1, h2⟩
theorem RepVs.nil : RepVs K ρ H [] [] := by unfold RepVs; rfl
theorem RepVs.cons_inv {d : D} {ds : List D} {vs : List V} (h : RepVs K ρ H (d :: ds) vs) : ∃ v r, vs = v :: r ∧ RepV K ρ H d v ∧ RepVs K ρ H ds r := by
  unfold RepVs at h
  exact h
theorem RepVs.nil_inv {vs : List V} (h : RepVs K ρ H [] vs) : vs = [] := by unfold RepVs at h; exact h
theorem RepVs.append : ∀ {ds es : List D} {vs us : List V}, RepVs K ρ H ds vs → RepVs K ρ H es us → RepVs K ρ H (ds ++ es) (vs ++ us)
  | [], _, _, _, h, q => by rw [h.nil_inv]; exact q
  | d :: ds, _, _, _, h, q => by
    obtain ⟨v, r, rfl, h1, h2⟩ := h.cons_inv
    exact .cons h1 (RepVs.append h2 q)
theorem RepVs.take : ∀ {ds : List D} {vs : List V} (n : Nat), RepVs K ρ H ds vs → RepVs K ρ H (ds.take n) (vs.take n)
  | [], _, n, h => by rw [h.nil_inv]; simp [RepVs.nil]
  | d :: ds, _, 0, h => by simp [RepVs.nil]
  | d :: ds, _, n + 1, h => by
    obtain ⟨v, r, rfl, h1, h2⟩ := h.cons_inv
    simpa using RepVs.cons h1 (RepVs.take n h2)
theorem RepVs.drop : ∀ {ds : List D} {vs : List V} (n : Nat), RepVs K ρ H ds vs → RepVs K ρ H (ds.drop n) (vs.drop n)
  | [], _, n, h => by rw [h.nil_inv]; simp [RepVs.nil]
  | d :: ds, _, 0, h => by simpa using h
  | d :: ds, _, n + 1, h => by
    obtain ⟨v, r, rfl, h1, h2⟩ := h.cons_inv
    simpa using RepVs.drop n h2
theorem RepVs.set : ∀ {ds : List D} {vs : List V} {d : D} {v : V} (n : Nat), RepV K ρ H d v → RepVs K ρ H ds vs → RepVs K ρ H (ds.set n d) (vs.set n v)
  | [], _, _, _, n, _, h => by rw [h.nil_inv]; simp [RepVs.nil]
  | d :: ds, _, _, _, 0, q, h => by
    obtain ⟨v, r, rfl, h1, h2⟩ := h.cons_inv
    simpa using RepVs.cons q h2
  | d :: ds, _, _, _, n + 1, q, h => by
    obtain ⟨v, r, rfl, h1, h2⟩ := h.cons_inv
    simpa using RepVs.cons h1 (RepVs.set n q h2)
theorem RepV.int_inv {i : Int} {v : V} (h : RepV K ρ H (.int i) v) : v = .int i := by unfold RepV at h; exact h
theorem RepV.bl_inv {i : Bool} {v : V} (h : RepV K ρ H (.bl i) v) : v = .bl i := by unfold RepV at h; exact h
theorem RepV.non_inv {v : V} (h : RepV K ρ H .non v) : v = .non := by unfold RepV at h; exact h
theorem RepV.str_inv {x : Str} {v : V} (h : RepV K ρ H (.str x) v) : v = .str x := by unfold RepV at h; exact h
theorem RepV.ty_inv {x : String} {v : V} (h : RepV K ρ H (.ty x) v) : v = .ty x := by unfold RepV at h; exact h
theorem RepV.tup_inv {ds : List D} {v : V} (h : RepV K ρ H (.tup ds) v) : ∃ a vs, v = .ref a ∧ H a = some (.tup vs) ∧ RepVs K ρ H ds vs := by unfold RepV at h; exact h
theorem RepV.fz_inv {ds : List D} {v : V} (h : RepV K ρ H (.fz ds) v) : ∃ a vs, v = .ref a ∧ FzL K H a vs ∧ RepVs K ρ H ds vs := by unfold RepV at h; exact h
theorem RepV.loc_inv {n : Nat} {v : V} (h : RepV K ρ H (.loc n) v) : ∃ a, v = .ref a ∧ ρ[n]? = some a := by unfold RepV at h; exact h
theorem RepV.own_inv {c : Str} {v : V} (h : RepV K ρ H (.own c) v) : ∃ a, v = .ref a ∧ PySem.W.nsIn K mainGlobals c = some (some (.ref a)) := by unfold RepV at h; exact h
theorem RepV.own {c : Str} {a : Addr} (h : PySem.W.nsIn K mainGlobals c = some (some (.ref a))) : RepV K ρ H (.own c) (.ref a) := by unfold RepV; exact ⟨a, rfl, h⟩
theorem RepV.int {i : Int} : RepV K ρ H (.int i) (.int i) := by unfold RepV; rfl
theorem RepV.bl {i : Bool} : RepV K ρ H (.bl i) (.bl i) := by unfold RepV; rfl
theorem RepV.non : RepV K ρ H .non .non := by unfold RepV; rfl
theorem RepV.str {x : Str} : RepV K ρ H (.str x) (.str x) := by unfold RepV; rfl
theorem RepV.ty {x : String} : RepV K ρ H (.ty x) (.ty x) := by unfold RepV; rfl
theorem RepV.tup {ds : List D} {a : Addr} {vs : List V} (e : H a = some (.tup vs)) (h : RepVs K ρ H ds vs) : RepV K ρ H (.tup ds) (.ref a) := by unfold RepV; exact ⟨a, vs, rfl, e, h⟩
theorem RepV.fz {ds : List D} {a : Addr} {vs : List V} (e : FzL K H a vs) (h : RepVs K ρ H ds vs) : RepV K ρ H (.fz ds) (.ref a) := by unfold RepV; exact ⟨a, vs, rfl, e, h⟩
theorem RepV.loc {n : Nat} {a : Addr} (e : ρ[n]? = some a) : RepV K ρ H (.loc n) (.ref a) := by unfold RepV; exact ⟨a, rfl, e⟩
theorem FzL.sq {a : Addr} {vs : List V} (h : FzL K H a vs) : SqL K H a vs := by
  rcases h with h | h
  · exact .inl (.inr h)
  · exact .inr h
theorem RepO.some {a : Addr} {o : LObj} (h : RepO K ρ H a o) : ∃ u, H a = some u := by
  cases o with
  | lst ds => obtain ⟨vs, e, _⟩ := h; exact ⟨_, e⟩
  | dct kvs => obtain ⟨vs, e, _⟩ := h; exact ⟨_, e⟩
  | dcf kvs => obtain ⟨o, vs, e, _⟩ := h; exact ⟨_, e⟩
  | exc c fs => obtain ⟨C, dx, _, e, _⟩ := h; exact ⟨_, e⟩
theorem RepH.mem_some (R : RepH K ρ H μ) {a : Addr} (h : a ∈ ρ) : ∃ u, H a = some u := by
  obtain ⟨n, h1, e⟩ := List.mem_iff_getElem.mp h
  have h2 : n < μ.length := by rw [← R.len]; exact h1
  exact (R.at_ n a μ[n] (by rw [List.getElem?_eq_getElem h1, e]) (by simp [h2])).some
theorem RepX.ext {fs : List (Str × D)} {dx : Option Addr} (e : Ext ρ H ρ' H') (h : RepX K ρ H fs dx) : RepX K ρ' H' fs dx := by
  rcases h with h | ⟨p, vs, e1, e2, e3, r⟩
  · exact .inl h
  · exact .inr ⟨p, vs, e1, e.xd _ _ e2, e3, r.ext e⟩
theorem RepO.ext {a : Addr} {o : LObj} (e : Ext ρ H ρ' H') (h : RepO K ρ H a o) (s : H' a = H a) : RepO K ρ' H' a o := by
  cases o with
  | lst ds => obtain ⟨vs, q, r⟩ := h; exact ⟨vs, s.trans q, r.ext e⟩
  | dct kvs => obtain ⟨vs, q, q2, r⟩ := h; exact ⟨vs, s.trans q, q2, r.ext e⟩
  | dcf kvs => obtain ⟨o, vs, q, q2, r⟩ := h; exact ⟨o, vs, s.trans q, q2, r.ext e⟩
  | exc c fs => obtain ⟨C, dx, n, q, r⟩ := h; exact ⟨C, dx, n, s.trans q, r.ext e⟩
theorem Ext.new {p : Addr} {o : HO} (hp : H p = none) : Ext ρ H ρ (upd H p o) :=
  ⟨⟨[], by simp⟩, fun a vs e => by rw [upd_ne (ne_of_none e hp)]; exact e, fun a o u e => by rw [upd_ne (ne_of_none e hp)]; exact e, fun a fs e => by rw [upd_ne (ne_of_none e hp)]; exact e⟩
theorem RepH.other (R : RepH K ρ H μ) (e : Ext ρ H ρ H') (s : ∀ a ∈ ρ, H' a = H a) : RepH K ρ H' μ :=
  ⟨R.nd, R.len, fun n a o h1 h2 => (R.at_ n a o h1 h2).ext e (s a (List.mem_of_getElem? h1))⟩
theorem RepH.newTup (R : RepH K ρ H μ) {p : Addr} {o : HO} (hp : H p = none) : RepH K ρ (upd H p o) μ :=
  R.other (Ext.new hp) fun a ha => by
    obtain ⟨u, e⟩ := R.mem_some ha
    exact upd_ne (ne_of_none e hp)
theorem Ext.push {p : Addr} {o : HO} (hp : H p = none) : Ext ρ H (ρ ++ [p]) (upd H p o) :=
  ⟨⟨[p], rfl⟩, (Ext.new (ρ := ρ) hp).tup, (Ext.new (ρ := ρ) hp).frz, (Ext.new (ρ := ρ) hp).xd⟩
theorem RepH.push (R : RepH K ρ H μ) {p : Addr} {o : HO} {lo : LObj} (hp : H p = none) (h : RepO K (ρ ++ [p]) (upd H p o) p lo) : RepH K (ρ ++ [p]) (upd H p o) (μ ++ [lo]) := by
  refine ⟨?_, by simp [R.len], fun n a u h1 h2 => ?_⟩
  · rw [List.nodup_append]
    refine ⟨R.nd, by simp, fun a ha b hb => ?_⟩
    simp at hb
    subst hb
    obtain ⟨u, e⟩ := R.mem_some ha
    exact ne_of_none e hp
  · by_cases hn : n < ρ.length
    · rw [List.getElem?_append_left hn] at h1
      rw [List.getElem?_append_left (by rw [← R.len]; exact hn)] at h2
      have q := R.at_ n a u h1 h2
      obtain ⟨z, e⟩ := q.some
      exact q.ext (Ext.push hp) (upd_ne (ne_of_none e hp))
    · have hl : n < (ρ ++ [p]).length := (List.getElem?_eq_some_iff.mp h1).1
      have e : n = ρ.length := by simp at hl; omega
      subst e
      rw [List.getElem?_append_right (Nat.le_refl _)] at h1
      rw [R.len, List.getElem?_append_right (Nat.le_refl _)] at h2
      simp at h1 h2
      subst h1 h2
      exact h
theorem push_get {p : Addr} (R : RepH K ρ H μ) : (ρ ++ [p])[μ.length]? = some p := by
  rw [← R.len]; simp
theorem Ext.wr {p : Addr} {o : HO} (hm : Mut (H p)) : Ext ρ H ρ (upd H p o) :=
  ⟨⟨[], by simp⟩, fun a vs e => by rw [upd_ne (by rintro rfl; rw [e] at hm; exact hm)]; exact e, fun a o u e => by rw [upd_ne (by rintro rfl; rw [e] at hm; exact hm)]; exact e, fun a fs e => by rw [upd_ne (by rintro rfl; rw [e] at hm; exact hm)]; exact e⟩
theorem RepH.wr (R : RepH K ρ H μ) {n : Nat} {p : Addr} {o : HO} {lo : LObj} (hm : Mut (H p)) (hn : ρ[n]? = some p) (h : RepO K ρ (upd H p o) p lo) : RepH K ρ (upd H p o) (μ.set n lo) := by
  have hlt := (List.getElem?_eq_some_iff.mp hn).1
  refine ⟨R.nd, by simp [R.len], fun m a u h1 h2 => ?_⟩
  by_cases hmn : m = n
  · subst hmn
    rw [hn] at h1
    cases h1
    rw [List.getElem?_set_self (by rw [← R.len]; exact hlt)] at h2
    cases h2
    exact h
  · rw [List.getElem?_set_ne (Ne.symm hmn)] at h2
    have hap : a ≠ p := by
      rintro rfl
      obtain ⟨x1, y1⟩ := List.getElem?_eq_some_iff.mp h1
      obtain ⟨x2, y2⟩ := List.getElem?_eq_some_iff.mp hn
      exact hmn ((List.getElem_inj R.nd).mp (y1.trans y2.symm))
    exact (R.at_ m a u h1 h2).ext (Ext.wr hm) (upd_ne hap)
end
noncomputable abbrev FE := Loc → Mem → Option (D × Mem)
noncomputable abbrev FT := Loc → Mem → Option (Bool × Mem)
noncomputable abbrev FA := Loc → Mem → Option (List D × Mem)
inductive Out where
  | next (δ : Loc) (μ : Mem) | ret (d : D) (μ : Mem) | brk (δ : Loc) (μ : Mem) | cont (δ : Loc) (μ : Mem)
    | exc (c : Str) (fs : List (Str × D)) (μ : Mem)
noncomputable abbrev FS := Loc → Mem → Option Out
section
variable (K : PySem.W.Frag)
structure At (ρ : List Addr) (H : Hp) (σ : L2.St) (δ : Loc) (μ : Mem) : Prop where
  st : RepSt K ρ H σ δ
  hp : RepH K ρ H μ
  len : σ.length = δ.length
noncomputable def tM (φ : FE) : TE := fun σ H Q => ∃ ρ δ μ d μ', At K ρ H σ δ μ ∧ φ δ μ = some (d, μ') ∧ ∀ ρ' H' v, Ext ρ H ρ' H' → RepH K ρ' H' μ' → RepV K ρ' H' d v → Q v H'
noncomputable def tMT (φ : FT) : TT := fun σ H Q => ∃ ρ δ μ b μ', At K ρ H σ δ μ ∧ φ δ μ = some (b, μ') ∧ ∀ ρ' H', Ext ρ H ρ' H' → RepH K ρ' H' μ' → Q b H'
noncomputable def tMA (φ : FA) : TA := fun σ H Q => ∃ ρ δ μ ds μ', At K ρ H σ δ μ ∧ φ δ μ = some (ds, μ') ∧ ∀ ρ' H' vs, Ext ρ H ρ' H' → RepH K ρ' H' μ' → RepVs K ρ' H' ds vs → Q vs H'
noncomputable def OutOk (W : XK) (ρ : List Addr) (H : Hp) (E : Ends) : Out → Prop
  | .next δ' μ' => ∀ ρ' σ' H', Ext ρ H ρ' H' → At K ρ' H' σ' δ' μ' → E.nx σ' H'
  | .brk δ' μ' => ∀ ρ' σ' H', Ext ρ H ρ' H' → At K ρ' H' σ' δ' μ' → E.bk σ' H'
  | .cont δ' μ' => ∀ ρ' σ' H', Ext ρ H ρ' H' → At K ρ' H' σ' δ' μ' → E.ct σ' H'
  | .ret d μ' => ∀ ρ' v H', Ext ρ H ρ' H' → RepH K ρ' H' μ' → RepV K ρ' H' d v → E.rt v H'
  | .exc c fs μ' => ∀ ρ' H' C dx, PySem.W.nsIn K mainGlobals c = some (some (.ref C)) → Ext ρ H ρ' H' → RepH K ρ' H' μ' → RepX K ρ' H' fs dx → W (.ref C) dx H'
noncomputable def tMS (W : XK) (ψ : FS) : TS := fun E σ H => ∃ ρ δ μ o, At K ρ H σ δ μ ∧ ψ δ μ = some o ∧ OutOk K W ρ H E o
end
noncomputable def ME (X : Cx) (e : Expr) (φ : FE) : Prop := PE X e (tM X.K φ)
noncomputable def MT (X : Cx) (e : Expr) (φ : FT) : Prop := PT X e (tMT X.K φ)
noncomputable def MW (X : Cx) (e : Expr) (φ : FT) : Prop := PW X e (tMT X.K φ)
noncomputable def MA (X : Cx) (es : List Expr) (φ : FA) : Prop := PA X es (tMA X.K φ)
noncomputable def MS (X : Cx) (st : Stmt) (ψ : FS) : Prop := PS X st (tMS X.K (wishX X) ψ)
noncomputable def MSs (X : Cx) (st : List Stmt) (ψ : FS) : Prop := PSs X st (tMS X.K (wishX X) ψ)
noncomputable abbrev FF := List D → Mem → Option (D × Mem)
noncomputable def spM (K : PySem.W.Frag) (n : Nat) (F : FF) : Sp := fun vs H Q _ => vs.length = n ∧ ∃ ρ ds μ d μ', RepVs K ρ H ds vs ∧ RepH K ρ H μ ∧ F ds μ = some (d, μ') ∧ ∀ ρ' H' v, Ext ρ H ρ' H' → RepH K ρ' H' μ' → RepV K ρ' H' d v → Q v H'
theorem At.ext {K : PySem.W.Frag} {ρ ρ' : List Addr} {H H' : Hp} {σ : L2.St} {δ : Loc} {μ μ' : Mem} (a : At K ρ H σ δ μ) (e : Ext ρ H ρ' H') (R : RepH K ρ' H' μ') : At K ρ' H' σ δ μ' := ⟨a.st.ext e, R, a.len⟩
theorem me_of {X : Cx} {e : Expr} {t : TE} {φ : FE} (h : PE X e t) (w : ∀ ρ δ μ σ H d μ' Q, At X.K ρ H σ δ μ → φ δ μ = some (d, μ') → (∀ ρ' H' v, Ext ρ H ρ' H' → RepH X.K ρ' H' μ' → RepV X.K ρ' H' d v → Q v H') → t σ H Q) : ME X e φ :=
  fun pins s σ H Q I ⟨ρ, δ, μ, d, μ', a, e, k⟩ => h pins s σ H Q I (w ρ δ μ σ H d μ' Q a e k)
theorem mt_of {X : Cx} {e : Expr} {t : TT} {φ : FT} (h : PT X e t) (w : ∀ ρ δ μ σ H b μ' Q, At X.K ρ H σ δ μ → φ δ μ = some (b, μ') → (∀ ρ' H', Ext ρ H ρ' H' → RepH X.K ρ' H' μ' → Q b H') → t σ H Q) : MT X e φ :=
  fun pins s σ H Q I ⟨ρ, δ, μ, d, μ', a, e, k⟩ => h pins s σ H Q I (w ρ δ μ σ H d μ' Q a e k)
theorem mw_of {X : Cx} {e : Expr} {t : TT} {φ : FT} (h : PW X e t) (w : ∀ ρ δ μ σ H b μ' Q, At X.K ρ H σ δ μ → φ δ μ = some (b, μ') → (∀ ρ' H', Ext ρ H ρ' H' → RepH X.K ρ' H' μ' → Q b H') → t σ H Q) : MW X e φ :=
  fun wh pins s σ H Q I ⟨ρ, δ, μ, d, μ', a, e, k⟩ => h wh pins s σ H Q I (w ρ δ μ σ H d μ' Q a e k)
theorem ma_of {X : Cx} {e : List Expr} {t : TA} {φ : FA} (h : PA X e t) (w : ∀ ρ δ μ σ H ds μ' Q, At X.K ρ H σ δ μ → φ δ μ = some (ds, μ') → (∀ ρ' H' vs, Ext ρ H ρ' H' → RepH X.K ρ' H' μ' → RepVs X.K ρ' H' ds vs → Q vs H') → t σ H Q) : MA X e φ :=
  fun pos pins s σ H Q I ⟨ρ, δ, μ, d, μ', a, e, k⟩ => h pos pins s σ H Q I (w ρ δ μ σ H d μ' Q a e k)
theorem ms_of {X : Cx} {e : Stmt} {t : TS} {ψ : FS} (h : PS X e t) (w : ∀ ρ δ μ σ H o E, At X.K ρ H σ δ μ → ψ δ μ = some o → OutOk X.K (wishX X) ρ H E o → t E σ H) : MS X e ψ :=
  fun pins s σ H E I ⟨ρ, δ, μ, o, a, e, k⟩ => h pins s σ H E I (w ρ δ μ σ H o E a e k)
theorem mss_of {X : Cx} {e : List Stmt} {t : TS} {ψ : FS} (h : PSs X e t) (w : ∀ ρ δ μ σ H o E, At X.K ρ H σ δ μ → ψ δ μ = some o → OutOk X.K (wishX X) ρ H E o → t E σ H) : MSs X e ψ :=
  fun pins s σ H E I ⟨ρ, δ, μ, o, a, e, k⟩ => h pins s σ H E I (w ρ δ μ σ H o E a e k)
end M
set_option Elab.async false
set_option linter.all false
set_option maxRecDepth 100000
set_option autoImplicit false
namespace M
open PySem PySem.Spec PyProof.Rows L2
theorem bind_inv {α β : Type} {o : Option α} {f : α → Option β} {b : β} (h : o.bind f = some b) : ∃ a, o = some a ∧ f a = some b := by
  cases o with
  | none => cases h
  | some a => exact ⟨a, rfl, h⟩
section
variable {X : Cx} {a b c e : Expr} {es : List Expr} {φ ψ χ : FE} {pos : Pos}
@[simp] noncomputable def fVar (i : Nat) : FE := fun δ μ => match δ[i]? with
  | some (some d) => some (d, μ)
  | _ => none
@[simp] noncomputable def fC (d : D) : FE := fun _ μ => some (d, μ)
theorem me_var {i : Nat} {x : Str} (h : PE X (.Name x pos) (tVar i)) : ME X (.Name x pos) (fVar i) :=
  me_of h fun ρ δ μ σ H d μ' Q A e k => by
    unfold fVar at e
    split at e
    · rename_i d' hd
      cases e
      obtain ⟨v, hv, r⟩ := A.st i _ hd
      exact ⟨v, hv, k ρ H v Ext.refl A.hp r⟩
    · cases e
theorem me_c {v : V} {d : D} (h : PE X e (tC v)) (r : ∀ ρ H, RepV X.K ρ H d v) : ME X e (fC d) :=
  me_of h fun ρ δ μ σ H d' μ' Q A e k => by
    cases e
    exact k ρ H v Ext.refl A.hp (r ρ H)
theorem me_int {i j} : ME X (.Constant (.int i) j pos) (fC (.int i)) := me_c pe_int fun _ _ => .int
theorem me_bl {i j} : ME X (.Constant (.bool i) j pos) (fC (.bl i)) := me_c pe_bl fun _ _ => .bl
theorem me_non {j} : ME X (.Constant .none j pos) (fC .non) := me_c pe_non fun _ _ => .non
theorem me_str {x j} : ME X (.Constant (.str x) j pos) (fC (.str x)) := me_c pe_str fun _ _ => .str
theorem mv (i : Nat) {x : Str} (hN : X.N[i]? = some x := by rfl) (hv : Vis X.env.scope x := by first | exact Or.inl rfl | exact Or.inr (Or.inl rfl) | exact Or.inr (Or.inr rfl)) (hd : (x == ("__debug__" : Str)) = false := by decide)
    (hcd : (x == ("__classdict__" : Str)) = false := by decide) : ME X (.Name x pos) (fVar i) := me_var (pe_var hN hv hd hcd)
theorem me_gty {x : Str} {T : String} (hm : X.mg x = none) (hb : bootBuiltins x = some (.type T)) (hg : Gl X x := by rfl) (hn : x ≠ "__name__" := by decide) (hd : (x == ("__debug__" : Str)) = false := by decide) : ME X (.Name x pos) (fC (.ty T)) :=
  me_c (pe_bltn (v := V.ty T) hg hm hb (show L2.RelV (V.ty T) (Value.type T) from rfl) hn hd) fun _ _ => .ty
noncomputable abbrev G2 := D → D → Mem → Option (D × Mem)
noncomputable def rM (K : PySem.W.Frag) (g : G2) : R2 := fun x y H Q => ∃ ρ dx dy μ d μ', RepV K ρ H dx x ∧ RepV K ρ H dy y ∧ RepH K ρ H μ ∧ g dx dy μ = some (d, μ') ∧ ∀ ρ' H' v, Ext ρ H ρ' H' → RepH K ρ' H' μ' → RepV K ρ' H' d v → Q v H'
noncomputable def OpM (X : Cx) (f : Value → Value → Sem Value) (g : G2) : Prop := OpR X f (rM X.K g)
@[simp] noncomputable def fBin (g : G2) (φ ψ : FE) : FE := fun δ μ => (φ δ μ).bind fun p => (ψ δ p.2).bind fun q => g p.1 q.1 q.2
theorem bin_w {g : G2} {ρ : List Addr} {δ : Loc} {μ : Mem} {σ : L2.St} {H : Hp} {d : D} {μ' : Mem} {Q : VK} (A : At X.K ρ H σ δ μ) (e : fBin g φ ψ δ μ = some (d, μ'))
    (k : ∀ ρ' H' v, Ext ρ H ρ' H' → RepH X.K ρ' H' μ' → RepV X.K ρ' H' d v → Q v H') : tOp (rM X.K g) (tM X.K φ) (tM X.K ψ) σ H Q := by
  obtain ⟨⟨x, μ1⟩, e1, e⟩ := bind_inv e
  obtain ⟨⟨y, μ2⟩, e2, e⟩ := bind_inv e
  refine ⟨ρ, δ, μ, x, μ1, A, e1, fun ρ1 H1 v x1 R1 r1 => ?_⟩
  refine ⟨ρ1, δ, μ1, y, μ2, A.ext x1 R1, e2, fun ρ2 H2 u x2 R2 r2 => ?_⟩
  exact ⟨ρ2, x, y, μ2, d, μ', r1.ext x2, r2, R2, e, fun ρ3 H3 w x3 R3 r3 => k ρ3 H3 w (x1.trans (x2.trans x3)) R3 r3⟩
theorem me_op {op : Operator} {g : G2} (ho : OpM X (binaryOp op) g) (ha : ME X a φ) (hb : ME X b ψ) : ME X (.BinOp a op b pos) (fBin g φ ψ) :=
  me_of (pe_op ho ha hb) fun _ _ _ _ _ _ _ _ A e k => bin_w A e k
theorem me_cmp {op : CmpOp} {g : G2} (ho : OpM X (compareOp op) g) (ha : ME X a φ) (hb : ME X b ψ) (hm : behindInMarks op b = false := by first | exact nobehind _ (by decide) (by decide) | rfl | with_unfolding_all rfl) : ME X (.Compare a [op] [b] pos) (fBin g φ ψ) :=
  me_of (pe_cmpR ho ha hb hm) fun _ _ _ _ _ _ _ _ A e k => bin_w A e k
@[simp] noncomputable def fTest (φ : FE) : FT := fun δ μ => (φ δ μ).bind fun p => match p.1 with
  | .bl b => some (b, p.2)
  | _ => none
theorem test_inv {δ : Loc} {μ μ' : Mem} {b : Bool} (h : fTest φ δ μ = some (b, μ')) : φ δ μ = some (.bl b, μ') := by
  obtain ⟨⟨x, μ1⟩, e1, e⟩ := bind_inv h
  dsimp only at e
  split at e
  · cases e
    exact e1
  · cases e
theorem mt_cmp {op : CmpOp} {g : G2} (ho : OpM X (compareOp op) g) (ha : ME X a φ) (hb : ME X b ψ) (hm : behindInMarks op b = false := by first | exact nobehind _ (by decide) (by decide) | rfl | with_unfolding_all rfl) : MT X (.Compare a [op] [b] pos) (fTest (fBin g φ ψ)) :=
  mt_of (pt_cmpR ho ha hb hm) fun ρ δ μ σ H b μ' Q A e k => bin_w (Q := fun x H' => ∃ k, x = .bl k ∧ Q k H') A (test_inv e) fun ρ' H' v x R r => ⟨b, r.bl_inv, k ρ' H' x R⟩
@[simp] noncomputable def gAdd : G2 := fun x y μ => match x, y with
  | .int i, .int j => some (.int (i + j), μ)
  | .tup as, .tup bs => bif decide (as.length + bs.length ≤ 1000000) then some (.tup (as ++ bs), μ) else none
  | .loc l, .loc m => match μ[l]?, μ[m]? with
    | some (.lst as), some (.lst bs) => bif decide (as.length + bs.length ≤ 1000000) then some (.loc μ.length, μ ++ [.lst (as ++ bs)]) else none
    | _, _ => none
  | _, _ => none
@[simp] noncomputable def gSub : G2 := fun x y μ => match x, y with
  | .int i, .int j => some (.int (i - j), μ)
  | _, _ => none
noncomputable def mulOk (i j : Int) : Bool := decide (-(2 ^ 64) < i ∧ i < 2 ^ 64) || decide (-(2 ^ 64) < j ∧ j < 2 ^ 64) || (decide (i.natAbs < 2 ^ 1000) && decide (j.natAbs < 2 ^ 1000))
theorem mulOk_ok {i j : Int} (h : mulOk i j = true) : IntMulOk i j := by
  unfold mulOk at h
  rw [Bool.or_eq_true, Bool.or_eq_true, Bool.and_eq_true] at h
  rcases h with (h | h) | ⟨h1, h2⟩
  · have h := of_decide_eq_true h
    exact .of_left (intBits_le_64 h.1 h.2)
  · have h := of_decide_eq_true h
    exact .of_right (intBits_le_64 h.1 h.2)
  · exact .of_le (m := 1000) (n := 1000) (intBits_le (of_decide_eq_true h1)) (intBits_le (of_decide_eq_true h2)) (by decide)
noncomputable def gMul : G2 := fun x y μ => match x, y with
  | .int i, .int j => bif mulOk i j then some (.int (i * j), μ) else none
  | .tup ds, .int n => bif decide (2 ≤ n ∧ n ≤ 1000 ∧ 0 < ds.length ∧ ds.length ≤ 1000) then some (.tup (List.replicate n.toNat ds).flatten, μ) else none
  | .loc l, .int n => match μ[l]? with
    | some (.lst ds) => bif decide (n ≤ 1000 ∧ -(2 ^ 62) ≤ n ∧ ds.length ≤ 1000) then some (.loc μ.length, μ ++ [.lst (List.replicate n.toNat ds).flatten]) else none
    | _ => none
  | _, _ => none
@[simp] noncomputable def gMod : G2 := fun x y μ => match x, y with
  | .int i, .int j => bif decide (0 < j) then some (.int (i % j), μ) else none
  | _, _ => none
@[simp] noncomputable def gDiv : G2 := fun x y μ => match x, y with
  | .int i, .int j => bif decide (0 < j ∧ j < 1606938044258990275541962092341162602522202993782792835301376) then some (.int (i / j), μ) else none
  | _, _ => none
noncomputable def gPow : G2 := fun x y μ => match x, y with
  | .int i, .int j => bif decide (0 ≤ j ∧ j ≤ 100000 ∧ i.natAbs < 1606938044258990275541962092341162602522202993782792835301376) then some (.int (i ^ j.toNat), μ) else none
  | _, _ => none
theorem bif_inv {α : Type} {c : Bool} {o : Option α} {x : α} (h : (bif c then o else none) = some x) : c = true ∧ o = some x := by
  cases c with
  | true => exact ⟨rfl, h⟩
  | false => cases h
theorem opM_int {f : Value → Value → Sem Value} {g : G2} {C : Int → Int → Prop} {h : Int → Int → Int} (o : OpR X f (rI C fun i j => .int (h i j)))
    (w : ∀ x y μ d μ', g x y μ = some (d, μ') → ∃ i j, x = .int i ∧ y = .int j ∧ C i j ∧ d = .int (h i j) ∧ μ' = μ) : OpM X f g := by
  intro pins s σ H x y v u Q I rx ry ⟨ρ, dx, dy, μ, d, μ', r1, r2, R, e, k⟩
  obtain ⟨i, j, rfl, rfl, hc, rfl, rfl⟩ := w _ _ _ _ _ e
  refine o pins s σ H x y v u Q I rx ry ⟨i, j, r1.int_inv, r2.int_inv, hc, ?_⟩
  exact k ρ H _ Ext.refl R .int
theorem opM_sub : OpM X (binaryOp .Sub) gSub := opM_int (C := fun _ _ => True) (h := fun i j => i - j) (opI fun _ _ _ _ _ _ _ _ q => sub_int q) fun x y μ d μ' e => by
  unfold gSub at e
  split at e
  · cases e; exact ⟨_, _, rfl, rfl, trivial, rfl, rfl⟩
  · cases e
theorem opM_mod : OpM X (binaryOp .Mod) gMod := opM_int (h := fun i j => i % j) op_mod fun x y μ d μ' e => by
  unfold gMod at e
  split at e
  · obtain ⟨h1, e⟩ := bif_inv e
    cases e; have h2 := of_decide_eq_true h1; exact ⟨_, _, rfl, rfl, h2, rfl, rfl⟩
  · cases e
noncomputable def CDivB (i j : Int) : Prop := 0 < j ∧ j < 1606938044258990275541962092341162602522202993782792835301376
theorem op_fdivB : OpR X (binaryOp .FloorDiv) (rI CDivB fun i j => .int (i / j)) := opI fun i j _ _ _ _ _ hc q => by
  have h1 : (0 : Int) < j := hc.1
  have h2 : j < 1606938044258990275541962092341162602522202993782792835301376 := hc.2
  refine floordiv_int (by omega) (by rw [Int.fdiv_eq_ediv_of_nonneg i (by omega)]; exact q) (.inl (PyProof.noPylong_of_log2 ?_))
  have : j.natAbs.log2 < 200 := (Nat.log2_lt (by omega)).mpr (by rw [show 2 ^ 200 = 1606938044258990275541962092341162602522202993782792835301376 from rfl]; omega)
  omega
theorem opM_div : OpM X (binaryOp .FloorDiv) gDiv := opM_int (C := CDivB) (h := fun i j => i / j) op_fdivB fun x y μ d μ' e => by
  unfold gDiv at e
  split at e
  · obtain ⟨h1, e⟩ := bif_inv e
    cases e; have h2 := of_decide_eq_true h1; exact ⟨_, _, rfl, rfl, h2, rfl, rfl⟩
  · cases e
noncomputable def CPowB (i j : Int) : Prop := 0 ≤ j ∧ j ≤ 100000 ∧ i.natAbs < 1606938044258990275541962092341162602522202993782792835301376
theorem op_powB : OpR X (binaryOp .Pow) (rI CPowB fun i j => .int (i ^ j.toNat)) := opI fun i j _ _ _ _ _ hc q => by
  refine pow_int hc.1 ?_ q
  have hb : Builtin.Int.intBits i ≤ 200 := intBits_le (by rw [show 2 ^ 200 = 1606938044258990275541962092341162602522202993782792835301376 from rfl]; exact hc.2.2)
  have h2 := hc.2.1
  have h1 := hc.1
  calc (Builtin.Int.intBits i : Int) * j ≤ 200 * 100000 := Int.mul_le_mul (by omega) h2 h1 (by omega)
    _ ≤ 2 ^ 27 := by decide
theorem opM_pow : OpM X (binaryOp .Pow) gPow := opM_int (C := CPowB) (h := fun i j => i ^ j.toNat) op_powB fun x y μ d μ' e => by
  unfold gPow at e
  split at e
  · obtain ⟨h1, e⟩ := bif_inv e
    cases e; have h2 := of_decide_eq_true h1; exact ⟨_, _, rfl, rfl, h2, rfl, rfl⟩
  · cases e
@[simp] noncomputable def gCmp (p : Int → Int → Bool) : G2 := fun x y μ => match x, y with
  | .int i, .int j => some (.bl (p i j), μ)
  | _, _ => none
theorem opM_cmp {f : Value → Value → Sem Value} {p : Int → Int → Bool} (o : OpR X f (rI0 fun i j => .bl (p i j))) : OpM X f (gCmp p) := by
  intro pins s σ H x y v u Q I rx ry ⟨ρ, dx, dy, μ, d, μ', r1, r2, R, e, k⟩
  unfold gCmp at e
  split at e
  · cases e
    exact o pins s σ H x y v u Q I rx ry ⟨_, _, r1.int_inv, r2.int_inv, k ρ H _ Ext.refl R .bl⟩
  · cases e
theorem opM_lt : OpM X (compareOp .Lt) (gCmp fun i j => decide (i < j)) := opM_cmp op_lt
theorem opM_gt : OpM X (compareOp .Gt) (gCmp fun i j => decide (j < i)) := opM_cmp op_gt
@[simp] noncomputable def fAnd (φ ψ : FE) : FE := fun δ μ => (φ δ μ).bind fun p => match p.1 with
  | .bl true => ψ δ p.2
  | .bl false => some (.bl false, p.2)
  | _ => none
@[simp] noncomputable def fOr (φ ψ : FE) : FE := fun δ μ => (φ δ μ).bind fun p => match p.1 with
  | .bl false => ψ δ p.2
  | .bl true => some (.bl true, p.2)
  | _ => none
@[simp] noncomputable def fNot (φ : FE) : FE := fun δ μ => (φ δ μ).bind fun p => match p.1 with
  | .bl b => some (.bl (!b), p.2)
  | _ => none
theorem me_one {op} (h : ME X a φ) : ME X (.BoolOp op [a] pos) φ := pe_one h
theorem me_or {rest : List Expr} (ha : ME X a φ) (hb : ME X (.BoolOp .Or (b :: rest) pos) ψ) : ME X (.BoolOp .Or (a :: b :: rest) pos) (fOr φ ψ) :=
  me_of (pe_or ha hb) fun ρ δ μ σ H d μ' Q A e k => by
    obtain ⟨⟨x, μ1⟩, e1, e⟩ := bind_inv e
    refine ⟨ρ, δ, μ, x, μ1, A, e1, fun ρ1 H1 v x1 R1 r1 => ?_⟩
    dsimp only at e
    split at e
    · exact ⟨false, r1.bl_inv, iteF ⟨ρ1, δ, μ1, d, μ', A.ext x1 R1, e, fun ρ2 H2 w x2 R2 r2 => k ρ2 H2 w (x1.trans x2) R2 r2⟩⟩
    · cases e
      exact ⟨true, r1.bl_inv, iteT (k ρ1 H1 _ x1 R1 .bl)⟩
    · cases e
theorem me_not (ha : ME X a φ) : ME X (.UnaryOp .Not a pos) (fNot φ) :=
  me_of (pe_not ha) fun ρ δ μ σ H d μ' Q A e k => by
    obtain ⟨⟨x, μ1⟩, e1, e⟩ := bind_inv e
    refine ⟨ρ, δ, μ, x, μ1, A, e1, fun ρ1 H1 v x1 R1 r1 => ?_⟩
    dsimp only at e
    split at e
    · rename_i q
      cases e
      exact ⟨q, r1.bl_inv, k ρ1 H1 _ x1 R1 .bl⟩
    · cases e
@[simp] noncomputable def tAndT (φ ψ : FT) : FT := fun δ μ => (φ δ μ).bind fun p => bif p.1 then ψ δ p.2 else some (false, p.2)
@[simp] noncomputable def tOrT (φ ψ : FT) : FT := fun δ μ => (φ δ μ).bind fun p => bif p.1 then some (true, p.2) else ψ δ p.2
@[simp] noncomputable def tNotT (φ : FT) : FT := fun δ μ => (φ δ μ).bind fun p => some (!p.1, p.2)
theorem mt_val {φ : FE} (h : ME X a φ) (he : ∀ whole, isTrue a X.env whole = (do let v ← whole; standAt a.pos; holding [v] (truthy v)) := by intro _; rfl) : MT X a (fTest φ) :=
  mt_of (pt_val h he) fun ρ δ μ σ H b μ' Q A e k => ⟨ρ, δ, μ, .bl b, μ', A, test_inv e, fun ρ' H' v x R r => ⟨b, r.bl_inv, k ρ' H' x R⟩⟩
theorem MW.mt {φ : FT} (h : MW X a φ) : MT X a φ := h _
theorem mw_and1 {φ : FT} (h : MT X a φ) : MW X (.BoolOp .And [a] pos) φ := pw_and1 h
theorem mw_or1 {φ : FT} (h : MT X a φ) : MW X (.BoolOp .Or [a] pos) φ := pw_or1 h
theorem mw_and {φ ψ : FT} {rest : List Expr} (ha : MT X a φ) (hb : MW X (.BoolOp .And (b :: rest) pos) ψ) : MW X (.BoolOp .And (a :: b :: rest) pos) (tAndT φ ψ) :=
  mw_of (pw_and ha hb) fun ρ δ μ σ H b μ' Q A e k => by
    obtain ⟨⟨x, μ1⟩, e1, e⟩ := bind_inv e
    refine ⟨ρ, δ, μ, x, μ1, A, e1, fun ρ1 H1 x1 R1 => ?_⟩
    cases x with
    | true => exact iteT ⟨ρ1, δ, μ1, b, μ', A.ext x1 R1, e, fun ρ2 H2 x2 R2 => k ρ2 H2 (x1.trans x2) R2⟩
    | false =>
      cases e
      exact iteF (k ρ1 H1 x1 R1)
theorem mw_or {φ ψ : FT} {rest : List Expr} (ha : MT X a φ) (hb : MW X (.BoolOp .Or (b :: rest) pos) ψ) : MW X (.BoolOp .Or (a :: b :: rest) pos) (tOrT φ ψ) :=
  mw_of (pw_or ha hb) fun ρ δ μ σ H b μ' Q A e k => by
    obtain ⟨⟨x, μ1⟩, e1, e⟩ := bind_inv e
    refine ⟨ρ, δ, μ, x, μ1, A, e1, fun ρ1 H1 x1 R1 => ?_⟩
    cases x with
    | false => exact iteF ⟨ρ1, δ, μ1, b, μ', A.ext x1 R1, e, fun ρ2 H2 x2 R2 => k ρ2 H2 (x1.trans x2) R2⟩
    | true =>
      cases e
      exact iteT (k ρ1 H1 x1 R1)
theorem mt_not {φ : FT} (ha : MT X a φ) : MT X (.UnaryOp .Not a pos) (tNotT φ) :=
  mt_of (pt_not ha) fun ρ δ μ σ H b μ' Q A e k => by
    obtain ⟨⟨x, μ1⟩, e1, e⟩ := bind_inv e
    cases e
    exact ⟨ρ, δ, μ, x, μ1, A, e1, fun ρ1 H1 x1 R1 => k ρ1 H1 x1 R1⟩
structure MAn (X : Cx) (es : List Expr) (φ : FA) : Prop where
  ma : MA X es φ
  len : ∀ δ μ ds μ', φ δ μ = some (ds, μ') → ds.length = es.length
@[simp] noncomputable def aNil : FA := fun _ μ => some ([], μ)
@[simp] noncomputable def aCons (φ : FE) (ψ : FA) : FA := fun δ μ => (φ δ μ).bind fun p => (ψ δ p.2).bind fun q => some (p.1 :: q.1, q.2)
theorem man_nil : MAn X [] aNil := ⟨ma_of pa_nil fun ρ δ μ σ H ds μ' Q A e k => by
    cases e
    exact k ρ H [] Ext.refl A.hp .nil, fun _ _ _ _ e => by cases e; rfl⟩
noncomputable def noStar : Expr → Bool
  | .Starred .. => false
  | _ => true
theorem star_ok {e : Expr} {es : List Expr} {env : Env} (h : noStar e = true) : starEach (e :: es) env = (false, eval e env) :: starEach es env := by
  cases e <;> first | rfl | cases h
theorem man_cons {φ : FE} {ψ : FA} (ha : ME X e φ) (hr : MAn X es ψ) (hs : starEach (e :: es) X.env = (false, eval e X.env) :: starEach es X.env := by exact star_ok rfl) : MAn X (e :: es) (aCons φ ψ) :=
  ⟨ma_of (pa_cons ha hr.ma hs) fun ρ δ μ σ H ds μ' Q A e k => by
    obtain ⟨⟨x, μ1⟩, e1, e⟩ := bind_inv e
    obtain ⟨⟨y, μ2⟩, e2, e⟩ := bind_inv e
    cases e
    refine ⟨ρ, δ, μ, x, μ1, A, e1, fun ρ1 H1 v x1 R1 r1 => ?_⟩
    refine ⟨ρ1, δ, μ1, y, μ2, A.ext x1 R1, e2, fun ρ2 H2 u x2 R2 r2 => ?_⟩
    exact k ρ2 H2 _ (x1.trans x2) R2 (.cons (r1.ext x2) r2), fun δ μ ds μ' e => by
    obtain ⟨⟨x, μ1⟩, e1, e⟩ := bind_inv e
    obtain ⟨⟨y, μ2⟩, e2, e⟩ := bind_inv e
    cases e
    have := hr.len _ _ _ _ e2
    simp [this]⟩
@[simp] noncomputable def fTup (φ : FA) : FE := fun δ μ => (φ δ μ).bind fun p => some (.tup p.1, p.2)
@[simp] noncomputable def fLst (φ : FA) : FE := fun δ μ => (φ δ μ).bind fun p => some (.loc p.2.length, p.2 ++ [.lst p.1])
theorem me_tup {x1} {φ : FA} (h : MAn X es φ) (hn : es.length ≤ 1000 := by decide) : ME X (.Tuple es x1 pos) (fTup φ) :=
  me_of (pe_tup h.ma) fun ρ δ μ σ H d μ' Q A e k => by
    obtain ⟨⟨x, μ1⟩, e1, e⟩ := bind_inv e
    cases e
    refine ⟨ρ, δ, μ, x, μ1, A, e1, fun ρ1 H1 vs x1 R1 r1 => ⟨?_, fun p hp => ?_⟩⟩
    · rw [← r1.length, h.len _ _ _ _ e1]
      exact Nat.le_of_lt (small1000 hn)
    · exact k ρ1 _ _ (x1.trans (Ext.new hp)) (R1.newTup hp) (.tup upd_same (r1.ext (Ext.new hp)))
theorem me_lst {φ : FA} (h : MAn X es φ) (hn : es.length ≤ 1000 := by decide) : ME X (.List es pos) (fLst φ) :=
  me_of (pe_lst h.ma) fun ρ δ μ σ H d μ' Q A e k => by
    obtain ⟨⟨x, μ1⟩, e1, e⟩ := bind_inv e
    cases e
    refine ⟨ρ, δ, μ, x, μ1, A, e1, fun ρ1 H1 vs x1 R1 r1 => ⟨?_, fun p hp => ?_⟩⟩
    · rw [← r1.length, h.len _ _ _ _ e1]
      exact Nat.le_of_lt (small1000 hn)
    · exact k _ _ _ (x1.trans (Ext.push hp)) (R1.push hp ⟨vs, upd_same, r1.ext (Ext.push hp)⟩) (.loc (push_get R1))
@[simp] noncomputable def fCall (F : FF) (φ : FA) : FE := fun δ μ => (φ δ μ).bind fun p => F p.1 p.2
theorem me_call {k n : Nat} {f : Addr} {fd : FuncData} {ps : List Str} {F : FF} {x : Str} {p : Pos} {φ : FA} (G : FnOk X.prog X.w X.K X.mg X.base CX0 k f fd ps (spM X.K n F)) (hr : Room k X.A) (hm : X.mg x = some (.ref f)) (hk : PySem.W.keepIn X.K (.ref f) = true) (hb : Binds X.K fd ps [])
    (ha : MAn X (e :: es) φ) (hn : (e :: es).length = n := by rfl) (hg : Gl X x := by rfl) (hdb : (x == ("__debug__" : Str)) = false := by decide) (he : starEach (e :: es) X.env = (false, eval e X.env) :: starEach es X.env := by exact star_ok rfl) (hpl : (backTo pos (starEach es X.env)).any (·.1) = false := by rfl) :
    ME X (.Call (.Name x p) (e :: es) [] pos) (fCall F φ) :=
  me_of (pe_call G hr hg hm hk hb .nil pass0 ha.ma hdb he hpl) fun ρ δ μ σ H d μ' Q A e k => by
    obtain ⟨⟨x, μ1⟩, e1, e⟩ := bind_inv e
    refine ⟨ρ, δ, μ, x, μ1, A, e1, fun ρ1 H1 vs x1 R1 r1 => ?_⟩
    show spM X.K n F (vs ++ []) H1 Q E0
    rw [List.append_nil]
    exact ⟨by rw [← r1.length, ha.len _ _ _ _ e1]; exact hn, ρ1, x, μ1, d, μ', r1, R1, e, fun ρ2 H2 v x2 R2 r2 => k ρ2 H2 v (x1.trans x2) R2 r2⟩
noncomputable abbrev GL := List D → Mem → Option (D × Mem)
noncomputable def rCM (K : PySem.W.Frag) (g : GL) : List V → Hp → VK → Prop := fun vs H Q => ∃ ρ ds μ d μ', RepVs K ρ H ds vs ∧ RepH K ρ H μ ∧ g ds μ = some (d, μ') ∧ ∀ ρ' H' v, Ext ρ H ρ' H' → RepH K ρ' H' μ' → RepV K ρ' H' d v → Q v H'
noncomputable def CallM (X : Cx) (f : Value) (g : GL) : Prop := CallR X f (rCM X.K g)
theorem cb_w {g : GL} {φ : FA} {ρ : List Addr} {δ : Loc} {μ : Mem} {σ : L2.St} {H : Hp} {d : D} {μ' : Mem} {Q : VK} (A : At X.K ρ H σ δ μ) (e : fCall g φ δ μ = some (d, μ'))
    (k : ∀ ρ' H' v, Ext ρ H ρ' H' → RepH X.K ρ' H' μ' → RepV X.K ρ' H' d v → Q v H') : tCB (rCM X.K g) (tMA X.K φ) σ H Q := by
  obtain ⟨⟨x, μ1⟩, e1, e⟩ := bind_inv e
  exact ⟨ρ, δ, μ, x, μ1, A, e1, fun ρ1 H1 vs x1 R1 r1 => ⟨ρ1, x, μ1, d, μ', r1, R1, e, fun ρ2 H2 v x2 R2 r2 => k ρ2 H2 v (x1.trans x2) R2 r2⟩⟩
theorem me_callB {g : GL} {id : String} {x : Str} {p : Pos} {φ : FA} (hc : CallM X (.builtin id) g) (hm : X.mg x = none) (hv : bootBuiltins x = some (.builtin id)) (ha : MAn X (e :: es) φ) (hg : Gl X x := by rfl) (hn : x ≠ "__name__" := by decide) (hdb : (x == ("__debug__" : Str)) = false := by decide)
    (he : starEach (e :: es) X.env = (false, eval e X.env) :: starEach es X.env := by exact star_ok rfl) (hpl : (backTo pos (starEach es X.env)).any (·.1) = false := by rfl) : ME X (.Call (.Name x p) (e :: es) [] pos) (fCall g φ) :=
  me_of (pe_callB hc hg hm hv ha.ma hn hdb he hpl) fun _ _ _ _ _ _ _ _ A e k => cb_w A e k
theorem me_callT {g : GL} {T : String} {x : Str} {p : Pos} {φ : FA} (hc : CallM X (.type T) g) (hm : X.mg x = none) (hv : bootBuiltins x = some (.type T)) (ha : MAn X (e :: es) φ) (hg : Gl X x := by rfl) (hn : x ≠ "__name__" := by decide) (hdb : (x == ("__debug__" : Str)) = false := by decide)
    (he : starEach (e :: es) X.env = (false, eval e X.env) :: starEach es X.env := by exact star_ok rfl) (hpl : (backTo pos (starEach es X.env)).any (·.1) = false := by rfl) : ME X (.Call (.Name x p) (e :: es) [] pos) (fCall g φ) :=
  me_of (pe_callTy hc hg hm hv ha.ma hn hdb he hpl) fun _ _ _ _ _ _ _ _ A e k => cb_w A e k
end
section
variable {K : PySem.W.Frag} {ρ : List Addr} {H : Hp} {μ : Mem}
@[simp] noncomputable def items (μ : Mem) : D → Option (List D)
  | .tup ds => some ds
  | .fz ds => some ds
  | .loc n => match μ[n]? with
    | some (.lst ds) => some ds
    | _ => none
  | _ => none
theorem items_seq {d : D} {v : V} {ds : List D} (R : RepH K ρ H μ) (r : RepV K ρ H d v) (e : items μ d = some ds) : ∃ p vs, v = .ref p ∧ (SqL K H p vs ∨ SqT K H p vs) ∧ RepVs K ρ H ds vs := by
  unfold items at e
  split at e
  · cases e
    obtain ⟨a, vs, e1, e2, q⟩ := r.tup_inv
    exact ⟨a, vs, e1, .inr (SqT.of e2), q⟩
  · cases e
    obtain ⟨a, vs, e1, e2, q⟩ := r.fz_inv
    exact ⟨a, vs, e1, .inl e2.sq, q⟩
  · split at e
    · rename_i h
      cases e
      obtain ⟨a, e1, e2⟩ := r.loc_inv
      obtain ⟨vs, e3, q⟩ := R.at_ _ _ _ e2 h
      exact ⟨a, vs, e1, .inl (SqL.of e3), q⟩
    · cases e
  · cases e
end
section
variable {X : Cx} {a b c e : Expr} {es : List Expr} {φ ψ χ : FE} {pos : Pos}
@[simp] noncomputable def gIx : G2 := fun x y μ => match y with
  | .int i => (items μ x).bind fun ds => (atI ds i).bind fun d => some (d, μ)
  | _ => none
theorem atI_rep {K : PySem.W.Frag} {ρ : List Addr} {H : Hp} {ds : List D} {vs : List V} {i : Int} {d : D} (r : RepVs K ρ H ds vs) (e : atI ds i = some d) : ∃ v, atI vs i = some v ∧ RepV K ρ H d v := by
  unfold atI at e ⊢
  rw [r.length] at e
  obtain ⟨j, e1, e2⟩ := bind_inv e
  obtain ⟨v, e3, q⟩ := r.get e2
  exact ⟨v, by rw [e1]; exact e3, q⟩
theorem ixM : IxR X (rM X.K gIx) := by
  intro value slice pins s σ H x y v u Q I rx ry ⟨ρ, dx, dy, μ, d, μ', r1, r2, R, e, k⟩ hs
  unfold gIx at e
  split at e
  · obtain ⟨ds, e1, e⟩ := bind_inv e
    obtain ⟨d', e2, e⟩ := bind_inv e
    cases e
    obtain ⟨p, vs, rfl, hq, rr⟩ := items_seq R r1 e1
    obtain ⟨w, e3, q⟩ := atI_rep rr e2
    rcases hq with hq | hq
    · exact ix_seq value slice pins s σ H _ y v u Q I rx ry (.inl ⟨p, vs, _, w, rfl, r2.int_inv, hq, e3, k ρ H w Ext.refl R q⟩) hs
    · exact ix_seq value slice pins s σ H _ y v u Q I rx ry (.inr (.inl ⟨p, vs, _, w, rfl, r2.int_inv, hq, e3, k ρ H w Ext.refl R q⟩)) hs
  · cases e
theorem me_ix (ha : ME X a φ) (hb : ME X b ψ) (hs : PlainIx b := by exact fun _ _ => rfl) : ME X (.Subscript a b pos) (fBin gIx φ ψ) :=
  me_of (pe_ix ixM ha hb hs) fun _ _ _ _ _ _ _ _ A e k => bin_w A e k
@[simp] noncomputable def gLen : GL := fun ds μ => match ds with
  | [d] => (items μ d).bind fun xs => some (.int xs.length, μ)
  | _ => none
theorem callM_len : CallM X (.builtin "len") gLen := by
  intro pins s σ H xs us Q I r ⟨ρ, ds, μ, d, μ', r1, R, e, k⟩
  unfold gLen at e
  split at e
  · obtain ⟨ds, e1, e⟩ := bind_inv e
    cases e
    obtain ⟨v, rr, rfl, q1, q2⟩ := r1.cons_inv
    have q2 := q2.nil_inv
    subst q2
    obtain ⟨p, vs, rfl, hq, rr⟩ := items_seq R q1 e1
    exact call_len_seq pins s σ H _ us Q I r ⟨p, vs, rfl, hq, k ρ H _ Ext.refl R (by rw [rr.length]; exact .int)⟩
  · cases e
@[simp] noncomputable def gList : GL := fun ds μ => match ds with
  | [d] => (items μ d).bind fun xs => some (.loc μ.length, μ ++ [.lst xs])
  | _ => none
@[simp] noncomputable def gTuple : GL := fun ds μ => match ds with
  | [.tup xs] => some (.tup xs, μ)
  | [d] => (items μ d).bind fun xs => some (.tup xs, μ)
  | _ => none
theorem callM_tuple : CallM X (.type "tuple") gTuple := by
  intro pins s σ H xs us Q I r ⟨ρ, ds, μ, d, μ', r1, R, e, k⟩
  have key : ∃ x ys, ds = [x] ∧ items μ x = some ys ∧ d = .tup ys ∧ μ' = μ := by
    unfold gTuple at e
    split at e
    · cases e; exact ⟨_, _, rfl, rfl, rfl, rfl⟩
    · obtain ⟨ds, e1, e⟩ := bind_inv e
      cases e
      exact ⟨_, _, rfl, e1, rfl, rfl⟩
    · cases e
  obtain ⟨x, ys, rfl, e1, rfl, rfl⟩ := key
  obtain ⟨v, rr, rfl, q1, q2⟩ := r1.cons_inv
  have q2 := q2.nil_inv
  subst q2
  cases x with
  | tup zs =>
    cases e1
    obtain ⟨a, vs, rfl, e2, q⟩ := q1.tup_inv
    exact call_tuple_of pins s σ H _ us Q I r ⟨a, vs, rfl, .inr ⟨SqT.of e2, k ρ H _ Ext.refl R q1⟩⟩
  | fz zs =>
    cases e1
    obtain ⟨a, vs, rfl, e2, q⟩ := q1.fz_inv
    exact call_tuple_of pins s σ H _ us Q I r ⟨a, vs, rfl, .inl ⟨e2.sq, fun l hl => k ρ _ _ (Ext.new hl) (R.newTup hl) (.tup upd_same (q.ext (Ext.new hl)))⟩⟩
  | loc n =>
    unfold items at e1
    dsimp only at e1
    split at e1
    · rename_i h
      cases e1
      obtain ⟨a, rfl, e2⟩ := q1.loc_inv
      obtain ⟨vs, e3, q⟩ := R.at_ _ _ _ e2 h
      exact call_tuple_of pins s σ H _ us Q I r ⟨a, vs, rfl, .inl ⟨SqL.of e3, fun l hl => k ρ _ _ (Ext.new hl) (R.newTup hl) (.tup upd_same (q.ext (Ext.new hl)))⟩⟩
    · cases e1
  | _ => cases e1
end
end M
set_option Elab.async false
set_option linter.all false
set_option maxRecDepth 100000
set_option autoImplicit false
namespace M
open PySem PySem.Spec PyProof.Rows L2
theorem compLoop_own {prog : Program} {w : World} {A : Around} {R : Result → Shared → Prop} {s : Shared} {elt target iter : Expr} {ifs : List Expr} {scope : Scope} {pos : Pos} {it acc : Value} {env : Env} (I : Nat → Shared → Prop)
    (turn : ∀ n s, I n s → wpAny (model prog w) A (pyNext it) (fun r s₁ => match r with
      | none => R (.ok .next) s₁
      | some v => wpAny (model prog w) A (letOwnedTupleGo target it v) (fun _ s₁' => wpAny (model prog w) A (assign target env v) (fun _ s₂ =>
          wpAny (model prog w) A (forIn ifs true fun c r => if r = true then do let ok ← isTrue c env (eval c env); pure (ForInStep.yield ok) else pure (ForInStep.yield r)) (fun ok s₃ =>
            if ok = true then wpAny (model prog w) A (eval elt env) (fun x s₄ =>
              wpAny (model prog w) A (call (.builtin "list.append") [acc, x]) (fun _ s₅ => ∃ m, m < n ∧ I m s₅) (fun _ _ => False) s₄) (fun _ _ => False) s₃
            else ∃ m, m < n ∧ I m s₃) (fun _ _ => False) s₂) (fun _ _ => False) s₁') (fun _ _ => False) s₁) (fun _ _ => False) s)
    (n : Nat) (h : I n s) :
    codeAny (model prog w) A (.compLoop (.ListComp elt [⟨target, iter, ifs, 0⟩] scope pos) 0 it acc env) R s := by
  refine codeAny_loop rfl I (fun n s hI => ?_) n h
  show wpAny _ A ((compTurn (.ListComp elt [⟨target, iter, ifs, 0⟩] scope pos) 0 it acc env).onRaise (fun x => do noteFrame x env; theTreesLotGoes x)) _ _ s
  refine wpAny_noted ?_
  rw [compTurn_list]
  refine wpAny_bind (wpAny_standAt (wpAny_bind (wpAny_mono (turn n s hI) (fun r s₁ h₁ => ?_) fun _ _ h' => h'.elim)))
  cases r with
  | none => exact wpAny_pure h₁
  | some v =>
    refine wpAny_bind (wpAny_mono h₁ (fun _ s₁' h₁ => ?_) fun _ _ h' => h'.elim)
    refine wpAny_bind (wpAny_mono h₁ (fun _ s₂ h₂ => wpAny_bind (wpAny_mono h₂ (fun ok s₃ h₃ => ?_) fun _ _ h' => h'.elim)) fun _ _ h' => h'.elim)
    cases ok with
    | false => exact wpAny_pure ⟨rfl, h₃⟩
    | true =>
      exact wpAny_bind (wpAny_bind (wpAny_mono h₃ (fun x s₄ h₄ => wpAny_bind (wpAny_mono h₄ (fun _ s₅ h₅ => wpAny_pure (wpAny_pure ⟨rfl, h₅⟩)) fun _ _ h' => h'.elim)) fun _ _ h' => h'.elim))
noncomputable def clFrom (cells : List (Str × Addr)) : List (Str × NameKind) → List (Str × Addr) → List (Str × Addr)
  | [], acc => acc
  | (n, k) :: r, acc => clFrom cells r (if k == .free then (match cells.lookup n with | some c => (n, c) :: acc | none => acc) else acc)
theorem closure_loop {env : Env} : ∀ (names : List (Str × NameKind)) (acc : List (Str × Addr)), (∀ x ∈ names, x.2 = .free → ∃ c, env.cells.lookup x.1 = some c) →
    (forIn names acc fun (x : Str × NameKind) (cs : List (Str × Addr)) => (match x with | (name, kind) => if kind == .free then do let c ← cellOf env name; pure (ForInStep.yield ((name, c) :: cs)) else pure (ForInStep.yield cs) : Sem (ForInStep (List (Str × Addr))))) = (pure (clFrom env.cells names acc) : Sem (List (Str × Addr)))
  | [], acc, _ => rfl
  | (n, k) :: r, acc, h => by
    have ih := fun acc' => closure_loop r acc' fun x hx => h x (List.mem_cons_of_mem _ hx)
    rw [List.forIn_cons]
    by_cases hk : k = .free
    · subst hk
      obtain ⟨c, hc⟩ := h (n, .free) List.mem_cons_self rfl
      have e : cellOf env n = pure c := by unfold cellOf; rw [hc]
      have : clFrom env.cells ((n, NameKind.free) :: r) acc = clFrom env.cells r ((n, c) :: acc) := by
        show clFrom env.cells r (if (NameKind.free == NameKind.free) = true then (match env.cells.lookup n with | some c => (n, c) :: acc | none => acc) else acc) = _
        rw [hc]; rfl
      rw [this, ← ih]
      show ((do let c ← cellOf env n; pure (ForInStep.yield ((n, c) :: acc))) >>= _ : Sem _) = _
      rw [e]
      rfl
    · have hb : (k == NameKind.free) = false := by simpa using hk
      have : clFrom env.cells ((n, k) :: r) acc = clFrom env.cells r acc := by
        show clFrom env.cells r (if (k == NameKind.free) = true then _ else acc) = _
        rw [hb]; rfl
      rw [this, ← ih]
      simp only [hb, Bool.false_eq_true, if_false]
      rfl
theorem closure_eq {scope : Scope} {env : Env} (h : ∀ x ∈ scope.names, x.2 = .free → ∃ c, env.cells.lookup x.1 = some c) : closureFor scope env = pure (clFrom env.cells scope.names []) := by
  have e := closure_loop (env := env) scope.names [] h
  unfold closureFor
  show (forIn scope.names [] _ >>= fun r => pure r : Sem _) = _
  rw [show (forIn scope.names ([] : List (Str × Addr)) fun (x : Str × NameKind) (r : List (Str × Addr)) => (match x with | (name, kind) => if kind == .free then do let c ← cellOf env name; pure (ForInStep.yield ((name, c) :: r)) else pure (ForInStep.yield r) : Sem (ForInStep (List (Str × Addr))))) = pure (clFrom env.cells scope.names []) from e]
  rfl
end M
set_option Elab.async false
set_option linter.all false
set_option maxRecDepth 100000
set_option autoImplicit false
namespace M
open PySem PySem.Spec PyProof.Rows L2
theorem cl_sound {cells : List (Str × Addr)} {x : Str} {c : Addr} : ∀ (names : List (Str × NameKind)) (acc : List (Str × Addr)), (clFrom cells names acc).lookup x = some c → acc.lookup x = some c ∨ cells.lookup x = some c
  | [], _, h => .inl h
  | (n, k) :: r, acc, h => by
    rcases cl_sound r _ h with q | q
    · by_cases hk : (k == NameKind.free) = true
      · rw [if_pos hk] at q
        cases e : cells.lookup n with
        | none => rw [e] at q; exact .inl q
        | some a =>
          rw [e] at q
          simp only [List.lookup_cons] at q
          by_cases hx : (x == n) = true
          · rw [hx] at q
            have hx' : x = n := by simpa using hx
            subst hx'
            cases q
            exact .inr e
          · have hx' : (x == n) = false := by simpa using hx
            rw [hx'] at q
            exact .inl q
      · rw [if_neg hk] at q
        exact .inl q
    · exact .inr q
theorem cl_some {cells : List (Str × Addr)} {x : Str} : ∀ (names : List (Str × NameKind)) (acc : List (Str × Addr)), (acc.lookup x).isSome = true → ((clFrom cells names acc).lookup x).isSome = true
  | [], _, h => h
  | (n, k) :: r, acc, h => by
    refine cl_some r _ ?_
    by_cases hk : (k == NameKind.free) = true
    · rw [if_pos hk]
      cases e : cells.lookup n with
      | none => exact h
      | some a =>
        simp only [List.lookup_cons]
        by_cases hx : (x == n) = true
        · rw [hx]; rfl
        · have hx' : (x == n) = false := by simpa using hx
          rw [hx']; exact h
    · rw [if_neg hk]; exact h
theorem cl_has {cells : List (Str × Addr)} {x : Str} {c : Addr} (hc : cells.lookup x = some c) : ∀ (names : List (Str × NameKind)) (acc : List (Str × Addr)), (x, NameKind.free) ∈ names → ((clFrom cells names acc).lookup x).isSome = true
  | [], _, h => by cases h
  | (n, k) :: r, acc, h => by
    rcases List.mem_cons.mp h with h | h
    · cases h
      refine cl_some r _ ?_
      rw [if_pos (by rfl), hc]
      simp [List.lookup_cons]
    · exact cl_has hc r _ h
noncomputable def cxC (X : Cx) (own : List Str) (fr : List Nat) (scope : Scope) (cl : List (Str × Addr)) (C : Addr) (s₀ : Shared) (H₀ : Hp) (fp : List Addr) : Cx :=
  { X with N := own ++ fr.map fun i => X.N.getD i Str.empty, s₀ := s₀, H₀ := H₀, env := compEnvC scope cl C X.env, outer := X.stack, ex := fp, fn := fun x => scope.names.lookup x == some .cell, xe := fun _ _ => False }
noncomputable def σC (n : Nat) (fr : List Nat) (σ : L2.St) : L2.St := List.replicate n none ++ fr.map fun i => (σ[i]?).getD none
noncomputable def SubSt (σ σ' : L2.St) : Prop := σ'.length = σ.length ∧ ∀ (i : Nat) v, σ[i]? = some (some v) → σ'[i]? = some (some v)
noncomputable def PF (X : Cx) (ifs : List Expr) (t : TT) : Prop := ∀ (pins : List (Addr × Obj)) (s : Shared) (σ : L2.St) (H : Hp) (Q : Bool → Hp → Prop), Inv X pins σ H s → t σ H Q →
  wpAny (model X.prog X.w) X.A (forIn ifs true fun c r => if r = true then do let ok ← isTrue c X.env (eval c X.env); pure (ForInStep.yield ok) else pure (ForInStep.yield r)) (TP X pins σ Q) X.xe s
theorem pf_nil {X : Cx} : PF X [] (fun σ H Q => Q true H) := fun pins s σ H Q I h => wpAny_tests_nil ⟨H, I, h⟩
theorem pf_one {X : Cx} {c : Expr} {t : TT} (h : PT X c t) : PF X [c] t := fun pins s σ H Q I hw => wpAny_tests_one (h pins s σ H Q I hw)
noncomputable def tLC (n : Nat) (fr : List Nat) (wi : TI) (g : TG) (tc : TT) (te : TE) : TE := fun σ H Q => wi σ H fun J H1 => ∃ W : Nat → Nat → List V → Hp → Prop, (∃ m, W 0 m [] H1) ∧ ∀ i m ys H, W i m ys H →
  (J.stop i H ∧ ∀ p, H p = none → Q (.ref p) (upd H p (.lst ys))) ∨
  (J.go i H ∧ ys.length < sizeLine ∧ ∀ x H', J.yld i H x H' → g x (σC n fr σ) H' fun σ2 H2 => SubSt (σC n fr σ) σ2 ∧ tc σ2 H2 fun b H3 =>
    if b = true then te σ2 H3 fun y H4 => ∃ m', m' < m ∧ W (i + 1) m' (ys ++ [y]) H4 else ∃ m', m' < m ∧ W (i + 1) m' ys H3)
section
variable {X : Cx} {own : List Str} {fr : List Nat} {scope : Scope} {pins : List (Addr × Obj)} {σ : L2.St} {H : Hp} {s : Shared}
theorem lookup_relabel {env : Env} {x : Str} {k : NameKind} : ∀ {names : List (Str × NameKind)}, (names.map fun (n, k) => if (k == NameKind.free && env.scope.kind == .function && env.kindOf n == some .cell) then (n, NameKind.cell) else (n, k)).lookup x = some k →
    (k = .cell ∨ k = .free) → (x, NameKind.free) ∈ names ∨ (x, NameKind.cell) ∈ names
  | [], h, _ => by simp at h
  | (n, k') :: r, h, hk => by
    rw [List.map_cons] at h
    by_cases hx : x = n
    · subst hx
      by_cases hb : (k' == NameKind.free && env.scope.kind == .function && env.kindOf x == some .cell) = true
      · have : k' = .free := by
          simp only [Bool.and_eq_true, beq_iff_eq] at hb
          exact hb.1.1
        subst this
        exact .inl List.mem_cons_self
      · have h2 : ((x, k') :: r.map fun (n, k) => if (k == NameKind.free && env.scope.kind == .function && env.kindOf n == some .cell) then (n, NameKind.cell) else (n, k)).lookup x = some k := by
          have e : (if (k' == NameKind.free && env.scope.kind == .function && env.kindOf x == some .cell) = true then (x, NameKind.cell) else (x, k')) = (x, k') := if_neg hb
          rw [← e]; exact h
        simp only [List.lookup_cons, beq_self_eq_true] at h2
        cases h2
        rcases hk with rfl | rfl
        · exact .inr List.mem_cons_self
        · exact .inl List.mem_cons_self
    · have hx' : (x == n) = false := by simpa using hx
      have h2 : (r.map fun (n, k) => if (k == NameKind.free && env.scope.kind == .function && env.kindOf n == some .cell) then (n, NameKind.cell) else (n, k)).lookup x = some k := by
        by_cases hb : (k' == NameKind.free && env.scope.kind == .function && env.kindOf n == some .cell) = true
        · have e : (if (k' == NameKind.free && env.scope.kind == .function && env.kindOf n == some .cell) = true then (n, NameKind.cell) else (n, k')) = (n, NameKind.cell) := if_pos hb
          have h3 : ((n, NameKind.cell) :: r.map fun (n, k) => if (k == NameKind.free && env.scope.kind == .function && env.kindOf n == some .cell) then (n, NameKind.cell) else (n, k)).lookup x = some k := by rw [← e]; exact h
          simpa only [List.lookup_cons, hx'] using h3
        · have e : (if (k' == NameKind.free && env.scope.kind == .function && env.kindOf n == some .cell) = true then (n, NameKind.cell) else (n, k')) = (n, k') := if_neg hb
          have h3 : ((n, k') :: r.map fun (n, k) => if (k == NameKind.free && env.scope.kind == .function && env.kindOf n == some .cell) then (n, NameKind.cell) else (n, k)).lookup x = some k := by rw [← e]; exact h
          simpa only [List.lookup_cons, hx'] using h3
      rcases lookup_relabel h2 hk with q | q
      · exact .inl (List.mem_cons_of_mem _ q)
      · exact .inr (List.mem_cons_of_mem _ q)
theorem relabel_free {env : Env} {x : Str} : ∀ {names : List (Str × NameKind)}, names.lookup x = some .free →
    (names.map fun (n, k) => if (k == NameKind.free && env.scope.kind == .function && env.kindOf n == some .cell) then (n, NameKind.cell) else (n, k)).lookup x = some .cell ∨
    (names.map fun (n, k) => if (k == NameKind.free && env.scope.kind == .function && env.kindOf n == some .cell) then (n, NameKind.cell) else (n, k)).lookup x = some .free
  | [], h => by simp at h
  | (n, k') :: r, h => by
    rw [List.map_cons]
    by_cases hx : x = n
    · subst hx
      simp only [List.lookup_cons, beq_self_eq_true] at h
      cases h
      by_cases hb : (NameKind.free == NameKind.free && env.scope.kind == .function && env.kindOf x == some .cell) = true
      · have e : (if (NameKind.free == NameKind.free && env.scope.kind == .function && env.kindOf x == some .cell) = true then (x, NameKind.cell) else (x, NameKind.free)) = (x, NameKind.cell) := if_pos hb
        left
        show List.lookup x ((if (NameKind.free == NameKind.free && env.scope.kind == .function && env.kindOf x == some .cell) = true then (x, NameKind.cell) else (x, NameKind.free)) :: _) = _
        rw [e]; simp [List.lookup_cons]
      · have e : (if (NameKind.free == NameKind.free && env.scope.kind == .function && env.kindOf x == some .cell) = true then (x, NameKind.cell) else (x, NameKind.free)) = (x, NameKind.free) := if_neg hb
        right
        show List.lookup x ((if (NameKind.free == NameKind.free && env.scope.kind == .function && env.kindOf x == some .cell) = true then (x, NameKind.cell) else (x, NameKind.free)) :: _) = _
        rw [e]; simp [List.lookup_cons]
    · have hx' : (x == n) = false := by simpa using hx
      simp only [List.lookup_cons, hx'] at h
      have ih := relabel_free (env := env) h
      have step : ∀ k, (r.map fun (n, k) => if (k == NameKind.free && env.scope.kind == .function && env.kindOf n == some .cell) then (n, NameKind.cell) else (n, k)).lookup x = some k →
        List.lookup x ((if (k' == NameKind.free && env.scope.kind == .function && env.kindOf n == some .cell) = true then (n, NameKind.cell) else (n, k')) :: (r.map fun (n, k) => if (k == NameKind.free && env.scope.kind == .function && env.kindOf n == some .cell) then (n, NameKind.cell) else (n, k))) = some k := fun k hk => by
          by_cases hb : (k' == NameKind.free && env.scope.kind == .function && env.kindOf n == some .cell) = true
          · rw [if_pos hb]; simpa only [List.lookup_cons, hx'] using hk
          · rw [if_neg hb]; simpa only [List.lookup_cons, hx'] using hk
      rcases ih with ih | ih
      · exact .inl (step _ ih)
      · exact .inr (step _ ih)
theorem stk_not {b : Addr} (I : Inv X pins σ H s) (h1 : b ≠ X.env.locals) (h2 : b ∉ X.fs) : b ∉ frs X.stack := fun z =>
  (List.mem_cons.mp (I.stkSub b z)).elim h1 h2
theorem σC_get {n : Nat} {i : Nat} {v : V} (h : (σC n fr σ)[i]? = some (some v)) : n ≤ i ∧ ∃ j, fr[i - n]? = some j ∧ σ[j]? = some (some v) := by
  unfold σC at h
  by_cases hi : i < n
  · rw [List.getElem?_append_left (by simpa using hi), List.getElem?_replicate] at h
    split at h <;> cases h
  · have hi : n ≤ i := Nat.le_of_not_lt hi
    rw [List.getElem?_append_right (by simpa using hi), List.length_replicate, List.getElem?_map] at h
    cases e : fr[i - n]? with
    | none => rw [e] at h; cases h
    | some j =>
      rw [e] at h
      refine ⟨hi, j, rfl, ?_⟩
      have h' : (σ[j]?).getD none = some v := Option.some.inj h
      cases e2 : σ[j]? with
      | none => rw [e2] at h'; cases h'
      | some o => rw [e2] at h'; exact congrArg some h'
theorem cf_app : ∀ (names : List (Str × NameKind)) (n : Nat) (acc : List (Str × Addr)), cellsFrom n names acc = cellsFrom n names [] ++ acc
  | [], n, acc => rfl
  | (x, k) :: r, n, acc => by
    unfold cellsFrom
    split
    · rw [cf_app r (n + 1) ((x, n) :: acc), cf_app r (n + 1) [(x, n)]]
      simp
    · exact cf_app r n acc
theorem cf_mem : ∀ (names : List (Str × NameKind)) (n : Nat) (x : Str) (c : Addr), (x, c) ∈ cellsFrom n names [] → n ≤ c ∧ (x, NameKind.cell) ∈ names
  | [], n, x, c, h => by cases h
  | (y, k) :: r, n, x, c, h => by
    unfold cellsFrom at h
    split at h
    · rename_i hk
      rw [cf_app] at h
      rcases List.mem_append.mp h with h | h
      · obtain ⟨h1, h2⟩ := cf_mem r (n + 1) x c h
        exact ⟨Nat.le_of_succ_le h1, List.mem_cons_of_mem _ h2⟩
      · have e : (x, c) = (y, n) := by simpa using h
        cases e
        rw [beq_iff_eq.mp hk]
        exact ⟨Nat.le_refl _, List.mem_cons_self⟩
    · obtain ⟨h1, h2⟩ := cf_mem r n x c h
      exact ⟨h1, List.mem_cons_of_mem _ h2⟩
theorem cf_look {names : List (Str × NameKind)} {n : Nat} {acc : List (Str × Addr)} {x : Str} {c : Addr} (h : (cellsFrom n names acc).lookup x = some c) : (cellsFrom n names []).lookup x = some c ∨ ((cellsFrom n names []).lookup x = none ∧ acc.lookup x = some c) := by
  rw [cf_app, List.lookup_append] at h
  cases e : (cellsFrom n names []).lookup x with
  | none => rw [e] at h; exact .inr ⟨rfl, h⟩
  | some d => rw [e] at h; exact .inl h
theorem cf_none {names : List (Str × NameKind)} {n : Nat} {x : Str} (hn : ∀ y ∈ names, names.lookup y.1 = some y.2) (h : (x, NameKind.free) ∈ names) : (cellsFrom n names []).lookup x = none := by
  cases e : (cellsFrom n names []).lookup x with
  | none => rfl
  | some c =>
    have h1 := hn _ (cf_mem _ _ _ _ (PySem.mem_of_lookup e)).2
    have h2 := hn _ h
    rw [h1] at h2
    cases h2
theorem inv_comp {fp : List Addr} {D C : Addr} {lo : Nat} {h1 : Heap} {t : Nat} {mC : Str → Option Value} {oD : Obj} (I : Inv X pins σ H s) (hf : ∀ b ∈ fp, FpOk X pins H b) (hfl : ∀ b ∈ fp, b < s.heap.objs.size)
    (hk : scope.kind = .function) (hnm : ∀ y ∈ scope.names, scope.names.lookup y.1 = some y.2) (hfree : ∀ x ∈ scope.names, x.2 = .free → (X.env.kindOf x.1 = some .cell ∨ X.env.kindOf x.1 = some .free))
    (hfr : ∀ i ∈ fr, ∃ x, X.N[i]? = some x ∧ scope.names.lookup x = some .free) (hlo : C < lo) (hOC : CellsOk h1 lo (cellsFrom lo scope.names []))
    (old : ∀ b o, s.heap.get? b = some o → h1.get? b = some o) (hD : s.heap.objs.size ≤ D) (hC : s.heap.objs.size ≤ C) (hDC : D ≠ C) (hDlo : D < lo) (eD : h1.get? D = some oD) (dD : ∀ v, oD.data ≠ .cell v) (nC : h1.Ns C mC) :
    Inv (cxC X own fr scope (cellsFrom lo scope.names (clFrom X.env.cells scope.names [])) C s H fp) (pins ++ [(D, oD)]) (σC own.length fr σ) H { s with heap := h1, toks := t } := by
  have cl1 : ∀ x c, (clFrom X.env.cells scope.names []).lookup x = some c → X.env.cells.lookup x = some c := fun x c e => by
    rcases cl_sound _ _ e with q | q
    · cases q
    · exact q
  have clH : ∀ x, (x, NameKind.free) ∈ scope.names → ∃ c, (cellsFrom lo scope.names (clFrom X.env.cells scope.names [])).lookup x = some c ∧ X.env.cells.lookup x = some c := fun x hx => by
    obtain ⟨c, hc⟩ := I.ok.has x (hfree _ hx rfl)
    obtain ⟨c', hc'⟩ := Option.isSome_iff_exists.mp (cl_has hc scope.names [] hx)
    exact ⟨c', by rw [cf_app, List.lookup_append, cf_none hnm hx]; exact hc', cl1 _ _ hc'⟩
  have two : ∀ x c, (cellsFrom lo scope.names (clFrom X.env.cells scope.names [])).lookup x = some c → ((cellsFrom lo scope.names []).lookup x = some c ∧ lo ≤ c) ∨ X.env.cells.lookup x = some c := fun x c e => by
    rcases cf_look e with q | ⟨_, q⟩
    · exact .inl ⟨q, (cf_mem _ _ _ _ (PySem.mem_of_lookup q)).1⟩
    · exact .inr (cl1 _ _ q)
  have oldc : ∀ x c, X.env.cells.lookup x = some c → c < s.heap.objs.size := fun x c e => by
    obtain ⟨v, o, ho, _⟩ := I.cell x c e
    exact Heap.lt_size ho
  have hslo : s.heap.objs.size ≤ lo := Nat.le_trans hC (Nat.le_of_lt hlo)
  refine ⟨⟨I.ok.mod, hk, I.ok.glob, I.ok.blt, hC, fun x y c e1 e2 => ?inj, fun x hx => ?_, fun x c hx e => ?cab, I.ok.hd, I.ok.frames, .inl rfl, fun b hb => ⟨?_, fun x c e => ?exf⟩, I.bs, Nat.le_trans I.ok.bsz I.sz, fun b o e hb => ?_, fun b hb => ?_, I.stack, I.stkFree⟩,
    rfl, I.bare, Un.kept old, ⟨mC, nC, fun i x v h1 h2 h3 => ?_⟩, fun x c e => ?cell, I.hok.fresh hC, fun x c e => ?freeC, fun p hp => ?_, I.hok.kept old, ?_⟩
  case inj =>
    rcases two x c e1 with ⟨q1, l1⟩ | q1
    · rcases two y c e2 with ⟨q2, _⟩ | q2
      · exact name_of_addr hOC.apart (PySem.mem_of_lookup q1) (PySem.mem_of_lookup q2)
      · exact absurd (Nat.lt_of_lt_of_le (oldc y c q2) (Nat.le_trans hslo l1)) (Nat.lt_irrefl _)
    · rcases two y c e2 with ⟨_, l2⟩ | q2
      · exact absurd (Nat.lt_of_lt_of_le (oldc x c q1) (Nat.le_trans hslo l2)) (Nat.lt_irrefl _)
      · exact I.ok.inj x y c q1 q2
  case cab =>
    have hx : (scope.names.lookup x == some .cell) = true := hx
    obtain ⟨d, hd⟩ := Option.isSome_iff_exists.mp (PySem.W.cellsFrom_some scope.names lo [] (.inl (beq_iff_eq.mp hx)))
    rcases cf_look (show (cellsFrom lo scope.names (clFrom X.env.cells scope.names [])).lookup x = some c from e) with q | ⟨q, _⟩
    · exact Nat.le_trans hslo (cf_mem _ _ _ _ (PySem.mem_of_lookup q)).1
    · rw [q] at hd; cases hd
  case exf =>
    rcases two x c e with ⟨_, l⟩ | q
    · exact Nat.ne_of_gt (Nat.lt_of_lt_of_le (hfl b hb) (Nat.le_trans hslo l))
    · exact (hf b hb).2.2.2.2.1 x c q
  case cell =>
    rcases two x c e with ⟨q, _⟩ | q
    · exact ⟨none, (hOC.empty x c (PySem.mem_of_lookup q)).1⟩
    · obtain ⟨v, o, ho, hd⟩ := I.cell x c q
      exact ⟨v, o, old _ _ ho, hd⟩
  case freeC =>
    rcases two x c e with ⟨_, l⟩ | q
    · exact I.hok.fresh (Nat.le_trans hslo l)
    · exact I.freeC x c q
  · have hx' : (relabel scope X.env).names.lookup x = some .cell ∨ (relabel scope X.env).names.lookup x = some .free := hx
    have hm : (x, NameKind.free) ∈ scope.names ∨ (x, NameKind.cell) ∈ scope.names := by
      rcases hx' with h | h
      · exact lookup_relabel (env := X.env) h (.inl rfl)
      · exact lookup_relabel (env := X.env) h (.inr rfl)
    rcases hm with hm | hm
    · obtain ⟨c, e, _⟩ := clH x hm
      exact ⟨c, e⟩
    · exact Option.isSome_iff_exists.mp (PySem.W.cellsFrom_some scope.names lo _ (.inl (hnm _ hm)))
  · exact Nat.ne_of_lt (Nat.lt_of_lt_of_le (hfl b hb) hC)
  · rcases (hf b hb).2.2.2.1 with z | z
    · exact I.ok.noex b o e z
    · exact absurd (Nat.lt_of_lt_of_le (Heap.lt_size e) (Nat.le_trans I.ok.bsz z)) (Nat.lt_irrefl _)
  · exact stk_not I (hf b hb).2.1 (hf b hb).2.2.1
  · obtain ⟨hi, j, e1, e2⟩ := σC_get h2
    have hjm : j ∈ fr := List.mem_of_getElem? e1
    obtain ⟨y, ey, ly⟩ := hfr j hjm
    have hxy : x = y := by
      have h1' : (own ++ fr.map fun i => X.N.getD i Str.empty)[i]? = some x := h1
      rw [List.getElem?_append_right hi, List.getElem?_map, e1] at h1'
      have h1'' : X.N.getD j Str.empty = x := Option.some.inj h1'
      rw [List.getD_eq_getElem?_getD, ey] at h1''
      exact h1''.symm
    subst hxy
    have hm : (x, NameKind.free) ∈ scope.names := PySem.mem_of_lookup ly
    have hv : Vis X.env.scope x := by
      rcases hfree _ hm rfl with q | q
      · exact .inr (.inl q)
      · exact .inr (.inr q)
    obtain ⟨m, hn, hl⟩ := id I.loc
    obtain ⟨u, ru, q⟩ := hl j x v ey e2 hv
    obtain ⟨c, c1, c2⟩ := clH x hm
    refine ⟨u, ru, .inr ⟨relabel_free (env := X.env) ly, c, c1, ?_⟩⟩
    rcases q with ⟨k, _⟩ | ⟨k, c', e', z⟩
    · rcases hfree _ hm rfl with q | q
      · rw [show X.env.kindOf (x, NameKind.free).1 = X.env.kindOf x from rfl, k] at q; cases q
      · rw [show X.env.kindOf (x, NameKind.free).1 = X.env.kindOf x from rfl, k] at q; cases q
    · rw [c2] at e'; cases e'
      obtain ⟨o, ho, hd⟩ := z
      exact ⟨o, old _ _ ho, hd⟩
  · have hp' : p ∈ X.pn ++ (pins ++ [(D, oD)]) := hp
    rw [← List.append_assoc] at hp'
    rcases List.mem_append.mp hp' with hp' | hp'
    · obtain ⟨a1, a2, a3, a4, a5⟩ := I.pin p hp'
      exact ⟨old _ _ a1, a2, Nat.ne_of_lt (Nat.lt_of_lt_of_le (Heap.lt_size a1) hC), stk_not I a3 a4, a5⟩
    · have : p = (D, oD) := by simpa using hp'
      subst this
      refine ⟨eD, I.hok.fresh hD, hDC, fun z => ?_, dD⟩
      rcases List.mem_cons.mp (I.stkSub _ z) with z | z
      · exact absurd (Nat.lt_of_lt_of_le I.lt (z ▸ hD)) (Nat.lt_irrefl _)
      · exact I.nofs hD z
  · show (σC own.length fr σ).length = (own ++ fr.map fun i => X.N.getD i Str.empty).length
    unfold σC
    simp
end
end M
set_option Elab.async false
set_option linter.all false
set_option maxRecDepth 100000
set_option autoImplicit false
namespace M
open PySem PySem.Spec PyProof.Rows L2
theorem HOk.track {P : Program} {w : World} {H : Hp} {h : Heap} {a : Addr} {o : HO} (x : HOk P w H h) (hn : H a = none) (new : ObjOk P w (upd H a o) h a o) : HOk P w (upd H a o) h := fun b u e => by
  by_cases hb : b = a
  · subst hb; rw [upd_same] at e; cases e; exact new
  · rw [upd_ne hb] at e
    exact (x b u e).stay (fun c v _ q => q) (fun c q => by rw [upd_ne (ne_of_none q hn)]; exact q) fun c xs q => by rw [upd_ne (ne_of_none q hn)]; exact q
theorem newEnvC {M : Model} {A : Around} {E : Value → Shared → Prop} {s : Shared} {scope : Scope} {globals : Addr} {cl : List (Str × Addr)} {qual : Str} {env : Env} {Q : Env → Shared → Prop}
    (hQ : Q (newEnv scope s.heap.objs.size globals (cellsFrom (s.heap.objs.size + 1) scope.names cl) qual none .none (some env) builtinsNs) { s with heap := pushCells (s.heap.push { cls := .type "dict", data := .dict #[] }) scope.names }) :
    wpAny M A (newFunctionEnv scope globals cl [] qual none .none (some env)) Q E s := by
  simp only [newFunctionEnv, Option.isSome_some, if_true]
  refine wpAny_bind (wpAny_alloc ?_)
  refine wpAny_bind (wpAny_layCells _ (fun name kind cells => by cases hkc : kind == NameKind.cell <;> simp [hkc]) _ _ _ _ ?_)
  rw [show ({ s with heap := s.heap.push { cls := .type "dict", data := .dict #[] } } : Shared).heap.objs.size = s.heap.objs.size + 1 from Heap.size_push ..]
  refine wpAny_bind ?_
  rw [List.forIn_nil]
  exact wpAny_pure (wpAny_pure hQ)
section
variable {X : Cx} {own : List Str} {fr : List Nat} {scope : Scope}
structure Walked (X : Cx) (pins : List (Addr × Obj)) (σ : L2.St) (H : Hp) (ys : List V) (D C : Addr) (s : Shared) : Prop where
  inv : Inv X pins σ (upd H D (.lst ys)) s
  free : H D = none
  freeC : upd H D (.lst ys) C = none
  own : ∃ m, s.heap.Ns C m
  notL : C ≠ X.env.locals
  young : X.s₀.heap.objs.size ≤ C
  notCell : ∀ x c, X.env.cells.lookup x = some c → c ≠ C
  notPin : ∀ p ∈ X.pn ++ pins, p.1 ≠ C
theorem lc_core {elt tg iter : Expr} {ifs : List Expr} {pos : Pos} {g : TG} {tc : TT} {te : TE} {pins : List (Addr × Obj)} {σ : L2.St} {s2 : Shared} {Qn : List V → Hp → Prop} {itv : Value} {RR : Value → Addr → Result → Shared → Prop} (own : List Str) (fr : List Nat) (hc : X.calm = true)
    (hg : ∀ cl C s₀ H₀ fp, PG (cxC X own fr scope cl C s₀ H₀ fp) tg g) (hq : ∀ cl C s₀ H₀ fp, PF (cxC X own fr scope cl C s₀ H₀ fp) ifs tc) (he : ∀ cl C s₀ H₀ fp, PE (cxC X own fr scope cl C s₀ H₀ fp) elt te)
    (hk : scope.kind = .function) (hnm : ∀ y ∈ scope.names, scope.names.lookup y.1 = some y.2)
    (hfree : ∀ x ∈ scope.names, x.2 = .free → (X.env.kindOf x.1 = some .cell ∨ X.env.kindOf x.1 = some .free)) (hfr : ∀ i ∈ fr, ∃ x, X.N[i]? = some x ∧ scope.names.lookup x = some .free)
    (h2 : PIE X pins σ tg (fun J H1 => ∃ W : Nat → Nat → List V → Hp → Prop, (∃ m, W 0 m [] H1) ∧ ∀ i m ys H, W i m ys H →
      (J.stop i H ∧ Qn ys H) ∨ (J.go i H ∧ ys.length < sizeLine ∧ ∀ x H', J.yld i H x H' → g x (σC own.length fr σ) H' fun σ2 H2 => SubSt (σC own.length fr σ) σ2 ∧ tc σ2 H2 fun b H3 =>
        if b = true then te σ2 H3 fun y H4 => ∃ m', m' < m ∧ W (i + 1) m' (ys ++ [y]) H4 else ∃ m', m' < m ∧ W (i + 1) m' ys H3)) itv s2)
    (fin : ∀ ys H D C s4, Qn ys H → Walked X pins σ H ys D C s4 → RR (.ref D) C (.ok .next) s4) :
    wpAny (model X.prog X.w) X.A (newList []) (fun acc s₃ => wpAny (model X.prog X.w) X.A (newFunctionEnv scope X.env.globals (clFrom X.env.cells scope.names []) [] X.env.qual none .none (some X.env)) (fun cenv s₄ =>
      codeAny (model X.prog X.w) X.A (.compStart (.ListComp elt [⟨tg, iter, ifs, 0⟩] scope pos) 0 itv acc { cenv with scope := relabel scope X.env }) (RR acc cenv.locals) s₄) X.xe s₃) X.xe s2 := by
  obtain ⟨it, fp, tn, J, H2, e, I2, T, st2, f2, W, ⟨m0, w0⟩, turn⟩ := h2
  subst e
  have hfl : ∀ b ∈ fp, b < s2.heap.objs.size := fun b hb => by
    obtain ⟨o, e, _⟩ := T.obj _ _ st2 b hb
    exact Heap.lt_size e
  refine wpAny_newObj_type (newEnvC ?_)
  dsimp only
  generalize hH2 : s2.heap.push { cls := .type "list", dict := none, data := .seq ([] : List Value).toArray } = G2
  have hC : G2.objs.size = s2.heap.objs.size + 1 := by rw [← hH2, Heap.size_push]
  have hDC : s2.heap.objs.size ≠ G2.objs.size := by rw [hC]; exact Nat.ne_of_lt (Nat.lt_succ_self _)
  have hCle : s2.heap.objs.size ≤ G2.objs.size := by rw [hC]; exact Nat.le_succ _
  have below : ∀ b, b < s2.heap.objs.size → b ≠ G2.objs.size ∧ b ≠ s2.heap.objs.size := fun b hb => ⟨by rw [hC]; exact Nat.ne_of_lt (Nat.lt_succ_of_lt hb), Nat.ne_of_lt hb⟩
  have hns₁ : (pushCells (G2.push { cls := .type "dict", data := .dict #[] }) scope.names).Ns G2.objs.size (fun _ => none) := (Heap.Ns.new G2 (.type "dict")).keeps fun b o e => pushCells_keeps _ _ _ _ e
  have hok₁ : CellsOk (pushCells (G2.push { cls := .type "dict", data := .dict #[] }) scope.names) (G2.objs.size + 1) (cellsFrom (G2.objs.size + 1) scope.names []) := by
    have := cellsFrom_ok scope.names (G2.push { cls := .type "dict", data := .dict #[] }) (G2.objs.size + 1) [] ⟨fun _ _ hm => (nomatch hm), List.Pairwise.nil⟩ (by rw [Heap.size_push]; exact Nat.le_refl _)
    rw [Heap.size_push] at this
    exact this
  have hk₁ : ∀ b o, G2.get? b = some o → (pushCells (G2.push { cls := .type "dict", data := .dict #[] }) scope.names).get? b = some o := fun b o e => pushCells_keeps _ _ _ _ (Heap.get?_push_of_some _ e)
  generalize pushCells (G2.push { cls := .type "dict", data := .dict #[] }) scope.names = h₁ at hns₁ hok₁ hk₁ ⊢
  have old : ∀ b o, s2.heap.get? b = some o → h₁.get? b = some o := fun b o e => hk₁ b o (hH2 ▸ Heap.get?_push_of_some _ e)
  have hacc : h₁.get? s2.heap.objs.size = some { cls := .type "list", data := .seq ([] : List Value).toArray 0 } := hk₁ _ _ (hH2 ▸ Heap.get?_push_size _ rfl)
  generalize hXC : cxC X own fr scope (cellsFrom (G2.objs.size + 1) scope.names (clFrom X.env.cells scope.names [])) G2.objs.size s2 H2 fp = XC
  have eenv : compEnvC scope (cellsFrom (G2.objs.size + 1) scope.names (clFrom X.env.cells scope.names [])) G2.objs.size X.env = XC.env := by rw [← hXC]; rfl
  have eprog : XC.prog = X.prog := by rw [← hXC]; rfl
  have ew : XC.w = X.w := by rw [← hXC]; rfl
  have eA : XC.A = X.A := by rw [← hXC]; rfl
  have eK : XC.K = X.K := by rw [← hXC]; rfl
  have ecalm : XC.calm = true := by rw [← hXC]; exact hc
  have exe : XC.xe = fun _ _ => False := by rw [← hXC]; rfl
  have eloc : XC.env.locals = G2.objs.size := by rw [← hXC]; rfl
  have eex : XC.ex = fp := by rw [← hXC]; rfl
  have efs : XC.fs = frs X.stack := by rw [← hXC]; rfl
  have es0 : XC.s₀ = s2 := by rw [← hXC]; rfl
  have eH0 : XC.H₀ = H2 := by rw [← hXC]; rfl
  have epn : XC.pn = X.pn := by rw [← hXC]; rfl
  have ecells : ∀ x c, XC.env.cells.lookup x = some c → X.env.cells.lookup x = some c ∨ G2.objs.size < c := fun x c e => by
    rw [← hXC] at e
    rcases cf_look (show (cellsFrom (G2.objs.size + 1) scope.names (clFrom X.env.cells scope.names [])).lookup x = some c from e) with q | ⟨_, q⟩
    · exact .inr (cf_mem _ _ _ _ (PySem.mem_of_lookup q)).1
    · rcases cl_sound _ _ q with q | q
      · cases q
      · exact .inl q
  have hg' : PG XC tg g := hXC ▸ hg _ _ _ _ _
  have hq' : PF XC ifs tc := hXC ▸ hq _ _ _ _ _
  have he' : PE XC elt te := hXC ▸ he _ _ _ _ _
  have fpok : ∀ {H' : Hp} {pl : List (Addr × Obj)}, (∀ b ∈ fp, H' b = none) → (∀ p ∈ pl, p.1 = s2.heap.objs.size) → ∀ b ∈ fp, FpOk XC (pins ++ pl) H' b := fun {H' pl} hn hpl b hb => by
    obtain ⟨_, f2, f3, f4, f5, f6⟩ := f2 b hb
    refine ⟨hn b hb, by rw [eloc]; exact (below b (hfl b hb)).1, by rw [efs]; exact stk_not I2 f2 f3, .inl (by rw [eex]; exact hb), fun x c e => ?c5, fun p hp => ?_⟩
    case c5 =>
      rcases ecells x c e with q | q
      · exact f5 x c q
      · exact Nat.ne_of_gt (Nat.lt_of_lt_of_le (hfl b hb) (Nat.le_trans hCle (Nat.le_of_lt q)))
    rw [epn, ← List.append_assoc] at hp
    rcases List.mem_append.mp hp with hp | hp
    · exact f6 p hp
    · rw [hpl p hp]; exact Ne.symm (below b (hfl b hb)).2
  have loop : ∀ s₃ : Shared, s₃ = { s2 with heap := h₁ } →
      codeAny (model X.prog X.w) X.A (.compLoop (.ListComp elt [⟨tg, iter, ifs, 0⟩] scope pos) 0 (.ref it) (.ref s2.heap.objs.size) (compEnvC scope (cellsFrom (G2.objs.size + 1) scope.names (clFrom X.env.cells scope.names [])) G2.objs.size X.env))
        (RR (.ref s2.heap.objs.size) G2.objs.size) s₃ := by
    rintro s₃ rfl
    have I0 := inv_comp (own := own) (fr := fr) (t := s2.toks) (lo := G2.objs.size + 1) I2 f2 hfl hk hnm hfree hfr (Nat.lt_succ_self _) hok₁ old (Nat.le_refl _) hCle hDC (Nat.lt_succ_of_le hCle) hacc (by intro v z; cases z) hns₁
    rw [hXC] at I0
    refine compLoop_own (fun n s' => ∃ (i : Nat) (ys : List V) (its : Array Value) (k : Nat) (H' : Hp), Inv XC (pins ++ [(s2.heap.objs.size, ({ cls := .type "list", data := .seq its k } : Obj))]) (σC own.length fr σ) H' s' ∧ Vals ys its.toList ∧ ys.length ≤ sizeLine ∧ tn i s'.heap ∧ (∀ b ∈ fp, H' b = none) ∧ W i n ys H') ?_ m0
      ⟨0, [], #[], 0, H2, I0, .nil, Nat.zero_le _, T.keep _ _ _ st2 (fun b hb o e => old b o e), fun b hb => (f2 b hb).1, w0⟩
    rintro n s3 ⟨i, ys, its, kk, H3, I3, rv, hz, st3, fr3, w3⟩
    have pl1 : ∀ p ∈ [(s2.heap.objs.size, ({ cls := .type "list", data := .seq its kk } : Obj))], p.1 = s2.heap.objs.size := fun p hp => by
      rw [List.mem_singleton.mp hp]
    rcases turn i n ys H3 w3 with ⟨stop, qn⟩ | ⟨go, hlt, step⟩
    · have td := T.done XC eprog ew eK ecalm i _ s3 _ H3 (fun _ _ => False) I3 (fpok fr3 pl1) st3 stop
      rw [eA] at td
      refine thn td fun r s4 ⟨hr, I4⟩ => ?_
      subst hr
      obtain ⟨m, hn, _⟩ := id I4.loc
      rw [eloc] at hn
      obtain ⟨p1, p2, p3, p4, p5⟩ := I4.pin (s2.heap.objs.size, _) (List.mem_append_right _ (List.mem_append_right _ List.mem_cons_self))
      have hnC : H3 G2.objs.size = none := by have := I4.free; rw [eloc] at this; exact this
      have hokf : HOk X.prog X.w (upd H3 s2.heap.objs.size (.lst ys)) s4.heap := by
        refine HOk.track (by have := I4.hok; rw [eprog, ew] at this; exact this) p2 ⟨hz, its.toList, kk, rv, by simpa using p1⟩
      have u0 : Un (frs X.stack) fp H2 H3 s2.heap s4.heap := by
        have := I4.base
        rw [efs, eex, es0, eH0] at this
        exact this
      have u1 : Un (frs X.stack) fp H2 (upd H3 s2.heap.objs.size (.lst ys)) s2.heap s4.heap := by
        have bd : ∀ b o, s2.heap.get? b = some o → b ≠ s2.heap.objs.size := fun b o e => (below b (Heap.lt_size e)).2
        refine ⟨u0.keep, u0.slot, fun b o e n hx => by rw [upd_ne (bd b o e)]; exact u0.free b o e n hx, u0.there, fun b xs e => ?_, fun b o u e => ?_, fun b ps e => ?_⟩
        · have q := u0.tups b xs e
          rw [upd_ne (ne_of_none q p2)]; exact q
        · have q := u0.frzs b o u e
          rw [upd_ne (ne_of_none q p2)]; exact q
        · obtain ⟨more, q⟩ := u0.tbls b ps e
          exact ⟨more, by rw [upd_ne (ne_of_none q p2)]; exact q⟩
      have os4 : s4.os = s2.os := by have := I4.os; rw [es0] at this; exact this
      have IF : Inv X pins σ (upd H3 s2.heap.objs.size (.lst ys)) { s2 with heap := s4.heap, gens := s4.gens, drawn := s4.drawn, toks := s4.toks } :=
        I2.call (h' := s4.heap) (ch := fp) u1 hokf I4.bare fun b hb => by
          obtain ⟨_, f2, f3, f4, f5, f6⟩ := f2 b hb
          exact ⟨f4, f2, f5, f6⟩
      have es : s4 = { s2 with heap := s4.heap, gens := s4.gens, drawn := s4.drawn, toks := s4.toks } := by
        obtain ⟨a1, a2, a3, a4, a5⟩ := s4
        have : a5 = s2.os := os4
        subst this
        rfl
      rw [← es] at IF
      refine fin ys H3 _ _ s4 qn ⟨IF, p2, by rw [upd_ne (Ne.symm hDC)]; exact hnC, ⟨m, hn⟩, Ne.symm (below _ I2.lt).1, Nat.le_trans I2.sz hCle, fun x c e => ?_, fun p hp => ?_⟩
      · obtain ⟨v, o, ho, _⟩ := I2.cell x c e
        exact (below c (Heap.lt_size ho)).1
      · exact (below p.1 (Heap.lt_size (I2.pin p hp).1)).1
    · have td := T.item XC eprog ew eK ecalm i _ s3 _ H3 (fun _ _ => False) I3 (fpok fr3 pl1) st3 go
      rw [eA] at td
      refine thn td fun r s4 ⟨u, hr, h4⟩ => ?_
      subst hr
      refine thn h4 fun _ s5 ⟨x, H5, I5, r5, y5, st5, fr5⟩ => ?_
      have I5' := I5.pinned (fpok fr5 pl1) (T.obj _ _ st5)
      have hgw := hg' _ s5 _ H5 x u _ I5' r5 (step x H5 y5)
      rw [exe, eprog, ew, eA] at hgw
      rw [eenv]
      refine thn hgw fun _ s6 ⟨σ6, H6, I6, ⟨hsl, hsub⟩, q6⟩ => ?_
      have hqw := hq' _ s6 σ6 H6 _ I6 q6
      rw [exe, eprog, ew, eA] at hqw
      refine thn hqw fun ok s7 ⟨H7, I7, q7⟩ => ?_
      have back : ∀ {H8 : Hp} {s8 : Shared}, Inv XC (pins ++ [(s2.heap.objs.size, ({ cls := .type "list", data := .seq its kk } : Obj))] ++ pinsAt fp s5.heap) σ6 H8 s8 →
          Inv XC (pins ++ [(s2.heap.objs.size, ({ cls := .type "list", data := .seq its kk } : Obj))]) (σC own.length fr σ) H8 s8 ∧ tn (i + 1) s8.heap ∧ ∀ b ∈ fp, H8 b = none := fun {H8 s8} I8 => by
        refine ⟨I8.unpinned.weak hsl.symm hsub, T.keep _ _ _ st5 fun b hb o e => (I8.pin (b, o) (List.mem_append_right _ (List.mem_append_right _ (mem_pinsAt hb e)))).1, fun b hb => ?_⟩
        obtain ⟨o, e, d⟩ := T.obj _ _ st5 b hb
        exact (I8.pin (b, o) (List.mem_append_right _ (List.mem_append_right _ (mem_pinsAt hb e)))).2.1
      cases ok with
      | false =>
        have q7' : ∃ m', m' < n ∧ W (i + 1) m' ys H7 := by simpa using q7
        rw [if_neg Bool.false_ne_true]
        obtain ⟨m', hm, w7⟩ := q7'
        obtain ⟨J1, J2, J3⟩ := back I7
        exact ⟨m', hm, i + 1, ys, its, kk, H7, J1, rv, hz, J2, J3, w7⟩
      | true =>
        rw [if_pos rfl] at q7 ⊢
        have hew := he' _ s7 σ6 H7 _ I7 q7
        rw [exe, eprog, ew, eA] at hew
        refine thn hew fun y s8 ⟨vy, H8, I8, r8, m', hm, w8⟩ => ?_
        obtain ⟨J1, J2, J3⟩ := back I8
        obtain ⟨p1, p2, p3, p4, p5⟩ := J1.pin (s2.heap.objs.size, _) (List.mem_append_right _ (List.mem_append_right _ List.mem_cons_self))
        have hil : its.size = ys.length := by rw [rv.length]; simp
        refine append_at (hsz := by rw [hil]; exact hz) p1 fun h9 sb9 e9 => ?_
        have Df : s2.heap.objs.size ∉ fp := fun z => absurd (hfl _ z) (Nat.lt_irrefl _)
        have J0 : Inv XC pins (σC own.length fr σ) H8 s8 := J1.unpinned
        have J9 : Inv XC pins (σC own.length fr σ) H8 { s8 with heap := h9 } := by
          refine J0.turned (t' := s8.toks) (it := s2.heap.objs.size) (fun b o hb e => (sb9.2 b hb).trans e) p2 p3 (.inr (by rw [es0]; exact Nat.le_refl _)) (fun x c e z => ?_) (fun p hp z => ?_)
          · rcases ecells x c e with q | q
            · obtain ⟨v, o, ho, _⟩ := I2.cell x c q
              exact (below c (Heap.lt_size ho)).2 z
            · exact Nat.ne_of_gt (Nat.lt_of_le_of_lt hCle q) z
          · rw [epn] at hp
            exact (below p.1 (Heap.lt_size (I2.pin p hp).1)).2 z
        refine ⟨m', hm, i + 1, ys ++ [vy], its.push y, kk + 1, H8, J9.pins_of fun p hp => ?_, ?_, by simp; exact hlt, T.keep _ _ _ J2 (fun b hb o e => (sb9.2 b (fun z => Df (z ▸ hb))).trans e), J3, w8⟩
        · rcases List.mem_append.mp hp with hp | hp
          · exact J9.pin p (List.mem_append_right _ hp)
          · have e := List.mem_singleton.mp hp
            subst e
            exact ⟨e9, p2, p3, p4, by intro v z; cases z⟩
        · rw [Array.toList_push]
          exact rv.append (.cons r8 .nil)
  exact codeAny_compStart_list (loop _ rfl) (T.self X.A 0 _ _ _ (T.keep _ _ _ st2 fun b hb o e => old b o e) (loop _ rfl))
theorem Walked.gone {pins : List (Addr × Obj)} {σ : L2.St} {H : Hp} {ys : List V} {D C : Addr} {s : Shared} (w : Walked X pins σ H ys D C s) {h' : Heap} (sb : Heap.SameBut C s.heap h') : Inv X pins σ (upd H D (.lst ys)) { s with heap := h' } :=
  w.inv.turned (t' := s.toks) (fun b o hb e => (sb.2 b hb).trans e) w.freeC (Ne.symm (Ne.symm w.notL)) (.inr w.young) w.notCell w.notPin
theorem pe_lc {elt tg iter : Expr} {ifs : List Expr} {pos : Pos} {wi : TI} {g : TG} {tc : TT} {te : TE} (own : List Str) (fr : List Nat) (hc : X.calm = true) (hi : PI X tg iter wi)
    (hg : ∀ cl C s₀ H₀ fp, PG (cxC X own fr scope cl C s₀ H₀ fp) tg g) (hq : ∀ cl C s₀ H₀ fp, PF (cxC X own fr scope cl C s₀ H₀ fp) ifs tc) (he : ∀ cl C s₀ H₀ fp, PE (cxC X own fr scope cl C s₀ H₀ fp) elt te)
    (hk : scope.kind = .function) (hnm : ∀ y ∈ scope.names, scope.names.lookup y.1 = some y.2)
    (hfree : ∀ x ∈ scope.names, x.2 = .free → (X.env.kindOf x.1 = some .cell ∨ X.env.kindOf x.1 = some .free)) (hfr : ∀ i ∈ fr, ∃ x, X.N[i]? = some x ∧ scope.names.lookup x = some .free)
    (hs : ∀ x, foldedSetIterable iter X.env x = pure x := by intro _; rfl) : PE X (.ListComp elt [⟨tg, iter, ifs, 0⟩] scope pos) (tLC own.length fr wi g tc te) := by
  intro pins s σ H Q I h
  rw [eval_ListComp]
  have hclos : closureFor scope X.env = pure (clFrom X.env.cells scope.names []) := closure_eq fun x hx e => I.ok.has x.1 (hfree x hx e)
  refine wpAny_comprehension_free (use := none) rfl hs hclos hk (fun x hx e => by rw [hnm x hx, e]) ?_
  show wpAny _ _ (eval iter X.env) _ _ s
  refine thn (hi pins s σ H _ I h) fun v s1 h1 => thn h1 fun itv s2 h2 => ?_
  refine lc_core (RR := fun acc C => compPost (model X.prog X.w) X.A X.xe none (EP X pins σ Q) acc C) own fr hc hg hq he hk hnm hfree hfr h2 fun ys H3 D C s4 q w => ?_
  obtain ⟨m, hn⟩ := w.own
  exact ⟨m, hn, fun h' sb => ⟨.ref D, _, w.gone sb, rfl, q D w.free⟩⟩
theorem ps_setLC {elt tg iter : Expr} {ifs : List Expr} {pos spos py : Pos} {wi : TI} {g : TG} {tc : TT} {te : TE} {y : Str} {i : Nat} (own : List Str) (fr : List Nat) (hN : X.N.Nodup) (hiN : X.N[i]? = some y) (hy : X.env.scope.names.lookup y = some .local) (hc : X.calm = true) (hi : PI X tg iter wi)
    (hsw : swapsWith (.ListComp elt [⟨tg, iter, ifs, 0⟩] scope pos) (some (.Name y py)) spos.line X.env = pure true)
    (hg : ∀ cl C s₀ H₀ fp, PG (cxC X own fr scope cl C s₀ H₀ fp) tg g) (hq : ∀ cl C s₀ H₀ fp, PF (cxC X own fr scope cl C s₀ H₀ fp) ifs tc) (he : ∀ cl C s₀ H₀ fp, PE (cxC X own fr scope cl C s₀ H₀ fp) elt te)
    (hk : scope.kind = .function) (hnm : ∀ y ∈ scope.names, scope.names.lookup y.1 = some y.2)
    (hfree : ∀ x ∈ scope.names, x.2 = .free → (X.env.kindOf x.1 = some .cell ∨ X.env.kindOf x.1 = some .free)) (hfr : ∀ i ∈ fr, ∃ x, X.N[i]? = some x ∧ scope.names.lookup x = some .free)
    (hs : ∀ x, foldedSetIterable iter X.env x = pure x := by intro _; rfl) : PS X (.Assign [.Name y py] (.ListComp elt [⟨tg, iter, ifs, 0⟩] scope pos) spos) (tAsg (tLC own.length fr wi g tc te) (gName i)) := by
  intro pins s σ H E I h
  rw [exec_Assign_Name_used _ _ _ _ hsw]
  refine wpAny_bind (wpAny_standAt (wpAny_bind ?_))
  have hclos : closureFor scope X.env = pure (clFrom X.env.cells scope.names []) := closure_eq fun x hx e => I.ok.has x.1 (hfree x hx e)
  show wpAny _ X.A (do let _ ← comprehension (.ListComp elt [⟨tg, iter, ifs, 0⟩] scope pos) scope X.env _ (newList []) false (eval iter X.env) (some (assign (.Name y py) X.env))) _ _ s
  refine wpAny_bind (wpAny_mono (wpAny_comprehension_free (use := some (assign (.Name y py) X.env)) (Q := fun _ s' => SP X pins E .next s') rfl hs hclos hk (fun x hx e => by rw [hnm x hx, e]) ?_) (fun _ s' hq => wpAny_pure (wpAny_pure hq)) fun _ _ e => e)
  show wpAny _ _ (eval iter X.env) _ _ s
  refine thn (hi pins s σ H _ I h) fun v s1 h1 => thn h1 fun itv s2 h2 => ?_
  refine lc_core (RR := fun acc C => compPost (model X.prog X.w) X.A X.xe (some (assign (.Name y py) X.env)) (fun _ s' => SP X pins E .next s') acc C) own fr hc hg hq he hk hnm hfree hfr h2 fun ys H3 D C s4 q w => ?_
  show wpAny _ X.A (assign (.Name y py) X.env (.ref D)) _ _ s4
  obtain ⟨m, hn⟩ := w.own
  refine wpAny_assign_Name (store_ok2 (v := V.ref D) w.inv hN hiN (.inl hy) rfl (fun s5 I5 ⟨a, sb, ha⟩ => ?_) (.inr hy))
  have haC : C ≠ a := by
    rcases ha with e | e
    · rw [e]; exact w.notL
    · exact Ne.symm (w.notCell y a e)
  refine ⟨m, hn.sameBut sb haC, fun h' sb' => ?_⟩
  refine ⟨_, _, I5.turned (t' := s5.toks) (fun b o hb e => (sb'.2 b hb).trans e) w.freeC w.notL (.inr w.young) w.notCell w.notPin, q D w.free⟩
end
end M
set_option Elab.async false
set_option linter.all false
set_option maxRecDepth 100000
set_option autoImplicit false
namespace M
open PySem PySem.Spec PyProof.Rows L2
section
variable {K : PySem.W.Frag} {ρ ρ1 : List Addr} {H H1 : Hp}
theorem OutOk.ext {W : XK} {E : Ends} {o : Out} (h : OutOk K W ρ H E o) (x : Ext ρ H ρ1 H1) : OutOk K W ρ1 H1 E o := by
  cases o with
  | next δ μ => exact fun ρ' σ' H' x' A => h ρ' σ' H' (x.trans x') A
  | brk δ μ => exact fun ρ' σ' H' x' A => h ρ' σ' H' (x.trans x') A
  | cont δ μ => exact fun ρ' σ' H' x' A => h ρ' σ' H' (x.trans x') A
  | ret d μ => exact fun ρ' v H' x' R r => h ρ' v H' (x.trans x') R r
  | exc c fs μ => exact fun ρ' H' C dx hc x' R r => h ρ' H' C dx hc (x.trans x') R r
theorem At.set {σ : L2.St} {δ : Loc} {μ : Mem} {d : D} {v : V} (A : At K ρ H σ δ μ) (r : RepV K ρ H d v) (i : Nat) : At K ρ H (σ.set i (some v)) (δ.set i (some d)) μ := by
  refine ⟨fun j d' e => ?_, A.hp, by simp [A.len]⟩
  by_cases hj : j = i
  · subst hj
    have hl : j < δ.length := by
      have := (List.getElem?_eq_some_iff.mp e).1
      simpa using this
    rw [List.getElem?_set_self hl] at e
    cases e
    exact ⟨v, by rw [List.getElem?_set_self (by rw [A.len]; exact hl)], r⟩
  · rw [List.getElem?_set_ne (Ne.symm hj)] at e
    obtain ⟨u, e1, q⟩ := A.st j d' e
    exact ⟨u, by rw [List.getElem?_set_ne (Ne.symm hj)]; exact e1, q⟩
end
section
variable {X : Cx} {a b c e : Expr} {es : List Expr} {φ ψ χ : FE} {pos : Pos} {st : Stmt} {rest : List Stmt}
@[simp] noncomputable def sSkip : FS := fun δ μ => some (.next δ μ)
@[simp] noncomputable def sSeq (p q : FS) : FS := fun δ μ => match p δ μ with
  | some (.next δ' μ') => q δ' μ'
  | o => o
theorem mss_nil : MSs X [] sSkip := mss_of pss_nil fun ρ δ μ σ H o E A e k => by
  cases e
  exact k ρ σ H Ext.refl A
theorem mss_one {p : FS} (h : MS X st p) : MSs X [st] p := pss_one h
theorem mss_cons {p q : FS} (h1 : MS X st p) (h2 : MSs X rest q) : MSs X (st :: rest) (sSeq p q) :=
  mss_of (pss_cons h1 h2) fun ρ δ μ σ H o E A e k => by
    unfold sSeq at e
    show tMS X.K (wishX X) p { E with nx := tMS X.K (wishX X) q E } σ H
    cases ep : p δ μ with
    | none => rw [ep] at e; cases e
    | some op =>
      rw [ep] at e
      refine ⟨ρ, δ, μ, op, A, ep, ?_⟩
      cases op with
      | next δ' μ' => exact fun ρ' σ' H' x' A' => ⟨ρ', δ', μ', o, A', e, k.ext x'⟩
      | brk δ' μ' => cases e; exact k
      | cont δ' μ' => cases e; exact k
      | ret d μ' => cases e; exact k
      | exc C fs μ' => cases e; exact k
@[simp] noncomputable def sRet (φ : FE) : FS := fun δ μ => (φ δ μ).bind fun p => some (.ret p.1 p.2)
theorem ms_ret (h : ME X e φ) : MS X (.Return (some e) pos) (sRet φ) := ms_of (ps_ret h) fun ρ δ μ σ H o E A e k => by
  obtain ⟨⟨x, μ1⟩, e1, e⟩ := bind_inv e
  cases e
  exact ⟨ρ, δ, μ, x, μ1, A, e1, fun ρ' H' v x' R r => k ρ' v H' x' R r⟩
@[simp] noncomputable def sExpr (φ : FE) : FS := fun δ μ => (φ δ μ).bind fun p => some (.next δ p.2)
theorem ms_expr (h : ME X e φ) (hs : swapsWith e none pos.line X.env = pure false := by rfl) : MS X (.Expr e pos) (sExpr φ) := ms_of (ps_expr h hs) fun ρ δ μ σ H o E A e k => by
  obtain ⟨⟨x, μ1⟩, e1, e⟩ := bind_inv e
  cases e
  exact ⟨ρ, δ, μ, x, μ1, A, e1, fun ρ' H' v x' R r => k ρ' σ H' x' (A.ext x' R)⟩
@[simp] noncomputable def sSet (i : Nat) (φ : FE) : FS := fun δ μ => (φ δ μ).bind fun p => some (.next (δ.set i (some p.1)) p.2)
theorem ms_set {x : Str} {pos' : Pos} (i : Nat) (he : ME X e φ) (hN : X.N.Nodup := by first | assumption | decide) (hi : X.N[i]? = some x := by rfl) (hx : L2.Loc X.env.scope x := by first | exact Or.inl rfl | exact Or.inr rfl) (hs : swapsWith e (some (.Name x pos')) pos.line X.env = pure false := by rfl)
    (hf : X.fn x = true ∨ X.env.scope.names.lookup x = some .local := by first | exact .inl rfl | exact .inr rfl | assumption) : MS X (.Assign [.Name x pos'] e pos) (sSet i φ) := ms_of (ps_set hN hi hx he hs hf) fun ρ δ μ σ H o E A e k => by
  obtain ⟨⟨x, μ1⟩, e1, e⟩ := bind_inv e
  cases e
  exact ⟨ρ, δ, μ, x, μ1, A, e1, fun ρ' H' v x' R r => k ρ' _ H' x' ((A.ext x' R).set r i)⟩
@[simp] noncomputable def sIf (c : FT) (p q : FS) : FS := fun δ μ => (c δ μ).bind fun t => bif t.1 then p δ t.2 else q δ t.2
theorem ms_if {s1 s2 : List Stmt} {t : FT} {p q : FS} (hc : MT X c t) (h1 : MSs X s1 p) (h2 : MSs X s2 q) : MS X (.If c s1 s2 pos) (sIf t p q) := ms_of (ps_if hc h1 h2) fun ρ δ μ σ H o E A e k => by
  obtain ⟨⟨x, μ1⟩, e1, e⟩ := bind_inv e
  refine ⟨ρ, δ, μ, x, μ1, A, e1, fun ρ' H' x' R => ?_⟩
  cases x with
  | true => exact iteT ⟨ρ', δ, μ1, o, A.ext x' R, e, k.ext x'⟩
  | false => exact iteF ⟨ρ', δ, μ1, o, A.ext x' R, e, k.ext x'⟩
noncomputable abbrev FG := D → Loc → Mem → Option (Loc × Mem)
noncomputable abbrev FGs := List D → Loc → Mem → Option (Loc × Mem)
noncomputable def tMG (K : PySem.W.Frag) (g : FG) : TG := fun v σ H Q => ∃ ρ δ μ d δ' μ', At K ρ H σ δ μ ∧ RepV K ρ H d v ∧ g d δ μ = some (δ', μ') ∧ ∀ ρ' σ' H', Ext ρ H ρ' H' → At K ρ' H' σ' δ' μ' → Q σ' H'
noncomputable def tMGs (K : PySem.W.Frag) (g : FGs) : TGs := fun vs σ H Q => ∃ ρ δ μ ds δ' μ', At K ρ H σ δ μ ∧ RepVs K ρ H ds vs ∧ g ds δ μ = some (δ', μ') ∧ ∀ ρ' σ' H', Ext ρ H ρ' H' → At K ρ' H' σ' δ' μ' → Q σ' H'
noncomputable def MG (X : Cx) (t : Expr) (g : FG) : Prop := PG X t (tMG X.K g)
noncomputable def MGs (X : Cx) (t : List Expr) (g : FGs) : Prop := PGs X t (tMGs X.K g)
theorem mg_of {t : Expr} {tt : TG} {g : FG} (h : PG X t tt) (w : ∀ ρ δ μ d δ' μ' v σ H Q, At X.K ρ H σ δ μ → RepV X.K ρ H d v → g d δ μ = some (δ', μ') → (∀ ρ' σ' H', Ext ρ H ρ' H' → At X.K ρ' H' σ' δ' μ' → Q σ' H') → tt v σ H Q) : MG X t g :=
  fun pins s σ H v u Q I r ⟨ρ, δ, μ, d, δ', μ', A, q, e, k⟩ => h pins s σ H v u Q I r (w ρ δ μ d δ' μ' v σ H Q A q e k)
theorem mgs_of {t : List Expr} {tt : TGs} {g : FGs} (h : PGs X t tt) (w : ∀ ρ δ μ d δ' μ' v σ H Q, At X.K ρ H σ δ μ → RepVs X.K ρ H d v → g d δ μ = some (δ', μ') → (∀ ρ' σ' H', Ext ρ H ρ' H' → At X.K ρ' H' σ' δ' μ' → Q σ' H') → tt v σ H Q) : MGs X t g :=
  fun pins s σ H v u Q I r ⟨ρ, δ, μ, d, δ', μ', A, q, e, k⟩ => h pins s σ H v u Q I r (w ρ δ μ d δ' μ' v σ H Q A q e k)
@[simp] noncomputable def gN (i : Nat) : FG := fun d δ μ => some (δ.set i (some d), μ)
theorem mg_name {x : Str} (i : Nat) (hN : X.N.Nodup := by first | assumption | decide) (hi : X.N[i]? = some x := by rfl) (hx : L2.Loc X.env.scope x := by first | exact Or.inl rfl | exact Or.inr rfl) (hf : X.fn x = true ∨ X.env.scope.names.lookup x = some .local := by first | exact .inl rfl | exact .inr rfl | assumption) : MG X (.Name x pos) (gN i) :=
  mg_of (pg_name hN hi hx hf) fun ρ δ μ d δ' μ' v σ H Q A q e k => by
    cases e
    exact k ρ _ H Ext.refl (A.set q i)
@[simp] noncomputable def gsNil : FGs := fun ds δ μ => match ds with
  | [] => some (δ, μ)
  | _ => none
@[simp] noncomputable def gsCons (g : FG) (gs : FGs) : FGs := fun ds δ μ => match ds with
  | d :: r => (g d δ μ).bind fun p => gs r p.1 p.2
  | _ => none
theorem mgs_nil : MGs X [] gsNil := mgs_of pgs_nil fun ρ δ μ ds δ' μ' vs σ H Q A q e k => by
  unfold gsNil at e
  split at e
  · cases e
    exact ⟨q.nil_inv, k ρ σ H Ext.refl A⟩
  · cases e
theorem mgs_cons {g : FG} {gs : FGs} (h1 : MG X e g) (h2 : MGs X es gs) (hs : (assignEach (e :: es) X.env).map (·.2) = assign e X.env :: (assignEach es X.env).map (·.2) := by rfl) : MGs X (e :: es) (gsCons g gs) :=
  mgs_of (pgs_cons h1 h2 hs) fun ρ δ μ ds δ' μ' vs σ H Q A q e k => by
    unfold gsCons at e
    split at e
    · obtain ⟨⟨δ1, μ1⟩, e1, e⟩ := bind_inv e
      obtain ⟨v, r, rfl, q1, q2⟩ := q.cons_inv
      refine ⟨v, r, rfl, ρ, δ, μ, _, δ1, μ1, A, q1, e1, fun ρ1 σ1 H1 x1 A1 => ?_⟩
      exact ⟨ρ1, δ1, μ1, _, δ', μ', A1, q2.ext x1, e, fun ρ2 σ2 H2 x2 A2 => k ρ2 σ2 H2 (x1.trans x2) A2⟩
    · cases e
@[simp] noncomputable def gT (n : Nat) (gs : FGs) : FG := fun d δ μ => match d with
  | .tup ds => bif ds.length == n then gs ds δ μ else none
  | _ => none
theorem mg_tup {k n : Nat} {gs : FGs} (h : MGs X es gs) (hc : X.calm = true := by rfl) (hn : (assignEach es X.env).length = n := by rfl) (hst : (assignEach es X.env).findIdx? (·.1) = none := by rfl) : MG X (.Tuple es k pos) (gT n gs) :=
  mg_of (pg_tup hc h hn hst) fun ρ δ μ d δ' μ' v σ H Q A q e k => by
    unfold gT at e
    split at e
    · obtain ⟨h1, e⟩ := bif_inv e
      obtain ⟨a, vs, rfl, e2, q2⟩ := q.tup_inv
      exact ⟨a, vs, rfl, SqT.of e2, by rw [← q2.length]; exact beq_iff_eq.mp h1, ρ, δ, μ, _, δ', μ', A, q2, e, k⟩
    · cases e
@[simp] noncomputable def gAt (φ ψ : FE) : FG := fun d δ μ => (φ δ μ).bind fun p => (ψ δ p.2).bind fun q => match p.1, q.1 with
  | .loc n, .int i => match q.2[n]? with
    | some (.lst ds) => (ixN ds.length i).bind fun j => some (δ, q.2.set n (.lst (ds.set j d)))
    | _ => none
  | _, _ => none
theorem mg_at {o i : Expr} (ho : ME X o φ) (hi : ME X i ψ) (ha : ∀ v, assign (.Subscript o i pos) X.env v = (do
      let ov ← holding [v] (eval o X.env)
      let iv ← holding [v, ov] (eval i X.env)
      standAt pos
      holding [v, ov, iv] (setItem ov iv v)
      release [v, ov, iv] []) := by intro _; rfl) : MG X (.Subscript o i pos) (gAt φ ψ) :=
  mg_of (pg_sub ho hi set_list ha) fun ρ δ μ d δ' μ' v σ H Q A q e k => by
    obtain ⟨⟨x, μ1⟩, e1, e⟩ := bind_inv e
    obtain ⟨⟨y, μ2⟩, e2, e⟩ := bind_inv e
    refine ⟨ρ, δ, μ, x, μ1, A, e1, fun ρ1 H1 v1 x1 R1 r1 => ?_⟩
    refine ⟨ρ1, δ, μ1, y, μ2, A.ext x1 R1, e2, fun ρ2 H2 v2 x2 R2 r2 => ?_⟩
    dsimp only at e
    split at e
    · split at e
      · rename_i hm
        obtain ⟨j, e3, e⟩ := bind_inv e
        cases e
        obtain ⟨ad, rfl, hr⟩ := (r1.ext x2).loc_inv
        obtain ⟨vs, hv, q3⟩ := R2.at_ _ _ _ hr hm
        have hmu : Mut (H2 ad) := by rw [hv]; trivial
        refine ⟨ad, vs, _, j, rfl, r2.int_inv, hv, by rw [← q3.length]; exact e3, ?_⟩
        have xx := x1.trans x2
        have R3 := R2.wr (o := .lst (vs.set j v)) (lo := .lst _) hmu hr ⟨_, upd_same, RepVs.ext (Ext.wr hmu) (q3.set j (q.ext xx))⟩
        exact k ρ2 σ _ (xx.trans (Ext.wr hmu)) (A.ext (xx.trans (Ext.wr hmu)) R3)
      · cases e
    · cases e
@[simp] noncomputable def sAsg (φ : FE) (g : FG) : FS := fun δ μ => (φ δ μ).bind fun p => (g p.1 δ p.2).bind fun q => some (.next q.1 q.2)
theorem ms_asg {tg : Expr} {g : FG} (he : ME X e φ) (hg : MG X tg g) (hs : swapsWithSole [tg] e pos.line X.env = pure false := by rfl) (hw : swappedStores [tg] e X.env = pure none := by rfl)
    (h1 : (assignEach [tg] X.env).map (·.2) = [assign tg X.env] := by rfl) : MS X (.Assign [tg] e pos) (sAsg φ g) := ms_of (ps_asg he hg hs hw h1) fun ρ δ μ σ H o E A e k => by
  obtain ⟨⟨x, μ1⟩, e1, e⟩ := bind_inv e
  obtain ⟨⟨δ1, μ2⟩, e2, e⟩ := bind_inv e
  cases e
  refine ⟨ρ, δ, μ, x, μ1, A, e1, fun ρ1 H1 v1 x1 R1 r1 => ?_⟩
  exact ⟨ρ1, δ, μ1, x, δ1, μ2, A.ext x1 R1, r1, e2, fun ρ2 σ2 H2 x2 A2 => k ρ2 σ2 H2 (x1.trans x2) A2⟩
noncomputable abbrev FI := Loc → Mem → Option (List D × (Mem → Bool) × Mem)
structure ItIs (K : PySem.W.Frag) (J : It) (ρ : List Addr) (H : Hp) (ds : List D) (ok : Mem → Bool) : Prop where
  go : ∀ ρ' H' μ' (i : Nat), Ext ρ H ρ' H' → RepH K ρ' H' μ' → ok μ' = true → i < ds.length → J.go i H'
  yld : ∀ ρ' H' μ' (i : Nat) x H'' d, Ext ρ H ρ' H' → RepH K ρ' H' μ' → ok μ' = true → ds[i]? = some d → J.yld i H' x H'' → Ext ρ' H' ρ' H'' ∧ RepH K ρ' H'' μ' ∧ RepV K ρ' H'' d x
  stop : ∀ ρ' H' μ', Ext ρ H ρ' H' → RepH K ρ' H' μ' → ok μ' = true → J.stop ds.length H'
noncomputable def tMI (K : PySem.W.Frag) (φ : FI) : TI := fun σ H R => ∃ ρ δ μ ds ok μ', At K ρ H σ δ μ ∧ φ δ μ = some (ds, ok, μ') ∧ ∀ ρ' H' J, Ext ρ H ρ' H' → RepH K ρ' H' μ' → ItIs K J ρ' H' ds ok → R J H'
noncomputable def MI (X : Cx) (tg iter : Expr) (φ : FI) : Prop := PI X tg iter (tMI X.K φ)
theorem mi_of {tg it : Expr} {t : TI} {φ : FI} (h : PI X tg it t) (w : ∀ ρ δ μ σ H ds ok μ' R, At X.K ρ H σ δ μ → φ δ μ = some (ds, ok, μ') → (∀ ρ' H' J, Ext ρ H ρ' H' → RepH X.K ρ' H' μ' → ItIs X.K J ρ' H' ds ok → R J H') → t σ H R) : MI X tg it φ :=
  fun pins s σ H R I ⟨ρ, δ, μ, ds, ok, μ', A, e, k⟩ => h pins s σ H R I (w ρ δ μ σ H ds ok μ' R A e k)
@[simp] noncomputable def yes : Mem → Bool := fun _ => true
@[simp] noncomputable def iRange (φ : FA) : FI := fun δ μ => (φ δ μ).bind fun p => match p.1 with
  | [.int j] => bif decide (-(2 ^ 62) ≤ j ∧ j < 2 ^ 62) then some ((List.range j.toNat).map fun (k : Nat) => .int k, yes, p.2) else none
  | _ => none
theorem mi_range {tg : Expr} {p : Pos} {φ : FA} (hm : X.mg "range" = none) (ha : MAn X [a] φ) (hg : Gl X "range" := by rfl) (hs : starEach [a] X.env = [(false, eval a X.env)] := by rfl) : MI X tg (.Call (.Name "range" p) [a] [] pos) (iRange φ) :=
  mi_of (pi_range1 hg hm ha.ma hs) fun ρ δ μ σ H ds ok μ' R A e k => by
    obtain ⟨⟨x, μ1⟩, e1, e⟩ := bind_inv e
    refine ⟨ρ, δ, μ, x, μ1, A, e1, fun ρ1 H1 v1 x1 R1 r1 => ?_⟩
    dsimp only at e
    split at e
    · rename_i j
      obtain ⟨h1, e⟩ := bif_inv e
      have h2 := of_decide_eq_true h1
      cases e
      obtain ⟨w, r, rfl, q1, q2⟩ := r1.cons_inv
      refine ⟨j, by rw [q1.int_inv, q2.nil_inv], h2.1, h2.2, k ρ1 H1 _ x1 R1 ⟨fun ρ' H' μ' i _ _ _ h => by rw [List.length_map, List.length_range] at h; exact h, fun ρ' H' μ' i x H'' d _ RR _ e ⟨y1, y2⟩ => ⟨y1 ▸ Ext.refl, y1 ▸ RR, ?_⟩, fun ρ' H' μ' _ _ _ => by show j.toNat ≤ _; simp⟩⟩
      rw [List.getElem?_map] at e
      cases e3 : (List.range j.toNat)[i]? with
      | none => rw [e3] at e; cases e
      | some m =>
        rw [e3] at e
        have hmi : m = i := by
          obtain ⟨w1, w2⟩ := List.getElem?_eq_some_iff.mp e3
          simpa using w2.symm
        subst hmi
        have e' : D.int (m : Nat) = d := Option.some.inj e
        subst e'
        rw [y2, show (0 : Int) + (m : Nat) = (m : Int) by omega]
        exact .int
    · cases e
theorem itt_is {K : PySem.W.Frag} {ρ : List Addr} {H : Hp} {a : Addr} {vs : List V} {ds : List D} (h : H a = some (.tup vs)) (r : RepVs K ρ H ds vs) : ItIs K (Itt K a) ρ H ds yes := by
  refine ⟨fun ρ' H' μ' i x R _ hi => ?_, fun ρ' H' μ' i x H'' d x' R _ e ⟨y1, y2⟩ => ⟨y1 ▸ Ext.refl, y1 ▸ R, y1 ▸ ?_⟩, fun ρ' H' μ' x R _ => ⟨vs, SqT.of (x.tup _ _ h), by rw [r.length]; exact Nat.le_refl _⟩⟩
  · have hi' : i < vs.length := by rw [← r.length]; exact hi
    exact ⟨vs, vs[i], SqT.of (x.tup _ _ h), by simp [hi']⟩
  · have q := y2 vs (SqT.of (x'.tup _ _ h))
    obtain ⟨w, e1, rr⟩ := (r.ext x').get e
    rw [q] at e1; cases e1
    exact rr
@[simp] noncomputable def iTuple (φ : FE) : FI := fun δ μ => (φ δ μ).bind fun p => match p.1 with
  | .tup ds => some (ds, yes, p.2)
  | _ => none
theorem mi_tup {tg : Expr} (h : ME X a φ) : MI X tg a (iTuple φ) :=
  mi_of (pi_tup h) fun ρ δ μ σ H ds ok μ' R A e k => by
    obtain ⟨⟨x, μ1⟩, e1, e⟩ := bind_inv e
    refine ⟨ρ, δ, μ, x, μ1, A, e1, fun ρ1 H1 v1 x1 R1 r1 => ?_⟩
    dsimp only at e
    split at e
    · cases e
      obtain ⟨a, vs, rfl, e2, q2⟩ := r1.tup_inv
      exact ⟨a, rfl, ⟨vs, SqT.of e2⟩, k ρ1 H1 _ x1 R1 (itt_is e2 q2)⟩
    · cases e
noncomputable def stays (n : Nat) (ds : List D) : Mem → Bool := fun μ => @decide (μ[n]? = some (.lst ds)) (Classical.propDecidable _)
theorem stays_iff {n : Nat} {ds : List D} {μ : Mem} : stays n ds μ = true ↔ μ[n]? = some (.lst ds) := by
  unfold stays
  exact @decide_eq_true_iff _ (Classical.propDecidable _)
noncomputable def iList (φ : FE) : FI := fun δ μ => (φ δ μ).bind fun p => match p.1 with
  | .fz ds => some (ds, yes, p.2)
  | .loc n => match p.2[n]? with
    | some (.lst ds) => some (ds, stays n ds, p.2)
    | _ => none
  | _ => none
theorem itl_is {K : PySem.W.Frag} {ρ : List Addr} {H : Hp} {a : Addr} {ds : List D} {ok : Mem → Bool} (h : ∀ ρ' H' μ', Ext ρ H ρ' H' → RepH K ρ' H' μ' → ok μ' = true → ∃ vs, SqL K H' a vs ∧ RepVs K ρ' H' ds vs) : ItIs K (Itl K a) ρ H ds ok := by
  refine ⟨fun ρ' H' μ' i x R o hi => ?_, fun ρ' H' μ' i x H'' d x' R o e ⟨y1, y2⟩ => ⟨y1 ▸ Ext.refl, y1 ▸ R, y1 ▸ ?_⟩, fun ρ' H' μ' x R o => ?_⟩
  · obtain ⟨vs, s, r⟩ := h ρ' H' μ' x R o
    have hi' : i < vs.length := by rw [← r.length]; exact hi
    exact ⟨vs, vs[i], s, by simp [hi']⟩
  · obtain ⟨vs, s, r⟩ := h ρ' H' μ' x' R o
    have q := y2 vs s
    obtain ⟨w, e1, rr⟩ := r.get e
    rw [q] at e1; cases e1
    exact rr
  · obtain ⟨vs, s, r⟩ := h ρ' H' μ' x R o
    exact ⟨vs, s, by rw [r.length]; exact Nat.le_refl _⟩
theorem mi_list {tg : Expr} (h : ME X a φ) : MI X tg a (iList φ) :=
  mi_of (pi_list h) fun ρ δ μ σ H ds ok μ' R A e k => by
    obtain ⟨⟨x, μ1⟩, e1, e⟩ := bind_inv e
    refine ⟨ρ, δ, μ, x, μ1, A, e1, fun ρ1 H1 v1 x1 R1 r1 => ?_⟩
    dsimp only at e
    split at e
    · cases e
      obtain ⟨a, vs, rfl, e2, q2⟩ := r1.fz_inv
      exact ⟨a, rfl, ⟨vs, e2.sq⟩, k ρ1 H1 _ x1 R1 (itl_is fun ρ' H' μ' x _ _ => ⟨vs, (x.fz e2).sq, q2.ext x⟩)⟩
    · split at e
      · rename_i hm
        cases e
        obtain ⟨a, rfl, e2⟩ := r1.loc_inv
        obtain ⟨vs, e3, q3⟩ := R1.at_ _ _ _ e2 hm
        refine ⟨a, rfl, ⟨vs, SqL.of e3⟩, k ρ1 H1 _ x1 R1 (itl_is fun ρ' H' μ'' x R' o => ?_)⟩
        obtain ⟨vs', e4, q4⟩ := R'.at_ _ _ _ (x.get e2) (stays_iff.mp o)
        exact ⟨vs', SqL.of e4, q4⟩
      · cases e
    · cases e
noncomputable def forIt (g : FG) (body : FS) (ok : Mem → Bool) : List D → FS
  | [], δ, μ => bif ok μ then some (.next δ μ) else none
  | x :: xs, δ, μ => bif ok μ then (g x δ μ).bind fun p => match body p.1 p.2 with
    | some (.next δ' μ') => forIt g body ok xs δ' μ'
    | some (.cont δ' μ') => forIt g body ok xs δ' μ'
    | some (.brk δ' μ') => some (.next δ' μ')
    | some (.ret d μ') => some (.ret d μ')
    | some (.exc C fs μ') => some (.exc C fs μ')
    | none => none
    else none
@[simp] noncomputable def sFor (i : FI) (g : FG) (body : FS) : FS := fun δ μ => (i δ μ).bind fun p => forIt g body p.2.1 p.1 δ p.2.2
theorem ms_for {tg iter : Expr} {body : List Stmt} {i : FI} {g : FG} {p : FS} (hi : MI X tg iter i) (hg : MG X tg g) (hb : MSs X body p) (hx : PassesOwn (model X.prog X.w) X.A X.env X.xe := by first | exact PassesOwn.never | exact PassesOwn.leaving) (hc : X.calm = true := by rfl)
    (hs : ∀ x, foldedSetIterable iter X.env x = pure x := by intro _; rfl) : MS X (.For tg iter body [] pos) (sFor i g p) :=
  ms_of (ps_for hx hc hi hg hb hs) fun ρ δ μ σ H o E A e k => by
    obtain ⟨⟨ds, ok, μ1⟩, e1, e⟩ := bind_inv e
    refine ⟨ρ, δ, μ, ds, ok, μ1, A, e1, fun ρ1 H1 J x1 R1 II => ?_⟩
    refine ⟨fun i m σ' H' => ∃ ρ' δ' μ', Ext ρ1 H1 ρ' H' ∧ At X.K ρ' H' σ' δ' μ' ∧ i ≤ ds.length ∧ m = ds.length - i ∧ forIt g p ok (ds.drop i) δ' μ' = some o, ⟨_, ρ1, δ, μ1, Ext.refl, A.ext x1 R1, Nat.zero_le _, rfl, e⟩, ?_⟩
    rintro i m σ' H' ⟨ρ', δ', μ', x', A', hi, rfl, ef⟩
    by_cases hlt : i < ds.length
    · right
      have hd : ds.drop i = ds[i] :: ds.drop (i + 1) := List.drop_eq_getElem_cons hlt
      rw [hd] at ef
      unfold forIt at ef
      obtain ⟨hok, ef⟩ := bif_inv ef
      obtain ⟨⟨δ2, μ2⟩, e2, ef⟩ := bind_inv ef
      refine ⟨II.go ρ' H' μ' i x' A'.hp hok hlt, fun σ3 H3 => ∃ ρ3 δ3 μ3, Ext ρ1 H1 ρ3 H3 ∧ At X.K ρ3 H3 σ3 δ3 μ3 ∧ forIt g p ok (ds.drop (i + 1)) δ3 μ3 = some o, fun σ3 H3 ⟨ρ3, δ3, μ3, x3, A3, e3⟩ => ⟨ds.length - (i + 1), by omega, ρ3, δ3, μ3, x3, A3, hlt, rfl, e3⟩, fun x H'' y => ?_⟩
      obtain ⟨xe, Re, rx⟩ := II.yld ρ' H' μ' i x H'' ds[i] x' A'.hp hok (by simp [hlt]) y
      have x' := x'.trans xe
      refine ⟨ρ', δ', μ', ds[i], δ2, μ2, A'.ext xe Re, rx, e2, fun ρ4 σ4 H4 x4 A4 => ?_⟩
      cases eb : p δ2 μ2 with
      | none => rw [eb] at ef; cases ef
      | some ob =>
        rw [eb] at ef
        refine ⟨ρ4, δ2, μ2, ob, A4, eb, ?_⟩
        have x5 := x'.trans x4
        cases ob with
        | next δ6 μ6 => exact fun ρ6 σ6 H6 x6 A6 => ⟨ρ6, δ6, μ6, x5.trans x6, A6, ef⟩
        | cont δ6 μ6 => exact fun ρ6 σ6 H6 x6 A6 => ⟨ρ6, δ6, μ6, x5.trans x6, A6, ef⟩
        | brk δ6 μ6 => cases ef; exact (k.ext x1).ext x5
        | ret d μ6 => cases ef; exact (k.ext x1).ext x5
        | exc C fs μ6 => cases ef; exact (k.ext x1).ext x5
    · left
      have e0 : i = ds.length := by omega
      subst e0
      rw [List.drop_length] at ef
      unfold forIt at ef
      obtain ⟨hok, ef⟩ := bif_inv ef
      cases ef
      exact ⟨II.stop ρ' H' μ' x' A'.hp hok, k ρ' σ' H' (x1.trans x') A'⟩
end
noncomputable def lcIt (g : FG) (c : FT) (φ : FE) (ok : Mem → Bool) (δ : Loc) : List D → List D → Mem → Option (D × Mem)
  | [], ys, μ => bif ok μ then some (.loc μ.length, μ ++ [.lst ys]) else none
  | x :: xs, ys, μ => bif ok μ then (g x δ μ).bind fun p => (c p.1 p.2).bind fun t => bif t.1 then (φ p.1 t.2).bind fun q => lcIt g c φ ok δ xs (ys ++ [q.1]) q.2 else lcIt g c φ ok δ xs ys t.2 else none
@[simp] noncomputable def δC (n : Nat) (fr : List Nat) (δ : Loc) : Loc := List.replicate n none ++ fr.map fun i => (δ[i]?).getD none
@[simp] noncomputable def few (ds : List D) : Bool := decide (ds.length ≤ 1000000)
@[simp] noncomputable def fLC (n : Nat) (fr : List Nat) (i : FI) (g : FG) (c : FT) (φ : FE) : FE := fun δ μ => (i δ μ).bind fun p => bif few p.1 then lcIt g c φ p.2.1 (δC n fr δ) p.1 [] p.2.2 else none
noncomputable def MF (X : Cx) (ifs : List Expr) (c : FT) : Prop := PF X ifs (tMT X.K c)
@[simp] noncomputable def cYes : FT := fun _ μ => some (true, μ)
theorem mf_nil {X : Cx} : MF X [] cYes := fun pins s σ H Q I ⟨ρ, δ, μ, b, μ', A, e, k⟩ => pf_nil pins s σ H Q I (by cases e; exact k ρ H Ext.refl A.hp)
theorem mf_one {X : Cx} {e : Expr} {c : FT} (h : MT X e c) : MF X [e] c := pf_one h
theorem At.δC {K : PySem.W.Frag} {ρ : List Addr} {H : Hp} {σ : L2.St} {δ : Loc} {μ : Mem} (A : At K ρ H σ δ μ) (n : Nat) (fr : List Nat) : At K ρ H (σC n fr σ) (M.δC n fr δ) μ := by
  refine ⟨fun i d e => ?_, A.hp, by unfold σC M.δC; simp⟩
  unfold M.δC at e
  unfold σC
  by_cases hi : i < n
  · rw [List.getElem?_append_left (by simpa using hi), List.getElem?_replicate] at e
    split at e <;> cases e
  · have hi : n ≤ i := Nat.le_of_not_lt hi
    rw [List.getElem?_append_right (by simpa using hi), List.length_replicate, List.getElem?_map] at e
    rw [List.getElem?_append_right (by simpa using hi), List.length_replicate, List.getElem?_map]
    cases e1 : fr[i - n]? with
    | none => rw [e1] at e; cases e
    | some j =>
      rw [e1] at e
      have e2 : (δ[j]?).getD none = some d := Option.some.inj e
      have e3 : δ[j]? = some (some d) := by
        cases q : δ[j]? with
        | none => rw [q] at e2; cases e2
        | some z => rw [q] at e2; exact congrArg some e2
      obtain ⟨v, hv, r⟩ := A.st j d e3
      exact ⟨v, by rw [Option.map_some, hv]; rfl, r⟩
noncomputable def Front (n : Nat) (σ σ' : L2.St) : Prop := σ'.length = σ.length ∧ ∀ (i : Nat), n ≤ i → σ'[i]? = σ[i]?
theorem Front.refl {n : Nat} {σ : L2.St} : Front n σ σ := ⟨rfl, fun _ _ => rfl⟩
theorem Front.trans {n : Nat} {σ σ1 σ2 : L2.St} (a : Front n σ σ1) (b : Front n σ1 σ2) : Front n σ σ2 := ⟨b.1.trans a.1, fun i h => (b.2 i h).trans (a.2 i h)⟩
noncomputable def tGc (K : PySem.W.Frag) (n : Nat) (g : FG) : TG := fun v σ H Q => ∃ ρ δ μ d δ' μ', At K ρ H σ δ μ ∧ RepV K ρ H d v ∧ g d δ μ = some (δ', μ') ∧ ∀ ρ' σ' H', Ext ρ H ρ' H' → At K ρ' H' σ' δ' μ' → Front n σ σ' → Q σ' H'
noncomputable def tGcs (K : PySem.W.Frag) (n : Nat) (g : FGs) : TGs := fun vs σ H Q => ∃ ρ δ μ ds δ' μ', At K ρ H σ δ μ ∧ RepVs K ρ H ds vs ∧ g ds δ μ = some (δ', μ') ∧ ∀ ρ' σ' H', Ext ρ H ρ' H' → At K ρ' H' σ' δ' μ' → Front n σ σ' → Q σ' H'
noncomputable def MGc (X : Cx) (n : Nat) (t : Expr) (g : FG) : Prop := PG X t (tGc X.K n g)
noncomputable def MGcs (X : Cx) (n : Nat) (t : List Expr) (g : FGs) : Prop := PGs X t (tGcs X.K n g)
section
variable {X : Cx} {e : Expr} {es : List Expr} {pos : Pos} {n : Nat}
theorem mgc_name {x : Str} (i : Nat) (hin : i < n := by decide) (hN : X.N.Nodup := by first | assumption | decide) (hi : X.N[i]? = some x := by rfl) (hx : L2.Loc X.env.scope x := by first | exact Or.inl rfl | exact Or.inr rfl) (hf : X.fn x = true ∨ X.env.scope.names.lookup x = some .local := by first | exact .inl rfl | exact .inr rfl | assumption) : MGc X n (.Name x pos) (gN i) :=
  fun pins s σ H v u Q I r ⟨ρ, δ, μ, d, δ', μ', A, q, e, k⟩ => pg_name hN hi hx hf pins s σ H v u Q I r (by
    cases e
    exact k ρ _ H Ext.refl (A.set q i) ⟨by simp, fun j hj => List.getElem?_set_ne (by omega)⟩)
theorem mgcs_nil : MGcs X n [] gsNil := fun pins s σ H v u Q I r ⟨ρ, δ, μ, d, δ', μ', A, q, e, k⟩ => pgs_nil pins s σ H v u Q I r (by
  unfold gsNil at e
  split at e
  · cases e
    exact ⟨q.nil_inv, k ρ σ H Ext.refl A Front.refl⟩
  · cases e)
theorem mgcs_cons {g : FG} {gs : FGs} (h1 : MGc X n e g) (h2 : MGcs X n es gs) (hs : (assignEach (e :: es) X.env).map (·.2) = assign e X.env :: (assignEach es X.env).map (·.2) := by rfl) : MGcs X n (e :: es) (gsCons g gs) :=
  fun pins s σ H vs us Q I r ⟨ρ, δ, μ, ds, δ', μ', A, q, e, k⟩ => pgs_cons h1 h2 hs pins s σ H vs us Q I r (by
    unfold gsCons at e
    split at e
    · obtain ⟨⟨δ1, μ1⟩, e1, e⟩ := bind_inv e
      obtain ⟨v, vr, rfl, q1, q2⟩ := q.cons_inv
      refine ⟨v, vr, rfl, ρ, δ, μ, _, δ1, μ1, A, q1, e1, fun ρ1 σ1 H1 x1 A1 f1 => ?_⟩
      exact ⟨ρ1, δ1, μ1, _, δ', μ', A1, q2.ext x1, e, fun ρ2 σ2 H2 x2 A2 f2 => k ρ2 σ2 H2 (x1.trans x2) A2 (f1.trans f2)⟩
    · cases e)
theorem mgc_tup {k m : Nat} {gs : FGs} (h : MGcs X n es gs) (hc : X.calm = true := by rfl) (hn : (assignEach es X.env).length = m := by rfl) (hst : (assignEach es X.env).findIdx? (·.1) = none := by rfl) : MGc X n (.Tuple es k pos) (gT m gs) :=
  fun pins s σ H v u Q I r ⟨ρ, δ, μ, d, δ', μ', A, q, e, k⟩ => pg_tup hc h hn hst pins s σ H v u Q I r (by
    unfold gT at e
    split at e
    · obtain ⟨h1, e⟩ := bif_inv e
      obtain ⟨a, vs, rfl, e2, q2⟩ := q.tup_inv
      exact ⟨a, vs, rfl, SqT.of e2, by rw [← q2.length]; exact beq_iff_eq.mp h1, ρ, δ, μ, _, δ', μ', A, q2, e, k⟩
    · cases e)
end
theorem sub_front {n : Nat} {fr : List Nat} {σ σ' : L2.St} (f : Front n (σC n fr σ) σ') : SubSt (σC n fr σ) σ' := by
  refine ⟨f.1, fun i v e => ?_⟩
  obtain ⟨hi, _⟩ := σC_get e
  rw [f.2 i hi]
  exact e
theorem million : 1000000 < sizeLine := by rw [sizeLine_eq]; decide
theorem lc_w {K : PySem.W.Frag} {n : Nat} {fr : List Nat} {i : FI} {g : FG} {c : FT} {φ : FE} {ρ : List Addr} {δ : Loc} {μ : Mem} {σ : L2.St} {H : Hp} {d : D} {μ' : Mem} {Q : VK} (A : At K ρ H σ δ μ) (e : fLC n fr i g c φ δ μ = some (d, μ'))
    (k : ∀ ρ' H' v, Ext ρ H ρ' H' → RepH K ρ' H' μ' → RepV K ρ' H' d v → Q v H') : tLC n fr (tMI K i) (tGc K n g) (tMT K c) (tM K φ) σ H Q := by
  obtain ⟨⟨ds, ok, μ1⟩, e1, e⟩ := bind_inv e
  obtain ⟨hfew, e⟩ := bif_inv e
  have hfew : ds.length ≤ 1000000 := of_decide_eq_true hfew
  refine ⟨ρ, δ, μ, ds, ok, μ1, A, e1, fun ρ1 H1 J x1 R1 II => ?_⟩
  refine ⟨fun i m ys H' => ∃ ρ' es μ2, Ext ρ1 H1 ρ' H' ∧ RepH K ρ' H' μ2 ∧ RepVs K ρ' H' es ys ∧ es.length ≤ i ∧ i ≤ ds.length ∧ m = ds.length - i ∧ lcIt g c φ ok (δC n fr δ) (ds.drop i) es μ2 = some (d, μ'), ⟨_, ρ1, [], μ1, Ext.refl, R1, .nil, Nat.zero_le _, Nat.zero_le _, rfl, e⟩, ?_⟩
  rintro i m ys H' ⟨ρ', es, μ2, x', R', re, hel, hi, rfl, ef⟩
  by_cases hlt : i < ds.length
  · right
    have hd : ds.drop i = ds[i] :: ds.drop (i + 1) := List.drop_eq_getElem_cons hlt
    rw [hd] at ef
    unfold lcIt at ef
    obtain ⟨hok, ef⟩ := bif_inv ef
    obtain ⟨⟨δ2, μ3⟩, e2, ef⟩ := bind_inv ef
    obtain ⟨⟨b, μ4⟩, e3, ef⟩ := bind_inv ef
    refine ⟨II.go ρ' H' μ2 i x' R' hok hlt, ?_, fun x H'' y => ?_⟩
    · rw [← re.length]
      exact Nat.lt_of_le_of_lt (Nat.le_trans hel (Nat.le_trans hi hfew)) million
    · obtain ⟨xe, Re, rx⟩ := II.yld ρ' H' μ2 i x H'' ds[i] x' R' hok (by simp [hlt]) y
      have x' := x'.trans xe
      have re := re.ext xe
      have A' : At K ρ' H'' (σC n fr σ) (δC n fr δ) μ2 := ((A.ext x1 R1).ext x' Re).δC n fr
      refine ⟨ρ', _, μ2, ds[i], δ2, μ3, A', rx, e2, fun ρ4 σ4 H4 x4 A4 f4 => ⟨sub_front f4, ?_⟩⟩
      refine ⟨ρ4, δ2, μ3, b, μ4, A4, e3, fun ρ5 H5 x5 R5 => ?_⟩
      cases b with
      | false => exact iteF ⟨ds.length - (i + 1), by omega, ρ5, es, μ4, x'.trans (x4.trans x5), R5, re.ext (x4.trans x5), by omega, hlt, rfl, ef⟩
      | true =>
        obtain ⟨⟨y, μ6⟩, e4, ef⟩ := bind_inv ef
        refine iteT ⟨ρ5, δ2, μ4, y, μ6, A4.ext x5 R5, e4, fun ρ6 H6 v x6 R6 r6 => ?_⟩
        exact ⟨ds.length - (i + 1), by omega, ρ6, es ++ [y], μ6, x'.trans (x4.trans (x5.trans x6)), R6, (re.ext (x4.trans (x5.trans x6))).append (.cons r6 .nil), by simp; exact hel, hlt, rfl, ef⟩
  · left
    have e0 : i = ds.length := by omega
    subst e0
    rw [List.drop_length] at ef
    unfold lcIt at ef
    obtain ⟨hok, ef⟩ := bif_inv ef
    cases ef
    refine ⟨II.stop ρ' H' μ2 x' R' hok, fun p hp => ?_⟩
    exact k _ _ _ (x1.trans (x'.trans (Ext.push hp))) (R'.push hp ⟨ys, upd_same, re.ext (Ext.push hp)⟩) (.loc (push_get R'))
theorem me_lc {X : Cx} {scope : Scope} {elt tg iter : Expr} {ifs : List Expr} {pos : Pos} {i : FI} {g : FG} {c : FT} {φ : FE} (own : List Str) (fr : List Nat) (hi : MI X tg iter i)
    (hg : ∀ cl C s₀ H₀ fp, MGc (cxC X own fr scope cl C s₀ H₀ fp) own.length tg g) (hq : ∀ cl C s₀ H₀ fp, MF (cxC X own fr scope cl C s₀ H₀ fp) ifs c) (he : ∀ cl C s₀ H₀ fp, ME (cxC X own fr scope cl C s₀ H₀ fp) elt φ)
    (hc : X.calm = true := by rfl) (hk : scope.kind = .function := by rfl) (hnm : ∀ y ∈ scope.names, scope.names.lookup y.1 = some y.2 := by decide)
    (hfree : ∀ x ∈ scope.names, x.2 = .free → (X.env.kindOf x.1 = some .cell ∨ X.env.kindOf x.1 = some .free) := by decide) (hfr : ∀ i ∈ fr, ∃ x, X.N[i]? = some x ∧ scope.names.lookup x = some .free)
    (hs : ∀ x, foldedSetIterable iter X.env x = pure x := by intro _; rfl) : ME X (.ListComp elt [⟨tg, iter, ifs, 0⟩] scope pos) (fLC own.length fr i g c φ) :=
  me_of (pe_lc (wi := tMI X.K i) (g := tGc X.K own.length g) (tc := tMT X.K c) (te := tM X.K φ) own fr hc hi (fun cl C s₀ H₀ fp => hg cl C s₀ H₀ fp) (fun cl C s₀ H₀ fp => hq cl C s₀ H₀ fp) (fun cl C s₀ H₀ fp => he cl C s₀ H₀ fp) hk hnm hfree hfr hs) fun ρ δ μ σ H d μ' Q A e k => lc_w A e k
end M
set_option Elab.async false
set_option linter.all false
set_option maxRecDepth 100000
set_option autoImplicit false
namespace M
open PySem PySem.Spec PyProof.Rows L2
noncomputable def toP (μ : Mem) : Nat → D → Option PyData
  | 0, _ => none
  | n + 1, d => match d with
    | .non => some .none
    | .bl b => some (.bool b)
    | .int i => some (.int i)
    | .str x => bif PyData.strOk x then some (.str x) else none
    | .ty _ => none
    | .own _ => none
    | .tup ds => (ds.mapM (toP μ n)).bind fun ps => some (.tuple ps)
    | .fz ds => (ds.mapM (toP μ n)).bind fun ps => some (.list ps)
    | .loc k => match μ[k]? with
      | some (.lst ds) => (ds.mapM (toP μ n)).bind fun ps => some (.list ps)
      | _ => none
theorem mapM_nil_inv {f : D → Option PyData} {ps : List PyData} (h : ([] : List D).mapM f = some ps) : ps = [] := by
  simp at h; exact h
theorem mapM_cons_inv {f : D → Option PyData} {d : D} {ds : List D} {ps : List PyData} (h : (d :: ds).mapM f = some ps) : ∃ p r, f d = some p ∧ ds.mapM f = some r ∧ ps = p :: r := by
  rw [List.mapM_cons] at h
  obtain ⟨p, e1, h⟩ := bind_inv h
  obtain ⟨r, e2, h⟩ := bind_inv h
  cases h
  exact ⟨p, r, e1, e2, rfl⟩
theorem mapM_shape {f : D → Option PyData} {m : Nat} (hf : ∀ d p, f d = some p → p.canLay0 = true ∧ p.depth ≤ m) : ∀ {ds : List D} {ps : List PyData}, ds.mapM f = some ps → PyData.canLayAll0 ps = true ∧ PyData.depthAll ps ≤ m
  | [], ps, h => by rw [mapM_nil_inv h]; exact ⟨rfl, Nat.zero_le _⟩
  | d :: ds, ps, h => by
    obtain ⟨p, r, e1, e2, rfl⟩ := mapM_cons_inv h
    obtain ⟨h1, h2⟩ := hf d p e1
    obtain ⟨h3, h4⟩ := mapM_shape hf e2
    refine ⟨?_, ?_⟩
    · simp only [PyData.canLayAll0, h1, h3, Bool.and_true]
    · simp only [PyData.depthAll]; omega
theorem toP_shape {μ : Mem} : ∀ (n : Nat) (d : D) (p : PyData), toP μ n d = some p → p.canLay0 = true ∧ p.depth ≤ n
  | 0, d, p, h => by cases h
  | n + 1, d, p, h => by
    have seq : ∀ {ds : List D} {c : List PyData → PyData}, (∀ ps, (c ps).canLay0 = PyData.canLayAll0 ps) → (∀ ps, (c ps).depth = PyData.depthAll ps + 1) → ((ds.mapM (toP μ n)).bind fun ps => some (c ps)) = some p → p.canLay0 = true ∧ p.depth ≤ n + 1 := fun {ds c} h1 h2 h => by
      obtain ⟨ps, e1, e2⟩ := bind_inv h
      cases e2
      obtain ⟨q1, q2⟩ := mapM_shape (toP_shape n) e1
      exact ⟨by rw [h1]; exact q1, by rw [h2]; omega⟩
    unfold toP at h
    cases d with
    | non => cases h; exact ⟨rfl, Nat.zero_le _⟩
    | bl b => cases h; exact ⟨rfl, Nat.zero_le _⟩
    | int b => cases h; exact ⟨rfl, Nat.zero_le _⟩
    | str x =>
      obtain ⟨h1, h2⟩ := bif_inv h
      cases h2
      exact ⟨h1, Nat.zero_le _⟩
    | ty _ => cases h
    | own _ => cases h
    | tup ds => exact seq (fun _ => rfl) (fun _ => rfl) h
    | fz ds => exact seq (fun _ => rfl) (fun _ => rfl) h
    | loc k =>
      dsimp only at h
      split at h
      · exact seq (fun _ => rfl) (fun _ => rfl) h
      · cases h
section
variable {X : Cx} {pins : List (Addr × Obj)} {σ : L2.St} {H : Hp} {s : Shared} {ρ : List Addr} {μ : Mem}
theorem reads_all {f : D → Option PyData} (hf : ∀ d p v u, f d = some p → RepV X.K ρ H d v → RelV v u → ∃ as, Reads s.heap u p as) : ∀ {ds : List D} {ps : List PyData} {vs : List V} {us : List Value}, ds.mapM f = some ps → RepVs X.K ρ H ds vs → Vals vs us → ∃ as, ReadsAll s.heap us ps as
  | [], ps, vs, us, h, r, q => by
    rw [mapM_nil_inv h]
    rw [r.nil_inv] at q
    cases q
    exact ⟨[], .nil⟩
  | d :: ds, ps, vs, us, h, r, q => by
    obtain ⟨p, pr, e1, e2, rfl⟩ := mapM_cons_inv h
    obtain ⟨v, vr, rfl, r1, r2⟩ := r.cons_inv
    cases q with
    | cons q1 q2 =>
      obtain ⟨a1, h1⟩ := hf _ _ _ _ e1 r1 q1
      obtain ⟨a2, h2⟩ := reads_all hf e2 r2 q2
      exact ⟨_, .cons h1 h2⟩
theorem reads_of (I : Inv X pins σ H s) (R : RepH X.K ρ H μ) : ∀ (n : Nat) (d : D) (p : PyData) (v : V) (u : Value), toP μ n d = some p → RepV X.K ρ H d v → RelV v u → ∃ as, Reads s.heap u p as
  | 0, d, p, v, u, h, _, _ => by cases h
  | n + 1, d, p, v, u, h, r, q => by
    unfold toP at h
    cases d with
    | non => cases h; rw [r.non_inv] at q; cases q; exact ⟨_, .none⟩
    | bl b => cases h; rw [r.bl_inv] at q; cases q; exact ⟨_, .bool b⟩
    | int b => cases h; rw [r.int_inv] at q; obtain ⟨t, rfl⟩ := q; exact ⟨_, .int b t⟩
    | str x =>
      obtain ⟨h1, h2⟩ := bif_inv h
      cases h2
      rw [r.str_inv] at q; obtain ⟨t, rfl⟩ := q; exact ⟨_, .str x t⟩
    | ty _ => cases h
    | own _ => cases h
    | tup ds =>
      obtain ⟨ps, e1, e2⟩ := bind_inv h
      cases e2
      obtain ⟨a, vs, rfl, e3, rr⟩ := r.tup_inv
      cases q
      obtain ⟨its, rv, ⟨o, ho, hc, k, hd⟩, _⟩ := I.tuple (SqT.of e3)
      obtain ⟨as, ha⟩ := reads_all (reads_of I R n) e1 rr rv
      exact ⟨_, reads_tuple_at ho hc hd (by simpa using ha)⟩
    | fz ds =>
      obtain ⟨ps, e1, e2⟩ := bind_inv h
      cases e2
      obtain ⟨a, vs, rfl, e3, rr⟩ := r.fz_inv
      cases q
      obtain ⟨its, rv, ⟨o, k, ho, hc, _, hd⟩, _⟩ := I.list e3.sq
      obtain ⟨as, ha⟩ := reads_all (reads_of I R n) e1 rr rv
      exact ⟨_, reads_list_at ho hc hd (by simpa using ha)⟩
    | loc k =>
      dsimp only at h
      split at h
      · rename_i hm
        obtain ⟨ps, e1, e2⟩ := bind_inv h
        cases e2
        obtain ⟨a, rfl, e2⟩ := r.loc_inv
        obtain ⟨vs, e3, rr⟩ := R.at_ _ _ _ e2 hm
        cases q
        obtain ⟨its, rv, ⟨o, k, ho, hc, _, hd⟩, _⟩ := I.list (SqL.of (K := X.K) e3)
        obtain ⟨as, ha⟩ := reads_all (reads_of I R n) e1 rr rv
        exact ⟨_, reads_list_at ho hc hd (by simpa using ha)⟩
      · cases h
end
noncomputable def gEq : G2 := fun x y μ => (toP μ 8 x).bind fun p => (toP μ 8 y).bind fun q => some (.bl (PyData.eqv p q), μ)
noncomputable def gNe : G2 := fun x y μ => (toP μ 8 x).bind fun p => (toP μ 8 y).bind fun q => some (.bl (!PyData.eqv p q), μ)
theorem shaped_of {μ : Mem} {d : D} {p : PyData} (h : toP μ 8 d = some p) : SeqAt.shaped p = true := by
  obtain ⟨h1, h2⟩ := toP_shape 8 d p h
  unfold SeqAt.shaped
  rw [h1, decide_eq_true (by omega)]
  rfl
section
variable {X : Cx} {a b c e : Expr} {es : List Expr} {φ ψ χ : FE} {pos : Pos}
theorem opM_eq (hu : X.A.units + 64 < cLine) : OpM X (compareOp .Eq) gEq := by
  intro pins s σ H x y v u Q I rx ry ⟨ρ, dx, dy, μ, d, μ', r1, r2, R, e, k⟩
  obtain ⟨p, e1, e⟩ := bind_inv e
  obtain ⟨q, e2, e⟩ := bind_inv e
  cases e
  obtain ⟨as, h1⟩ := reads_of I R 8 dx p x v e1 r1 rx
  obtain ⟨bs, h2⟩ := reads_of I R 8 dy q y u e2 r2 ry
  exact eq_dataH h1 h2 (shaped_of e1) (shaped_of e2) hu ⟨.bl _, H, I, rfl, k ρ H _ Ext.refl R .bl⟩
theorem opM_ne (hu : X.A.units + 64 < cLine) : OpM X (compareOp .NotEq) gNe := by
  intro pins s σ H x y v u Q I rx ry ⟨ρ, dx, dy, μ, d, μ', r1, r2, R, e, k⟩
  obtain ⟨p, e1, e⟩ := bind_inv e
  obtain ⟨q, e2, e⟩ := bind_inv e
  cases e
  obtain ⟨as, h1⟩ := reads_of I R 8 dx p x v e1 r1 rx
  obtain ⟨bs, h2⟩ := reads_of I R 8 dy q y u e2 r2 ry
  exact ne_dataH h1 h2 (shaped_of e1) (shaped_of e2) hu ⟨.bl _, H, I, rfl, k ρ H _ Ext.refl R .bl⟩
@[simp] noncomputable def gIs : G2 := fun x y μ => match x, y with
  | .bl i, .bl j => some (.bl (i == j), μ)
  | .non, .non => some (.bl true, μ)
  | .bl _, .non => some (.bl false, μ)
  | .int _, .non => some (.bl false, μ)
  | .str _, .non => some (.bl false, μ)
  | .tup _, .non => some (.bl false, μ)
  | .loc _, .non => some (.bl false, μ)
  | _, _ => none
@[simp] noncomputable def gIsNot : G2 := fun x y μ => match x, y with
  | .bl i, .bl j => some (.bl (i != j), μ)
  | .non, .non => some (.bl false, μ)
  | .bl _, .non => some (.bl true, μ)
  | .int _, .non => some (.bl true, μ)
  | .str _, .non => some (.bl true, μ)
  | .tup _, .non => some (.bl true, μ)
  | .loc _, .non => some (.bl true, μ)
  | _, _ => none
inductive Ty where
  | non | bl | int | str | tup | lst | dict
  deriving DecidableEq
@[simp] noncomputable def tyOf (μ : Mem) : D → Option Ty
  | .non => some .non
  | .bl _ => some .bl
  | .int _ => some .int
  | .str _ => some .str
  | .tup _ => some .tup
  | .loc n => match μ[n]? with
    | some (.lst _) => some .lst
    | some (.dct _) => some .dict
    | _ => none
  | _ => none
@[simp] noncomputable def Ty.name : Ty → String
  | .non => "NoneType" | .bl => "bool" | .int => "int" | .str => "str" | .tup => "tuple" | .lst => "list" | .dict => "dict"
@[simp] noncomputable def isTy : Ty → Ty → Bool
  | .bl, .int => true
  | .non, .non => true
  | .bl, .bl => true
  | .int, .int => true
  | .str, .str => true
  | .tup, .tup => true
  | .lst, .lst => true
  | .dict, .dict => true
  | _, _ => false
@[simp] noncomputable def gIsi (c : Ty) : GL := fun ds μ => match ds with
  | [x, .ty n] => bif n == c.name then (tyOf μ x).bind fun t => some (.bl (isTy t c), μ) else none
  | _ => none
theorem tyOf_ok {K : PySem.W.Frag} {ρ : List Addr} {H : Hp} {μ : Mem} {x : D} {v : V} {t : Ty} (R : RepH K ρ H μ) (r : RepV K ρ H x v) (e : tyOf μ x = some t) : TyOf K H v (.type t.name) := by
  cases x with
  | non => cases e; rw [r.non_inv]; exact .non
  | bl b => cases e; rw [r.bl_inv]; exact .bl b
  | int b => cases e; rw [r.int_inv]; exact .int b
  | str b => cases e; rw [r.str_inv]; exact .str b
  | tup ds => cases e; obtain ⟨a, vs, rfl, e2, _⟩ := r.tup_inv; exact .tup e2
  | loc n =>
    unfold tyOf at e
    dsimp only at e
    split at e
    · rename_i hm; cases e; obtain ⟨a, rfl, e2⟩ := r.loc_inv; obtain ⟨vs, e3, _⟩ := R.at_ _ _ _ e2 hm; exact .lst e3
    · rename_i hm; cases e; obtain ⟨a, rfl, e2⟩ := r.loc_inv; obtain ⟨vs, e3, _⟩ := R.at_ _ _ _ e2 hm; exact .dK e3
    · cases e
  | _ => cases e
theorem kit_ty (K : PySem.W.Frag) (t c : Ty) : PySem.W.kitOne K (.type t.name) (.type c.name) = some (isTy t c) := by
  cases t <;> cases c <;> first | rfl | decide +kernel
theorem callM_isi (c : Ty) : CallM X (.builtin "isinstance") (gIsi c) := by
  intro pins s σ H xs us Q I r ⟨ρ, ds, μ, d, μ', r1, R, e, k⟩
  unfold gIsi at e
  split at e
  · obtain ⟨hn, e⟩ := bif_inv e
    obtain ⟨t, e1, e⟩ := bind_inv e
    cases e
    obtain ⟨v, rr, rfl, q1, q2⟩ := r1.cons_inv
    obtain ⟨v2, rr2, rfl, q3, q4⟩ := q2.cons_inv
    rw [q4.nil_inv, q3.ty_inv, beq_iff_eq.mp hn] at r
    cases r with
    | cons ra rb =>
      cases rb with
      | cons rc rd =>
        cases rd
        cases rc
        exact isinst_ok I ra (tyOf_ok R q1 e1) (kit_ty X.K t c) fun tk => ⟨.bl _, H, I.tok tk, rfl, k ρ H _ Ext.refl R .bl⟩
  · cases e
@[simp] noncomputable def isBl : D → Bool
  | .bl _ => true
  | _ => false
@[simp] noncomputable def blB : D → Bool
  | .bl b => b
  | _ => false
@[simp] noncomputable def gAll : GL := fun ds μ => match ds with
  | [.loc n] => match μ[n]? with
    | some (.lst xs) => bif xs.all isBl then some (.bl (xs.all blB), μ) else none
    | _ => none
  | _ => none
theorem callM_all (hc : X.calm = true) : CallM X (.builtin "all") gAll := by
  intro pins s σ H xs us Q I r ⟨ρ, ds, μ, d, μ', r1, R, e, k⟩
  unfold gAll at e
  split at e
  · split at e
    · rename_i n _ ys hm
      obtain ⟨hb, e⟩ := bif_inv e
      cases e
      obtain ⟨v, rr, rfl, q1, q2⟩ := r1.cons_inv
      obtain ⟨a, rfl, e2⟩ := q1.loc_inv
      obtain ⟨vs, e3, q3⟩ := R.at_ _ _ _ e2 hm
      rw [q2.nil_inv] at r
      obtain ⟨u, rfl, ru⟩ := vals1 r
      cases ru
      obtain ⟨its, rv, pl, hz⟩ := I.list (SqL.of (K := X.K) e3)
      have hlt : a < s.heap.objs.size := by obtain ⟨_, _, e, _⟩ := pl; exact Heap.lt_size e
      refine call_all_walk (wpAny_pyIter_list pl.isList ?_)
      refine ⟨_, _, _, _, _, _, fun i => blB (ys.getD i .non), rfl, Walks.list (A := X.A.in1) (I.ok.hd hc) s.heap.objs.size a (Nat.ne_of_lt hlt) its.toArray, ⟨⟨_, Heap.get?_push_size _ rfl, rfl, rfl⟩, pl.isList.push _⟩, ?_, fun h' tk hk => ?_⟩
      · intro i w s' Q' E' hP hQ
        have hi : its[i]? = some w := by simpa using hP
        have hil : i < ys.length := by
          have h1 := (List.getElem?_eq_some_iff.mp hi).1
          rw [q3.length, rv.length]; exact h1
        have hyi : ys[i]? = some ys[i] := by simp [hil]
        obtain ⟨vv, ev, rvv⟩ := q3.get hyi
        obtain ⟨ww, ew, rww⟩ := rv.get ev
        rw [hi] at ew; cases ew
        have hall := List.all_eq_true.mp hb ys[i] (List.getElem_mem hil)
        have hQ' : Q' (blB ys[i]) s' := by
          have e : ys.getD i .non = ys[i] := by rw [List.getD_eq_getElem?_getD, hyi]; rfl
          rw [← e]; exact hQ
        cases hyb : ys[i] with
        | bl b =>
          rw [hyb] at rvv hQ'
          rw [rvv.bl_inv] at rww
          cases rww
          exact wpAny_truthy_bool hQ'
        | _ => rw [hyb] at hall; cases hall
      · have hsz : its.toArray.size = ys.length := by rw [q3.length, rv.length]; simp
        have eall : ((List.range its.toArray.size).all fun i => blB (ys.getD i .non)) = ys.all blB := by
          rw [hsz, Bool.eq_iff_iff, List.all_eq_true, List.all_eq_true]
          constructor
          · intro h y hy
            obtain ⟨i, hi, rfl⟩ := List.mem_iff_getElem.mp hy
            have := h i (by simpa using hi)
            rw [List.getD_eq_getElem?_getD, show ys[i]? = some ys[i] by simp [hi]] at this
            exact this
          · intro h i hi
            have hi' : i < ys.length := by simpa using hi
            rw [List.getD_eq_getElem?_getD, show ys[i]? = some ys[i] by simp [hi']]
            exact h ys[i] (List.getElem_mem hi')
        rw [eall]
        have I1 : Inv X pins σ H { s with heap := s.heap.push { cls := .type "list_iterator", data := .fields #[.ref a, .int 0 0] } } := I.kept (t' := s.toks) fun b o e => Heap.get?_push_of_some _ e
        have hfr := I1.hok
        refine ⟨.bl _, H, I.kept (h' := h') (t' := tk) fun b o e => hk b o (by simpa using Nat.ne_of_lt (Heap.lt_size e)) (Heap.get?_push_of_some _ e), rfl, k ρ H _ Ext.refl R .bl⟩
    · cases e
  · cases e
theorem ms_setLC {scope : Scope} {elt tg iter : Expr} {ifs : List Expr} {spos py : Pos} {y : Str} {fi : FI} {g : FG} {ct : FT} (i : Nat) (own : List Str) (fr : List Nat) (hi : MI X tg iter fi)
    (hg : ∀ cl C s₀ H₀ fp, MGc (cxC X own fr scope cl C s₀ H₀ fp) own.length tg g) (hq : ∀ cl C s₀ H₀ fp, MF (cxC X own fr scope cl C s₀ H₀ fp) ifs ct) (he : ∀ cl C s₀ H₀ fp, ME (cxC X own fr scope cl C s₀ H₀ fp) elt φ)
    (hfr : ∀ i ∈ fr, ∃ x, X.N[i]? = some x ∧ scope.names.lookup x = some .free)
    (hN : X.N.Nodup := by first | assumption | decide) (hiN : X.N[i]? = some y := by rfl) (hy : X.env.scope.names.lookup y = some .local := by rfl)
    (hsw : swapsWith (.ListComp elt [⟨tg, iter, ifs, 0⟩] scope pos) (some (.Name y py)) spos.line X.env = pure true := by rfl)
    (hc : X.calm = true := by rfl) (hk : scope.kind = .function := by rfl) (hnm : ∀ y ∈ scope.names, scope.names.lookup y.1 = some y.2 := by decide)
    (hfree : ∀ x ∈ scope.names, x.2 = .free → (X.env.kindOf x.1 = some .cell ∨ X.env.kindOf x.1 = some .free) := by decide)
    (hs : ∀ x, foldedSetIterable iter X.env x = pure x := by intro _; rfl) : MS X (.Assign [.Name y py] (.ListComp elt [⟨tg, iter, ifs, 0⟩] scope pos) spos) (sSet i (fLC own.length fr fi g ct φ)) :=
  ms_of (ps_setLC (wi := tMI X.K fi) (g := tGc X.K own.length g) (tc := tMT X.K ct) (te := tM X.K φ) own fr hN hiN hy hc hi hsw (fun cl C s₀ H₀ fp => hg cl C s₀ H₀ fp) (fun cl C s₀ H₀ fp => hq cl C s₀ H₀ fp) (fun cl C s₀ H₀ fp => he cl C s₀ H₀ fp) hk hnm hfree hfr hs) fun ρ δ μ σ H o E A e k => by
    obtain ⟨⟨x, μ1⟩, e1, e⟩ := bind_inv e
    cases e
    exact lc_w A e1 fun ρ' H' v x' R r => k ρ' _ H' x' ((A.ext x' R).set r i)
end
@[simp] noncomputable def retOf : Option Out → Option (D × Mem)
  | some (.ret d μ) => some (d, μ)
  | some (.next _ μ) => some (.non, μ)
  | _ => none
@[simp] noncomputable def startD (N : List Str) (ds : List D) : Loc := ds.map some ++ List.replicate (N.length - ds.length) none
theorem start_at {K : PySem.W.Frag} {ρ : List Addr} {H : Hp} {μ : Mem} {N : List Str} {ds : List D} {vs : List V} (r : RepVs K ρ H ds vs) (R : RepH K ρ H μ) : At K ρ H (L2.start N vs) (startD N ds) μ := by
  refine ⟨fun i d e => ?_, R, by unfold L2.start startD; simp [r.length]⟩
  unfold startD at e
  unfold L2.start
  by_cases hi : i < ds.length
  · rw [List.getElem?_append_left (by simpa using hi), List.getElem?_map] at e
    cases e1 : ds[i]? with
    | none => rw [e1] at e; cases e
    | some d' =>
      rw [e1] at e
      cases e
      obtain ⟨v, e2, q⟩ := r.get e1
      refine ⟨v, ?_, q⟩
      rw [List.getElem?_append_left (by simpa [← r.length] using hi), List.getElem?_map, e2]
      rfl
  · rw [List.getElem?_append_right (by simpa using hi), List.getElem?_replicate] at e
    split at e <;> cases e
theorem fnM {P : Program} {w : World} {K : PySem.W.Frag} {mg : Str → Option Value} {base : Heap} {x qual : Str} {st : Stmt} {f : Addr} {fd : FuncData} {N ps : List Str} {k n : Nat} {F : FF} (G : Fun K x qual st f fd) (S : FnScope N ps (defScope st)) (hn : ps.length = n)
    (hbody : ∀ (cdv : Value) (A : Around) (outer : List Env) (s : Shared) (H : Hp) (E : XK), Room k (A.deeper (envOfC qual (defScope st) s.heap.objs.size f cdv)) →
      ∃ p, MSs (cxOf CX0 P w K mg base N qual (defScope st) f cdv A outer s H E).nox (defBody st) p ∧ ∀ ds μ d μ', ds.length = n → F ds μ = some (d, μ') → retOf (p (startD N ds) μ) = some (d, μ')) :
    FnOk P w K mg base CX0 (k + 1) f fd ps (spM K n F) := by
  refine G.ok S (fun vs H Q E h => by rw [hn]; exact h.1) (fun cdv A outer s H vs Q E hr h => ?_)
  obtain ⟨p, hp, hF⟩ := hbody cdv A outer s H E hr
  refine ⟨_, hp, ?_⟩
  obtain ⟨hl, ρ, ds, μ, d, μ', r, R, e, k⟩ := h
  have e' := hF ds μ d μ' (by rw [r.length]; exact hl) e
  cases eo : p (startD N ds) μ with
  | none => rw [eo] at e'; cases e'
  | some o =>
    rw [eo] at e'
    refine ⟨ρ, startD N ds, μ, o, start_at r R, eo, ?_⟩
    cases o with
    | ret d2 μ2 => cases e'; exact fun ρ' v H' x' R' r' => k ρ' H' v x' R' r'
    | next δ2 μ2 => cases e'; exact fun ρ' σ' H' x' A' => k ρ' H' .non x' A'.hp .non
    | brk _ _ => cases e'
    | cont _ _ => cases e'
    | exc _ _ _ => cases e'
end M
set_option Elab.async false
set_option linter.all false
set_option maxRecDepth 100000
set_option autoImplicit false
namespace M
open PySem PySem.Spec PyProof.Rows L2
noncomputable def lcOk (sc inner : Scope) : Bool := (inner.kind == .function) && inner.names.all (fun y => inner.names.lookup y.1 == some y.2) &&
  inner.names.all fun x => x.2 != .free || sc.names.lookup x.1 == some .cell || sc.names.lookup x.1 == some .free
theorem lcOk_kind {sc inner : Scope} (h : lcOk sc inner = true) : inner.kind = .function := by
  unfold lcOk at h
  simp only [Bool.and_eq_true, beq_iff_eq] at h
  exact h.1.1
theorem lcOk_nm {sc inner : Scope} (h : lcOk sc inner = true) : ∀ y ∈ inner.names, inner.names.lookup y.1 = some y.2 := by
  unfold lcOk at h
  simp only [Bool.and_eq_true] at h
  intro y hy
  exact beq_iff_eq.mp (List.all_eq_true.mp h.1.2 y hy)
theorem lcOk_free {sc inner : Scope} (h : lcOk sc inner = true) : ∀ x ∈ inner.names, x.2 = .free → (sc.names.lookup x.1 = some .cell ∨ sc.names.lookup x.1 = some .free) := by
  unfold lcOk at h
  simp only [Bool.and_eq_true] at h
  intro y hy e
  have := List.all_eq_true.mp h.2 y hy
  simpa [e] using this
theorem nodup_of {N : List Str} (h : decide N.Nodup = true) : N.Nodup := of_decide_eq_true h
theorem fr_nil {P : Nat → Prop} : ∀ i ∈ ([] : List Nat), P i := fun i h => nomatch h
theorem fr_cons {P : Nat → Prop} {i : Nat} {l : List Nat} (h : P i) (r : ∀ j ∈ l, P j) : ∀ j ∈ i :: l, P j := fun j hj => by
  rcases List.mem_cons.mp hj with rfl | hj
  · exact h
  · exact r j hj
section
variable {X : Cx} {a b c e : Expr} {es : List Expr} {φ ψ χ : FE} {pos : Pos}
theorem mlc {scope : Scope} {elt tg iter : Expr} {ifs : List Expr} {i : FI} {g : FG} {ct : FT} (own : List Str) (fr : List Nat) (hi : MI X tg iter i)
    (hg : ∀ cl C s₀ H₀ fp, MGc (cxC X own fr scope cl C s₀ H₀ fp) own.length tg g) (hq : ∀ cl C s₀ H₀ fp, MF (cxC X own fr scope cl C s₀ H₀ fp) ifs ct) (he : ∀ cl C s₀ H₀ fp, ME (cxC X own fr scope cl C s₀ H₀ fp) elt φ)
    (hfr : ∀ i ∈ fr, ∃ x, X.N[i]? = some x ∧ scope.names.lookup x = some .free) (hok : lcOk X.env.scope scope = true := by rfl) (hc : X.calm = true := by rfl) (hs : ∀ x, foldedSetIterable iter X.env x = pure x := by intro _; rfl) :
    ME X (.ListComp elt [⟨tg, iter, ifs, 0⟩] scope pos) (fLC own.length fr i g ct φ) :=
  me_lc own fr hi hg hq he hc (lcOk_kind hok) (lcOk_nm hok) (lcOk_free hok) hfr hs
theorem mslc {scope : Scope} {elt tg iter : Expr} {ifs : List Expr} {spos py : Pos} {y : Str} {fi : FI} {g : FG} {ct : FT} (i : Nat) (own : List Str) (fr : List Nat) (hi : MI X tg iter fi)
    (hg : ∀ cl C s₀ H₀ fp, MGc (cxC X own fr scope cl C s₀ H₀ fp) own.length tg g) (hq : ∀ cl C s₀ H₀ fp, MF (cxC X own fr scope cl C s₀ H₀ fp) ifs ct) (he : ∀ cl C s₀ H₀ fp, ME (cxC X own fr scope cl C s₀ H₀ fp) elt φ)
    (hfr : ∀ i ∈ fr, ∃ x, X.N[i]? = some x ∧ scope.names.lookup x = some .free) (hN : X.N.Nodup) (hiN : X.N[i]? = some y := by rfl) (hy : X.env.scope.names.lookup y = some .local := by rfl)
    (hsw : swapsWith (.ListComp elt [⟨tg, iter, ifs, 0⟩] scope pos) (some (.Name y py)) spos.line X.env = pure true := by rfl) (hok : lcOk X.env.scope scope = true := by rfl) (hc : X.calm = true := by rfl) (hs : ∀ x, foldedSetIterable iter X.env x = pure x := by intro _; rfl) :
    MS X (.Assign [.Name y py] (.ListComp elt [⟨tg, iter, ifs, 0⟩] scope pos) spos) (sSet i (fLC own.length fr fi g ct φ)) :=
  ms_setLC i own fr hi hg hq he hfr hN hiN hy hsw hc (lcOk_kind hok) (lcOk_nm hok) (lcOk_free hok) hs
structure FnAt (K : PySem.W.Frag) (mg : Str → Option Value) (x : Str) (st : Stmt) (ps : List Str) (f : Addr) (fd : FuncData) : Prop where
  fn : Fun K x x st f fd
  at_ : mg x = some (.ref f)
  bd : Binds K fd ps []
theorem mcall {k j n : Nat} {st : Stmt} {f : Addr} {fd : FuncData} {ps : List Str} {F : FF} {x : Str} {p : Pos} {φ : FA} (B : FnAt X.K X.mg x st ps f fd) (G : FnOk X.prog X.w X.K X.mg X.base CX0 j f fd ps (spM X.K n F)) (hr : Room k X.A)
    (ha : MAn X (e :: es) φ) (hj : j ≤ k := by decide) (hn : (e :: es).length = n := by rfl) (hg : Gl X x := by rfl) (hdb : (x == ("__debug__" : Str)) = false := by decide) (he : starEach (e :: es) X.env = (false, eval e X.env) :: starEach es X.env := by exact star_ok rfl) (hpl : (backTo pos (starEach es X.env)).any (·.1) = false := by rfl) :
    ME X (.Call (.Name x p) (e :: es) [] pos) (fCall F φ) := me_call G (hr.mono hj) B.at_ B.fn.kp B.bd ha hn hg hdb he hpl
end
end M
set_option Elab.async false
set_option linter.all false
set_option maxRecDepth 100000
set_option autoImplicit false
namespace M
open PySem PySem.Spec PyProof.Rows L2
section
variable {X : Cx} {a b c e : Expr} {es : List Expr} {φ ψ χ : FE} {pos : Pos}
theorem cat0 {prog : Program} {w : World} {A : Around} {E : Value → Shared → Prop} {s : Shared} {t b : Addr} {vs ws : List Value} {Q : Value → Shared → Prop} (ht : IsTup s.heap t vs.toArray) (hb : IsTup s.heap b ws.toArray) (hv : vs = []) (h : Q (.ref b) s) :
    wpAny (model prog w) A (binaryOp .Add (.ref t) (.ref b)) Q E s := by
  obtain ⟨⟨cls, dd, data, sl⟩, ho, hc, n, hd⟩ := id ht
  obtain ⟨⟨cls2, dd2, data2, sl2⟩, ho2, hc2, n2, hd2⟩ := id hb
  simp only at hc hd hc2 hd2
  subst hc hd hc2 hd2
  refine concat_meets ⟨_, ho, rfl⟩ ⟨_, ho2, rfl⟩ noFill_tuple_add seq_tuple_add PySem.F.slot_tuple_add PySem.F.entry_tuple_add (PySem.F.args_tuple_add_2 _ _) (tuple_addW0 t b vs.toArray ws.toArray n n2 dd dd2 sl sl2 (by rw [hv]; rfl)) ⟨ho, ho2, h⟩
theorem opM_add : OpM X (binaryOp .Add) gAdd := by
  intro pins s σ H x y v u Q I rx ry ⟨ρ, dx, dy, μ, d, μ', r1, r2, R, e, k⟩
  unfold gAdd at e
  split at e
  · cases e
    rw [r1.int_inv] at rx; rw [r2.int_inv] at ry
    obtain ⟨t, rfl⟩ := rx
    obtain ⟨t', rfl⟩ := ry
    exact add_int ⟨.int _, H, I.tok _, ⟨_, rfl⟩, k ρ H _ Ext.refl R .int⟩
  · rename_i as bs
    obtain ⟨h1, e⟩ := bif_inv e
    have h1 := of_decide_eq_true h1
    cases e
    obtain ⟨a1, vs, rfl, e1, q1⟩ := r1.tup_inv
    obtain ⟨a2, ws, rfl, e2, q2⟩ := r2.tup_inv
    have hm := million
    have hl1 := q1.length
    have hl2 := q2.length
    by_cases hv : vs = []
    · cases rx; cases ry
      obtain ⟨its, rv, p1, _⟩ := I.tuple (SqT.of (K := X.K) e1)
      obtain ⟨its2, rv2, p2, _⟩ := I.tuple (SqT.of (K := X.K) e2)
      refine cat0 p1 p2 (rv.nil_iff.mpr hv) ⟨.ref a2, H, I, rfl, k ρ H _ Ext.refl R ?_⟩
      have ha : as = [] := by rw [hv] at hl1; exact List.length_eq_zero_iff.mp hl1
      rw [ha, List.nil_append]
      exact r2
    · refine op_catT pins s σ H _ _ v u Q I rx ry ⟨a1, a2, vs, ws, rfl, rfl, SqT.of e1, SqT.of e2, hv, by omega, fun hw => ?_, fun _ p hp => ?_⟩
      · have hb : bs = [] := by rw [hw] at hl2; exact List.length_eq_zero_iff.mp hl2
        rw [hb, List.append_nil] at k
        exact k ρ H _ Ext.refl R r1
      · exact k ρ _ _ (Ext.new hp) (R.newTup hp) (.tup upd_same ((q1.append q2).ext (Ext.new hp)))
  · split at e
    · rename_i hm1 hm2
      obtain ⟨h1, e⟩ := bif_inv e
      have h1 := of_decide_eq_true h1
      cases e
      obtain ⟨a1, rfl, e1⟩ := r1.loc_inv
      obtain ⟨a2, rfl, e2⟩ := r2.loc_inv
      obtain ⟨vs, e3, q1⟩ := R.at_ _ _ _ e1 hm1
      obtain ⟨ws, e4, q2⟩ := R.at_ _ _ _ e2 hm2
      have hm := million
      have hl1 := q1.length
      have hl2 := q2.length
      exact op_cat pins s σ H _ _ v u Q I rx ry ⟨a1, a2, vs, ws, rfl, rfl, e3, e4, by omega, fun p hp => k _ _ _ (Ext.push hp) (R.push hp ⟨_, upd_same, (q1.append q2).ext (Ext.push hp)⟩) (.loc (push_get R))⟩
    · cases e
  · cases e
theorem noFill_tup_mul : fillsNumberSlot (.type "tuple") "mul" = pure false :=
  PyProof.Rows.fillsNumberSlot_seq (id := "tuple.__mul__") (r := some (.builtin "tuple.__rmul__")) PySem.F.slot_tuple_mul.lookup (by decide +kernel) PySem.F.slot_tuple_rmul.lookup (by decide +kernel)
theorem repeat_tup : seqRepeat? (.type "tuple") = pure (some (.builtin "tuple.__mul__")) := by
  unfold seqRepeat?
  rw [PyProof.Rows.seqSlot_of (T := "tuple") (name := "__mul__") (id := "tuple.__mul__") PySem.F.slot_tuple_mul.lookup (by decide +kernel), PyProof.Rows.seqSlot_of (T := "tuple") (name := "__rmul__") (id := "tuple.__rmul__") PySem.F.slot_tuple_rmul.lookup (by decide +kernel)]
  rfl
theorem rmul_declines_tup (i : Int) (t : Tok) (l : Addr) (items : Array Value) (n : Nat) (dd : Option Addr) (sl : Array (Option Value)) :
    Meets (Builtin.«int.__rmul__» ⟨[.int i t, .ref l], []⟩) (fun _ R s => s.heap.get? l = some { cls := .type "tuple", dict := dd, data := .seq items n, slots := sl } ∧ R (.ok (.ret Value.notImplemented)) s) :=
  .of_wp fun prog w A R s h => by
    obtain ⟨hp, g, d, tk, os⟩ := s
    obtain ⟨hl, h⟩ := h
    wp_walk
    exact ⟨_, rfl, h⟩
theorem tup_mul_meets (l : Addr) (items : Array Value) (n : Nat) (dd : Option Addr) (sl : Array (Option Value)) (i : Int) (t : Tok) (h2 : 2 ≤ i) (h3 : i ≤ 1000) (h4 : items.isEmpty = false) (h5 : items.size ≤ 1000)
    (hsz : ((List.replicate i.toNat items).foldl (fun x1 x2 => x1 ++ x2) #[]).size ≤ sizeLine) :
    Meets (Builtin.«tuple.__mul__» ⟨[.ref l, .int i t], []⟩) (fun _ R s => s.heap.get? l = some { cls := .type "tuple", dict := dd, data := .seq items n, slots := sl } ∧
      R (.ok (.ret (Value.ref s.heap.objs.size))) { s with heap := s.heap.push { cls := Value.type "tuple", data := Data.seq ((List.replicate i.toNat items).foldl (fun x1 x2 => x1 ++ x2) #[]) }, toks := s.toks }) :=
  .of_wp fun prog w A R s h => by
    obtain ⟨hp, g, d, tk, os⟩ := s
    obtain ⟨hl, h⟩ := h
    have f1 := AutoSeq1.idx_int
    have c1 : ¬ ((decide (i < -(2 ^ 63)) || decide (i ≥ 2 ^ 63)) = true) := by
      rw [decide_eq_false (by omega), decide_eq_false (by omega)]
      exact Bool.false_ne_true
    have c2 : ¬ ((items.isEmpty || i == 1) = true) := by
      rw [h4, show (i == 1) = false by simp; omega]
      exact Bool.false_ne_true
    have c3 : ¬ ((decide (i ≤ 0) || items.isEmpty) = true) := by
      rw [h4, decide_eq_false (by omega)]
      exact Bool.false_ne_true
    have c4 : ¬ ((items.size : Int) * i > (2 ^ 63 - 1) / 8) := by
      have h6 : (items.size : Int) * i ≤ 1000 * 1000 := Int.mul_le_mul (by omega) h3 (by omega) (by omega)
      omega
    have c5 : ¬ (Builtin.Tuple.tupleTooMany ((items.size : Int) * i) = true) := by
      have h6 : (items.size : Int) * i ≤ 1000 * 1000 := Int.mul_le_mul (by omega) h3 (by omega) (by omega)
      have hz : (sizeLine : Int) = 16777216 := by rw [sizeLine_eq]; rfl
      unfold Builtin.Tuple.tupleTooMany
      rw [decide_eq_false (by omega)]
      exact Bool.false_ne_true
    wp_walk using wpAny_loadPart' hl
    rw [if_neg c1]
    wp_walk using wpAny_loadPart' hl
    rw [if_neg c2]
    dsimp only
    rw [if_neg c3, if_neg c4, if_neg c5]
    refine wpAny_bind (m := Builtin.Tuple.tupleExact _) (wpAny_newObj_type (wpAny_pure ⟨_, rfl, h⟩) hsz)
theorem foldl_flat (its : List Value) : ∀ (n : Nat) (acc : List Value), List.foldl (fun x1 x2 => x1 ++ x2) acc.toArray (List.replicate n its.toArray) = (acc ++ (List.replicate n its).flatten).toArray
  | 0, acc => by simp
  | n + 1, acc => by
    rw [List.replicate_succ, List.foldl_cons, List.append_toArray, foldl_flat its n, List.replicate_succ, List.flatten_cons, List.append_assoc]
theorem rep_rep {K : PySem.W.Frag} {ρ : List Addr} {H : Hp} {ds : List D} {vs : List V} (r : RepVs K ρ H ds vs) : ∀ n : Nat, RepVs K ρ H (List.replicate n ds).flatten (List.replicate n vs).flatten
  | 0 => .nil
  | n + 1 => by
    rw [List.replicate_succ, List.replicate_succ, List.flatten_cons, List.flatten_cons]
    exact r.append (rep_rep r n)
theorem vals_rep {vs : List V} {us : List Value} (r : Vals vs us) : ∀ n : Nat, Vals (List.replicate n vs).flatten (List.replicate n us).flatten
  | 0 => .nil
  | n + 1 => by
    rw [List.replicate_succ, List.replicate_succ, List.flatten_cons, List.flatten_cons]
    exact r.append (vals_rep r n)
theorem opM_mul : OpM X (binaryOp .Mult) gMul := by
  intro pins s σ H x y v u Q I rx ry ⟨ρ, dx, dy, μ, d, μ', r1, r2, R, e, k⟩
  unfold gMul at e
  split at e
  · obtain ⟨h1, e⟩ := bif_inv e
    cases e
    rw [r1.int_inv] at rx; rw [r2.int_inv] at ry
    obtain ⟨t, rfl⟩ := rx
    obtain ⟨t', rfl⟩ := ry
    exact mul_int ⟨.int _, H, I.tok _, ⟨_, rfl⟩, k ρ H _ Ext.refl R .int⟩ (mulOk_ok h1)
  · rename_i ds i
    obtain ⟨h1, e⟩ := bif_inv e
    have h1 := of_decide_eq_true h1
    obtain ⟨h2, h3, h4, h5⟩ := h1
    cases e
    obtain ⟨a1, vs, rfl, e1, q1⟩ := r1.tup_inv
    rw [r2.int_inv] at ry
    cases rx
    obtain ⟨t, rfl⟩ := ry
    obtain ⟨its, rv, ⟨⟨cls, dd, data, sl⟩, ho, hc, n, hd⟩, hz⟩ := I.tuple (SqT.of (K := X.K) e1)
    simp only at hc hd
    subst hc hd
    have hl : its.length = ds.length := by rw [q1.length, rv.length]
    have hlen : ((List.replicate i.toNat vs).flatten).length ≤ sizeLine := by
      rw [len_rep]
      have hm := million
      have h6 : i.toNat * vs.length ≤ 1000 * 1000 := Nat.mul_le_mul (by omega) (by rw [← q1.length]; exact h5)
      omega
    have e2 := foldl_flat its i.toNat []
    rw [List.nil_append] at e2
    have hsz : ((List.replicate i.toNat its.toArray).foldl (fun x1 x2 => x1 ++ x2) #[]).size ≤ sizeLine := by
      rw [show (#[] : Array Value) = ([] : List Value).toArray from rfl, e2, List.size_toArray, ← (vals_rep rv i.toNat).length]
      exact hlen
    refine wpAny_binaryOp_repeat_ref (T := "tuple") (U := "int") (by decide) ⟨_, ho, rfl⟩ (fun s' => typeIs_int s' i t) noFill_tup_mul PySem.F.fills_int_mul PySem.F.slot_int_rmul repeat_tup PySem.F.slot_int_index.lookup
      (call_meets PySem.F.slot_int_rmul (typeIs_int s i t) PySem.F.entry_int_rmul (PySem.F.args_int_rmul_2 _ _) (rmul_declines_tup i t a1 its.toArray n dd sl)
        ⟨ho, rfl, ⟨_, ho, rfl⟩, call_meets PySem.F.slot_tuple_mul ⟨_, ho, rfl⟩ PySem.F.entry_tuple_mul (PySem.F.args_tuple_mul_2 _ _) (tup_mul_meets a1 its.toArray n dd sl i t h2 h3 (by rw [List.isEmpty_toArray, List.isEmpty_eq_false_iff_exists_mem]; exact ⟨_, List.getElem_mem (by omega : 0 < its.length)⟩) (by rw [List.size_toArray, hl]; exact h5) hsz) ⟨ho, ?_⟩⟩)
    rw [show (#[] : Array Value) = ([] : List Value).toArray from rfl, e2]
    have hf := I.hok.fresh (Nat.le_refl s.heap.objs.size)
    refine ⟨.ref s.heap.objs.size, _, I.laid (t' := s.toks) (o := .tup (List.replicate i.toNat vs).flatten) (fun b ob q => Heap.get?_push_of_some _ q) (Nat.le_refl _) ?_, rfl, k ρ _ _ (Ext.new hf) (R.newTup hf) (.tup upd_same ((rep_rep q1 i.toNat).ext (Ext.new hf)))⟩
    exact ⟨hlen, _, vals_rep rv i.toNat, IsTup.new _ _⟩
  · rename_i l n
    split at e
    · rename_i ds hm
      obtain ⟨h1, e⟩ := bif_inv e
      have h1 := of_decide_eq_true h1
      obtain ⟨h2, h3, h4⟩ := h1
      cases e
      obtain ⟨a1, rfl, ea⟩ := r1.loc_inv
      obtain ⟨vs, e3, q3⟩ := R.at_ _ _ _ ea hm
      refine op_rep pins s σ H _ _ v u Q I rx ry ⟨a1, n, vs, rfl, r2.int_inv, e3, by omega, by omega, ?_, fun p hp => k _ _ _ (Ext.push hp) (R.push hp ⟨_, upd_same, (rep_rep q3 n.toNat).ext (Ext.push hp)⟩) (.loc (push_get R))⟩
      have hmi := million
      have h6 : vs.length * n.toNat ≤ 1000 * 1000 := Nat.mul_le_mul (by rw [← q3.length]; exact h4) (by omega)
      omega
    · cases e
  · cases e
noncomputable abbrev FO := Loc → Mem → Option (Option Int × Mem)
noncomputable def tMO (K : PySem.W.Frag) (φ : FO) : TO := fun σ H Q => ∃ ρ δ μ o μ', At K ρ H σ δ μ ∧ φ δ μ = some (o, μ') ∧ ∀ ρ' H', Ext ρ H ρ' H' → RepH K ρ' H' μ' → Q o H'
noncomputable def MO (X : Cx) (e : Option Expr) (φ : FO) : Prop := PO X e (tMO X.K φ)
@[simp] noncomputable def pNo : FO := fun _ μ => some (none, μ)
@[simp] noncomputable def pYes (φ : FE) : FO := fun δ μ => (φ δ μ).bind fun p => match p.1 with
  | .int i => some (some i, p.2)
  | _ => none
noncomputable def cutD (xs : List D) (lo hi : Option Int) : List D := (xs.drop (HT.sIx xs.length 0 lo)).take (HT.sIx xs.length xs.length hi - HT.sIx xs.length 0 lo)
@[simp] noncomputable def fSl (φ : FE) (lo hi : FO) : FE := fun δ μ => (φ δ μ).bind fun p => (lo δ p.2).bind fun l => (hi δ l.2).bind fun h => match p.1 with
  | .tup ds => some (.tup (cutD ds l.1 h.1), h.2)
  | .loc n => match h.2[n]? with
    | some (.lst ds) => some (.loc h.2.length, h.2 ++ [.lst (cutD ds l.1 h.1)])
    | _ => none
  | _ => none
end
end M
set_option Elab.async false
set_option linter.all false
set_option maxRecDepth 100000
set_option autoImplicit false
namespace M
open PySem PySem.Spec PyProof.Rows L2
theorem tup_whole {prog : Program} {w : World} {A : Around} {E : Value → Shared → Prop} {s : Shared} {t sl : Addr} {items : Array Value} {vl vu : Value} {lo hi : Option Int} {Q : Value → Shared → Prop} (ht : IsTup s.heap t items) (hs : s.heap.IsSliceOf sl vl vu .none) (pl : IsPart vl lo) (pu : IsPart vu hi)
    (hw : HT.sIx items.size 0 lo = 0 ∧ HT.sIx items.size items.size hi = items.size) (h : Q (.ref t) s) : wpAny (model prog w) A (getItem (.ref t) (.ref sl)) Q E s := by
  obtain ⟨os, hos, hcs, hds⟩ := id hs
  have hTs : s.TypeIs (.ref sl) "slice" := ⟨os, hos, hcs⟩
  unfold getItem
  try with_reducible refine wpAny_holding ?_
  first | refine wpAny_bind (wpAny_pure ?_) | skip
  refine wpAny_bind (wpAny_sequenceKey ht.typeIs (by decide) ?_)
  refine wpAny_bind (wpAny_callSpecial?_slot (name := Str.ofString "__getitem__") ht.typeIs PyProof.Rows.slot_tuple_getitem
    (wpAny_call_entry PyProof.Rows.slot_tuple_getitem ht.typeIs entry_tuple_getitem ?_ (args_tuple_getitem _ _)))
  show wpAny _ _ (Builtin.Tuple.tupleItemsOf (.ref t) >>= _) _ _ s
  refine wpAny_bind (tupleItemsOf_ ht ?_)
  refine wpAny_bind (wpAny_typeOf hTs ?_)
  rw [if_pos (by decide)]
  refine wpAny_bind (HT.sliceApplied_gen hs pl pu ?_)
  have hyes : (((HT.sIx items.size 0 lo : Nat) : Int) == 0 && (1 : Int) == 1 && (HT.sIx items.size items.size hi - HT.sIx items.size 0 lo) == items.size) = true := by
    rw [hw.1, hw.2]
    simp
  show wpAny _ _ (if (((HT.sIx items.size 0 lo : Nat) : Int) == 0 && (1 : Int) == 1 && (HT.sIx items.size items.size hi - HT.sIx items.size 0 lo) == items.size) = true then _ else _) _ _ s
  rw [if_pos hyes]
  refine wpAny_bind (m := Builtin.Tuple.tupleIsExact _) ?_
  unfold Builtin.Tuple.tupleIsExact
  refine wpAny_bind (wpAny_typeOf ht.typeIs (wpAny_pure ?_))
  rw [if_pos (by decide)]
  exact wpAny_bind (wpAny_rule (wpAny_pure ⟨_, rfl, wpAny_pure h⟩))
section
variable {X : Cx} {a b c e : Expr} {es : List Expr} {φ ψ χ : FE} {pos p2 : Pos} {lo hi : Option Expr}
noncomputable def rSl (K : PySem.W.Frag) : V → Option Int → Option Int → Hp → VK → Prop := fun x lo hi H Q => ∃ a xs, x = .ref a ∧ H a = some (.tup xs) ∧
  ((HT.sIx xs.length 0 lo = 0 ∧ HT.sIx xs.length xs.length hi = xs.length) → Q (.ref a) H) ∧ ∀ p, H p = none → Q (.ref p) (upd H p (.tup (cutV xs lo hi)))
theorem sl_any : SlR X (rSl X.K) := by
  intro pins s σ H x v vl vu lo hi sl Q I rx hs pl pu h
  obtain ⟨a, xs, rfl, hx, h1, h2⟩ := h
  by_cases hw : HT.sIx xs.length 0 lo = 0 ∧ HT.sIx xs.length xs.length hi = xs.length
  · cases rx
    obtain ⟨its, r, ht, hz⟩ := I.tuple (SqT.of (K := X.K) hx)
    have hlen : its.toArray.size = xs.length := by rw [List.size_toArray]; exact r.length.symm
    exact ⟨"tuple", _, PyProof.Rows.slot_tuple_getitem.lookup, ht.typeIs, tup_whole ht hs pl pu (by rw [hlen]; exact hw) ⟨.ref a, H, I, rfl, h1 hw⟩⟩
  · exact sl_tup pins s σ H _ v vl vu lo hi sl Q I rx hs pl pu ⟨a, xs, rfl, SqT.of hx, hw, h2⟩
theorem mp_no : MO X none pNo := fun pins s σ H Q I ⟨ρ, δ, μ, o, μ', A, e, k⟩ => po_none pins s σ H Q I (by cases e; exact k ρ H Ext.refl A.hp)
theorem mp_yes (h : ME X e φ) : MO X (some e) (pYes φ) := fun pins s σ H Q I ⟨ρ, δ, μ, o, μ', A, e, k⟩ => po_some h pins s σ H Q I (by
  obtain ⟨⟨x, μ1⟩, e1, e⟩ := bind_inv e
  refine ⟨ρ, δ, μ, x, μ1, A, e1, fun ρ1 H1 v x1 R1 r1 => ?_⟩
  dsimp only at e
  split at e
  · cases e
    exact ⟨_, r1.int_inv, k ρ1 H1 x1 R1⟩
  · cases e)
theorem cut_rep {K : PySem.W.Frag} {ρ : List Addr} {H : Hp} {ds : List D} {vs : List V} {lo hi : Option Int} (r : RepVs K ρ H ds vs) : RepVs K ρ H (cutD ds lo hi) (cutV vs lo hi) := by
  unfold cutD cutV
  rw [r.length]
  exact (r.drop _).take _
theorem me_sl {l h : FO} (he : ME X e φ) (hl : MO X lo l) (hu : MO X hi h) : ME X (.Subscript e (.Slice lo hi none p2) pos) (fSl φ l h) :=
  me_of (pe_slice (SlR.or sl_any sl_list) he hl hu) fun ρ δ μ σ H d μ' Q A e k => by
    obtain ⟨⟨x, μ1⟩, e1, e⟩ := bind_inv e
    obtain ⟨⟨o1, μ2⟩, e2, e⟩ := bind_inv e
    obtain ⟨⟨o2, μ3⟩, e3, e⟩ := bind_inv e
    refine ⟨ρ, δ, μ, x, μ1, A, e1, fun ρ1 H1 v x1 R1 r1 => ?_⟩
    refine ⟨ρ1, δ, μ1, o1, μ2, A.ext x1 R1, e2, fun ρ2 H2 x2 R2 => ?_⟩
    refine ⟨ρ2, δ, μ2, o2, μ3, A.ext (x1.trans x2) R2, e3, fun ρ3 H3 x3 R3 => ?_⟩
    dsimp only at e
    split at e
    · cases e
      obtain ⟨a, vs, rfl, ea, q⟩ := (r1.ext (x2.trans x3)).tup_inv
      have xx := x1.trans (x2.trans x3)
      refine .inl ⟨a, vs, rfl, ea, fun hw => k ρ3 H3 _ xx R3 (.tup ea ?_), fun p hp => k ρ3 _ _ (xx.trans (Ext.new hp)) (R3.newTup hp) (.tup upd_same ((cut_rep q).ext (Ext.new hp)))⟩
      have e4 : cutV vs o1 o2 = vs := by
        unfold cutV
        rw [hw.1, hw.2, Nat.sub_zero, List.drop_zero, List.take_length]
      have := cut_rep (lo := o1) (hi := o2) q
      rw [e4] at this
      exact this
    · split at e
      · rename_i hm
        cases e
        obtain ⟨a, rfl, ea⟩ := (r1.ext (x2.trans x3)).loc_inv
        obtain ⟨vs, ev, q⟩ := R3.at_ _ _ _ ea hm
        have xx := x1.trans (x2.trans x3)
        exact .inr ⟨a, vs, rfl, SqL.of ev, fun p hp => k _ _ _ (xx.trans (Ext.push hp)) (R3.push hp ⟨_, upd_same, (cut_rep q).ext (Ext.push hp)⟩) (.loc (push_get R3))⟩
      · cases e
    · cases e
@[simp] noncomputable def fNeg (φ : FE) : FE := fun δ μ => (φ δ μ).bind fun p => match p.1 with
  | .int i => some (.int (-i), p.2)
  | _ => none
theorem big {pins : List (Addr × Obj)} {σ : L2.St} {H : Hp} {s : Shared} (I : Inv X pins σ H s) : sysModules < s.heap.objs.size := by
  have h : mainGlobals < s.heap.objs.size := (I.mod.glob.keeps I.bk).lt
  exact Nat.lt_trans (by decide) h
@[simp] noncomputable def fEmp : FE := fun _ μ => some (.loc μ.length, μ ++ [.dct []])
noncomputable def flatD : D → Bool
  | .non | .bl _ | .int _ | .str _ => true
  | _ => false
noncomputable def eqF : D → D → Bool
  | .non, .non => true
  | .bl a, .bl b => a == b
  | .bl a, .int b => (if a then 1 else 0) == b
  | .int a, .bl b => a == (if b then 1 else 0)
  | .int a, .int b => a == b
  | .str a, .str b => a == b
  | _, _ => false
noncomputable def gIn : G2 := fun x y μ => (items μ y).bind fun ds => bif flatD x && ds.all flatD then some (.bl (ds.any fun d => eqF d x), μ) else none
theorem flat_rep {K : PySem.W.Frag} {ρ : List Addr} {H : Hp} {d : D} {v : V} (r : RepV K ρ H d v) (f : flatD d = true) : flatV v = true := by
  cases d with
  | non => rw [r.non_inv]; rfl
  | bl b => rw [r.bl_inv]; rfl
  | int b => rw [r.int_inv]; rfl
  | str b => rw [r.str_inv]; rfl
  | _ => cases f
theorem eqF_rep {K : PySem.W.Frag} {ρ : List Addr} {H : Hp} {d d' : D} {v v' : V} (r : RepV K ρ H d v) (r' : RepV K ρ H d' v') (f : flatD d = true) (f' : flatD d' = true) : eqV v v' = eqF d d' := by
  cases d with
  | non => rw [r.non_inv]; cases d' with
    | non => rw [r'.non_inv]; rfl
    | bl b => rw [r'.bl_inv]; rfl
    | int b => rw [r'.int_inv]; rfl
    | str b => rw [r'.str_inv]; rfl
    | _ => cases f'
  | bl b => rw [r.bl_inv]; cases d' with
    | non => rw [r'.non_inv]; rfl
    | bl b => rw [r'.bl_inv]; rfl
    | int b => rw [r'.int_inv]; rfl
    | str b => rw [r'.str_inv]; rfl
    | _ => cases f'
  | int b => rw [r.int_inv]; cases d' with
    | non => rw [r'.non_inv]; rfl
    | bl b => rw [r'.bl_inv]; rfl
    | int b => rw [r'.int_inv]; rfl
    | str b => rw [r'.str_inv]; rfl
    | _ => cases f'
  | str b => rw [r.str_inv]; cases d' with
    | non => rw [r'.non_inv]; rfl
    | bl b => rw [r'.bl_inv]; rfl
    | int b => rw [r'.int_inv]; rfl
    | str b => rw [r'.str_inv]; rfl
    | _ => cases f'
  | _ => cases f
theorem in_rep {K : PySem.W.Frag} {ρ : List Addr} {H : Hp} {x : D} {v : V} (rx : RepV K ρ H x v) (fx : flatD x = true) : ∀ {ds : List D} {vs : List V}, RepVs K ρ H ds vs → ds.all flatD = true → vs.all flatV = true ∧ inV v vs = ds.any fun d => eqF d x
  | [], _, r, _ => by rw [r.nil_inv]; exact ⟨rfl, rfl⟩
  | d :: ds, _, r, f => by
    obtain ⟨w, ws, rfl, r1, r2⟩ := r.cons_inv
    rw [List.all_cons, Bool.and_eq_true] at f
    obtain ⟨h1, h2⟩ := in_rep rx fx r2 f.2
    refine ⟨by rw [List.all_cons, flat_rep r1 f.1, h1]; rfl, ?_⟩
    unfold inV at h2 ⊢
    rw [List.any_cons, List.any_cons, h2, eqF_rep r1 rx f.1 fx]
theorem opM_in : OpM X (compareOp .In) gIn := by
  intro pins s σ H x y v u Q I rx ry ⟨ρ, dx, dy, μ, d, μ', r1, r2, R, e, k⟩
  obtain ⟨ds, e1, e⟩ := bind_inv e
  obtain ⟨h1, e⟩ := bif_inv e
  rw [Bool.and_eq_true] at h1
  cases e
  obtain ⟨p, vs, rfl, hq, rr⟩ := items_seq R r2 e1
  obtain ⟨h3, h4⟩ := in_rep r1 h1.1 rr h1.2
  exact op_in_seq pins s σ H x _ v u Q I rx ry ⟨p, vs, rfl, hq, flat_rep r1 h1.1, h3, by rw [if_neg Bool.false_ne_true, h4]; exact k ρ H _ Ext.refl R .bl⟩
noncomputable abbrev GM := D → List D → Mem → Option (D × Mem)
@[simp] noncomputable def fMeth (g : GM) (φ : FE) (ψ : FA) : FE := fun δ μ => (φ δ μ).bind fun p => match p.1 with
  | .loc n => match p.2[n]? with
    | some (.lst _) => (ψ δ p.2).bind fun q => g (.loc n) q.1 q.2
    | _ => none
  | _ => none
@[simp] noncomputable def gAppend : GM := fun x ds μ => match x, ds with
  | .loc n, [d] => match μ[n]? with
    | some (.lst xs) => bif decide (xs.length ≤ 1000000) then some (.non, μ.set n (.lst (xs ++ [d]))) else none
    | _ => none
  | _, _ => none
noncomputable def MtG (X : Cx) (id : String) (g : GM) : Prop := MtR X id fun x xs H Q => ∃ ρ dx ds μ d μ', RepV X.K ρ H dx x ∧ RepVs X.K ρ H ds xs ∧ RepH X.K ρ H μ ∧ g dx ds μ = some (d, μ') ∧ ∀ ρ' H' v, Ext ρ H ρ' H' → RepH X.K ρ' H' μ' → RepV X.K ρ' H' d v → Q v H'
theorem me_meth {o : Expr} {ψ : FA} {name : Str} {id : String} {g : GM} {apos : Pos} (slot : Slot "list" name id) (hty : typeOf (.builtin id) = pure (.type "method_descriptor")) (hm : MtG X id g) (ho : ME X o φ) (ha : MAn X (e :: es) ψ)
    (hbase : attributeBase o name X.env (eval o X.env) = eval o X.env := by rfl)
    (hfew : ((backTo pos (starEach (e :: es) X.env)).all (fun x => !x.1) && (backToKw pos (keywordEach [] X.env)).all (fun x => x.1.isSome)
      && decide ((e :: es).length + ([] : List Keyword).length + (if ([] : List Keyword).isEmpty then 0 else 1) < 30)) = true := by rfl)
    (hline : (apos.endLine == pos.line) = true := by rfl) (hs : starEach (e :: es) X.env = (false, eval e X.env) :: starEach es X.env := by rfl) (hplain : (backTo pos (starEach es X.env)).any (·.1) = false := by rfl) :
    ME X (.Call (.Attribute o name apos) (e :: es) [] pos) (fMeth g φ ψ) :=
  me_of (pe_bm PySem.F.plainAttrs_list slot hty hm ho ha.ma hbase hfew hline hs hplain) fun ρ δ μ σ H d μ' Q A e k => by
    obtain ⟨⟨x, μ1⟩, e1, e⟩ := bind_inv e
    refine ⟨ρ, δ, μ, x, μ1, A, e1, fun ρ1 H1 v x1 R1 r1 => ?_⟩
    dsimp only at e
    split at e
    · split at e
      · rename_i hm'
        obtain ⟨⟨ds, μ2⟩, e2, e⟩ := bind_inv e
        obtain ⟨a, rfl, ea⟩ := r1.loc_inv
        obtain ⟨vs, e3, q3⟩ := R1.at_ _ _ _ ea hm'
        refine ⟨.inl ⟨rfl, vs, SqL.of e3⟩, ρ1, δ, μ1, ds, μ2, A.ext x1 R1, e2, fun ρ2 H2 vs2 x2 R2 r2 => ?_⟩
        exact ⟨ρ2, _, ds, μ2, d, μ', r1.ext x2, r2, R2, e, fun ρ3 H3 v3 x3 R3 r3 => k ρ3 H3 v3 (x1.trans (x2.trans x3)) R3 r3⟩
      · cases e
    · cases e
theorem mtG_append : MtG X "list.append" gAppend := by
  intro pins s σ H x xs v us Q I rx rs ⟨ρ, dx, ds, μ, d, μ', r1, r2, R, e, k⟩
  unfold gAppend at e
  split at e
  · split at e
    · rename_i hm
      obtain ⟨h1, e⟩ := bif_inv e
      have h1 := of_decide_eq_true h1
      cases e
      obtain ⟨a, rfl, ea⟩ := r1.loc_inv
      obtain ⟨vs, e3, q3⟩ := R.at_ _ _ _ ea hm
      obtain ⟨w, r, rfl, q1, q2⟩ := r2.cons_inv
      rw [q2.nil_inv] at rs
      have hl := q3.length
      have hmi := million
      have hmu : Mut (H a) := by rw [e3]; trivial
      refine mt_append pins s σ H _ _ v us Q I rx rs ⟨a, vs, w, rfl, rfl, e3, by omega, ?_⟩
      exact k ρ _ _ (Ext.wr hmu) (R.wr hmu ea ⟨_, upd_same, RepVs.ext (Ext.wr hmu) (q3.append (.cons q1 .nil))⟩) .non
    · cases e
  · cases e
theorem me_append {o : Expr} {ψ : FA} {apos : Pos} (ho : ME X o φ) (ha : MAn X (e :: es) ψ)
    (hbase : attributeBase o "append" X.env (eval o X.env) = eval o X.env := by rfl)
    (hfew : ((backTo pos (starEach (e :: es) X.env)).all (fun x => !x.1) && (backToKw pos (keywordEach [] X.env)).all (fun x => x.1.isSome)
      && decide ((e :: es).length + ([] : List Keyword).length + (if ([] : List Keyword).isEmpty then 0 else 1) < 30)) = true := by rfl)
    (hline : (apos.endLine == pos.line) = true := by rfl) (hs : starEach (e :: es) X.env = (false, eval e X.env) :: starEach es X.env := by rfl) (hplain : (backTo pos (starEach es X.env)).any (·.1) = false := by rfl) :
    ME X (.Call (.Attribute o "append" apos) (e :: es) [] pos) (fMeth gAppend φ ψ) := me_meth PySem.F.slot_list_append PySem.F.type_list_append mtG_append ho ha hbase hfew hline hs hplain
end
end M
set_option Elab.async false
set_option linter.all false
set_option autoImplicit false
namespace M
open PySem
noncomputable def RS (xs : Array Nat) : Prop := xs.toList.Pairwise (· < ·)
structure TOk (L : Bool) (t : SetTable) : Prop where
  rs : RS t.place
  nd : t.dummies = #[]
  led : t.led = L
end M
set_option Elab.async false
set_option linter.all false
set_option autoImplicit false
set_option maxRecDepth 100000
namespace M
open PySem
section
variable {prog : Program} {w : World} {A : Around} {E : Value → Shared → Prop} {s : Shared}
theorem stored {o : Obj} {h : Heap} {a : Addr} {es : Array (Int × Value)} {ep : Nat} {t : SetTable} (ho : h.get? a = some o) (hd : o.data = .set es ep t) (es1 : Array (Int × Value)) (t1 : SetTable) :
    (h.update a (Obj.putSet es1 t1)).get? a = some { o with data := .set es1 (ep + 1) t1 } := by
  have e := putSet_of es1 t1 hd
  have q := Heap.get?_update_self (Obj.putSet es1 t1) ho (by rw [e]; rfl)
  rw [e] at q
  exact q
end
end M
set_option Elab.async false
set_option linter.all false
set_option autoImplicit false
set_option maxRecDepth 100000
namespace M
open PySem
end M
set_option Elab.async false
set_option linter.all false
set_option autoImplicit false
set_option maxRecDepth 100000
namespace M
open PySem
section
variable {prog : Program} {w : World} {A : Around} {E : Value → Shared → Prop} {s : Shared}
end
end M
set_option Elab.async false
set_option linter.all false
set_option autoImplicit false
set_option maxRecDepth 100000
namespace M
open PySem
section
variable {prog : Program} {w : World} {A : Around} {E : Value → Shared → Prop} {s : Shared} {it a : Addr} {es : Array (Int × Value)} {ep i : Nat} {t : SetTable} {Q : Option Value → Shared → Prop}
end
end M
set_option Elab.async false
set_option linter.all false
set_option autoImplicit false
set_option maxRecDepth 100000
namespace M
open PySem
section
variable {prog : Program} {w : World} {A : Around} {E : Value → Shared → Prop} {s : Shared} {it a : Addr} {es : Array (Int × Value)} {ep i : Nat} {t : SetTable}
end
end M
set_option Elab.async false
set_option linter.all false
set_option autoImplicit false
set_option maxRecDepth 100000
namespace M
open PySem
section
variable {prog : Program} {w : World} {A : Around} {E : Value → Shared → Prop} {s : Shared} {I a : Addr} {es : Array (Int × Value)} {ep i : Nat} {t : SetTable}
end
end M
set_option Elab.async false
set_option linter.all false
set_option autoImplicit false
set_option maxRecDepth 100000
namespace M
open PySem
section
variable {prog : Program} {w : World} {A : Around} {E : Value → Shared → Prop} {s : Shared} {a : Addr} {es : Array (Int × Value)} {ep : Nat} {t : SetTable}
end
end M
set_option Elab.async false
set_option linter.all false
set_option autoImplicit false
set_option maxRecDepth 100000
namespace M
open PySem
section
variable {prog : Program} {w : World} {A : Around} {E : Value → Shared → Prop} {s : Shared} {a : Addr} {es : Array (Int × Value)} {ep : Nat} {t : SetTable}
end
end M
set_option Elab.async false
set_option linter.all false
set_option autoImplicit false
set_option maxRecDepth 100000
namespace M
open PySem PyProof.Rows
section
variable {prog : Program} {w : World} {A : Around} {E : Value → Shared → Prop} {s : Shared} {a : Addr}
noncomputable def Sorted (s : Shared) (ks : List Int) (p : Addr) (s' : Shared) : Prop :=
  ∃ (out : Array Value) (ns : List Int) (e : Nat), s'.heap.get? p = some { cls := .type "list", data := .seq out e } ∧ IntsAre out.toList ns ∧ ns.Perm ks ∧ ns.Pairwise (· ≤ ·) ∧ s.heap.objs.size ≤ p ∧ (∀ b o, s.heap.get? b = some o → s'.heap.get? b = some o) ∧ s'.os = s.os ∧ s'.gens = s.gens
end
end M
set_option Elab.async false
set_option linter.all false
set_option autoImplicit false
set_option maxRecDepth 100000
namespace M
open PySem PyProof.Rows
section
variable {prog : Program} {w : World} {A : Around} {R : Result → Shared → Prop} {I : Addr} {fp wr : List Addr} {n : Nat} {P : Nat → Value → Prop} {St : Nat → Heap → Prop}
end
section
variable {prog : Program} {w : World} {A : Around} {E : Value → Shared → Prop} {s : Shared}
end
end M
set_option Elab.async false
set_option linter.all false
set_option autoImplicit false
set_option maxRecDepth 100000
namespace M
open PySem PyProof.Rows
section
variable {prog : Program} {w : World} {A : Around} {E : Value → Shared → Prop} {s : Shared}
end
end M
set_option Elab.async false
set_option linter.all false
set_option maxRecDepth 100000
set_option autoImplicit false
namespace M
open PySem PySem.Spec PyProof.Rows L2
section
variable {X : Cx} {pins : List (Addr × Obj)} {σ : L2.St} {H : Hp} {s s' : Shared}
theorem inv_kept (I : Inv X pins σ H s) (ho : s'.os = s.os) (hg : s'.gens = s.gens) (k : ∀ b u, s.heap.get? b = some u → s'.heap.get? b = some u) : Inv X pins σ H s' :=
  I.call' (ch := []) ho (Un.kept k) (I.hok.kept k) (by rw [hg]; exact I.bare) fun b z => nomatch z
theorem inv_laid {p : Addr} {o : HO} (I : Inv X pins σ H s) (ho : s'.os = s.os) (hg : s'.gens = s.gens) (k : ∀ b u, s.heap.get? b = some u → s'.heap.get? b = some u) (hp : s.heap.objs.size ≤ p) (new : ObjOk X.prog X.w (upd H p o) s'.heap p o) : Inv X pins σ (upd H p o) s' :=
  I.call' (ch := []) ho (Un.laid k hp (I.hok.fresh hp)) (I.hok.laid k hp new) (by rw [hg]; exact I.bare) fun b z => nomatch z
theorem vals_of_ints : ∀ {us : List Value} {ns : List Int}, IntsAre us ns → Vals (ns.map V.int) us
  | _, _, .nil => .nil
  | _, _, .cons n t r => .cons ⟨t, rfl⟩ (vals_of_ints r)
end
noncomputable def intD : D → Option Int
  | .int i => some i
  | _ => none
noncomputable def intsD (ds : List D) : Option (List Int) := ds.mapM intD
@[simp] theorem intsD_map : ∀ ns : List Int, intsD (ns.map D.int) = some ns
  | [] => rfl
  | i :: ns => by
    have := intsD_map ns
    unfold intsD at this ⊢
    rw [List.map_cons, List.mapM_cons, this]
    rfl
theorem ints_rep {K : PySem.W.Frag} {ρ : List Addr} {H : Hp} : ∀ {ns : List Int}, RepVs K ρ H (ns.map D.int) (ns.map V.int)
  | [] => .nil
  | i :: ns => .cons .int ints_rep
theorem sorted_same {a b : List Int} (p : a.Perm b) (ha : a.Pairwise (· ≤ ·)) (hb : b.Pairwise (· ≤ ·)) : a = b := p.eq_of_pairwise (fun _ _ _ _ h1 h2 => Int.le_antisymm h1 h2) ha hb
theorem sort_pw (ns : List Int) : (ns.mergeSort fun a b => decide (a ≤ b)).Pairwise (· ≤ ·) := by
  have := List.pairwise_mergeSort (le := fun a b : Int => decide (a ≤ b)) (fun a b c h1 h2 => by simp at h1 h2 ⊢; omega) (fun a b => by simp; omega) ns
  exact this.imp fun h => by simpa using h
section
variable {X : Cx} {a b c e : Expr} {es : List Expr} {φ ψ χ : FE} {pos pos2 p1 p2 : Pos}
end
end M
set_option Elab.async false
set_option linter.all false
set_option maxRecDepth 100000
set_option autoImplicit false
namespace M
open PySem PySem.Spec PyProof.Rows L2
section
variable {prog : Program} {w : World} {A : Around} {E : Value → Shared → Prop} {s : Shared}
end
section
variable {X : Cx} {a b c e : Expr} {es : List Expr} {φ ψ χ : FE} {pos : Pos}
@[simp] noncomputable def gExt : GM := fun x ds μ => match x, ds with
  | .loc n, [.tup ys] => match μ[n]? with
    | some (.lst xs) => bif decide (xs.length + ys.length ≤ 1000000) then some (.non, μ.set n (.lst (xs ++ ys))) else none
    | _ => none
  | .loc n, [.loc m] => match μ[n]?, μ[m]? with
    | some (.lst xs), some (.lst ys) => bif decide (xs.length + ys.length ≤ 1000000) then some (.non, μ.set n (.lst (xs ++ ys))) else none
    | _, _ => none
  | _, _ => none
@[simp] noncomputable def iSeq (φ : FE) : FI := fun δ μ => (φ δ μ).bind fun p => match p.1 with
  | .tup ds => some (ds, yes, p.2)
  | .fz ds => some (ds, yes, p.2)
  | .loc n => match p.2[n]? with
    | some (.lst ds) => some (ds, stays n ds, p.2)
    | _ => none
  | _ => none
theorem mi_seq {tg : Expr} (h : ME X a φ) : MI X tg a (iSeq φ) := fun pins s σ H R I ⟨ρ, δ, μ, ds, ok, μ', A, e, k⟩ => by
  cases e1 : φ δ μ with
  | none => unfold iSeq at e; rw [e1] at e; cases e
  | some p =>
    obtain ⟨x, μ1⟩ := p
    cases x with
    | tup zs => exact mi_tup h pins s σ H R I ⟨ρ, δ, μ, ds, ok, μ', A, by unfold iSeq at e; unfold iTuple; rw [e1] at e ⊢; exact e, k⟩
    | fz zs => exact mi_list h pins s σ H R I ⟨ρ, δ, μ, ds, ok, μ', A, by unfold iSeq at e; unfold iList; rw [e1] at e ⊢; exact e, k⟩
    | loc n => exact mi_list h pins s σ H R I ⟨ρ, δ, μ, ds, ok, μ', A, by unfold iSeq at e; unfold iList; rw [e1] at e ⊢; exact e, k⟩
    | _ => unfold iSeq at e; rw [e1] at e; cases e
end
end M
set_option Elab.async false
set_option linter.all false
set_option maxRecDepth 100000
set_option autoImplicit false
namespace M
open PySem PySem.Spec PyProof.Rows L2
theorem exc_of_in {K : PySem.W.Frag} {h : Heap} {C : Addr} {bmB : List Value} {newId : String} (X : K.In h) (q : PySem.W.excIn K C bmB newId = true) :
    ∃ bm N nm qn bs hdct sn sub ab col dd k0 k1 k2 k3 k5 mN, h.get? C = some (excClassObj nm qn C N bs bm hdct sn sub ab col dd k0 k1 k2 k3 k5 newId) ∧ h.Ns N mN ∧ mN "__init__" = none ∧ OwnTail h bmB bm := by
  unfold PySem.W.excIn at q
  split at q
  · rename_i dd cd sl ho
    split at q
    · rename_i C' bm k0 k1 k2 k3 n k5 hm hs
      simp only [Bool.and_eq_true, beq_iff_eq, Bool.not_eq_true'] at q
      obtain ⟨⟨⟨⟨⟨rfl, rfl⟩, hdel⟩, ht⟩, hok⟩, hni⟩ := q
      obtain ⟨nm, bs, mro, ns, qn, hd, sn, sub, ab, col, del⟩ := cd
      dsimp only at hm hdel hok hni
      subst hm hdel
      have hsl : sl = #[k0, k1, k2, k3, some (.builtin n), k5] := by
        obtain ⟨l⟩ := sl
        simp only at hs
        rw [hs]
      subst hsl
      exact ⟨bm, ns, nm, qn, bs, hd, sn, sub, ab, col, dd, k0, k1, k2, k3, k5, _, X _ _ ho, .of_isNs (PySem.W.isNs_of_in X hok), PySem.W.nsMap_none_of_in X hok hni, PySem.W.tail_of_in X ht⟩
    · cases q
  · cases q
section
variable {X : Cx} {e : Expr} {es : List Expr} {pos np cpos : Pos} {x : Str} {C : Addr} {B newId initId : String} {bmB : List Value}
@[simp] noncomputable def sRaise (c : Str) (φ : FA) : FS := fun δ μ => (φ δ μ).bind fun p => some (.exc c [] p.2)
theorem ms_raise {φ : FA} (hn : PySem.W.nsIn X.K mainGlobals x = some (some (.ref C))) (q : PySem.W.excIn X.K C bmB newId = true) (FB : ExcBaseFacts B newId initId bmB) (ha : MAn X (e :: es) φ) (hl : (e :: es).length ≤ 1000 := by decide) (hh : X.calm = true := by rfl) (hg : Gl X x := by rfl)
    (he : starEach (e :: es) X.env = (false, eval e X.env) :: starEach es X.env := by exact star_ok rfl) (hpl : (backTo cpos (starEach es X.env)).any (·.1) = false := by rfl) (hdb : (x == ("__debug__" : Str)) = false := by decide) :
    MS X (.Raise (some (.Call (.Name x np) (e :: es) [] cpos)) none pos) (sRaise x φ) := by
  intro pins s σ H D I ⟨ρ, δ, μ, o, A, eo, k⟩
  obtain ⟨⟨ds, μ1⟩, e1, eo⟩ := bind_inv eo
  cases eo
  obtain ⟨bm, N, nm, qn, bs, hdct, sn, sub, ab, col, dd, k0, k1, k2, k3, k5, mN, hC, hN, hni, T⟩ := exc_of_in I.mod.kin q
  have hpl' : (backTo cpos (starEach (e :: es) X.env)).any (·.1) = false := by
    rw [he]
    show (false || (backTo cpos (starEach es X.env)).any (·.1)) = false
    rw [hpl]
    rfl
  refine wpAny_Raise_call_subT (C := C) (nm := nm) (q := qn) (N := N) (bs := bs) (bm := bm) (hdct := hdct) (sn := sn) (sub := sub) (ab := ab) (col := col) (dd := dd) (k0 := k0) (k1 := k1) (k2 := k2) (k3 := k3) (k5 := k5)
    FB (mN := mN) (T.hasType FB.hasBase) (I.ok.hd hh) hpl' hni (ld_glob I hg (PySem.W.mg_of I.mod.kin I.mod.glob hn) ⟨rfl, ?_⟩ hdb)
  have h := ha.ma cpos pins s σ H (fun vs H' => vs.length ≤ sizeLine ∧ wishX X (.ref C) none H') I ⟨ρ, δ, μ, ds, μ1, A, e1, fun ρ' H' vs x' R r => ⟨by
    rw [← r.length, ha.len _ _ _ _ e1]
    exact Nat.le_of_lt (small1000 hl), k ρ' H' C none hn x' R (.inl ⟨rfl, rfl⟩)⟩⟩
  rw [he] at h ⊢
  refine Calls.evalArgs_plain (wpAny_mono h (fun us s2 h2 => ?_) fun _ _ y => y)
  obtain ⟨vs, H', I', r, hl, hw⟩ := h2
  exact ⟨rfl, by rw [← r.length]; exact hl, I'.bk _ _ hC, hN.keeps I'.bk, T.keeps I'.bk, fun h' a hm => hw pins σ H' s2 (.ref a) _ I' (I'.madeX hm)⟩
end
inductive RO where
  | ok (d : D) (μ : Mem)
  | exc (c : Str) (fs : List (Str × D)) (μ : Mem)
noncomputable abbrev FX := List D → Mem → Option RO
noncomputable def ROk (K : PySem.W.Frag) (ρ : List Addr) (H : Hp) (Q : VK) (E : XK) : RO → Prop
  | .ok d μ' => ∀ ρ' H' v, Ext ρ H ρ' H' → RepH K ρ' H' μ' → RepV K ρ' H' d v → Q v H'
  | .exc c fs μ' => ∀ ρ' H' C dx, PySem.W.nsIn K mainGlobals c = some (some (.ref C)) → Ext ρ H ρ' H' → RepH K ρ' H' μ' → RepX K ρ' H' fs dx → E (.ref C) dx H'
theorem ROk.ext {K : PySem.W.Frag} {ρ ρ1 : List Addr} {H H1 : Hp} {Q : VK} {E : XK} {r : RO} (h : ROk K ρ H Q E r) (x : Ext ρ H ρ1 H1) : ROk K ρ1 H1 Q E r := by
  cases r with
  | ok d μ => exact fun ρ' H' v x' R r => h ρ' H' v (x.trans x') R r
  | exc c fs μ => exact fun ρ' H' C dx hc x' R r => h ρ' H' C dx hc (x.trans x') R r
noncomputable def spX (K : PySem.W.Frag) (n : Nat) (F : FX) : Sp := fun vs H Q E => vs.length = n ∧ ∃ ρ ds μ r, RepVs K ρ H ds vs ∧ RepH K ρ H μ ∧ F ds μ = some r ∧ ROk K ρ H Q E r
@[simp] noncomputable def retX : Option Out → Option RO
  | some (.ret d μ) => some (.ok d μ)
  | some (.next _ μ) => some (.ok .non μ)
  | some (.exc c fs μ) => some (.exc c fs μ)
  | _ => none
theorem fnX {P : Program} {w : World} {K : PySem.W.Frag} {mg : Str → Option Value} {base : Heap} {x qual : Str} {st : Stmt} {f : Addr} {fd : FuncData} {N ps : List Str} {k n : Nat} {F : FX} (G : Fun K x qual st f fd) (S : FnScope N ps (defScope st)) (hn : ps.length = n)
    (hbody : ∀ (cdv : Value) (A : Around) (outer : List Env) (s : Shared) (H : Hp) (E : XK), Room k (A.deeper (envOfC qual (defScope st) s.heap.objs.size f cdv)) →
      ∃ p, MSs (cxOf (CXq P w) P w K mg base N qual (defScope st) f cdv A outer s H E) (defBody st) p ∧ ∀ ds μ r, ds.length = n → F ds μ = some r → retX (p (startD N ds) μ) = some r) :
    FnOk P w K mg base (CXq P w) (k + 1) f fd ps (spX K n F) := by
  obtain ⟨oc, od, kV, doc, pm, an, cdv, ct, osl, rfl, lk, hcd⟩ := G.ex
  refine fn_of lk hcd S (fun vs H Q E h => by rw [hn]; exact h.1) fun A outer s H vs Q E hr h => ?_
  obtain ⟨p, hp, hF⟩ := hbody cdv A outer s H E hr
  refine ⟨_, hp, ?_⟩
  obtain ⟨hl, ρ, ds, μ, r, rv, R, e, hk⟩ := h
  have e' := hF ds μ r (by rw [rv.length]; exact hl) e
  cases eo : p (startD N ds) μ with
  | none => rw [eo] at e'; cases e'
  | some o =>
    rw [eo] at e'
    refine ⟨ρ, startD N ds, μ, o, start_at rv R, eo, ?_⟩
    cases o with
    | ret d2 μ2 => cases e'; exact fun ρ' v H' x' R' r' => hk ρ' H' v x' R' r'
    | next δ2 μ2 => cases e'; exact fun ρ' σ' H' x' A' => hk ρ' H' .non x' A'.hp .non
    | exc c fs μ2 => cases e'; exact fun ρ' H' C dx hc x' R' r' => wish_leave (hk ρ' H' C dx hc x' R' r')
    | brk _ _ => cases e'
    | cont _ _ => cases e'
section
variable {X : Cx} {e : Expr} {es : List Expr} {pos p spos : Pos} {x : Str} {k j n : Nat} {st : Stmt} {f : Addr} {fd : FuncData} {ps : List Str} {F : FX} {φ : FA}
theorem passF {P : Program} {w : World} : Passes (CXq P w) X E0 := fun _ _ _ _ _ _ _ ⟨_, _, _, _, q⟩ => q.elim
@[simp] noncomputable def okOf : Option RO → Option (D × Mem)
  | some (.ok d μ) => some (d, μ)
  | _ => none
theorem okOf_inv {r : Option RO} {d : D} {μ : Mem} (h : okOf r = some (d, μ)) : r = some (.ok d μ) := by
  cases r with
  | none => cases h
  | some r => cases r <;> cases h; rfl
@[simp] noncomputable def fCallX (F : FX) (φ : FA) : FE := fun δ μ => (φ δ μ).bind fun p => okOf (F p.1 p.2)
theorem mcallX (B : FnAt X.K X.mg x st ps f fd) (G : FnOk X.prog X.w X.K X.mg X.base (CXq X.prog X.w) j f fd ps (spX X.K n F)) (hr : Room k X.A)
    (ha : MAn X (e :: es) φ) (hj : j ≤ k := by decide) (hn : (e :: es).length = n := by rfl) (hg : Gl X x := by rfl) (hdb : (x == ("__debug__" : Str)) = false := by decide) (he : starEach (e :: es) X.env = (false, eval e X.env) :: starEach es X.env := by exact star_ok rfl) (hpl : (backTo pos (starEach es X.env)).any (·.1) = false := by rfl) :
    ME X (.Call (.Name x p) (e :: es) [] pos) (fCallX F φ) :=
  me_of (pe_call G (hr.mono hj) hg B.at_ B.fn.kp B.bd .nil passF ha.ma hdb he hpl) fun ρ δ μ σ H d μ' Q A eo kk => by
    obtain ⟨⟨ds, μ1⟩, e1, eo⟩ := bind_inv eo
    refine ⟨ρ, δ, μ, ds, μ1, A, e1, fun ρ1 H1 vs x1 R1 r1 => ?_⟩
    show spX X.K n F (vs ++ []) H1 Q E0
    rw [List.append_nil]
    exact ⟨by rw [← r1.length, ha.len _ _ _ _ e1]; exact hn, ρ1, ds, μ1, .ok d μ', r1, R1, okOf_inv eo, fun ρ2 H2 v x2 R2 r2 => kk ρ2 H2 v (x1.trans x2) R2 r2⟩
noncomputable def tCX (K : PySem.W.Frag) (W : XK) (n : Nat) (F : FX) (φ : FA) : TE := tCall (spX K n F) [] W (tMA K φ)
theorem tCX_of {K : PySem.W.Frag} {W : XK} {ρ : List Addr} {δ : Loc} {μ : Mem} {σ : L2.St} {H : Hp} {Q : VK} {ds : List D} {μ1 : Mem} {r : RO} (A : At K ρ H σ δ μ) (e1 : φ δ μ = some (ds, μ1)) (hl : ds.length = n) (e2 : F ds μ1 = some r) (h : ROk K ρ H Q W r) : tCX K W n F φ σ H Q :=
  ⟨ρ, δ, μ, ds, μ1, A, e1, fun ρ1 H1 vs x1 R1 r1 => by
    show spX K n F (vs ++ []) H1 Q W
    rw [List.append_nil]
    exact ⟨by rw [← r1.length]; exact hl, ρ1, ds, μ1, r, r1, R1, e2, h.ext x1⟩⟩
theorem pe_cx (B : FnAt X.K X.mg x st ps f fd) (G : FnOk X.prog X.w X.K X.mg X.base (CXq X.prog X.w) j f fd ps (spX X.K n F)) (hr : Room k X.A)
    (ha : MAn X (e :: es) φ) (hj : j ≤ k := by decide) (hg : Gl X x := by rfl) (hdb : (x == ("__debug__" : Str)) = false := by decide) (he : starEach (e :: es) X.env = (false, eval e X.env) :: starEach es X.env := by exact star_ok rfl) (hpl : (backTo pos (starEach es X.env)).any (·.1) = false := by rfl) :
    PE X (.Call (.Name x p) (e :: es) [] pos) (tCX X.K (wishX X) n F φ) := pe_call G (hr.mono hj) hg B.at_ B.fn.kp B.bd .nil passX ha.ma hdb he hpl
@[simp] noncomputable def outX (F : FX) (φ : FA) (g : D → Loc → Mem → Out) : FS := fun δ μ => (φ δ μ).bind fun p => match F p.1 p.2 with
  | some (.ok d μ') => some (g d δ μ')
  | some (.exc c fs μ') => some (.exc c fs μ')
  | none => none
theorem outX_inv {g : D → Loc → Mem → Out} {δ : Loc} {μ : Mem} {o : Out} (h : outX F φ g δ μ = some o) : ∃ ds μ1 r, φ δ μ = some (ds, μ1) ∧ F ds μ1 = some r ∧ o = match r with
    | .ok d μ' => g d δ μ'
    | .exc c fs μ' => .exc c fs μ' := by
  obtain ⟨⟨ds, μ1⟩, e1, h⟩ := bind_inv h
  refine ⟨ds, μ1, ?_⟩
  cases e2 : F ds μ1 with
  | none => rw [e2] at h; cases h
  | some r =>
    rw [e2] at h
    cases r with
    | ok d μ' => cases h; exact ⟨_, e1, rfl, rfl⟩
    | exc c fs μ' => cases h; exact ⟨_, e1, rfl, rfl⟩
@[simp] noncomputable def sExprX (F : FX) (φ : FA) : FS := outX F φ fun _ δ μ => .next δ μ
@[simp] noncomputable def sSetX (i : Nat) (F : FX) (φ : FA) : FS := outX F φ fun d δ μ => .next (δ.set i (some d)) μ
theorem ms_exprX (B : FnAt X.K X.mg x st ps f fd) (G : FnOk X.prog X.w X.K X.mg X.base (CXq X.prog X.w) j f fd ps (spX X.K n F)) (hr : Room k X.A)
    (ha : MAn X (e :: es) φ) (hj : j ≤ k := by decide) (hn : (e :: es).length = n := by rfl) (hg : Gl X x := by rfl) (hdb : (x == ("__debug__" : Str)) = false := by decide) (he : starEach (e :: es) X.env = (false, eval e X.env) :: starEach es X.env := by exact star_ok rfl) (hpl : (backTo pos (starEach es X.env)).any (·.1) = false := by rfl)
    (hs : swapsWith (.Call (.Name x p) (e :: es) [] pos) none spos.line X.env = pure false := by rfl) : MS X (.Expr (.Call (.Name x p) (e :: es) [] pos) spos) (sExprX F φ) :=
  ms_of (ps_expr (pe_cx B G hr ha hj hg hdb he hpl) hs) fun ρ δ μ σ H o E A eo kk => by
    obtain ⟨ds, μ1, r, e1, e2, rfl⟩ := outX_inv eo
    refine tCX_of A e1 ((ha.len _ _ _ _ e1).trans hn) e2 ?_
    cases r with
    | ok d μ' => exact fun ρ' H' v x' R r => kk ρ' σ H' x' (A.ext x' R)
    | exc c fs μ' => exact kk
theorem ms_setX {y : Str} {py : Pos} (i : Nat) (B : FnAt X.K X.mg x st ps f fd) (G : FnOk X.prog X.w X.K X.mg X.base (CXq X.prog X.w) j f fd ps (spX X.K n F)) (hr : Room k X.A)
    (ha : MAn X (e :: es) φ) (hj : j ≤ k := by decide) (hn : (e :: es).length = n := by rfl) (hN : X.N.Nodup := by first | assumption | decide) (hi : X.N[i]? = some y := by rfl) (hy : L2.Loc X.env.scope y := by first | exact Or.inl rfl | exact Or.inr rfl) (hg : Gl X x := by rfl) (hdb : (x == ("__debug__" : Str)) = false := by decide)
    (he : starEach (e :: es) X.env = (false, eval e X.env) :: starEach es X.env := by exact star_ok rfl) (hpl : (backTo pos (starEach es X.env)).any (·.1) = false := by rfl)
    (hs : swapsWith (.Call (.Name x p) (e :: es) [] pos) (some (.Name y py)) spos.line X.env = pure false := by rfl) (hf : X.fn y = true ∨ X.env.scope.names.lookup y = some .local := by first | exact .inl rfl | exact .inr rfl | assumption) :
    MS X (.Assign [.Name y py] (.Call (.Name x p) (e :: es) [] pos) spos) (sSetX i F φ) :=
  ms_of (ps_set hN hi hy (pe_cx B G hr ha hj hg hdb he hpl) hs hf) fun ρ δ μ σ H o E A eo kk => by
    obtain ⟨ds, μ1, r, e1, e2, rfl⟩ := outX_inv eo
    refine tCX_of A e1 ((ha.len _ _ _ _ e1).trans hn) e2 ?_
    cases r with
    | ok d μ' => exact fun ρ' H' v x' R r => kk ρ' _ H' x' ((A.ext x' R).set r i)
    | exc c fs μ' => exact kk
end
end M
set_option Elab.async false
set_option linter.all false
set_option maxRecDepth 100000
set_option autoImplicit false
namespace L2
open PySem PySem.Spec PyProof.Rows
section
variable {X : Cx} {pins : List (Addr × Obj)} {σ : St} {H : Hp} {s : Shared}
theorem goes_ok {M : Model} {A : Around} {E : Value → Shared → Prop} {i : Nat} {x : Str} {pos : Pos} {Q : Unit → Shared → Prop} (I : Inv X pins σ H s) (hN : X.N.Nodup) (hi : X.N[i]? = some x) (hk : X.env.scope.names.lookup x = some .local)
    (h : ∀ s', Inv X pins (σ.set i none) H s' → Q () s') : wpAny M A (do bindName X.env x .none; unbindBehindTheSuite X.env x pos) Q E s := by
  obtain ⟨m, hn, hl⟩ := id I.loc
  have hcls : (X.env.scope.kind == .class || (X.env.scope.kind == .module && X.env.locals != X.env.globals)) = false := by rw [I.ok.kind]; rfl
  have hiσ : i < σ.length := by rw [I.len]; exact (List.getElem?_eq_some_iff.mp hi).1
  refine wpAny_nameGoes_keeps hk hn hcls fun h' v hn' hs => ?_
  have old : ∀ b o, X.s₀.heap.get? b = some o → b ≠ X.env.locals := fun b o e => Nat.ne_of_lt (Nat.lt_of_lt_of_le (Heap.lt_size e) I.ok.above)
  have hok : HOk X.prog X.w H h' := fun b ob e => by
    refine (I.hok b ob e).stay (fun c w' hc q => (hs.2 c ?_).trans q) (fun _ q => q) fun _ _ q => q
    rintro rfl
    rcases hc with rfl | hc
    · rw [I.free] at e; cases e
    · rw [I.free] at hc; cases hc
  refine h _ ⟨I.ok, I.os, I.bare, ⟨fun b o e n hb hx => (hs.2 b (old b o e)).trans (I.base.keep b o e n hb hx), fun b o e n hb hx => ?_, I.base.free, fun b o e hx => ?_, I.base.tups, I.base.frzs, I.base.tbls⟩, ⟨_, hn', fun j y v' e1 e2 e3 => ?_⟩, fun y c e => ?_, I.free, I.freeC, fun p hp => ?_, hok, by simpa using I.len⟩
  · obtain ⟨sl, e1⟩ := I.base.slot b o e n hb hx
    exact ⟨sl, (hs.2 b (old b o e)).trans e1⟩
  · obtain ⟨o', e1⟩ := I.base.there b o e hx
    exact ⟨o', (hs.2 b (old b o e)).trans e1⟩
  · by_cases hj : j = i
    · subst hj
      rw [List.getElem?_set_self hiσ] at e2
      cases e2
    · rw [List.getElem?_set_ne (Ne.symm hj)] at e2
      obtain ⟨u', r', q⟩ := hl j y v' e1 e2 e3
      refine ⟨u', r', ?_⟩
      rcases q with ⟨k, e⟩ | ⟨k, c, e, z⟩
      · refine .inl ⟨k, ?_⟩
        have : y ≠ x := fun e => hj (nodup_ix hN e1 (e ▸ hi))
        simp [this, e]
      · exact .inr ⟨k, c, e, z.sameBut hs (I.cne y c e)⟩
  · obtain ⟨w', z⟩ := I.cell y c e
    exact ⟨w', z.sameBut hs (I.cne y c e)⟩
  · obtain ⟨p1, p2, p3, p4, p5⟩ := I.pin p hp
    exact ⟨(hs.2 p.1 p3).trans p1, p2, p3, p4, p5⟩
noncomputable abbrev Cx.suite (X : Cx) (v : Value) : Cx := { X with A := X.A.mark (some v), calm := false, xe := fun _ _ => False }
theorem Inv.suite (I : Inv X pins σ H s) (v : Value) : Inv (X.suite v) pins σ H s :=
  ⟨⟨I.ok.mod, I.ok.kind, I.ok.glob, I.ok.blt, I.ok.above, I.ok.inj, I.ok.has, I.ok.cab, fun z => absurd z (by simp), I.ok.frames, I.ok.stk, I.ok.exf, I.ok.bs, I.ok.bsz, I.ok.noex, I.ok.exfs, I.ok.funs, I.ok.frf⟩,
    I.os, I.bare, I.base, I.loc, I.cell, I.free, I.freeC, I.pin, I.hok, I.len⟩
theorem Inv.unsuite {v : Value} (ok : X.Ok) (I : Inv (X.suite v) pins σ H s) : Inv X pins σ H s :=
  ⟨ok, I.os, I.bare, I.base, I.loc, I.cell, I.free, I.freeC, I.pin, I.hok, I.len⟩
theorem HOk.track {P : Program} {w : World} {h : Heap} {a : Addr} {o : HO} (x : HOk P w H h) (hn : H a = none) (new : ObjOk P w (upd H a o) h a o) : HOk P w (upd H a o) h := fun b u e => by
  by_cases hb : b = a
  · subst hb; rw [upd_same] at e; cases e; exact new
  · rw [upd_ne hb] at e
    exact (x b u e).stay (fun c v _ q => q) (fun c q => by rw [upd_ne (ne_of_none q hn)]; exact q) fun c xs q => by rw [upd_ne (ne_of_none q hn)]; exact q
end
end L2
set_option Elab.async false
set_option linter.all false
set_option maxRecDepth 100000
set_option autoImplicit false
namespace L2
open PySem PySem.Spec PyProof.Rows
section
variable {M : Model} {A : Around} {E : Value → Shared → Prop} {h : Heap} {g : Array GenState} {d : Drawn} {t : Nat} {os : OsState}
theorem excMatches_own {nm q : Str} {C N : Addr} {bs bm : List Value} {hdct : Bool} {sn : List Str} {sub : List Value} {ab : Bool} {col : Option Bool} {dd : Option Addr} {k0 k1 k2 k3 k5 : Option Value} {newId : String}
    {nm' q' : Str} {C' N' : Addr} {bs' bm' : List Value} {hdct' : Bool} {sn' : List Str} {sub' : List Value} {ab' : Bool} {col' : Option Bool} {dd' : Option Addr} {k0' k1' k2' k3' k5' : Option Value} {newId' : String} {e : Addr} {oe : Obj} {b : Bool} {Q : Bool → Shared → Prop}
    (hC : h.get? C = some (excClassObj nm q C N bs bm hdct sn sub ab col dd k0 k1 k2 k3 k5 newId)) (hC' : h.get? C' = some (excClassObj nm' q' C' N' bs' bm' hdct' sn' sub' ab' col' dd' k0' k1' k2' k3' k5' newId'))
    (he : h.get? e = some oe) (hcls : oe.cls = .ref C) (hbase : bm'.contains (.type "BaseException") = true) (hb : (Value.ref C :: bm).contains (.ref C') = b) (hq : Q b ⟨h, g, d, t, os⟩) : wpAny M A (excMatches (.ref e) (.ref C')) Q E ⟨h, g, d, t, os⟩ := by
  have hcB : (Value.ref C' :: bm').contains (.type "BaseException") = true := by rw [List.contains_cons, hbase, Bool.or_true]
  have f := tc_notTuple
  unfold excMatches
  cases b with
  | true =>
    repeat (first | (with_reducible refine wpAny_loadPart_at he ?_; rw [hcls]) | with_reducible refine wpAny_loadPart_at hC' ?_ | (with_reducible refine wpAny_isSubtype_exc hC' ?_; rw [hcB]) | (with_reducible refine wpAny_isSubtype_exc hC ?_; rw [hb]) | wp_step)
    exact hq
  | false =>
    repeat (first | (with_reducible refine wpAny_loadPart_at he ?_; rw [hcls]) | with_reducible refine wpAny_loadPart_at hC' ?_ | (with_reducible refine wpAny_isSubtype_exc hC' ?_; rw [hcB]) | (with_reducible refine wpAny_isSubtype_exc hC ?_; rw [hb]) | wp_step)
    exact hq
end
theorem mro_has {K : PySem.W.Frag} {h : Heap} {C : Addr} {v : Value} {b : Bool} {nm q : Str} {N : Addr} {bs bm : List Value} {hdct : Bool} {sn : List Str} {sub : List Value} {ab : Bool} {col : Option Bool} {dd : Option Addr} {k0 k1 k2 k3 k5 : Option Value} {newId : String} (X : K.In h) (e : PySem.W.mroIn K C v = some b)
    (hC : h.get? C = some (excClassObj nm q C N bs bm hdct sn sub ab col dd k0 k1 k2 k3 k5 newId)) : (Value.ref C :: bm).contains v = b := by
  obtain ⟨cd, a, z⟩ := Option.bind_eq_some_iff.mp e
  unfold PySem.W.clsIn at a
  split at a
  · rename_i ho
    cases a
    have := X _ _ ho
    rw [hC] at this
    cases this
    split at z
    · cases z
    · cases z; rfl
  · cases a
end L2
set_option Elab.async false
set_option linter.all false
set_option maxRecDepth 100000
set_option autoImplicit false
namespace M
open PySem PySem.Spec PyProof.Rows L2
noncomputable def XP (X : Cx) (pins : List (Addr × Obj)) (σ : L2.St) (W : XK) (e : Value) (s' : Shared) : Prop := ∃ H1 s1 C dx H', Inv X pins σ H1 s1 ∧ FlyX X.prog X.w X.stack H1 s1 C dx H' e s' ∧ W C dx H'
noncomputable def PX1 (X : Cx) (st : Stmt) (ψ : FS) : Prop := ∀ (pins : List (Addr × Obj)) (s : Shared) (σ : L2.St) (H : Hp) (D : Ends) (W : XK), Inv X pins σ H s → tMS X.K W ψ D σ H → wpAny (model X.prog X.w) X.A (exec st X.env) (SP X pins D) (XP X pins σ W) s
noncomputable def PX (X : Cx) (sts : List Stmt) (ψ : FS) : Prop := ∀ (pins : List (Addr × Obj)) (s : Shared) (σ : L2.St) (H : Hp) (D : Ends) (W : XK), Inv X pins σ H s → tMS X.K W ψ D σ H → wpAny (model X.prog X.w) X.A (execs sts X.env) (SP X pins D) (XP X pins σ W) s
section
variable {X : Cx} {c e : Expr} {es : List Expr} {pos p spos : Pos} {x : Str} {k j n : Nat} {st : Stmt} {f : Addr} {fd : FuncData} {ps : List Str} {F : FX} {φ : FA}
theorem px_one {ψ : FS} (h : PX1 X st ψ) : PX X [st] ψ := by
  intro pins s σ H D W I q
  refine wpAny_execs_cons (thn (h pins s σ H D W I q) fun f s1 q => ?_)
  cases f with
  | next => exact wpAny_execs_nil q
  | ret v => exact q
  | brk => exact q
  | cont => exact q
theorem px_if {a b : List Stmt} {t : FT} {ψ χ : FS} (hc : MT X.nox c t) (ha : PX X a ψ) (hb : PX X b χ) : PX1 X (.If c a b pos) (sIf t ψ χ) := by
  intro pins s σ H D W I ⟨ρ, δ, μ, o, A, eo, kk⟩
  obtain ⟨⟨b, μ1⟩, e1, eo⟩ := bind_inv eo
  refine wpAny_If (wpAny_mono (hc pins s σ H (fun b' H1 => b' = b ∧ ∃ ρ1, Ext ρ H ρ1 H1 ∧ RepH X.K ρ1 H1 μ1) (I.wish _) ⟨ρ, δ, μ, b, μ1, A, e1, fun ρ' H' x' R => ⟨rfl, ρ', x', R⟩⟩) (fun d s1 h1 => ?_) fun _ _ z => z.elim)
  obtain ⟨H1, I1, rfl, ρ1, x1, R1⟩ := h1
  cases d with
  | true => exact ha pins s1 σ H1 D W I1.unwish ⟨ρ1, δ, μ1, o, A.ext x1 R1, eo, kk.ext x1⟩
  | false => exact hb pins s1 σ H1 D W I1.unwish ⟨ρ1, δ, μ1, o, A.ext x1 R1, eo, kk.ext x1⟩
theorem pe_x (B : FnAt X.K X.mg x st ps f fd) (G : FnOk X.prog X.w X.K X.mg X.base (CXq X.prog X.w) j f fd ps (spX X.K n F)) (hr : Room k X.A)
    (ha : MAn X.nox (e :: es) φ) (hj : j ≤ k) (hg : Gl X x) (hdb : (x == ("__debug__" : Str)) = false) (he : starEach (e :: es) X.env = (false, eval e X.env) :: starEach es X.env) (hpl : (backTo pos (starEach es X.env)).any (·.1) = false)
    {pins : List (Addr × Obj)} {s : Shared} {σ : L2.St} {H : Hp} {Q : VK} {W : XK} (I : Inv X pins σ H s) (h : tCX X.K W n F φ σ H Q) : wpAny (model X.prog X.w) X.A (eval (.Call (.Name x p) (e :: es) [] pos) X.env) (EP X pins σ Q) (XP X pins σ W) s := by
  refine wpAny_Call_Name_kw (ld_glob I hg B.at_ ?_ hdb)
  refine PySem.W.callWith_K (h₀ := X.base) I.ok.mod.kin B.fn.kp (wpAny_mono (ha.ma pos pins s σ H _ (I.wish _) h) (fun us s1 h1 => ?_) fun _ _ z => z.elim) he hpl
  obtain ⟨vs, H1, I1, r, q⟩ := h1
  have I1 := I1.unwish
  refine ⟨I1.kIn, ?_⟩
  have r2 : Vals (vs ++ []) (us ++ []) := r.append .nil
  have hl : (us ++ []).length = ps.length := by rw [← r2.length]; exact G.len _ _ _ _ q
  refine wpAny_call (codeAny_mono (G.run X.A X.stack s1 H1 ⟨us, []⟩ (us ++ []) (vs ++ []) Q W (hr.mono hj) I1.env0 (B.bd s1 us I1.kIn hl) r2 q) fun rr s' hq => ?_)
  cases rr with
  | error ex =>
    obtain ⟨C, dx, H', Fl, hw⟩ := hq
    exact ⟨H1, s1, C, dx, H', I1, Fl, hw⟩
  | ok fl =>
    cases fl with
    | ret u => exact I1.after hq
    | next => exact False.elim hq
    | brk => exact False.elim hq
    | cont => exact False.elim hq
theorem px_expr (B : FnAt X.K X.mg x st ps f fd) (G : FnOk X.prog X.w X.K X.mg X.base (CXq X.prog X.w) j f fd ps (spX X.K n F)) (hr : Room k X.A)
    (ha : MAn X.nox (e :: es) φ) (hj : j ≤ k := by decide) (hn : (e :: es).length = n := by rfl) (hg : Gl X x := by rfl) (hdb : (x == ("__debug__" : Str)) = false := by decide) (he : starEach (e :: es) X.env = (false, eval e X.env) :: starEach es X.env := by exact star_ok rfl) (hpl : (backTo pos (starEach es X.env)).any (·.1) = false := by rfl)
    (hs : swapsWith (.Call (.Name x p) (e :: es) [] pos) none spos.line X.env = pure false := by rfl) : PX1 X (.Expr (.Call (.Name x p) (e :: es) [] pos) spos) (sExprX F φ) := by
  intro pins s σ H D W I ⟨ρ, δ, μ, o, A, eo, kk⟩
  obtain ⟨ds, μ1, r, e1, e2, rfl⟩ := outX_inv eo
  refine wpAny_Expr_any (thn (pe_x B G hr ha hj hg hdb he hpl I (Q := fun _ H' => D.nx σ H') (tCX_of A e1 ((ha.len _ _ _ _ e1).trans hn) e2 ?_)) fun v s1 ⟨y, H1, I1, r1, q1⟩ => ⟨σ, H1, I1, q1⟩) I.quiet hs
  cases r with
  | ok d μ' => exact fun ρ' H' v x' R r => kk ρ' σ H' x' (A.ext x' R)
  | exc c fs μ' => exact kk
end
noncomputable abbrev FH := Str → List (Str × D) → FS
noncomputable def Cau (X : Cx) (pins : List (Addr × Obj)) (σ : L2.St) (C : Value) (dx : Option Addr) (H' : Hp) (a : Addr) (s' : Shared) : Prop := ∃ H1 s1, Inv X pins σ H1 s1 ∧ FlyX X.prog X.w X.stack H1 s1 C dx H' (.ref a) s'
theorem flyx_turn {P : Program} {w : World} {outer : List Env} {H H' : Hp} {s s' : Shared} {C : Value} {dx : Option Addr} {a : Addr} {B base h2 : Heap} (F : FlyX P w outer H s C dx H' (.ref a) s') (c : Cov outer H' s.heap B) (st : B.StaysIn s'.heap) (fl : Fly B outer a C dx h2) (sm : s'.heap.UpToSlots h2)
    (ff : s.heap.FunFrames base outer) (frf : ∀ b ∈ frs outer, H b = none) : FlyX P w outer H s C dx H' (.ref a) { s' with heap := h2 } :=
  ⟨F.os, F.bare, turn_un F.un c st fl.st sm ff frf, turn_hok F.hok c st fl.st, a, B, rfl, fl, c⟩
noncomputable def MH (X : Cx) (hs : List ExceptHandler) (η : FH) : Prop :=
  ∀ pins σ C c fs dx H' a s' ρ δ μ o D, Cau X pins σ (.ref C) dx H' a s' → PySem.W.nsIn X.K mainGlobals c = some (some (.ref C)) → RepX X.K ρ H' fs dx → At X.K ρ H' σ δ μ → η c fs δ μ = some o → OutOk X.K (wishX X) ρ H' D o →
    wpAny (model X.prog X.w) X.A (handleBy (.ref a) X.env hs) (SP X pins D) X.xe s'
@[simp] noncomputable def hNone : FH := fun _ _ _ _ => none
theorem mh_none {X : Cx} {hs : List ExceptHandler} : MH X hs hNone := fun _ _ _ _ _ _ _ _ _ _ _ _ _ _ _ _ _ _ e _ => by cases e
@[simp] noncomputable def sTry (p : FS) (η : FH) : FS := fun δ μ => match p δ μ with
  | some (.exc c fs μ') => η c fs δ μ'
  | o => o
theorem ms_try {X : Cx} {body : List Stmt} {h0 : ExceptHandler} {hs : List ExceptHandler} {pos : Pos} {p : FS} {η : FH} (hb : PX X body p) (hh : MH X (h0 :: hs) η) (hst : X.stack = X.env :: X.outer := by rfl) (hfm : X.env.frame = some X.env.locals := by rfl) : MS X (.Try body (h0 :: hs) [] [] pos) (sTry p η) := by
  intro pins s σ H D I ⟨ρ, δ, μ, o, A, eo, kk⟩
  have calm : ∀ o', p δ μ = some o' → (∀ c fs μ', o' ≠ .exc c fs μ') → wpAny (model X.prog X.w) X.A (exec (.Try body (h0 :: hs) [] [] pos) X.env) (SP X pins D) X.xe s := fun o' ep hne => by
    have eo' : o' = o := by
      unfold sTry at eo
      rw [ep] at eo
      cases o' with
      | exc c fs μ' => exact absurd rfl (hne c fs μ')
      | next _ _ => cases eo; rfl
      | ret _ _ => cases eo; rfl
      | brk _ _ => cases eo; rfl
      | cont _ _ => cases eo; rfl
    subst eo'
    refine wpAny_Try_except (wpAny_mono (hb pins s σ H D E0 I ⟨ρ, δ, μ, o', A, ep, ?_⟩) (fun fl s1 q => ?_) fun e s1 ⟨_, _, _, _, _, _, _, z⟩ => z.elim)
    · cases o' with
      | exc c fs μ' => exact absurd rfl (hne c fs μ')
      | next _ _ => exact kk
      | ret _ _ => exact kk
      | brk _ _ => exact kk
      | cont _ _ => exact kk
    · cases fl with
      | next => exact wpAny_execs_nil q
      | ret v => exact q
      | brk => exact q
      | cont => exact q
  cases ep : p δ μ with
  | none => unfold sTry at eo; rw [ep] at eo; cases eo
  | some o' =>
    cases o' with
    | next _ _ => exact calm _ ep (by intros; simp)
    | ret _ _ => exact calm _ ep (by intros; simp)
    | brk _ _ => exact calm _ ep (by intros; simp)
    | cont _ _ => exact calm _ ep (by intros; simp)
    | exc c fs μ' =>
      have eo : η c fs δ μ' = some o := by unfold sTry at eo; rw [ep] at eo; exact eo
      refine wpAny_Try_except (wpAny_mono (hb pins s σ H { nx := fun _ _ => False, rt := fun _ _ => False } (fun Cv dx H' => ∃ C ρ', Cv = .ref C ∧ PySem.W.nsIn X.K mainGlobals c = some (some (.ref C)) ∧ Ext ρ H ρ' H' ∧ RepH X.K ρ' H' μ' ∧ RepX X.K ρ' H' fs dx) I
        ⟨ρ, δ, μ, _, A, ep, fun ρ' H' C dx hc x' R r => ⟨C, ρ', rfl, hc, x', R, r⟩⟩) (fun fl s1 q => ?_) fun e s1 q => ?_)
      · cases fl with
        | next => obtain ⟨_, _, _, z⟩ := q; exact z.elim
        | ret v => obtain ⟨_, _, _, _, _, z⟩ := q; exact z.elim
        | brk => obtain ⟨_, _, _, z⟩ := q; exact z.elim
        | cont => obtain ⟨_, _, _, z⟩ := q; exact z.elim
      · obtain ⟨H1, s2, Cv, dx, H', I1, F, C, ρ', rfl, hc, x', R, rX⟩ := q
        obtain ⟨a, B, rfl, fl, cov⟩ := F.fly
        have fl' : Fly B (X.env :: X.outer) a (.ref C) dx s1.heap := by rw [← hst]; exact fl
        have hfr : X.A.frames = some (X.env :: X.outer) := by rw [← hst]; exact I.ok.frames
        refine noteFrame_f hfr hfm fl' fun h2 fl2 sm2 => setFlight_f (s := { s1 with heap := h2 }) fl2 fun h3 fl3 sm3 => ?_
        rw [← hst] at fl3
        exact hh pins σ C c fs dx H' a { s1 with heap := h3 } ρ' δ μ' o D ⟨H1, s2, I1, flyx_turn (h2 := h3) F cov fl.st fl3 (sm2.trans sm3) I1.stack I1.stkFree⟩ hc rX (A.ext x' R) eo (kk.ext x')
@[simp] noncomputable def behind (i : Nat) : Option Out → Option Out
  | some (.next δ μ) => some (.next (δ.set i none) μ)
  | some (.ret d μ) => some (.ret d μ)
  | some (.brk δ μ) => some (.brk (δ.set i none) μ)
  | some (.cont δ μ) => some (.cont (δ.set i none) μ)
  | _ => none
@[simp] noncomputable def hAs (i : Nat) (tb : List (Str × Bool)) (q : FS) (η : FH) : FH := fun c fs δ μ => match tb.lookup c with
  | some true => behind i (q (δ.set i (some (.loc μ.length))) (μ ++ [.exc c fs]))
  | some false => η c fs δ μ
  | none => none
noncomputable def Subs (K : PySem.W.Frag) (D0 : Addr) (tb : List (Str × Bool)) : Prop := ∀ c b, tb.lookup c = some b → ∀ C, PySem.W.nsIn K mainGlobals c = some (some (.ref C)) → PySem.W.ktsIn K C "BaseException" = true ∧ PySem.W.mroIn K C (.ref D0) = some b
theorem At.unset {K : PySem.W.Frag} {ρ : List Addr} {H : Hp} {σ : L2.St} {δ : Loc} {μ : Mem} (A : At K ρ H σ δ μ) (i : Nat) : At K ρ H (σ.set i none) (δ.set i none) μ := by
  refine ⟨fun j d' e => ?_, A.hp, by simp [A.len]⟩
  by_cases hj : j = i
  · subst hj
    have hl : j < δ.length := by
      have := (List.getElem?_eq_some_iff.mp e).1
      simpa using this
    rw [List.getElem?_set_self hl] at e
    cases e
  · rw [List.getElem?_set_ne (Ne.symm hj)] at e
    obtain ⟨u, e1, q⟩ := A.st j d' e
    exact ⟨u, by rw [List.getElem?_set_ne (Ne.symm hj)]; exact e1, q⟩
theorem mh_as {X : Cx} {d n : Str} {D0 : Addr} {b0 : Stmt} {suite : List Stmt} {pos np : Pos} {rest : List ExceptHandler} {q : FS} {η : FH} (i : Nat) (tb : List (Str × Bool)) (hd : PySem.W.nsIn X.K mainGlobals d = some (some (.ref D0))) (hk : PySem.W.ktsIn X.K D0 "BaseException" = true) (ht : Subs X.K D0 tb)
    (hq : ∀ v, MSs (X.suite v) (b0 :: suite) q) (hr : MH X rest η) (hg : Gl X d := by rfl) (hN : X.N.Nodup := by first | assumption | decide) (hi : X.N[i]? = some n := by rfl) (hl : X.env.scope.names.lookup n = some .local := by rfl) (hdb : (d == ("__debug__" : Str)) = false := by decide) :
    MH X (.ExceptHandler (some (.Name d np)) (some n) (b0 :: suite) pos :: rest) (hAs i tb q η) := by
  intro pins σ C c fs dx H' a s' ρ δ μ o D hcau hc hX A eo kk
  obtain ⟨H1, s1, I1, F⟩ := hcau
  obtain ⟨a', B, ea, fl, cov⟩ := F.fly
  cases ea
  have J : Inv X pins σ H' s' := I1.fly F cov fl.st fl.st (.refl _)
  obtain ⟨oe, vs, y, he, hcl, hdx, hfd, h1, tr⟩ := fl.ob
  cases hb : tb.lookup c with
  | none => unfold hAs at eo; rw [hb] at eo; cases eo
  | some b =>
    obtain ⟨kC, mC⟩ := ht c b hb C hc
    obtain ⟨nm, qn, N, bs, bm, hdct, sn, sub, ab, col, dd, k0, k1, k2, k3, k5, newId, hC, _, _⟩ := PySem.W.kts_cls J.kIn kC
    obtain ⟨nm', qn', N', bs', bm', hdct', sn', sub', ab', col', dd', k0', k1', k2', k3', k5', newId', hC', hbase', _⟩ := PySem.W.kts_cls J.kIn hk
    refine wpAny_handleBy_cons (codeAny_handlers_test (ld_glob (X := X.suite (.ref a)) (J.suite (.ref a)) hg (PySem.W.mg_of J.mod.kin J.mod.glob hd) ?_ hdb)) (by intro z; cases z)
    obtain ⟨hh, g, dr, tk, os⟩ := s'
    refine excMatches_own hC hC' he hcl hbase' (mro_has J.kIn mC hC) ?_
    cases b with
    | false =>
      unfold hAs at eo
      rw [hb] at eo
      exact hr pins σ C c fs dx H' a _ ρ δ μ o D ⟨H1, s1, I1, F⟩ hc hX A eo kk
    | true =>
      unfold hAs at eo
      rw [hb] at eo
      refine codeAny_handlers_suite_as (setFlight_f (s := ⟨hh, g, dr, tk, os⟩) fl fun h2 fl2 sm2 => ?_)
      have hna : H' a = none := by
        cases z : H' a with
        | none => rfl
        | some u => obtain ⟨w, hw⟩ := cov.tr a u z; rw [fl.new] at hw; cases hw
      have hold : ∀ b o, s1.heap.get? b = some o → b ≠ a := fun b o ho z => by
        subst z
        by_cases hm : b ∈ frs X.stack
        · obtain ⟨_, o', ho', hnf⟩ := fl.ff.mem hm
          rw [he] at ho'
          cases ho'
          exact hnf _ hfd
        · obtain ⟨w, hw⟩ := cov.old b o ho hm
          rw [fl.new] at hw
          cases hw
      have u2 := turn_un F.un cov fl.st fl2.st sm2 I1.stack I1.stkFree
      have ok2 := turn_hok F.hok cov fl.st fl2.st
      obtain ⟨oe2, vs2, y2, he2, hcl2, hdx2, hfd2, _, _⟩ := fl2.ob
      have J3 : Inv X pins σ (upd H' a (.ext (ExcAt a C dx))) ⟨h2, g, dr, tk, os⟩ := by
        refine I1.call' (s' := ⟨h2, g, dr, tk, os⟩) (ch := []) F.os ⟨u2.keep, u2.slot, fun b o e1 e2 e3 => ?_, u2.there, fun b xs z => ?_, fun b ob u z => ?_, fun b ps z => ?_⟩ (ok2.track hna ⟨⟨oe2, vs2, he2, hcl2, hdx2, hfd2⟩, ⟨_, he2⟩, fun x1 x2 z1 z2 => ?_⟩) F.bare fun b z => absurd z (by simp)
        · rw [upd_ne (hold b o e1)]; exact u2.free b o e1 e2 e3
        · have := u2.tups b xs z; rw [upd_ne (ne_of_none this hna)]; exact this
        · have := u2.frzs b ob u z; rw [upd_ne (ne_of_none this hna)]; exact this
        · obtain ⟨m, this⟩ := u2.tbls b ps z; exact ⟨m, by rw [upd_ne (ne_of_none this hna)]; exact this⟩
        · obtain ⟨o1, v1, w1, w2⟩ := z1; exact ⟨o1, v1, z2 _ w1, w2⟩
      refine store_ok (X := X.suite (.ref a)) (v := .ref a) (u := .ref a) (J3.suite (.ref a)) hN hi (.inl hl) rfl (fun s3 I3 => ?_) (.inr hl)
      have A3 : At X.K (ρ ++ [a]) (upd H' a (.ext (ExcAt a C dx))) (σ.set i (some (.ref a))) (δ.set i (some (.loc μ.length))) (μ ++ [.exc c fs]) :=
        (A.ext (Ext.push hna) (A.hp.push (o := .ext (ExcAt a C dx)) (lo := .exc c fs) hna ⟨C, dx, hc, upd_same, hX.ext (Ext.push hna)⟩)).set (.loc (push_get A.hp)) i
      cases eq : q (δ.set i (some (.loc μ.length))) (μ ++ [.exc c fs]) with
      | none => rw [eq] at eo; cases eo
      | some o' =>
        rw [eq] at eo
        have kk' := kk.ext (Ext.push (o := .ext (ExcAt a C dx)) hna)
        refine wpAny_mono (hq (.ref a) pins s3 _ _ { nx := fun σ' H2 => D.nx (σ'.set i none) H2, rt := D.rt, bk := fun σ' H2 => D.bk (σ'.set i none) H2, ct := fun σ' H2 => D.ct (σ'.set i none) H2 } I3 ⟨_, _, _, o', A3, eq, ?_⟩) (fun f4 s4 hs4 => ?_) fun _ _ z => z.elim
        · cases o' with
          | next δ' μ' => cases eo; exact fun ρ' σ' H2 x2 A2 => kk' ρ' _ H2 x2 (A2.unset i)
          | brk δ' μ' => cases eo; exact fun ρ' σ' H2 x2 A2 => kk' ρ' _ H2 x2 (A2.unset i)
          | cont δ' μ' => cases eo; exact fun ρ' σ' H2 x2 A2 => kk' ρ' _ H2 x2 (A2.unset i)
          | ret d' μ' => cases eo; exact kk'
          | exc _ _ _ => cases eo
        · cases f4 with
          | next => obtain ⟨σ4, H4, I4, z⟩ := hs4; exact goes_ok (I4.unsuite J.ok) hN hi hl fun s5 I5 => ⟨_, H4, I5, z⟩
          | brk => obtain ⟨σ4, H4, I4, z⟩ := hs4; exact goes_ok (I4.unsuite J.ok) hN hi hl fun s5 I5 => ⟨_, H4, I5, z⟩
          | cont => obtain ⟨σ4, H4, I4, z⟩ := hs4; exact goes_ok (I4.unsuite J.ok) hN hi hl fun s5 I5 => ⟨_, H4, I5, z⟩
          | ret u => obtain ⟨v4, σ4, H4, I4, r4, z⟩ := hs4; exact goes_ok (I4.unsuite J.ok) hN hi hl fun s5 I5 => ⟨v4, _, H4, I5, r4, z⟩
end M
set_option Elab.async false
set_option linter.all false
set_option maxRecDepth 100000
set_option autoImplicit false
namespace PySem.W
open PySem PySem.Spec PySem.Calls PyProof.Rows
structure AskC (K : Frag) (C : Addr) : Prop where
  cl : (clsIn K C).isSome = true
  ga : findIn K (.ref C) "__getattribute__" = some (some (.builtin "BaseException.__getattribute__"))
  gk : findIn K (.ref C) "__getattr__" = some none
  be : mroIn K C (.type "BaseException") = some true
  ha : findIn K (.ref C) "__class__" = some (some (.builtin "object.__class__"))
  hn : specialIn K (.builtin "object.__class__") "__get__" = some (some (.builtin "getset_descriptor.__get__"))
  tk : takesIn K (.builtin "object.__class__") = some true
  hm : mroIn K C (.type "object") = some true
theorem findObj_any {K : Frag} {C : Addr} {odo : Option Obj} {name : Str} {a g : Value} (hc : (clsIn K C).isSome = true) (ha : findIn K (.ref C) name = some (some a)) (hg : specialIn K a "__get__" = some (some g)) (ht : takesIn K a = some true) : findObj K C odo name = some (.bind g a) := by
  obtain ⟨cd, hc⟩ := Option.isSome_iff_exists.mp hc
  unfold findObj
  rw [hc, Option.bind_some, ha, Option.bind_some]
  simp [hg, ht]
section
variable {prog : Program} {w : World} {A : Around} {E : Value → Shared → Prop} {s : Shared} {K : Frag} {x D : Addr} {ox : Obj} {odo : Option Obj}
theorem exc_check {M : Model} {nameV : Value} {Q : Unit → Shared → Prop} (X : K.In s.heap) (I : InstAt s.heap x ox D odo) (c : AskC K D) (hq : Q () s) : wpAny M A (checkBuiltinCall "BaseException.__getattribute__" ⟨[.ref x, nameV], []⟩) Q E s := by
  have hk : builtinKind "BaseException.__getattribute__" = some .slot := by decide +kernel
  have hsplit : splitId "BaseException.__getattribute__" = some ("BaseException", "__getattribute__") := by decide +kernel
  have ha := F.args_bexc_ga (.ref x) nameV
  have L0 := I.type (M := M)
  have L1 := looks_mroIn (M := M) X c.be
  obtain ⟨hh, g, d, t, os⟩ := s
  simp only [checkBuiltinCall, hk, hsplit]
  refine wpAny_bind ?_
  · unfold isInstance
    repeat (first | with_reducible refine L0.at ?_ | with_reducible refine L1.at ?_ | wp_step)
    exact hq
theorem exc_entry {tk : Tok} {Q : Fin → Shared → Prop} (X : K.In s.heap) (I : InstAt s.heap x ox D odo) (c : AskC K D) (hq : Q (.done (.ret (.ref D))) s) : wpAny (model prog w) A (Builtin.«object.__getattribute__» ⟨[.ref x, .str "__class__" tk], []⟩) Q E s := by
  have L0 := I.type (M := model prog w)
  have L1 := looks_find (M := model prog w) X I (findObj_any c.cl c.ha c.hn c.tk)
  obtain ⟨hh, g, d, t, os⟩ := s
  repeat (any_goals (first | assumption | with_reducible refine L0.at ?_ | with_reducible refine L1.at ?_ | wp_step))
  refine class_get (s := ⟨hh, g, d, t, os⟩) (ox := ox) (od := odo) X I c.hm ?_
  repeat (any_goals (first | assumption | wp_step))
theorem exc_class {Q : Option Value → Shared → Prop} (X : K.In s.heap) (I : InstAt s.heap x ox D odo) (c : AskC K D) (h : Q (some (.ref D)) { s with toks := s.toks + 1 }) : wpAny (model prog w) A (getAttr? (.ref x) "__class__") Q E s := by
  have L0 := I.type (M := model prog w)
  have L1 := looks_findIn (M := model prog w) X c.ga
  have L2 := looks_findIn (M := model prog w) X c.gk
  have f3 := F.excAttr_ValueError.ga.bind (.ref x)
  have hx2 : (Value.builtin "BaseException.__getattribute__" == Value.builtin "object.__getattribute__") = false := by decide +kernel
  have hx1 : (onTheHeap (Value.ref D) && Value.builtin "BaseException.__getattribute__" == Value.builtin "object.__getattribute__") = false := by rw [hx2]; rfl
  obtain ⟨hh, g, d, t, os⟩ := s
  unfold getAttr? getAttrBy? getAttrBy
  repeat (any_goals (first | assumption | with_reducible refine L0.at ?_ | with_reducible refine L1.at ?_ | with_reducible refine L2.at ?_ | wp_step))
  refine codeAny_call_builtin F.excAttr_ValueError.ga.plain F.entry_bexc_ga (exc_check (s := ⟨hh, g, d, t + 1, os⟩) X I c (exc_entry (s := ⟨hh, g, d, t + 1, os⟩) X I c ?_))
  repeat (any_goals (first | assumption | wp_step))
end
theorem kitx_exc {K : Frag} {x D : Addr} (c : AskC K D) : KitX K (.ref x) (.ref D) (fun h => ∃ ox odo, InstAt h x ox D odo) where
  ty := fun _ _ _ ⟨_, _, I⟩ => I.type
  it := fun _ _ X _ => by
    obtain ⟨cdD, hcD⟩ := Option.isSome_iff_exists.mp c.cl
    unfold clsIn at hcD
    split at hcD
    · rename_i c' d' cd' sl' ho
      intro A' Q' E' s' k q
      unfold isType loadHead
      exact wpAny_bind (wpAny_loadPart (k _ _ (X _ _ ho)) (wpAny_pure q))
    · cases hcD
  ne := fun h tp dd its n sl X htp => by
    obtain ⟨cdD, hcD⟩ := Option.isSome_iff_exists.mp c.cl
    refine Bool.eq_false_iff.mpr fun q => ?_
    have e : D = tp := Value.ref.inj (beq_iff_eq.mp q)
    subst e
    unfold clsIn at hcD
    split at hcD
    · rename_i c' d' cd' sl' ho
      have z := (X _ _ ho).symm.trans htp
      cases z
    · cases hcD
  ca := fun {prog w A E Q s} X ⟨ox, odo, I⟩ k => exc_class X I c k
end PySem.W
namespace M
open PySem PySem.Spec PyProof.Rows L2
section
variable {X : Cx}
theorem me_own {x : Str} {a : Addr} {pos : Pos} (hn : PySem.W.nsIn X.K mainGlobals x = some (some (.ref a))) (hm : X.mg x = some (.ref a)) (hg : Gl X x := by rfl) (hd : (x == ("__debug__" : Str)) = false := by decide) : ME X (.Name x pos) (fC (.own x)) :=
  me_c (pe_glob (v := V.ref a) hg hm rfl hd) fun _ _ => .own hn
@[simp] noncomputable def askOf (μ : Mem) : D → Option (Option Str)
  | .non => some none
  | .loc n => match μ[n]? with
    | some (.exc c _) => some (some c)
    | _ => none
  | _ => none
inductive CN where
  | own (c : Str)
  | ty (n : String)
  deriving DecidableEq
noncomputable abbrev Kit := List ((Option Str × CN) × Bool)
noncomputable def clsV (K : PySem.W.Frag) : CN → Value → Prop
  | .own d, v => ∃ a, PySem.W.nsIn K mainGlobals d = some (some (.ref a)) ∧ v = .ref a
  | .ty n, v => v = .type n
structure KitOk (K : PySem.W.Frag) (tb : Kit) : Prop where
  non : ∀ d b v, tb.lookup (none, d) = some b → clsV K d v → PySem.W.kitOne K (.type "NoneType") v = some b
  ask : ∀ c d b, tb.lookup (some c, d) = some b → ∀ C, PySem.W.nsIn K mainGlobals c = some (some (.ref C)) → PySem.W.AskC K C
  exc : ∀ c d b v, tb.lookup (some c, d) = some b → clsV K d v → ∀ C, PySem.W.nsIn K mainGlobals c = some (some (.ref C)) → PySem.W.kitOne K (.ref C) v = some b
@[simp] noncomputable def nmOf : D → Option (CN)
  | .own c => some (.own c)
  | .ty n => some (.ty n)
  | _ => none
@[simp] noncomputable def ask1 (tb : Kit) (k : Option Str) (c : D) : Option Bool := (nmOf c).bind fun d => tb.lookup (k, d)
noncomputable def askAny (tb : Kit) (k : Option Str) : List D → Option Bool
  | [] => some false
  | c :: r => match ask1 tb k c with
    | some true => some true
    | some false => askAny tb k r
    | none => none
@[simp] noncomputable def gAsk (tb : Kit) : GL := fun ds μ => match ds with
  | [x, .tup (c :: cs)] => (askOf μ x).bind fun k => (askAny tb k (c :: cs)).bind fun b => some (.bl b, μ)
  | [x, c] => (askOf μ x).bind fun k => (ask1 tb k c).bind fun b => some (.bl b, μ)
  | _ => none
theorem clsV_of {K : PySem.W.Frag} {ρ : List Addr} {H : Hp} {c : D} {v : V} {u : Value} {d : CN} (r : RepV K ρ H c v) (q : RelV v u) (e : nmOf c = some d) : clsV K d u := by
  cases c with
  | own c => cases e; obtain ⟨a, rfl, h⟩ := r.own_inv; cases q; exact ⟨a, h, rfl⟩
  | ty n => cases e; rw [r.ty_inv] at q; cases q; rfl
  | _ => cases e
theorem askOf_ok {pins : List (Addr × Obj)} {σ : L2.St} {H : Hp} {s : Shared} {ρ : List Addr} {μ : Mem} {x : D} {v : V} {u : Value} {k : Option Str} {tb : Kit} (I : Inv X pins σ H s) (R : RepH X.K ρ H μ) (r : RepV X.K ρ H x v) (q : RelV v u) (e : askOf μ x = some k) (T : KitOk X.K tb) (hne : ∃ d b, tb.lookup (k, d) = some b) :
    ∃ (t : Value) (P : Heap → Prop), PySem.W.KitX X.K u t P ∧ P s.heap ∧ u ≠ .builtin "__main__.__loader__#opaque" ∧ ∀ d b w, tb.lookup (k, d) = some b → clsV X.K d w → PySem.W.kitOne X.K t w = some b := by
  cases x with
  | non => cases e; rw [r.non_inv] at q; cases q; exact ⟨_, _, PySem.W.kitx_none, trivial, (fun z => nomatch z), fun d b w h1 h2 => T.non d b w h1 h2⟩
  | loc n =>
    unfold askOf at e
    dsimp only at e
    split at e
    · rename_i c fs hm
      cases e
      obtain ⟨a, rfl, e2⟩ := r.loc_inv
      cases q
      obtain ⟨C, dx, hn, hH, hX⟩ := R.at_ _ _ _ e2 hm
      obtain ⟨⟨o, vs, h1, h2, h3, h4⟩, _, _⟩ := (show ObjOk X.prog X.w H s.heap a (.ext (ExcAt a C dx)) from I.hok a _ hH)
      have inst : ∃ ox odo, PySem.W.InstAt s.heap a ox C odo := by
        rcases hX with ⟨_, rfl⟩ | ⟨p, ws, rfl, hp, _, _⟩
        · exact ⟨o, none, h1, h2, by unfold PySem.W.notCls; rw [h4], by rw [h3]; trivial⟩
        · obtain ⟨u, hu⟩ := (I.hok p _ hp).there
          exact ⟨o, some u, h1, h2, by unfold PySem.W.notCls; rw [h4], by rw [h3]; exact hu⟩
      obtain ⟨d, b, h5⟩ := hne
      exact ⟨.ref C, _, PySem.W.kitx_exc (T.ask c d b h5 C hn), inst, (fun z => nomatch z), fun d b w h1 h2 => T.exc c d b w h1 h2 C hn⟩
    · cases e
  | _ => cases e
theorem kitAny_of {K : PySem.W.Frag} {ρ : List Addr} {H : Hp} {tb : Kit} {k : Option Str} {t : Value} (hk : ∀ d b w, tb.lookup (k, d) = some b → clsV K d w → PySem.W.kitOne K t w = some b) : ∀ {cs : List D} {vs : List V} {us : List Value} {b : Bool}, RepVs K ρ H cs vs → Vals vs us → askAny tb k cs = some b → PySem.W.kitAny K t us = some b
  | [], _, _, b, r, q, e => by
    rw [r.nil_inv] at q
    cases q
    cases e
    rfl
  | c :: cs, _, _, b, r, q, e => by
    obtain ⟨v, vs, rfl, r1, r2⟩ := r.cons_inv
    cases q with
    | cons q1 q2 =>
      unfold askAny at e
      cases e1 : ask1 tb k c with
      | none => rw [e1] at e; cases e
      | some b1 =>
        rw [e1] at e
        obtain ⟨d, e2, e3⟩ := bind_inv e1
        have h1 := hk d b1 _ e3 (clsV_of r1 q1 e2)
        unfold PySem.W.kitAny
        rw [h1]
        cases b1 with
        | true => exact e
        | false => exact kitAny_of hk r2 q2 e
theorem callM_ask {tb : Kit} (T : KitOk X.K tb) : CallM X (.builtin "isinstance") (gAsk tb) := by
  intro pins s σ H xs us Q I r ⟨ρ, ds, μ, d, μ', r1, R, e, k⟩
  unfold gAsk at e
  split at e
  · rename_i x c cs
    obtain ⟨kd, e1, e⟩ := bind_inv e
    obtain ⟨b, e2, e⟩ := bind_inv e
    cases e
    obtain ⟨v, rr, rfl, q1, q2⟩ := r1.cons_inv
    obtain ⟨v2, rr2, rfl, q3, q4⟩ := q2.cons_inv
    rw [q4.nil_inv] at r
    cases r with
    | cons ra rb =>
      cases rb with
      | cons rc rd =>
        cases rd
        obtain ⟨a, vs, rfl, e3, rt⟩ := q3.tup_inv
        cases rc
        have hne : ∃ d b, tb.lookup (kd, d) = some b := by
          unfold askAny at e2
          cases e4 : ask1 tb kd c with
          | none => rw [e4] at e2; cases e2
          | some b1 => obtain ⟨d, _, e5⟩ := bind_inv e4; exact ⟨d, b1, e5⟩
        obtain ⟨t, P, Z, hp, hu, hk⟩ := askOf_ok I R q1 ra e1 T hne
        obtain ⟨its, rv, ⟨o, ho, hc, n, hd⟩, _⟩ := I.tuple (SqT.of e3)
        obtain ⟨oc, od, odt, osl⟩ := o
        cases hc
        cases hd
        exact PySem.W.kia_tup Z I.kIn hp ho (kitAny_of hk rt rv e2) hu fun tk => ⟨.bl _, H, I.tok tk, rfl, k ρ H _ Ext.refl R .bl⟩
  · rename_i x c _
    obtain ⟨kd, e1, e⟩ := bind_inv e
    obtain ⟨b, e2, e⟩ := bind_inv e
    cases e
    obtain ⟨v, rr, rfl, q1, q2⟩ := r1.cons_inv
    obtain ⟨v2, rr2, rfl, q3, q4⟩ := q2.cons_inv
    rw [q4.nil_inv] at r
    cases r with
    | cons ra rb =>
      cases rb with
      | cons rc rd =>
        cases rd
        obtain ⟨d, e4, e5⟩ := bind_inv e2
        obtain ⟨t, P, Z, hp, hu, hk⟩ := askOf_ok I R q1 ra e1 T ⟨d, b, e5⟩
        exact PySem.W.kia_one Z I.kIn hp (hk d b _ e5 (clsV_of q3 rc e4)) hu fun tk => ⟨.bl _, H, I.tok tk, rfl, k ρ H _ Ext.refl R .bl⟩
  · cases e
end
section
variable {K : PySem.W.Frag} {D0 : Addr} {tb : List (Str × Bool)} {kt : Kit}
theorem Subs.nil : Subs K D0 [] := fun c b h => by cases h
theorem Subs.cons {c : Str} {C : Addr} {b : Bool} (hc : PySem.W.nsIn K mainGlobals c = some (some (.ref C))) (k : PySem.W.ktsIn K C "BaseException" = true) (m : PySem.W.mroIn K C (.ref D0) = some b) (r : Subs K D0 tb) : Subs K D0 ((c, b) :: tb) := fun c' b' h C' hC' => by
  unfold List.lookup at h
  split at h
  · rename_i e
    cases h
    rw [beq_iff_eq.mp e, hc] at hC'
    cases hC'
    exact ⟨k, m⟩
  · exact r c' b' h C' hC'
theorem KitOk.nil : KitOk K [] := ⟨fun _ _ _ h => by (cases h), fun _ _ _ h => by (cases h), fun _ _ _ _ h => by (cases h)⟩
theorem KitOk.none {d : CN} {b : Bool} (h : ∀ v, clsV K d v → PySem.W.kitOne K (.type "NoneType") v = some b) (r : KitOk K kt) : KitOk K (((Option.none, d), b) :: kt) where
  non := fun d' b' v e q => by
    unfold List.lookup at e
    split at e
    · rename_i z
      cases e
      have z := beq_iff_eq.mp z
      cases z
      exact h v q
    · exact r.non d' b' v e q
  ask := fun c d' b' e => by
    unfold List.lookup at e
    split at e
    · rename_i z
      have z := beq_iff_eq.mp z
      cases z
    · exact r.ask c d' b' e
  exc := fun c d' b' v e => by
    unfold List.lookup at e
    split at e
    · rename_i z
      have z := beq_iff_eq.mp z
      cases z
    · exact r.exc c d' b' v e
theorem KitOk.some {c : Str} {C : Addr} {d : CN} {b : Bool} (hc : PySem.W.nsIn K mainGlobals c = Option.some (Option.some (.ref C))) (a : PySem.W.AskC K C) (h : ∀ v, clsV K d v → PySem.W.kitOne K (.ref C) v = Option.some b) (r : KitOk K kt) : KitOk K (((Option.some c, d), b) :: kt) where
  non := fun d' b' v e => by
    unfold List.lookup at e
    split at e
    · rename_i z
      have z := beq_iff_eq.mp z
      cases z
    · exact r.non d' b' v e
  ask := fun c' d' b' e C' hC' => by
    unfold List.lookup at e
    split at e
    · rename_i z
      have z := beq_iff_eq.mp z
      cases z
      rw [hc] at hC'
      cases hC'
      exact a
    · exact r.ask c' d' b' e C' hC'
  exc := fun c' d' b' v e q C' hC' => by
    unfold List.lookup at e
    split at e
    · rename_i z
      cases e
      have z := beq_iff_eq.mp z
      cases z
      rw [hc] at hC'
      cases hC'
      exact h v q
    · exact r.exc c' d' b' v e q C' hC'
theorem clsV_own {d : Str} {a : Addr} {P : Value → Prop} (h : PySem.W.nsIn K mainGlobals d = some (some (.ref a))) (p : P (.ref a)) : ∀ v, clsV K (.own d) v → P v := fun v ⟨a', h', e⟩ => by
  rw [h] at h'
  cases h'
  rw [e]
  exact p
theorem clsV_ty {n : String} {P : Value → Prop} (p : P (.type n)) : ∀ v, clsV K (.ty n) v → P v := fun v e => by
  cases e
  exact p
end
end M
set_option Elab.async false
set_option linter.all false
set_option maxRecDepth 100000
set_option autoImplicit false
namespace M
open PySem PySem.Spec PyProof.Rows L2
structure MSsl (X : Cx) (sts : List Stmt) (ψ : FS) : Prop where
  h : MSs X sts ψ
end M
set_option Elab.async false
set_option linter.all false
set_option maxRecDepth 100000
set_option autoImplicit false
namespace M
open PySem PySem.Spec PyProof.Rows L2
section
variable {X : Cx} {a b c e : Expr} {es : List Expr} {φ ψ χ : FE} {pos pos2 p1 p2 : Pos}
noncomputable def rngHO (p : Addr) (j : Int) : HO := .ext fun h => ∃ t u v, IsRange h p 0 j 1 t u v
theorem call_rangeV : CallR X (.type "range") (fun xs H Q => ∃ j : Int, xs = [.int j] ∧ ∀ p, H p = none → Q (.ref p) (upd H p (rngHO p j))) := by
  intro pins s σ H xs us Q I r ⟨j, e, k⟩
  subst e
  obtain ⟨u, rfl, ru⟩ := vals1 r
  obtain ⟨t, rfl⟩ := ru
  refine call_range_1 ?_
  refine ⟨.ref s.heap.objs.size, _, I.laid (t' := s.toks + 1 + 1) (fun b o e => Heap.get?_push_of_some _ e) (Nat.le_refl _) (show ObjOk X.prog X.w _ _ _ (rngHO _ j) from ⟨⟨_, _, _, IsRange.new _ _ _ _ _ _ _⟩, ⟨_, Heap.get?_push_size _ rfl⟩, fun h1 h2 ⟨t, u, v, x⟩ y => ⟨t, u, v, y _ x⟩⟩), rfl, k _ I.fresh⟩
theorem items_ints {its : Array Value} {n : Nat} (h : ItemsOf (fun i v => ∃ t, v = .int (0 + i * 1) t) its n) : Vals ((List.range n).map fun (k : Nat) => V.int k) its.toList := by
  obtain ⟨h1, h2⟩ := h
  have key : ∀ (l : List Value) (m : Nat), (∀ i (hi : i < l.length), ∃ t, l[i] = .int ((m + i : Nat) : Int) t) → Vals ((List.range' m l.length).map fun (k : Nat) => V.int k) l := by
    intro l
    induction l with
    | nil => intro m _; exact .nil
    | cons x xs ih =>
      intro m h
      obtain ⟨t, e⟩ := h 0 (by simp)
      refine .cons ⟨t, by simpa using e⟩ (ih (m + 1) fun i hi => ?_)
      obtain ⟨t, e⟩ := h (i + 1) (by simpa using hi)
      exact ⟨t, by rw [show m + 1 + i = m + (i + 1) by omega]; simpa using e⟩
  have := key its.toList 0 fun i hi => ?_
  · rw [List.range_eq_range', ← h1]
    simpa using this
  · have hi' : i < its.size := by simpa using hi
    obtain ⟨t, e⟩ := h2 i its[i] (by simp [hi'])
    exact ⟨t, by simpa using e⟩
noncomputable def fLRange (φ : FE) : FE := fun δ μ => (φ δ μ).bind fun p => match p.1 with
  | .int j => bif decide (-(2 ^ 62) ≤ j ∧ j ≤ 1000000) then some (.loc p.2.length, p.2 ++ [.lst ((List.range j.toNat).map fun (k : Nat) => .int k)]) else none
  | _ => none
theorem call_listR (hc : X.calm = true) : CallR X (.type "list") (fun xs H Q => ∃ p j, xs = [.ref p] ∧ H p = some (rngHO p j) ∧ -(2 ^ 62) ≤ j ∧ j ≤ 1000000 ∧ ∀ l, H l = none → Q (.ref l) (upd H l (.lst ((List.range j.toNat).map fun (k : Nat) => V.int k)))) := by
  intro pins s σ H xs us Q I r ⟨p, j, e, hq, h1, h2, k⟩
  subst e
  obtain ⟨u, rfl, ru⟩ := vals1 r
  cases ru
  obtain ⟨⟨t, u, v, hr⟩, _, _⟩ := I.hok p _ hq
  have hn : Builtin.Range.rangeSize 0 j 1 = (j.toNat : Nat) := by rw [rangeSize_one]; split <;> omega
  refine call_list_range (n := j.toNat) (I.ok.hd hc) hr (small_one (by decide) (by decide) h1 (by omega)) hn (by omega) fun h' tk acc' c' kp e hi => ?_
  have hm := million
  have hv := items_ints hi
  refine ⟨.ref s.heap.objs.size, _, I.laid (t' := tk) kp (Nat.le_refl _) (show ObjOk X.prog X.w _ h' _ (.lst _) from ⟨by simp; omega, acc'.toList, c', hv, by simpa using e⟩), rfl, k _ I.fresh⟩
theorem me_lrange (hm1 : X.mg "list" = none) (hv1 : bootBuiltins "list" = some (.type "list")) (hm2 : X.mg "range" = none) (h : ME X e φ) (hc : X.calm = true := by rfl) (hg1 : Gl X "list" := by rfl) (hg2 : Gl X "range" := by rfl)
    (he : starEach [e] X.env = (false, eval e X.env) :: starEach [] X.env := by rfl) (he2 : starEach [.Call (.Name "range" p2) [e] [] pos2] X.env = (false, eval (.Call (.Name "range" p2) [e] [] pos2) X.env) :: starEach [] X.env := by rfl) :
    ME X (.Call (.Name "list" p1) [.Call (.Name "range" p2) [e] [] pos2] [] pos) (fLRange φ) :=
  me_of (pe_callTy (call_listR hc) hg1 hm1 hv1 (pa_cons (pe_callTy call_rangeV hg2 hm2 boot_range (pa_cons h pa_nil he) (by decide) (by decide) he rfl) pa_nil he2) (by decide) (by decide) he2 rfl) fun ρ δ μ σ H d μ' Q A e k => by
    obtain ⟨⟨x, μ1⟩, e1, e⟩ := bind_inv e
    refine ⟨ρ, δ, μ, x, μ1, A, e1, fun ρ1 H1 v x1 R1 r1 => ?_⟩
    dsimp only at e
    split at e
    · rename_i j
      obtain ⟨hb, e⟩ := bif_inv e
      have hb := of_decide_eq_true hb
      cases e
      refine ⟨j, by rw [r1.int_inv], fun p1 hp1 => ⟨p1, j, rfl, upd_same, hb.1, hb.2, fun l hl => ?_⟩⟩
      have R2 := R1.newTup (o := rngHO p1 j) hp1
      refine k _ _ _ (x1.trans ((Ext.new hp1).trans (Ext.push hl))) (R2.push hl ⟨_, upd_same, ?_⟩) (.loc (push_get R2))
      have hr := fun ρ H => @ints_rep X.K ρ H ((List.range j.toNat).map fun (k : Nat) => (k : Int))
      simp only [List.map_map] at hr
      exact hr _ _
    · cases e
@[simp] noncomputable def gAny : GL := fun ds μ => match ds with
  | [.loc n] => match μ[n]? with
    | some (.lst xs) => bif xs.all isBl then some (.bl (xs.any blB), μ) else none
    | _ => none
  | _ => none
theorem callM_any (hc : X.calm = true) : CallM X (.builtin "any") gAny := by
  intro pins s σ H xs us Q I r ⟨ρ, ds, μ, d, μ', r1, R, e, k⟩
  unfold gAny at e
  split at e
  · split at e
    · rename_i n _ ys hm
      obtain ⟨hb, e⟩ := bif_inv e
      cases e
      obtain ⟨v, rr, rfl, q1, q2⟩ := r1.cons_inv
      obtain ⟨a, rfl, e2⟩ := q1.loc_inv
      obtain ⟨vs, e3, q3⟩ := R.at_ _ _ _ e2 hm
      rw [q2.nil_inv] at r
      obtain ⟨u, rfl, ru⟩ := vals1 r
      cases ru
      obtain ⟨its, rv, pl, hz⟩ := I.list (SqL.of (K := X.K) e3)
      have hlt : a < s.heap.objs.size := by obtain ⟨_, _, e, _⟩ := pl; exact Heap.lt_size e
      refine call_any_walk (wpAny_pyIter_list pl.isList ?_)
      refine ⟨_, _, _, _, _, _, fun i => blB (ys.getD i .non), rfl, Walks.list (A := X.A.in1) (I.ok.hd hc) s.heap.objs.size a (Nat.ne_of_lt hlt) its.toArray, ⟨⟨_, Heap.get?_push_size _ rfl, rfl, rfl⟩, pl.isList.push _⟩, ?_, fun h' tk hk => ?_⟩
      · intro i w s' Q' E' hP hQ
        have hi : its[i]? = some w := by simpa using hP
        have hil : i < ys.length := by
          have h1 := (List.getElem?_eq_some_iff.mp hi).1
          rw [q3.length, rv.length]; exact h1
        have hyi : ys[i]? = some ys[i] := by simp [hil]
        obtain ⟨vv, ev, rvv⟩ := q3.get hyi
        obtain ⟨ww, ew, rww⟩ := rv.get ev
        rw [hi] at ew; cases ew
        have hall := List.all_eq_true.mp hb ys[i] (List.getElem_mem hil)
        have hQ' : Q' (blB ys[i]) s' := by
          have e : ys.getD i .non = ys[i] := by rw [List.getD_eq_getElem?_getD, hyi]; rfl
          rw [← e]; exact hQ
        cases hyb : ys[i] with
        | bl b =>
          rw [hyb] at rvv hQ'
          rw [rvv.bl_inv] at rww
          cases rww
          exact wpAny_truthy_bool hQ'
        | _ => rw [hyb] at hall; cases hall
      · have hsz : its.toArray.size = ys.length := by rw [q3.length, rv.length]; simp
        have eall : ((List.range its.toArray.size).any fun i => blB (ys.getD i .non)) = ys.any blB := by
          rw [hsz, Bool.eq_iff_iff, List.any_eq_true, List.any_eq_true]
          constructor
          · rintro ⟨i, hi, h⟩
            have hi' : i < ys.length := by simpa using hi
            rw [List.getD_eq_getElem?_getD, show ys[i]? = some ys[i] by simp [hi']] at h
            exact ⟨_, List.getElem_mem hi', h⟩
          · rintro ⟨y, hy, h⟩
            obtain ⟨i, hi, rfl⟩ := List.mem_iff_getElem.mp hy
            refine ⟨i, by simpa using hi, ?_⟩
            rw [List.getD_eq_getElem?_getD, show ys[i]? = some ys[i] by simp [hi]]
            exact h
        rw [eall]
        refine ⟨.bl _, H, I.kept (h' := h') (t' := tk) fun b o e => hk b o (by simpa using Nat.ne_of_lt (Heap.lt_size e)) (Heap.get?_push_of_some _ e), rfl, k ρ H _ Ext.refl R .bl⟩
    · cases e
  · cases e
@[simp] noncomputable def gInt : GL := fun ds μ => match ds with
  | [.int i] => some (.int i, μ)
  | [.bl b] => some (.int (if b then 1 else 0), μ)
  | _ => none
theorem callM_int : CallM X (.type "int") gInt := by
  intro pins s σ H xs us Q I r ⟨ρ, ds, μ, d, μ', r1, R, e, k⟩
  unfold gInt at e
  split at e
  · cases e
    obtain ⟨v, rr, rfl, q1, q2⟩ := r1.cons_inv
    exact call_int1 pins s σ H _ us Q I r (.inl ⟨_, by rw [q1.int_inv, q2.nil_inv], k ρ H _ Ext.refl R .int⟩)
  · cases e
    obtain ⟨v, rr, rfl, q1, q2⟩ := r1.cons_inv
    exact call_int1 pins s σ H _ us Q I r (.inr ⟨_, by rw [q1.bl_inv, q2.nil_inv], k ρ H _ Ext.refl R .int⟩)
  · cases e
@[simp] noncomputable def gMin2 : GL := fun ds μ => match ds with
  | [.int i, .int j] => some (.int (if j < i then j else i), μ)
  | _ => none
@[simp] noncomputable def gMax2 : GL := fun ds μ => match ds with
  | [.int i, .int j] => some (.int (if j > i then j else i), μ)
  | _ => none
theorem callM_min2 (hc : X.calm = true) : CallM X (.builtin "min") gMin2 := by
  intro pins s σ H xs us Q I r ⟨ρ, ds, μ, d, μ', r1, R, e, k⟩
  unfold gMin2 at e
  split at e
  · cases e
    obtain ⟨v, rr, rfl, q1, q2⟩ := r1.cons_inv
    obtain ⟨v2, rr2, rfl, q3, q4⟩ := q2.cons_inv
    exact call_min2 hc pins s σ H _ us Q I r ⟨_, _, by rw [q1.int_inv, q3.int_inv, q4.nil_inv], k ρ H _ Ext.refl R .int⟩
  · cases e
@[simp] noncomputable def fIf (c : FT) (φ ψ : FE) : FE := fun δ μ => (c δ μ).bind fun p => bif p.1 then φ δ p.2 else ψ δ p.2
end
end M
set_option Elab.async false
set_option linter.all false
set_option maxRecDepth 100000
set_option autoImplicit false
namespace M
open PySem PySem.Spec PyProof.Rows L2
section
variable {prog : Program} {w : World} {A : Around} {E : Value → Shared → Prop} {s : Shared}
theorem nextT {it t : Addr} {i : Nat} {items : Array Value} {x : Value} {Q : Value → Shared → Prop} (hit : s.heap.IsTupleIter it t i) (ht : s.heap.IsTuple t items) (hx : items[i]? = some x)
    (hQ : ∀ h', h'.IsTupleIter it t (i + 1) → Heap.SameBut it s.heap h' → Q x { s with heap := h' }) : wpAny (model prog w) A (Builtin.SmallTypes.nextOf (.ref it)) Q E s := by
  obtain ⟨ob, hob, hcl, hfs⟩ := id hit
  obtain ⟨ot, hot, _, m, hits⟩ := ht
  unfold Builtin.SmallTypes.nextOf
  refine wpAny_bind (wpAny_callSpecial?_slot (name := Str.ofString "__next__") hit.typeIs F.slot_tuple_iterator_next (wpAny_call_entry F.slot_tuple_iterator_next hit.typeIs F.entry_tuple_iterator_next ?_ (F.args_tuple_iterator_next_1 _)))
  show wpAny _ _ (field (.ref it) 0 >>= _) _ _ s
  refine wpAny_bind (wpAny_field hob hfs (x := .ref t) rfl ?_)
  show wpAny _ _ (if (Value.ref t == Value.none) = true then _ else field (.ref it) 1 >>= _) _ _ s
  rw [if_neg (show ¬ (Value.ref t == Value.none) = true from Bool.false_ne_true)]
  refine wpAny_bind (wpAny_field hob hfs (x := .int i 0) rfl ?_)
  show wpAny _ _ (seqItems? (.ref t) >>= _) _ _ s
  refine wpAny_bind (wpAny_seqItems hot hits ?_)
  simp only [Int.toNat_natCast, hx]
  refine wpAny_bind (wpAny_setField hob hfs (by simp) (wpAny_pure ⟨x, rfl, wpAny_pure (hQ _ ?_ (Heap.SameBut.update ..))⟩))
  refine ⟨_, Heap.get?_update_self _ hob (Obj.isFreed_of_fields (Obj.data_mapFields hfs _)), (Obj.cls_mapFields ..).trans hcl, ?_⟩
  rw [Obj.data_mapFields hfs]
  simp [rawInt]
theorem nextT_end {it t : Addr} {i : Nat} {items : Array Value} {Q : Value → Shared → Prop} (hh : A.handled = none) (hit : s.heap.IsTupleIter it t i) (ht : s.heap.IsTuple t items) (hx : items[i]? = none)
    (hE : ∀ h' e, Heap.ExtBut it s.heap h' → (∃ o, h'.get? e = some o ∧ o.cls = .type "StopIteration") → E (.ref e) { s with heap := h' }) : wpAny (model prog w) A (Builtin.SmallTypes.nextOf (.ref it)) Q E s := by
  obtain ⟨ob, hob, hcl, hfs⟩ := id hit
  obtain ⟨ot, hot, _, m, hits⟩ := ht
  unfold Builtin.SmallTypes.nextOf
  refine wpAny_bind (wpAny_callSpecial?_slot (name := Str.ofString "__next__") hit.typeIs F.slot_tuple_iterator_next (wpAny_call_entry F.slot_tuple_iterator_next hit.typeIs F.entry_tuple_iterator_next ?_ (F.args_tuple_iterator_next_1 _)))
  show wpAny _ _ (field (.ref it) 0 >>= _) _ _ s
  refine wpAny_bind (wpAny_field hob hfs (x := .ref t) rfl ?_)
  show wpAny _ _ (if (Value.ref t == Value.none) = true then _ else field (.ref it) 1 >>= _) _ _ s
  rw [if_neg (show ¬ (Value.ref t == Value.none) = true from Bool.false_ne_true)]
  refine wpAny_bind (wpAny_field hob hfs (x := .int i 0) rfl ?_)
  show wpAny _ _ (seqItems? (.ref t) >>= _) _ _ s
  refine wpAny_bind (wpAny_seqItems hot hits ?_)
  simp only [Int.toNat_natCast, hx]
  refine wpAny_bind (wpAny_rule (wpAny_bind (wpAny_setField hob hfs (by simp) ?_)))
  show wpAny _ _ (newExc (.type "StopIteration") [] >>= _) _ _ _
  refine wpAny_bind ?_
  simp only [newExc, newTuple]
  refine wpAny_bind (wpAny_newObj_type ?_ (by size_fits))
  refine wpAny_bind (m := firstArgMember _ _) (wpAny_of_eq (a := Value.none) (by first | rfl | (simp only [firstArgMember]; rfl)) ?_)
  refine wpAny_newObj_type ?_ (by size_fits)
  simp only [raiseNew]
  refine wpAny_bind (wpAny_handled ?_)
  first | rw [show A.in1.handled = none from hh] | rw [hh]
  exact wpAny_bind (wpAny_pure (wpAny_throw (hE _ _ (((Heap.SameBut.update ..).extBut.push _).push _) ⟨_, Heap.get?_push_size _ rfl, rfl⟩)))
theorem enum_item {e it : Addr} {i : Int} {x old : Value} {N : Heap → Prop} {Q : Option Value → Shared → Prop} (he : IsEnum s.heap e it i old) (hne : e ≠ it)
    (nx : ∀ (A' : Around) (Q' : Value → Shared → Prop) (E' : Value → Shared → Prop), (∀ h1, N h1 → Heap.SameBut it s.heap h1 → Q' x { s with heap := h1 }) → wpAny (model prog w) A' (Builtin.SmallTypes.nextOf (.ref it)) Q' E' s)
    (hN : ∀ h h', N h → (∀ o, h.get? it = some o → h'.get? it = some o) → N h')
    (hQ : ∀ h', IsEnumOut h' e it (i + 1) x s.heap.objs.size → N h' → h'.get? s.heap.objs.size = some { cls := .type "tuple", data := .seq #[.int i s.toks, x] } → h'.objs.size = s.heap.objs.size + 1 →
      (∀ b o, b ≠ e → b ≠ it → s.heap.get? b = some o → h'.get? b = some o) → Q (some (.ref s.heap.objs.size)) { s with heap := h', toks := s.toks + 1 }) : wpAny (model prog w) A (pyNext (.ref e)) Q E s := by
  obtain ⟨hp, g, d, tk, os⟩ := s
  have hT : Shared.TypeIs ⟨hp, g, d, tk, os⟩ (.ref e) "enumerate" := ⟨_, he, rfl⟩
  unfold pyNext
  refine wpAny_bind (wpAny_attempt (wpAny_callSpecial?_slot (name := Str.ofString "__next__") hT F.slot_enumerate_next (wpAny_call_entry F.slot_enumerate_next hT F.entry_enumerate_next ?_ (F.args_enumerate_next_1 _))))
  show wpAny _ _ (field (.ref e) 2 >>= _) _ _ _
  refine wpAny_bind (wpAny_field he rfl (x := .ref it) rfl (wpAny_bind (nx _ _ _ fun h1 n1 sb1 => ?_)))
  replace sb1 : Heap.SameBut it hp h1 := sb1
  have e1 : IsEnum h1 e it i old := (sb1.2 e hne).trans he
  show wpAny _ _ (field (.ref e) 3 >>= _) _ _ ⟨h1, g, d, tk, os⟩
  refine wpAny_bind (wpAny_field e1 rfl (x := rawInt i) rfl ?_)
  show wpAny _ _ (field (.ref e) 4 >>= _) _ _ ⟨h1, g, d, tk, os⟩
  refine wpAny_bind (wpAny_field e1 rfl (x := .none) rfl ?_)
  show wpAny _ _ (mkInt i >>= _) _ _ ⟨h1, g, d, tk, os⟩
  refine wpAny_bind (wpAny_mkInt ?_)
  show wpAny _ _ (setField (.ref e) 3 (rawInt (i + 1)) >>= _) _ _ ⟨h1, g, d, tk + 1, os⟩
  refine wpAny_bind (wpAny_setField_rec e1 (by simp) fun h2 e2 sb2 => ?_)
  replace sb2 : Heap.SameBut e h1 h2 := sb2
  replace e2 : IsEnum h2 e it (i + 1) old := e2
  show wpAny _ _ (setField (.ref e) 4 .none >>= _) _ _ ⟨h2, g, d, tk + 1, os⟩
  refine wpAny_bind (wpAny_setField_rec e2 (by simp) fun h3 e3 sb3 => ?_)
  replace sb3 : Heap.SameBut e h2 h3 := sb3
  replace e3 : IsEnum h3 e it (i + 1) old := e3
  show wpAny _ _ (newTuple [.int i tk, x] >>= _) _ _ ⟨h3, g, d, tk + 1, os⟩
  refine wpAny_bind (wpAny_newTuple ?_)
  have z3 : h3.objs.size = hp.objs.size := by rw [sb3.1, sb2.1, sb1.1]
  have el : e < hp.objs.size := Heap.lt_size he
  have ne4 : hp.objs.size ≠ e := Nat.ne_of_gt el
  obtain ⟨h4, hh4⟩ : ∃ h4, h4 = h3.push { cls := .type "tuple", data := .seq #[.int i tk, x] } := ⟨_, rfl⟩
  have e4 : IsEnum h4 e it (i + 1) old := by rw [hh4]; exact Heap.get?_push_of_some _ e3
  have t4 : h4.get? hp.objs.size = some { cls := .type "tuple", data := .seq #[.int i tk, x] } := by rw [hh4, ← z3]; exact Heap.get?_push_size _ rfl
  have z4 : h4.objs.size = hp.objs.size + 1 := by rw [hh4, Heap.size_push, z3]
  have up : ∀ b o, b ≠ e → h1.get? b = some o → h4.get? b = some o := fun b o hb q => by
    rw [hh4]
    exact Heap.get?_push_of_some _ ((sb3.2 b hb).trans ((sb2.2 b hb).trans q))
  show wpAny _ _ (Builtin.SmallTypes.ownedTupleIsFree (.ref e) >>= _) _ _ ⟨h3.push { cls := .type "tuple", data := .seq #[.int i tk, x] }, g, d, tk + 1, os⟩
  rw [← hh4, z3]
  refine wpAny_bind ?_
  unfold Builtin.SmallTypes.ownedTupleIsFree
  refine wpAny_bind (wpAny_field e4 rfl (x := .none) rfl (wpAny_pure ?_))
  simp only [if_true]
  refine wpAny_bind (wpAny_rule (wpAny_bind (wpAny_field e4 rfl (x := old) rfl (wpAny_bind (wpAny_setField_rec e4 (by simp) fun h5 e5 sb5 => ?_)))))
  replace sb5 : Heap.SameBut e h4 h5 := sb5
  replace e5 : IsEnum h5 e it (i + 1) x := e5
  show wpAny _ _ (Builtin.SmallTypes.ownedTupleHandOut (.ref e) (.ref hp.objs.size) >>= _) _ _ ⟨h5, g, d, tk + 1, os⟩
  refine wpAny_bind ?_
  unfold Builtin.SmallTypes.ownedTupleHandOut
  refine wpAny_bind (wpAny_setField_rec e5 (by simp) fun h6 e6 sb6 => ?_)
  replace sb6 : Heap.SameBut e h5 h6 := sb6
  replace e6 : IsEnumOut h6 e it (i + 1) x hp.objs.size := e6
  refine wpAny_setField_rec e6 (by simp) fun h7 e7 sb7 => ?_
  replace sb7 : Heap.SameBut e h6 h7 := sb7
  replace e7 : IsEnumOut h7 e it (i + 1) x hp.objs.size := e7
  have up7 : ∀ b o, b ≠ e → h4.get? b = some o → h7.get? b = some o := fun b o hb q => (sb7.2 b hb).trans ((sb6.2 b hb).trans ((sb5.2 b hb).trans q))
  refine wpAny_bind (wpAny_letGo (wpAny_pure ⟨_, rfl, wpAny_pure (hQ h7 e7 (hN _ _ n1 fun o q => up7 _ _ (Ne.symm hne) (up _ _ (Ne.symm hne) q)) (up7 _ _ ne4 t4) ?_ fun b o h1 h2 q => up7 _ _ h1 (up _ _ h1 ((sb1.2 b h2).trans q)))⟩))
  show h7.objs.size = hp.objs.size + 1
  rw [sb7.1, sb6.1, sb5.1, z4]
theorem enum_end {e it : Addr} {i : Int} {old : Value} {Q : Option Value → Shared → Prop} (he : IsEnum s.heap e it i old)
    (nx : ∀ (A' : Around) (Q' : Value → Shared → Prop) (E' : Value → Shared → Prop), A'.handled = A.handled → (∀ h' x, Heap.ExtBut it s.heap h' → (∃ o, h'.get? x = some o ∧ o.cls = .type "StopIteration") → E' (.ref x) { s with heap := h' }) → wpAny (model prog w) A' (Builtin.SmallTypes.nextOf (.ref it)) Q' E' s)
    (hQ : ∀ h', Heap.ExtBut it s.heap h' → Q none { s with heap := h' }) : wpAny (model prog w) A (pyNext (.ref e)) Q E s := by
  have hT : s.TypeIs (.ref e) "enumerate" := ⟨_, he, rfl⟩
  unfold pyNext
  refine wpAny_bind (wpAny_attempt (wpAny_callSpecial?_slot (name := Str.ofString "__next__") hT F.slot_enumerate_next (wpAny_call_entry F.slot_enumerate_next hT F.entry_enumerate_next ?_ (F.args_enumerate_next_1 _))))
  show wpAny _ _ (field (.ref e) 2 >>= _) _ _ _
  refine wpAny_bind (wpAny_field he rfl (x := .ref it) rfl (wpAny_bind (nx _ _ _ rfl fun h' x eb ⟨o, ho, hc⟩ => ?_)))
  exact wpAny_bind (wpAny_isInstance (T := "StopIteration") (b := true) ⟨o, ho, hc⟩ isSubtype_stop (wpAny_pure (hQ _ eb)))
end
end M
set_option Elab.async false
set_option linter.all false
set_option maxRecDepth 100000
set_option autoImplicit false
namespace M
open PySem PySem.Spec PyProof.Rows L2
section
variable {X : Cx} {pins : List (Addr × Obj)} {σ : L2.St} {H : Hp} {s : Shared}
theorem fp_free {fp : List Addr} (hf : ∀ b ∈ fp, FpOk X pins H b) {b : Addr} {u : HO} (e : H b = some u) : b ∉ fp := fun z => by rw [(hf b z).1] at e; cases e
theorem fp_ch {fp : List Addr} (hf : ∀ b ∈ fp, FpOk X pins H b) : ∀ b ∈ fp, (b ∈ X.ex ∨ X.s₀.heap.objs.size ≤ b) ∧ b ≠ X.env.locals ∧ (∀ x c, X.env.cells.lookup x = some c → c ≠ b) ∧ ∀ p ∈ X.pn ++ pins, p.1 ≠ b := fun b hb => by
  obtain ⟨_, f1, _, f3, f4, f5⟩ := hf b hb
  exact ⟨f3, f1, f4, f5⟩
theorem inv_turned {fp : List Addr} {h' : Heap} {t' : Nat} (I : Inv X pins σ H s) (hf : ∀ b ∈ fp, FpOk X pins H b) (k : ∀ b o, b ∉ fp → s.heap.get? b = some o → h'.get? b = some o) : Inv X pins σ H { s with heap := h', toks := t' } := by
  refine I.call (g' := s.gens) (t' := t') (d' := s.drawn) (ch := fp) ⟨fun b o e _ _ hx => k b o hx e, fun b o e _ _ hx => ⟨o.slots, k b o hx e⟩, fun _ _ _ n _ => n, fun b o e hx => ⟨o, k b o hx e⟩, fun _ _ e => e, fun _ _ _ e => e, fun _ ps e => ⟨#[], by rw [e]; simp⟩⟩ (fun a o e => ?_) I.bare (fp_ch hf)
  refine (I.hok a o e).stay (fun b u hb q => k b u ?_ q) (fun _ q => q) fun _ _ q => q
  rcases hb with rfl | hb
  · exact fp_free hf e
  · exact fp_free hf hb
theorem inv_turnedLaid {fp : List Addr} {h' : Heap} {t' : Nat} {p : Addr} {o : HO} (I : Inv X pins σ H s) (hf : ∀ b ∈ fp, FpOk X pins H b) (k : ∀ b o, b ∉ fp → s.heap.get? b = some o → h'.get? b = some o) (hp : s.heap.objs.size ≤ p)
    (new : ObjOk X.prog X.w (upd H p o) h' p o) : Inv X pins σ (upd H p o) { s with heap := h', toks := t' } := by
  have hn := I.hok.fresh hp
  have hlt : ∀ b ob, s.heap.get? b = some ob → b ≠ p := fun b ob e => Nat.ne_of_lt (Nat.lt_of_lt_of_le (Heap.lt_size e) hp)
  refine I.call (g' := s.gens) (t' := t') (d' := s.drawn) (ch := fp) ⟨fun b o e _ _ hx => k b o hx e, fun b o e _ _ hx => ⟨o.slots, k b o hx e⟩, fun b ob e n _ => by rw [upd_ne (hlt b ob e)]; exact n, fun b o e hx => ⟨o, k b o hx e⟩,
    fun _ _ e => by rw [upd_ne (ne_of_none e hn)]; exact e, fun _ _ _ e => by rw [upd_ne (ne_of_none e hn)]; exact e, fun _ ps e => ⟨#[], by rw [upd_ne (ne_of_none e hn), e]; simp⟩⟩ (fun a u e => ?_) I.bare (fp_ch hf)
  by_cases ha : a = p
  · subst ha; rw [upd_same] at e; cases e; exact new
  · rw [upd_ne ha] at e
    refine (I.hok a u e).stay (fun b u hb q => k b u ?_ q) (fun b q => by rw [upd_ne (ne_of_none q hn)]; exact q) fun b xs q => by rw [upd_ne (ne_of_none q hn)]; exact q
    rcases hb with rfl | hb
    · exact fp_free hf e
    · exact fp_free hf hb
noncomputable def Ien (J : It) : It := ⟨J.go, fun i H x H' => ∃ p y, x = .ref p ∧ H p = none ∧ H' = upd H p (.tup [.int i, y]) ∧ J.yld i H y H, J.stop⟩
theorem pair_ok {P : Program} {w : World} {H : Hp} {h : Heap} {p : Addr} {x y : V} {u v : Value} (e : h.get? p = some { cls := .type "tuple", data := .seq #[u, v] }) (rx : RelV x u) (ry : RelV y v) : ObjOk P w H h p (.tup [x, y]) :=
  ⟨by rw [sizeLine_eq]; simp, [u, v], .cons rx (.cons ry .nil), ⟨_, e, rfl, _, rfl⟩⟩
theorem turn_enumL {P : Program} {w : World} {K : PySem.W.Frag} {elts : List Expr} {x1} {pos : Pos} (a e it : Addr) (hne : e ≠ it) : Turn P w K (.Tuple elts x1 pos) (Ien (Itl K a)) [e, it] e (fun i h => (∃ old, IsEnum h e it i old) ∧ h.IsListIter it a i) where
  mem := by simp
  obj := fun i h ⟨⟨old, he⟩, st⟩ b hb => by
    have hb : b = e ∨ b = it := by simpa using hb
    rcases hb with rfl | rfl
    · exact ⟨_, he, fun v z => by have z' : Data.fields _ = Data.cell v := z; cases z'⟩
    · obtain ⟨o, q, c, d⟩ := st
      exact ⟨o, q, fun v z => by rw [d] at z; cases z⟩
  keep := fun i h h' ⟨⟨old, he⟩, st⟩ k => ⟨⟨old, k e (by simp) _ he⟩, st.at fun o q => k it (by simp) o q⟩
  item := by
    intro X hP hw hK hc i pins s σ H E I hf ⟨⟨old, he⟩, st⟩ hg
    subst hP hw hK
    obtain ⟨xs, x, hq, hx⟩ := hg
    obtain ⟨its, rv, p, hz⟩ := I.list hq
    obtain ⟨u, hu, ru⟩ := rv.get hx
    refine enum_item (N := fun h => h.IsListIter it a (i + 1)) he hne (fun A' Q' E' hQ => wpAny_nextOf_list_item st p.isList (x := u) (by simpa using hu) fun h' st' sb => hQ h' st' sb) (fun h h' n k => n.at fun o q => k o q) fun h' eo n' t' z' kk => ?_
    refine ⟨_, rfl, wpAny_letOwnedTupleGo_enum eo fun h2 e2 sb2 => ?_⟩
    replace sb2 : Heap.SameBut e h' h2 := sb2
    have hlt : e < s.heap.objs.size := Heap.lt_size he
    have t2 := (sb2.2 s.heap.objs.size (Nat.ne_of_gt hlt)).trans t'
    have hfr := I.hok.fresh (Nat.le_refl s.heap.objs.size)
    have I2 : Inv X pins σ (upd H s.heap.objs.size (.tup [.int i, x])) { s with heap := h2, toks := s.toks + 1 } := by
      refine inv_turnedLaid I hf (fun b o hb q => ?_) (Nat.le_refl _) (pair_ok t2 ⟨_, rfl⟩ ru)
      simp only [List.mem_cons, List.not_mem_nil, or_false, not_or] at hb
      exact (sb2.2 b hb.1).trans (kk b o hb.1 hb.2 q)
    refine ⟨.ref s.heap.objs.size, _, I2, rfl, ⟨_, x, rfl, hfr, rfl, rfl, fun ys hy => by rw [I.list_inj hy hq]; exact hx⟩, ⟨⟨u, by simpa using e2⟩, n'.at fun o q => (sb2.2 it (Ne.symm hne)).trans q⟩, fun b hb => ?_⟩
    · rw [upd_ne]
      · exact (hf b hb).1
      · rintro rfl
        have hb : s.heap.objs.size = e ∨ s.heap.objs.size = it := by simpa using hb
        rcases hb with q | q
        · exact absurd hlt (by rw [q]; exact Nat.lt_irrefl _)
        · obtain ⟨o, qo, _⟩ := st; exact absurd (Heap.lt_size qo) (by rw [q]; exact Nat.lt_irrefl _)
  done := by
    intro X hP hw hK hc i pins s σ H E I hf ⟨⟨old, he⟩, st⟩ hg
    subst hP hw hK
    obtain ⟨xs, hq, hx⟩ := hg
    obtain ⟨its, rv, p, hz⟩ := I.list hq
    have hl := rv.length
    refine enum_end he (fun A' Q' E' hA hE => wpAny_nextOf_list_end (hA.trans (I.ok.hd hc)) st p.isList (by simp; omega) hE) fun h' eb => ⟨rfl, inv_turned (t' := s.toks) I hf fun b o hb q => eb b o (fun z => hb (by simp [z])) q⟩
  self := fun _ _ _ _ _ ⟨⟨old, he⟩, _⟩ h => wpAny_pyIter_enum he h
theorem turn_enumT {P : Program} {w : World} {K : PySem.W.Frag} {elts : List Expr} {x1} {pos : Pos} (a e it : Addr) (hne : e ≠ it) : Turn P w K (.Tuple elts x1 pos) (Ien (Itt K a)) [e, it] e (fun i h => (∃ old, IsEnum h e it i old) ∧ h.IsTupleIter it a i) where
  mem := by simp
  obj := fun i h ⟨⟨old, he⟩, st⟩ b hb => by
    have hb : b = e ∨ b = it := by simpa using hb
    rcases hb with rfl | rfl
    · exact ⟨_, he, fun v z => by have z' : Data.fields _ = Data.cell v := z; cases z'⟩
    · obtain ⟨o, q, c, d⟩ := st
      exact ⟨o, q, fun v z => by rw [d] at z; cases z⟩
  keep := fun i h h' ⟨⟨old, he⟩, st⟩ k => ⟨⟨old, k e (by simp) _ he⟩, st.at fun o q => k it (by simp) o q⟩
  item := by
    intro X hP hw hK hc i pins s σ H E I hf ⟨⟨old, he⟩, st⟩ hg
    subst hP hw hK
    obtain ⟨xs, x, hq, hx⟩ := hg
    obtain ⟨its, rv, p, hz⟩ := I.tuple hq
    obtain ⟨u, hu, ru⟩ := rv.get hx
    refine enum_item (N := fun h => h.IsTupleIter it a (i + 1)) he hne (fun A' Q' E' hQ => nextT st (show s.heap.IsTuple a its.toArray from p) (x := u) (by simpa using hu) fun h' st' sb => hQ h' st' sb) (fun h h' n k => n.at fun o q => k o q) fun h' eo n' t' z' kk => ?_
    refine ⟨_, rfl, wpAny_letOwnedTupleGo_enum eo fun h2 e2 sb2 => ?_⟩
    replace sb2 : Heap.SameBut e h' h2 := sb2
    have hlt : e < s.heap.objs.size := Heap.lt_size he
    have t2 := (sb2.2 s.heap.objs.size (Nat.ne_of_gt hlt)).trans t'
    have hfr := I.hok.fresh (Nat.le_refl s.heap.objs.size)
    have I2 : Inv X pins σ (upd H s.heap.objs.size (.tup [.int i, x])) { s with heap := h2, toks := s.toks + 1 } := by
      refine inv_turnedLaid I hf (fun b o hb q => ?_) (Nat.le_refl _) (pair_ok t2 ⟨_, rfl⟩ ru)
      simp only [List.mem_cons, List.not_mem_nil, or_false, not_or] at hb
      exact (sb2.2 b hb.1).trans (kk b o hb.1 hb.2 q)
    refine ⟨.ref s.heap.objs.size, _, I2, rfl, ⟨_, x, rfl, hfr, rfl, rfl, fun ys hy => by rw [I.tuple_inj hy hq]; exact hx⟩, ⟨⟨u, by simpa using e2⟩, n'.at fun o q => (sb2.2 it (Ne.symm hne)).trans q⟩, fun b hb => ?_⟩
    · rw [upd_ne]
      · exact (hf b hb).1
      · rintro rfl
        have hb : s.heap.objs.size = e ∨ s.heap.objs.size = it := by simpa using hb
        rcases hb with q | q
        · exact absurd hlt (by rw [q]; exact Nat.lt_irrefl _)
        · obtain ⟨o, qo, _⟩ := st; exact absurd (Heap.lt_size qo) (by rw [q]; exact Nat.lt_irrefl _)
  done := by
    intro X hP hw hK hc i pins s σ H E I hf ⟨⟨old, he⟩, st⟩ hg
    subst hP hw hK
    obtain ⟨xs, hq, hx⟩ := hg
    obtain ⟨its, rv, p, hz⟩ := I.tuple hq
    have hl := rv.length
    refine enum_end he (fun A' Q' E' hA hE => nextT_end (hA.trans (I.ok.hd hc)) st (show s.heap.IsTuple a its.toArray from p) (by simp; omega) hE) fun h' eb => ⟨rfl, inv_turned (t' := s.toks) I hf fun b o hb q => eb b o (fun z => hb (by simp [z])) q⟩
  self := fun _ _ _ _ _ ⟨⟨old, he⟩, _⟩ h => wpAny_pyIter_enum he h
theorem enum_newT (l : Addr) (items : Array Value) (n : Nat) (dct : Option Addr) (sl : Array (Option Value)) :
    Meets (Builtin.«enumerate.__new__» ⟨[.type "enumerate", .ref l], []⟩) (fun _ R s => s.heap.get? l = some { cls := .type "tuple", dict := dct, data := .seq items n, slots := sl } ∧
      R (.ok (.ret (.ref (s.heap.push { cls := .type "tuple_iterator", data := .fields #[.ref l, .int 0 0] }).objs.size)))
        { s with heap := (s.heap.push { cls := .type "tuple_iterator", data := .fields #[.ref l, .int 0 0] }).push { cls := .type "enumerate", data := .fields #[.none, .bool false, .ref s.heap.objs.size, rawInt 0, .none, .none] } }) :=
  .of_wp fun prog w A R s h => by
    obtain ⟨hp, g, d, tk, os⟩ := s
    obtain ⟨hl, h⟩ := h
    have hsub := sub_enumerate
    have hL : Heap.IsTuple (Shared.heap ⟨hp, g, d, tk, os⟩) l items := ⟨_, hl, rfl, n, rfl⟩
    wp_walk using AutoSeq1.wpAny_loadPart' hl
    refine wpAny_stack_any fun st => wpAny_pure ?_
    split
    · rename_i c _ _ _ _ _
      cases (c == Value.type "enumerate")
      · wp_walk using AutoSeq1.wpAny_loadPart' hl, wpAny_pyIter_tuple hL
        exact ⟨_, rfl, h⟩
      · wp_walk using AutoSeq1.wpAny_loadPart' hl, wpAny_pyIter_tuple hL
        exact ⟨_, rfl, h⟩
    · wp_walk using AutoSeq1.wpAny_loadPart' hl, wpAny_pyIter_tuple hL
      exact ⟨_, rfl, h⟩
theorem call_enumT {prog : Program} {w : World} {A : Around} {E : Value → Shared → Prop} {l : Addr} {items : Array Value} {Q : Value → Shared → Prop} (hL : s.heap.IsTuple l items)
    (h : ∀ h', IsEnum h' (s.heap.objs.size + 1) s.heap.objs.size 0 .none → h'.IsTupleIter s.heap.objs.size l 0 → h'.objs.size = s.heap.objs.size + 2 →
      (∀ b o, s.heap.get? b = some o → h'.get? b = some o) → Q (.ref (s.heap.objs.size + 1)) { s with heap := h' }) : wpAny (model prog w) A (call (.type "enumerate") [.ref l]) Q E s := by
  obtain ⟨⟨c, dct, dt, sl⟩, hl, hc, n, hd⟩ := hL
  replace hc : c = .type "tuple" := hc
  replace hd : dt = .seq items n := hd
  subst hc hd
  refine callType_new F.called_enumerate (by decide) (F.typeCall_enumerate_1 _) (F.newCall_enumerate_1 _) (fun obj => F.args_object_init_2 obj _) F.entry_enumerate_new (enum_newT l items n dct sl) ⟨hl, ?_⟩
  have hz : (s.heap.push { cls := .type "tuple_iterator", data := .fields #[.ref l, .int 0 0] }).objs.size = s.heap.objs.size + 1 := Heap.size_push ..
  have he : IsEnum ((s.heap.push { cls := .type "tuple_iterator", data := .fields #[.ref l, .int 0 0] }).push { cls := .type "enumerate", data := .fields #[.none, .bool false, .ref s.heap.objs.size, rawInt 0, .none, .none] }) (s.heap.objs.size + 1) s.heap.objs.size 0 .none := by
    have := Heap.get?_push_size (s.heap.push { cls := .type "tuple_iterator", data := .fields #[.ref l, .int 0 0] }) (o := { cls := .type "enumerate", data := .fields #[.none, .bool false, .ref s.heap.objs.size, rawInt 0, .none, .none] }) rfl
    rw [hz] at this; exact this
  show _ ∧ _
  rw [hz]
  exact ⟨⟨_, he, rfl⟩, h _ he ⟨_, Heap.get?_push_of_some _ (Heap.get?_push_size _ rfl), rfl, rfl⟩ (by rw [Heap.size_push, hz]) fun b o x => Heap.get?_push_of_some _ (Heap.get?_push_of_some _ x)⟩
noncomputable def iEnu (K : PySem.W.Frag) (tl : TE) : TI := fun σ H R => tl σ H fun x H1 => ∃ a, x = .ref a ∧ ((∃ xs, SqL K H1 a xs) ∧ R (Ien (Itl K a)) H1 ∨ (∃ xs, SqT K H1 a xs) ∧ R (Ien (Itt K a)) H1)
theorem pi_enum {l : Expr} {tl : TE} {elts : List Expr} {x1} {tp p pos : Pos} (hg : Gl X "enumerate") (hm : X.mg "enumerate" = none) (hv : bootBuiltins "enumerate" = some (.type "enumerate")) (hl : PE X l tl) (hs : starEach [l] X.env = [(false, eval l X.env)] := by rfl) :
    PI X (.Tuple elts x1 tp) (.Call (.Name "enumerate" p) [l] [] pos) (iEnu X.K tl) := by
  intro pins s σ H R I h
  refine Call_ (ld_blt I hg hm hv (PyProof.Rows.callWith_type1 (thn (pa_cons hl pa_nil hs pos pins s σ H (fun vs H1 => match vs with
    | [x] => ∃ a, x = .ref a ∧ ((∃ xs, SqL X.K H1 a xs) ∧ R (Ien (Itl X.K a)) H1 ∨ (∃ xs, SqT X.K H1 a xs) ∧ R (Ien (Itt X.K a)) H1)
    | _ => False) I h) fun us s1 ⟨vs, H1, I1, r1, q1⟩ => ?_) hs rfl))
  dsimp only at q1
  split at q1
  case h_2 => exact q1.elim
  obtain ⟨a, e, q⟩ := q1
  subst e
  cases r1 with
  | cons r rr =>
    cases rr
    cases r
    have fin : ∀ h' : Heap, (∀ b o, s1.heap.get? b = some o → h'.get? b = some o) → ∀ b ∈ [s1.heap.objs.size + 1, s1.heap.objs.size], FpOk X pins H1 b := fun h' kp b hb => by
      have hb : b = s1.heap.objs.size + 1 ∨ b = s1.heap.objs.size := by simpa using hb
      rcases hb with rfl | rfl
      · exact I1.fpOk (Nat.le_succ _) (I1.hok.fresh (Nat.le_succ _))
      · exact I1.fpOk (Nat.le_refl _) (I1.hok.fresh (Nat.le_refl _))
    have hne : s1.heap.objs.size + 1 ≠ s1.heap.objs.size := Nat.succ_ne_self _
    rcases q with ⟨⟨xs, hq⟩, q⟩ | ⟨⟨xs, hq⟩, q⟩
    · obtain ⟨its, rv, pl, hz⟩ := I1.list hq
      refine call_enumerate_list pl.isList fun h' e1 i1 z1 kp => ?_
      refine wpAny_pyIter_enum (s := { s1 with heap := h' }) e1 ?_
      exact ⟨_, [s1.heap.objs.size + 1, s1.heap.objs.size], _, _, H1, rfl, I1.kept (t' := s1.toks) kp, turn_enumL a _ _ hne, ⟨⟨_, e1⟩, i1⟩, fin h' kp, q⟩
    · obtain ⟨its, rv, pl, hz⟩ := I1.tuple hq
      refine call_enumT (show s1.heap.IsTuple a its.toArray from pl) fun h' e1 i1 z1 kp => ?_
      refine wpAny_pyIter_enum (s := { s1 with heap := h' }) e1 ?_
      exact ⟨_, [s1.heap.objs.size + 1, s1.heap.objs.size], _, _, H1, rfl, I1.kept (t' := s1.toks) kp, turn_enumT a _ _ hne, ⟨⟨_, e1⟩, i1⟩, fin h' kp, q⟩
noncomputable def enumD (ds : List D) : List D := ds.zipIdx.map fun p => .tup [.int (p.2 : Nat), p.1]
theorem enumD_len (ds : List D) : (enumD ds).length = ds.length := by simp [enumD]
theorem enumD_at {ds : List D} {i : Nat} {d : D} (h : (enumD ds)[i]? = some d) : ∃ y, ds[i]? = some y ∧ d = .tup [.int i, y] := by
  unfold enumD at h
  rw [List.getElem?_map, List.getElem?_zipIdx] at h
  cases e : ds[i]? with
  | none => rw [e] at h; cases h
  | some y =>
    rw [e] at h
    refine ⟨y, rfl, ?_⟩
    have := Option.some.inj h
    rw [← this]
    simp
@[simp] noncomputable def iEnum (φ : FE) : FI := fun δ μ => (φ δ μ).bind fun p => match p.1 with
  | .tup ds => some (enumD ds, yes, p.2)
  | .fz ds => some (enumD ds, yes, p.2)
  | .loc n => match p.2[n]? with
    | some (.lst ds) => some (enumD ds, stays n ds, p.2)
    | _ => none
  | _ => none
theorem enum_is {K : PySem.W.Frag} {J : It} {ρ : List Addr} {H : Hp} {ds : List D} {ok : Mem → Bool} (h : ItIs K J ρ H ds ok) : ItIs K (Ien J) ρ H (enumD ds) ok := by
  refine ⟨fun ρ' H' μ' i x R o hi => h.go ρ' H' μ' i x R o (by rw [enumD_len] at hi; exact hi), fun ρ' H' μ' i x H'' d x' R o e ⟨p, y, e1, hp, e2, yl⟩ => ?_, fun ρ' H' μ' x R o => by rw [enumD_len]; exact h.stop ρ' H' μ' x R o⟩
  obtain ⟨z, ez, rfl⟩ := enumD_at e
  obtain ⟨_, _, rz⟩ := h.yld ρ' H' μ' i y H' z x' R o ez yl
  subst e1 e2
  exact ⟨Ext.new hp, R.newTup hp, .tup upd_same (.cons .int (.cons (rz.ext (Ext.new hp)) .nil))⟩
theorem mi_enum {a : Expr} {φ : FE} {elts : List Expr} {x1} {tp p pos : Pos} (hm : X.mg "enumerate" = none) (hv : bootBuiltins "enumerate" = some (.type "enumerate")) (h : ME X a φ) (hg : Gl X "enumerate" := by rfl) (hs : starEach [a] X.env = [(false, eval a X.env)] := by rfl) :
    MI X (.Tuple elts x1 tp) (.Call (.Name "enumerate" p) [a] [] pos) (iEnum φ) :=
  mi_of (pi_enum hg hm hv h hs) fun ρ δ μ σ H ds ok μ' R A e k => by
    obtain ⟨⟨x, μ1⟩, e1, e⟩ := bind_inv e
    refine ⟨ρ, δ, μ, x, μ1, A, e1, fun ρ1 H1 v1 x1 R1 r1 => ?_⟩
    dsimp only at e
    split at e
    · cases e
      obtain ⟨a, vs, rfl, e2, q2⟩ := r1.tup_inv
      exact ⟨a, rfl, .inr ⟨⟨vs, SqT.of e2⟩, k ρ1 H1 _ x1 R1 (enum_is (itt_is e2 q2))⟩⟩
    · cases e
      obtain ⟨a, vs, rfl, e2, q2⟩ := r1.fz_inv
      exact ⟨a, rfl, .inl ⟨⟨vs, e2.sq⟩, k ρ1 H1 _ x1 R1 (enum_is (itl_is fun ρ' H' μ' x _ _ => ⟨vs, (x.fz e2).sq, q2.ext x⟩))⟩⟩
    · split at e
      · rename_i hm
        cases e
        obtain ⟨a, rfl, e2⟩ := r1.loc_inv
        obtain ⟨vs, e3, q3⟩ := R1.at_ _ _ _ e2 hm
        refine ⟨a, rfl, .inl ⟨⟨vs, SqL.of e3⟩, k ρ1 H1 _ x1 R1 (enum_is (itl_is fun ρ' H' μ'' x R' o => ?_))⟩⟩
        obtain ⟨vs', e4, q4⟩ := R'.at_ _ _ _ (x.get e2) (stays_iff.mp o)
        exact ⟨vs', SqL.of e4, q4⟩
      · cases e
    · cases e
end
end M
set_option Elab.async false
set_option linter.all false
set_option maxRecDepth 100000
set_option autoImplicit false
namespace M
open PySem PySem.Spec PyProof.Rows L2
section
variable {X : Cx} {a b c e : Expr} {es : List Expr} {φ ψ χ : FE} {pos : Pos}
@[simp] noncomputable def fMeth0 (g : GM) (φ : FE) : FE := fun δ μ => (φ δ μ).bind fun p => match p.1 with
  | .loc n => match p.2[n]? with
    | some (.lst _) => g (.loc n) [] p.2
    | _ => none
  | _ => none
theorem me_meth0 {o : Expr} {name : Str} {id : String} {g : GM} {apos : Pos} (slot : Slot "list" name id) (hty : typeOf (.builtin id) = pure (.type "method_descriptor")) (hm : MtG X id g) (ho : ME X o φ)
    (hbase : attributeBase o name X.env (eval o X.env) = eval o X.env := by rfl) (hline : (apos.endLine == pos.line) = true := by rfl) : ME X (.Call (.Attribute o name apos) [] [] pos) (fMeth0 g φ) :=
  me_of (pe_bm0 PySem.F.plainAttrs_list slot hty hm ho hbase hline) fun ρ δ μ σ H d μ' Q A e k => by
    obtain ⟨⟨x, μ1⟩, e1, e⟩ := bind_inv e
    refine ⟨ρ, δ, μ, x, μ1, A, e1, fun ρ1 H1 v x1 R1 r1 => ?_⟩
    dsimp only at e
    split at e
    · split at e
      · rename_i hm'
        obtain ⟨a, rfl, ea⟩ := r1.loc_inv
        obtain ⟨vs, e3, q3⟩ := R1.at_ _ _ _ ea hm'
        exact ⟨.inl ⟨rfl, vs, SqL.of e3⟩, ρ1, _, [], μ1, d, μ', r1, .nil, R1, e, fun ρ3 H3 v3 x3 R3 r3 => k ρ3 H3 v3 (x1.trans x3) R3 r3⟩
      · cases e
    · cases e
@[simp] noncomputable def gClear : GM := fun x ds μ => match x, ds with
  | .loc n, [] => match μ[n]? with
    | some (.lst _) => some (.non, μ.set n (.lst []))
    | _ => none
  | _, _ => none
@[simp] noncomputable def gPop : GM := fun x ds μ => match x, ds with
  | .loc n, [] => match μ[n]? with
    | some (.lst xs) => (xs[xs.length - 1]?).bind fun d => some (d, μ.set n (.lst xs.dropLast))
    | _ => none
  | _, _ => none
theorem rep_dropLast {K : PySem.W.Frag} {ρ : List Addr} {H : Hp} {ds : List D} {vs : List V} (r : RepVs K ρ H ds vs) : RepVs K ρ H ds.dropLast vs.dropLast := by
  rw [List.dropLast_eq_take, List.dropLast_eq_take, r.length]
  exact r.take _
theorem mtG_pop : MtG X "list.pop" gPop := by
  intro pins s σ H x xs v us Q I rx rs ⟨ρ, dx, ds, μ, d, μ', r1, r2, R, e, k⟩
  unfold gPop at e
  split at e
  · split at e
    · rename_i hm
      obtain ⟨y, e2, e⟩ := bind_inv e
      cases e
      obtain ⟨a, rfl, ea⟩ := r1.loc_inv
      obtain ⟨vs, e3, q3⟩ := R.at_ _ _ _ ea hm
      have hmu : Mut (H a) := by rw [e3]; trivial
      obtain ⟨w, hw, rw'⟩ := q3.get e2
      rw [q3.length] at hw
      exact mt_pop pins s σ H _ _ v us Q I rx rs ⟨a, vs, w, rfl, r2.nil_inv, e3, hw, k ρ _ _ (Ext.wr hmu) (R.wr hmu ea ⟨_, upd_same, RepVs.ext (Ext.wr hmu) (rep_dropLast q3)⟩) (rw'.ext (Ext.wr hmu))⟩
    · cases e
  · cases e
theorem me_pop {o : Expr} {apos : Pos} (ho : ME X o φ) (hbase : attributeBase o "pop" X.env (eval o X.env) = eval o X.env := by rfl) (hline : (apos.endLine == pos.line) = true := by rfl) : ME X (.Call (.Attribute o "pop" apos) [] [] pos) (fMeth0 gPop φ) :=
  me_meth0 PySem.F.slot_list_pop PySem.F.type_list_pop mtG_pop ho hbase hline
@[simp] noncomputable def gCount : GM := fun x ds μ => match x, ds with
  | .loc n, [d] => match μ[n]? with
    | some (.lst xs) => bif flatD d && xs.all flatD then some (.int (xs.countP fun y => eqF y d : Nat), μ) else none
    | _ => none
  | _, _ => none
@[simp] noncomputable def gRemove : GM := fun x ds μ => match x, ds with
  | .loc n, [.int i] => match μ[n]? with
    | some (.lst xs) => (intsD xs).bind fun ns => bif ns.contains i then some (.non, μ.set n (.lst ((ns.erase i).map .int))) else none
    | _ => none
  | _, _ => none
@[simp] noncomputable def sAug (i : Nat) (g : G2) (φ : FE) : FS := fun δ μ => match δ[i]? with
  | some (some x) => (φ δ μ).bind fun p => (g x p.1 p.2).bind fun q => some (.next (δ.set i (some q.1)) q.2)
  | _ => none
noncomputable def gAddI : G2 := fun x y μ => match x, y with
  | .int i, .int j => some (.int (i + j), μ)
  | _, _ => none
noncomputable def gMulI : G2 := fun x y μ => match x, y with
  | .int i, .int j => bif decide (-(2 ^ 64) < j ∧ j < 2 ^ 64) then some (.int (i * j), μ) else none
  | _, _ => none
theorem ipM_mul : OpM X (inplaceOp .Mult) gMulI := by
  intro pins s σ H x y v u Q I rx ry ⟨ρ, dx, dy, μ, d, μ', r1, r2, R, e, k⟩
  unfold gMulI at e
  split at e
  · obtain ⟨h1, e⟩ := bif_inv e
    cases e
    exact iop_mul pins s σ H x y v u Q I rx ry ⟨_, _, r1.int_inv, r2.int_inv, .inr (of_decide_eq_true h1), k ρ H _ Ext.refl R .int⟩
  · cases e
theorem ms_aug {x : Str} {op : Operator} {g : G2} {pos' : Pos} (i : Nat) (ho : OpM X (inplaceOp op) g) (he : ME X e φ) (hN : X.N.Nodup := by assumption) (hi : X.N[i]? = some x := by rfl) (hx : L2.Loc X.env.scope x := by first | exact Or.inl rfl | exact Or.inr rfl)
    (hf : X.fn x = true ∨ X.env.scope.names.lookup x = some .local := by first | exact .inl rfl | exact .inr rfl | assumption) : MS X (.AugAssign (.Name x pos') op e pos) (sAug i g φ) :=
  ms_of (ps_aug (ti := rM X.K g) hN hi hx he (fun pins s σ H x y v u Q I rx ry q => ho pins s σ H x y v u Q I rx ry q) hf) fun ρ δ μ σ H o E A e k => by
    unfold sAug at e
    split at e
    · rename_i d hd
      obtain ⟨v, hv, rv⟩ := A.st i _ hd
      obtain ⟨⟨y, μ1⟩, e1, e⟩ := bind_inv e
      obtain ⟨⟨z, μ2⟩, e2, e⟩ := bind_inv e
      cases e
      refine ⟨v, hv, ρ, δ, μ, y, μ1, A, e1, fun ρ1 H1 w x1 R1 r1 => ?_⟩
      refine ⟨ρ1, d, y, μ1, z, μ2, rv.ext x1, r1, R1, e2, fun ρ2 H2 w2 x2 R2 r2 => ?_⟩
      exact k ρ2 _ H2 (x1.trans x2) ((A.ext (x1.trans x2) R2).set r2 i)
    · cases e
noncomputable def whileIt (c : FT) (body : FS) : Nat → FS
  | 0, _, _ => none
  | n + 1, δ, μ => (c δ μ).bind fun p => bif p.1 then (match body δ p.2 with
    | some (.next δ' μ') => whileIt c body n δ' μ'
    | some (.cont δ' μ') => whileIt c body n δ' μ'
    | some (.brk δ' μ') => some (.next δ' μ')
    | some (.ret d μ') => some (.ret d μ')
    | some (.exc C fs μ') => some (.exc C fs μ')
    | none => none) else some (.next δ p.2)
noncomputable def sWhile (n : Nat) (c : FT) (body : FS) : FS := whileIt c body n
theorem ms_while {body : List Stmt} {t : FT} {p : FS} (n : Nat) (hc : MT X c t) (hb : MSs X body p) (hx : PassesOwn (model X.prog X.w) X.A X.env X.xe := by first | exact PassesOwn.never | exact PassesOwn.leaving) : MS X (.While c body [] pos) (sWhile n t p) :=
  ms_of (ps_while hx hc hb) fun ρ δ μ σ H o E A e k => by
    refine ⟨fun m σ' H' => ∃ ρ' δ' μ', Ext ρ H ρ' H' ∧ At X.K ρ' H' σ' δ' μ' ∧ whileIt t p m δ' μ' = some o, ⟨n, ρ, δ, μ, Ext.refl, A, e⟩, ?_⟩
    rintro m σ' H' ⟨ρ', δ', μ', x', A', ew⟩
    cases m with
    | zero => cases ew
    | succ m =>
      unfold whileIt at ew
      obtain ⟨⟨b, μ1⟩, e1, ew⟩ := bind_inv ew
      refine ⟨ρ', δ', μ', b, μ1, A', e1, fun ρ1 H1 x1 R1 => ?_⟩
      have xx := x'.trans x1
      cases b with
      | false =>
        cases ew
        exact iteF (k ρ1 σ' H1 xx (A'.ext x1 R1))
      | true =>
        refine iteT ⟨fun σ3 H3 => ∃ ρ3 δ3 μ3, Ext ρ H ρ3 H3 ∧ At X.K ρ3 H3 σ3 δ3 μ3 ∧ whileIt t p m δ3 μ3 = some o, fun σ3 H3 q => ⟨m, Nat.lt_succ_self _, q⟩, ?_⟩
        dsimp only [cond_true] at ew
        cases eb : p δ' μ1 with
        | none => rw [eb] at ew; cases ew
        | some ob =>
          rw [eb] at ew
          refine ⟨ρ1, δ', μ1, ob, A'.ext x1 R1, eb, ?_⟩
          cases ob with
          | next δ6 μ6 => exact fun ρ6 σ6 H6 x6 A6 => ⟨ρ6, δ6, μ6, xx.trans x6, A6, ew⟩
          | cont δ6 μ6 => exact fun ρ6 σ6 H6 x6 A6 => ⟨ρ6, δ6, μ6, xx.trans x6, A6, ew⟩
          | brk δ6 μ6 => cases ew; exact k.ext xx
          | ret d μ6 => cases ew; exact k.ext xx
          | exc C fs μ6 => cases ew; exact k.ext xx
end
end M
set_option Elab.async false
set_option linter.all false
set_option maxRecDepth 100000
set_option autoImplicit false
namespace M
open PySem PySem.Spec PyProof.Rows L2
section
variable {X : Cx} {a b c e : Expr} {es : List Expr} {φ ψ χ : FE} {pos : Pos}
end
end M
set_option Elab.async false
set_option linter.all false
set_option maxRecDepth 100000
namespace L2
open PySem PySem.Spec PyProof.Rows
section
variable {κ : Type} [DecidableEq κ]
noncomputable def valV (kvs : List (κ × V)) (k : κ) : Option V := (kvs.find? fun kv => decide (kv.1 = k)).map (·.2)
noncomputable def putK (kvs : List (κ × V)) (k : κ) (v : V) : List (κ × V) :=
  if (kvs.any fun kv => decide (kv.1 = k)) = true then kvs.map (fun kv => if kv.1 = k then (kv.1, v) else kv) else kvs ++ [(k, v)]
theorem valV_pos {p : κ × V} {r : List (κ × V)} {k : κ} (e : p.1 = k) : valV (p :: r) k = some p.2 := by simp [valV, List.find?_cons, e]
theorem valV_neg {p : κ × V} {r : List (κ × V)} {k : κ} (e : ¬ p.1 = k) : valV (p :: r) k = valV r k := by simp [valV, List.find?_cons, e]
theorem length_putK (kvs : List (κ × V)) (k : κ) (v : V) : (putK kvs k v).length ≤ kvs.length + 1 := by
  unfold putK
  split
  · rw [List.length_map]; omega
  · rw [List.length_append, List.length_cons, List.length_nil]; omega
theorem RelO.isSome_eq {o : Option V} {u : Option Value} (r : RelO o u) : o.isSome = u.isSome := by
  cases o with
  | none => cases u with
    | none => rfl
    | some _ => exact (show False from r).elim
  | some _ => cases u with
    | none => exact (show False from r).elim
    | some _ => rfl
theorem KV.val {kvs : List (κ × V)} {vs : List (κ × Value)} (r : KV kvs vs) (k : κ) : RelO (valV kvs k) (valueAt vs k) := by
  unfold KV at r
  induction r with
  | nil => exact True.intro
  | @cons p q ps qs h t ih =>
    obtain ⟨h1, h2⟩ := h
    by_cases e : p.1 = k
    · have e' : q.1 = k := h1.symm.trans e
      have b : valueAt (q :: qs) k = some q.2 := by simp [valueAt, List.find?_cons, e']
      rw [valV_pos e, b]; exact h2
    · have e' : ¬ q.1 = k := fun z => e (h1.trans z)
      have b : valueAt (q :: qs) k = valueAt qs k := by simp [valueAt, List.find?_cons, e']
      rw [valV_neg e, b]; exact ih
theorem KV.any {kvs : List (κ × V)} {vs : List (κ × Value)} (r : KV kvs vs) (k : κ) : (kvs.any fun kv => decide (kv.1 = k)) = vs.any fun kv => decide (kv.1 = k) := by
  unfold KV at r
  induction r with
  | nil => rfl
  | cons h t ih => rw [List.any_cons, List.any_cons, ih, h.1]
theorem KV.repl {kvs : List (κ × V)} {vs : List (κ × Value)} (r : KV kvs vs) (k : κ) {y : V} {u : Value} (ry : RelV y u) :
    KV (kvs.map fun kv => if kv.1 = k then (kv.1, y) else kv) (vs.map fun kv => if kv.1 = k then (kv.1, u) else kv) := by
  unfold KV at r ⊢
  induction r with
  | nil => exact .nil
  | @cons p q ps qs h t ih =>
    rw [List.map_cons, List.map_cons]
    refine .cons ?_ ih
    obtain ⟨h1, h2⟩ := h
    by_cases e : p.1 = k
    · rw [if_pos e, if_pos (h1.symm.trans e)]; exact ⟨h1, ry⟩
    · rw [if_neg e, if_neg (fun z => e (h1.trans z))]; exact ⟨h1, h2⟩
theorem KV.put {kvs : List (κ × V)} {vs : List (κ × Value)} (r : KV kvs vs) (k : κ) {y : V} {u : Value} (ry : RelV y u) : KV (putK kvs k y) (stored vs k u) := by
  unfold putK stored
  rw [r.any k]
  by_cases e : (vs.any fun kv => decide (kv.1 = k)) = true
  · rw [if_pos e, if_pos e]; exact r.repl k ry
  · rw [if_neg e, if_neg e]; exact Paired.snoc r ⟨rfl, ry⟩
theorem KV.length {kvs : List (κ × V)} {vs : List (κ × Value)} (r : KV kvs vs) : kvs.length = vs.length := Paired.length r
end
theorem kV_is {P : Program} {w : World} {k : Key} {u : Value} (r : RelV (kV k) u) : (mixKind P w).is k u = true := by
  cases k with
  | inl i => obtain ⟨t, e⟩ := (show ∃ t, u = Value.int i t from r); subst e; exact mixKind_int P w i t
  | inr x => obtain ⟨t, e⟩ := (show ∃ t, u = Value.str x t from r); subst e; exact mixKind_str P w x t
theorem dk_of {P : Program} {w : World} {H : Hp} {h : Heap} {a : Addr} {kvs : List (Key × V)} (ok : HOk P w H h) (e : H a = some (.dK kvs)) : kvs.length ≤ sizeLine ∧ (a == sysModules) = false ∧ ∃ vs, KV kvs vs ∧ h.DictOf (mixKind P w) a vs :=
  show ObjOk P w H h a (.dK kvs) from ok a _ e
end L2
set_option Elab.async false
set_option linter.all false
set_option maxRecDepth 100000
set_option autoImplicit false
namespace M
open PySem PySem.Spec PyProof.Rows L2
noncomputable def lookD (kvs : List (Int × D)) (i : Int) : Option D := (kvs.find? fun p => decide (p.1 = i)).map (·.2)
noncomputable def putD (kvs : List (Int × D)) (i : Int) (d : D) : List (Int × D) := if (kvs.any fun p => decide (p.1 = i)) = true then kvs.map (fun p => if p.1 = i then (p.1, d) else p) else kvs ++ [(i, d)]
@[simp] noncomputable def dictOf (μ : Mem) : D → Option (List (Int × D))
  | .loc n => match μ[n]? with
    | some (.dct kvs) => some kvs
    | some (.dcf kvs) => some kvs
    | _ => none
  | _ => none
noncomputable def RdK (H : Hp) (a : Addr) (vs : List (Key × V)) : Prop := H a = some (.dK vs) ∨ ∃ o, H a = some (.frz o (.dK vs))
theorem rdk_of {P : Program} {w : World} {H : Hp} {h : Heap} {a : Addr} {kvs : List (Key × V)} (ok : HOk P w H h) (e : RdK H a kvs) : kvs.length ≤ sizeLine ∧ (a == sysModules) = false ∧ ∃ vs, KV kvs vs ∧ h.DictOf (mixKind P w) a vs := by
  rcases e with e | ⟨o, e⟩
  · exact dk_of ok e
  · exact (show ObjOk P w H h a (.frz o (.dK kvs)) from ok a _ e).2
section
variable {K : PySem.W.Frag} {ρ : List Addr} {H : Hp} {μ : Mem}
theorem dict_rep {d : D} {v : V} {kvs : List (Int × D)} (R : RepH K ρ H μ) (r : RepV K ρ H d v) (e : dictOf μ d = some kvs) : ∃ p vs, v = .ref p ∧ RdK H p vs ∧ vs.map (·.1) = kvs.map (fun p => Sum.inl p.1) ∧ RepVs K ρ H (kvs.map (·.2)) (vs.map (·.2)) := by
  unfold dictOf at e
  split at e
  · split at e
    · rename_i hm
      cases e
      obtain ⟨a, e1, e2⟩ := r.loc_inv
      obtain ⟨vs, e3, q1, q2⟩ := R.at_ _ _ _ e2 hm
      exact ⟨a, vs, e1, .inl e3, q1, q2⟩
    · rename_i hm
      cases e
      obtain ⟨a, e1, e2⟩ := r.loc_inv
      obtain ⟨o, vs, e3, q1, q2⟩ := R.at_ _ _ _ e2 hm
      exact ⟨a, vs, e1, .inr ⟨o, e3⟩, q1, q2⟩
    · cases e
  · cases e
theorem look_rep : ∀ {kvs : List (Int × D)} {vs : List (Key × V)} (i : Int), vs.map (·.1) = kvs.map (fun p => Sum.inl p.1) → RepVs K ρ H (kvs.map (·.2)) (vs.map (·.2)) →
    (∀ d, lookD kvs i = some d → ∃ v, valV vs (Sum.inl i) = some v ∧ RepV K ρ H d v) ∧ (lookD kvs i = none → valV vs (Sum.inl i) = none)
  | [], vs, i, h1, h2 => by
    have : vs = [] := by simpa using h1
    subst this
    exact ⟨fun d h => (by cases h), fun _ => rfl⟩
  | (j, d) :: kvs, vs, i, h1, h2 => by
    cases vs with
    | nil => simp at h1
    | cons q vs =>
      obtain ⟨k, v⟩ := q
      rw [List.map_cons, List.map_cons, List.cons.injEq] at h1
      obtain ⟨hk, h1⟩ := h1
      have hk : k = Sum.inl j := hk
      subst hk
      obtain ⟨v', r, e, q1, q2⟩ := h2.cons_inv
      rw [List.map_cons, List.cons.injEq] at e
      obtain ⟨e1, e2⟩ := e
      subst e2
      have e1 : v = v' := e1
      subst e1
      obtain ⟨ih1, ih2⟩ := look_rep i h1 q2
      by_cases hj : j = i
      · subst hj
        have a1 : lookD ((j, d) :: kvs) j = some d := by simp [lookD]
        have a2 : valV ((Sum.inl j, v) :: vs) (Sum.inl j) = some v := valV_pos rfl
        rw [a1, a2]
        exact ⟨fun d' h => (by cases h; exact ⟨v, rfl, q1⟩), fun h => (by cases h)⟩
      · have a1 : lookD ((j, d) :: kvs) i = lookD kvs i := by simp [lookD, hj]
        have a2 : valV ((Sum.inl j, v) :: vs) (Sum.inl i) = valV vs (Sum.inl i) := valV_neg (fun z => hj (by simpa using z))
        rw [a1, a2]
        exact ⟨ih1, ih2⟩
theorem put_keys (kvs : List (Int × D)) (vs : List (Key × V)) (i : Int) (d : D) (v : V) (h : vs.map (·.1) = kvs.map (fun p => Sum.inl p.1)) : (putK vs (Sum.inl i) v).map (·.1) = (putD kvs i d).map (fun p => Sum.inl p.1) := by
  have hany : (vs.any fun kv => decide (kv.1 = Sum.inl i)) = kvs.any fun p => decide (p.1 = i) := by
    have e1 : (vs.any fun kv => decide (kv.1 = Sum.inl i)) = (vs.map (·.1)).any fun k => decide (k = Sum.inl i) := by rw [List.any_map]; rfl
    rw [e1, h, List.any_map]
    congr 1
    funext p
    simp
  unfold putK putD
  rw [hany]
  split
  · rw [List.map_map, List.map_map]
    have e1 : (fun x : Key × V => x.1) ∘ (fun kv => if kv.1 = Sum.inl i then (kv.1, v) else kv) = fun x => x.1 := by
      funext x; simp only [Function.comp]; split <;> rfl
    have e2 : (fun p : Int × D => (Sum.inl p.1 : Key)) ∘ (fun p => if p.1 = i then (p.1, d) else p) = fun p => Sum.inl p.1 := by
      funext x; simp only [Function.comp]; split <;> rfl
    rw [e1, e2]; exact h
  · simp [h]
theorem put_vals : ∀ (kvs : List (Int × D)) (vs : List (Key × V)) (i : Int) {d : D} {v : V}, RepV K ρ H d v → vs.map (·.1) = kvs.map (fun p => Sum.inl p.1) → RepVs K ρ H (kvs.map (·.2)) (vs.map (·.2)) →
    RepVs K ρ H ((kvs.map fun p => if p.1 = i then (p.1, d) else p).map (·.2)) ((vs.map fun kv => if kv.1 = Sum.inl i then (kv.1, v) else kv).map (·.2))
  | [], vs, i, d, v, r, h1, h2 => by
    have : vs = [] := by simpa using h1
    subst this
    exact .nil
  | (j, e) :: kvs, vs, i, d, v, r, h1, h2 => by
    cases vs with
    | nil => simp at h1
    | cons q vs =>
      obtain ⟨k, u⟩ := q
      rw [List.map_cons, List.map_cons, List.cons.injEq] at h1
      obtain ⟨hk, h1⟩ := h1
      have hk : k = Sum.inl j := hk
      subst hk
      obtain ⟨v', r', e', q1, q2⟩ := h2.cons_inv
      rw [List.map_cons, List.cons.injEq] at e'
      obtain ⟨e1, e2⟩ := e'
      subst e2
      have e1 : u = v' := e1
      subst e1
      have ih := put_vals kvs vs i r h1 q2
      simp only [List.map_cons]
      by_cases hj : j = i
      · subst hj
        rw [if_pos rfl, if_pos rfl]
        exact .cons r ih
      · rw [if_neg hj, if_neg (fun z => hj (by simpa using z))]
        exact .cons q1 ih
theorem put_rep {kvs : List (Int × D)} {vs : List (Key × V)} {i : Int} {d : D} {v : V} (r : RepV K ρ H d v) (h1 : vs.map (·.1) = kvs.map (fun p => Sum.inl p.1)) (h2 : RepVs K ρ H (kvs.map (·.2)) (vs.map (·.2))) :
    RepVs K ρ H ((putD kvs i d).map (·.2)) ((putK vs (Sum.inl i) v).map (·.2)) := by
  have hany : (vs.any fun kv => decide (kv.1 = Sum.inl i)) = kvs.any fun p => decide (p.1 = i) := by
    have e1 : (vs.any fun kv => decide (kv.1 = Sum.inl i)) = (vs.map (·.1)).any fun k => decide (k = Sum.inl i) := by rw [List.any_map]; rfl
    rw [e1, h1, List.any_map]
    congr 1
    funext p
    simp
  unfold putK putD
  rw [hany]
  split
  · exact put_vals kvs vs i r h1 h2
  · simp only [List.map_append, List.map_cons, List.map_nil]
    exact h2.append (.cons r .nil)
end
section
variable {X : Cx} {a b c e : Expr} {es : List Expr} {φ ψ χ : FE} {pos : Pos}
@[simp] noncomputable def gDix : G2 := fun x y μ => match y with
  | .int i => (dictOf μ x).bind fun kvs => (lookD kvs i).bind fun d => some (d, μ)
  | _ => none
theorem getD_at {pins : List (Addr × Obj)} {s : Shared} {σ : L2.St} {H : Hp} {p : Addr} {vs : List (Key × V)} {k : Key} {v : V} {u : Value} {A : Around} {E : Value → Shared → Prop} {Q : Value → Shared → Prop} (I : Inv X pins σ H s) (e : RdK H p vs) (l : valV vs k = some v) (ry : RelV (kV k) u)
    (h : ∀ w' s', Inv X pins σ H s' → RelV v w' → Q w' s') : wpAny (model X.prog X.w) A (getItem (.ref p) u) Q E s := by
  obtain ⟨z, hd, us, rel, dd⟩ := rdk_of I.hok e
  obtain ⟨w', hw, rw'⟩ := RelO.some_of (v := v) (o := valueAt us k) (by rw [← l]; exact rel.val k)
  exact wpAny_getItem_of (kV_is ry) dd.mapOf hw (h w' _ (I.tok _) rw')
@[simp] noncomputable def gDnotIn : G2 := fun x y μ => match x with
  | .int i => (dictOf μ y).bind fun kvs => some (.bl (!(lookD kvs i).isSome), μ)
  | _ => none
theorem some_iff {K : PySem.W.Frag} {ρ : List Addr} {H : Hp} {kvs : List (Int × D)} {vs : List (Key × V)} (i : Int) (q1 : vs.map (·.1) = kvs.map (fun p => Sum.inl p.1)) (q2 : RepVs K ρ H (kvs.map (·.2)) (vs.map (·.2))) : (valV vs (Sum.inl i)).isSome = (lookD kvs i).isSome := by
  obtain ⟨h1, h2⟩ := look_rep i q1 q2
  cases e : lookD kvs i with
  | none => rw [h2 e]; rfl
  | some d =>
    obtain ⟨v, ev, _⟩ := h1 d e
    rw [ev]; rfl
theorem opM_dnotIn : OpM X (compareOp .NotIn) gDnotIn := by
  intro pins s σ H x y v u Q I rx ry ⟨ρ, dx, dy, μ, d, μ', r1, r2, R, e, k⟩
  unfold gDnotIn at e
  split at e
  · rename_i i
    obtain ⟨kvs, e1, e⟩ := bind_inv e
    cases e
    obtain ⟨p, vs, rfl, hq, q1, q2⟩ := dict_rep R r2 e1
    cases ry
    rw [r1.int_inv] at rx
    obtain ⟨z, hd, us, rel, dd⟩ := rdk_of I.hok hq
    refine wpAny_notIn_of (kV_is (k := Sum.inl i) rx) hd dd.mapOf ⟨.bl _, H, I.tok _, rfl, ?_⟩
    rw [← (rel.val (Sum.inl i)).isSome_eq, some_iff i q1 q2]
    exact k ρ H _ Ext.refl R .bl
  · cases e
end
end M
set_option Elab.async false
set_option linter.all false
set_option maxRecDepth 100000
set_option autoImplicit false
namespace M
open PySem PySem.Spec PyProof.Rows L2
section
variable {X : Cx} {a b c e : Expr} {es : List Expr} {φ ψ χ : FE} {pos : Pos}
@[simp] noncomputable def gAtD (φ ψ : FE) : FG := fun d δ μ => (φ δ μ).bind fun p => (ψ δ p.2).bind fun q => match p.1, q.1 with
  | .loc n, .int i => match q.2[n]? with
    | some (.dct kvs) => bif decide (kvs.length ≤ 1000000) then some (δ, q.2.set n (.dct (putD kvs i d))) else none
    | _ => none
  | _, _ => none
theorem set_dict : PSet X (fun o i v H Q => ∃ p vs k, o = .ref p ∧ i = kV k ∧ H p = some (.dK vs) ∧ vs.length < sizeLine ∧ Q (upd H p (.dK (putK vs k v)))) := by
  intro pins s σ H o i v ov iv u Q I ro ri rv ⟨p, vs, k, e1, e2, e3, hl, q⟩
  subst e1 e2
  cases ro
  obtain ⟨z, hd, us, rel, dd⟩ := dk_of I.hok e3
  have hz : us.length ≤ sizeLine := by rw [← rel.length]; exact z
  have hl' : (putK vs k v).length ≤ sizeLine := by have := length_putK vs k v; omega
  refine wpAny_setItem_pairs (hsz := hz) (kV_is ri) dd fun h' dd' hs => ⟨_, I.write (x := p) (e := p) (by rw [e3]; exact True.intro) (.inl rfl) (fun b q hb z => (hs.2 b hb).trans z) ?_ (show ObjOk X.prog X.w _ h' p (.dK (putK vs k v)) from ⟨hl', hd, _, rel.put k rv, dd'⟩), q⟩
  obtain ⟨q, _, _, hq, _⟩ := dd'
  exact ⟨q, hq⟩
theorem mg_atD {o i : Expr} (ho : ME X o φ) (hi : ME X i ψ) (ha : ∀ v, assign (.Subscript o i pos) X.env v = (do
      let ov ← holding [v] (eval o X.env)
      let iv ← holding [v, ov] (eval i X.env)
      standAt pos
      holding [v, ov, iv] (setItem ov iv v)
      release [v, ov, iv] []) := by intro _; rfl) : MG X (.Subscript o i pos) (gAtD φ ψ) :=
  mg_of (pg_sub ho hi set_dict ha) fun ρ δ μ d δ' μ' v σ H Q A q e k => by
    obtain ⟨⟨x, μ1⟩, e1, e⟩ := bind_inv e
    obtain ⟨⟨y, μ2⟩, e2, e⟩ := bind_inv e
    refine ⟨ρ, δ, μ, x, μ1, A, e1, fun ρ1 H1 v1 x1 R1 r1 => ?_⟩
    refine ⟨ρ1, δ, μ1, y, μ2, A.ext x1 R1, e2, fun ρ2 H2 v2 x2 R2 r2 => ?_⟩
    dsimp only at e
    split at e
    · rename_i n j _
      split at e
      · rename_i kvs hm
        obtain ⟨h1, e⟩ := bif_inv e
        have h1 := of_decide_eq_true h1
        cases e
        obtain ⟨ad, rfl, hr⟩ := (r1.ext x2).loc_inv
        obtain ⟨vs, hv, q1, q2⟩ := R2.at_ _ _ _ hr hm
        have hmu : Mut (H2 ad) := by rw [hv]; trivial
        have hlen : vs.length = kvs.length := by
          have := congrArg List.length q1
          simpa using this
        have hmi := million
        refine ⟨ad, vs, Sum.inl j, rfl, r2.int_inv, hv, by omega, ?_⟩
        have xx := x1.trans x2
        have R3 := R2.wr (o := .dK (putK vs (Sum.inl j) v)) (lo := .dct (putD kvs j d)) hmu hr ⟨_, upd_same, put_keys kvs vs j d v q1, RepVs.ext (Ext.wr hmu) (put_rep (q.ext xx) q1 q2)⟩
        exact k ρ2 σ _ (xx.trans (Ext.wr hmu)) (A.ext (xx.trans (Ext.wr hmu)) R3)
      · cases e
    · cases e
theorem dict_at {P : Program} {w : World} {H : Hp} {h : Heap} {p : Addr} {vs : List (Key × V)} (ok : HOk P w H h) (e : RdK H p vs) : ∃ us ep, KV vs us ∧ h.DictAt (mixKind P w) p us ep := by
  obtain ⟨_, _, us, rel, o, es, ep, h1, h2, h3, h4⟩ := rdk_of ok e
  exact ⟨us, ep, rel, o, es, h1, h2, h3, h4⟩
theorem keys_vals {P : Program} {w : World} : ∀ {vs : List (Key × V)} {us : List (Key × Value)} {its : List Value}, KV vs us → its.length = us.length → (∀ (j : Nat) (v : Value), its[j]? = some v → ∃ (k : Key) (x : Value), us[j]? = some (k, x) ∧ (mixKind P w).is k v = true) → Vals (vs.map fun p => kV p.1) its
  | [], us, its, r, hl, h => by
    cases r
    have : its = [] := List.length_eq_zero_iff.mp (by simpa using hl)
    subst this
    exact .nil
  | p :: vs, us, its, r, hl, h => by
    cases r with
    | @cons _ q _ qs hq t =>
      cases its with
      | nil => simp at hl
      | cons i its =>
        refine .cons ?_ (keys_vals t (by simpa using hl) fun j v e => by
          obtain ⟨k, x, h1, h2⟩ := h (j + 1) v (by simpa using e)
          exact ⟨k, x, by simpa using h1, h2⟩)
        obtain ⟨k, x, h1, h2⟩ := h 0 i rfl
        have e : q = (k, x) := by simpa using h1
        have ek : p.1 = k := by rw [hq.1, e]
        show RelV (kV p.1) i
        rw [ek]
        cases k with
        | inl n =>
          rcases keyIs_shape ((mixKind_is P w _ _).symm.trans h2) with ⟨j, t, e1, e2⟩ | ⟨j, t, e1, e2⟩
          · cases e1; exact ⟨t, e2⟩
          · cases e1
        | inr n =>
          rcases keyIs_shape ((mixKind_is P w _ _).symm.trans h2) with ⟨j, t, e1, e2⟩ | ⟨j, t, e1, e2⟩
          · cases e1
          · cases e1; exact ⟨t, e2⟩
end
end M
set_option Elab.async false
set_option linter.all false
set_option maxRecDepth 100000
set_option autoImplicit false
namespace M
open PySem PySem.Spec PyProof.Rows L2
section
variable {X : Cx} {a b c e : Expr} {es : List Expr} {φ ψ χ : FE} {pos : Pos} {tg : Expr}
end
end M
set_option Elab.async false
set_option linter.all false
set_option maxRecDepth 100000
set_option autoImplicit false
namespace M
open PySem PySem.Spec PyProof.Rows L2
section
variable {prog : Program} {w : World} {A : Around} {E : Value → Shared → Prop} {s : Shared}
end
section
variable {X : Cx} {a b c e : Expr} {es : List Expr} {φ ψ χ : FE} {pos pos2 p1 p2 : Pos}
end
end M
set_option Elab.async false
set_option linter.all false
set_option maxRecDepth 100000
set_option autoImplicit false
namespace M
open PySem PySem.Spec PyProof.Rows L2
section
variable {X : Cx}
end
end M
set_option Elab.async false
set_option linter.all false
set_option maxRecDepth 100000
set_option autoImplicit false
namespace M
open PySem PySem.Spec PyProof.Rows L2
section
variable {prog : Program} {w : World} {A : Around} {E : Value → Shared → Prop} {s : Shared}
end
section
variable {X : Cx} {e : Expr} {te : TE} {φ : FE} {stp : Expr} {ts : TO} {pos p2 : Pos}
end
end M
set_option Elab.async false
set_option linter.all false
set_option maxRecDepth 100000
set_option autoImplicit false
namespace M
open PySem PySem.Spec PyProof.Rows L2
section
variable {prog : Program} {w : World} {A : Around} {E : Value → Shared → Prop} {s : Shared}
end
section
variable {X : Cx}
end
end M
set_option Elab.async false
set_option linter.all false
set_option maxRecDepth 100000
set_option autoImplicit false
namespace M
open PySem PySem.Spec PyProof.Rows L2
section
variable {X : Cx}
noncomputable def sortL (ns : List Int) : List Int := ns.mergeSort fun a b => decide (a ≤ b)
end
end M
set_option Elab.async false
set_option linter.all false
set_option maxRecDepth 100000
set_option autoImplicit false
namespace M
open PySem PySem.Spec PyProof.Rows L2
section
variable {X : Cx} {a b c e : Expr} {es : List Expr} {φ ψ χ : FE} {pos p2 : Pos}
end
end M
set_option Elab.async false
set_option linter.all false
set_option maxRecDepth 100000
set_option autoImplicit false
namespace M
open PySem PySem.Spec PyProof.Rows L2
section
variable {prog : Program} {w : World} {A : Around} {E : Value → Shared → Prop} {s : Shared}
theorem draw_listU {it t : Addr} {items : Array Value} (hne : t ≠ it) : ∀ (n i : Nat) (s : Shared) (Q : List Value → Shared → Prop), s.heap.IsListIter it t i → s.heap.IsList t items → i + n ≤ items.size →
    (∀ h', h'.IsListIter it t (i + n) → Heap.SameBut it s.heap h' → Q ((items.toList.drop i).take n) { s with heap := h' }) → wpAny (model prog w) A (draw (.ref it) n) Q E s
  | 0, i, s, Q, hit, _, _, hQ => by
    show wpAny _ _ (pure []) Q E s
    exact wpAny_pure (by simpa using hQ s.heap hit (Heap.SameBut.refl ..))
  | n + 1, i, s, Q, hit, ht, hle, hQ => by
    have hlt : i < items.size := by omega
    show wpAny _ _ (pyNext (.ref it) >>= _) Q E s
    refine wpAny_bind (wpAny_pyNext_list_item hit ht (x := items[i]) (by simp [hlt]) fun h₁ hit₁ hs₁ => ?_)
    refine wpAny_bind (wpAny_holding (draw_listU hne n (i + 1) _ _ hit₁ (ht.extBut hs₁.extBut hne) (by omega) fun h₂ hit₂ hs₂ => wpAny_pure ?_))
    have hd : items.toList.drop i = items[i] :: items.toList.drop (i + 1) := by simp [List.drop_eq_getElem_cons, hlt]
    have := hQ h₂ (by rw [show i + (n + 1) = i + 1 + n by omega]; exact hit₂) (hs₁.trans hs₂)
    rw [hd, List.take_succ_cons] at this
    exact this
theorem unpackItems_listU {t : Addr} {items : Array Value} {Q : List Value → Shared → Prop} (hh : A.handled = none) (ht : s.heap.IsList t items)
    (hQ : ∀ h', Heap.ExtBut s.heap.objs.size s.heap h' → Q items.toList { s with heap := h' }) : wpAny (model prog w) A (unpackItems (.ref t) items.size none) Q E s := by
  have hlt : t ≠ s.heap.objs.size := by obtain ⟨o, ho, _⟩ := ht; exact Nat.ne_of_lt (Heap.lt_size ho)
  unfold unpackItems
  refine wpAny_bind ?_
  · unfold notIterableAtAll
    refine wpAny_bind (wpAny_specialOf ht.typeIs PySem.slot_list_iter.lookup ?_)
    refine wpAny_pure ?_
    simp only [Bool.false_eq_true, if_false]
    refine wpAny_bind (wpAny_holding (wpAny_pyIter_list ht ?_))
    refine wpAny_bind (wpAny_holding (draw_listU hlt items.size 0 _ _ ⟨_, Heap.get?_push_size _ rfl, rfl, rfl⟩ (ht.push _) (by omega) fun h₁ hit₁ hs₁ => ?_))
    have hall : List.take items.size (List.drop 0 items.toList) = items.toList := by
      rw [List.drop_zero]; exact List.take_of_length_le (by simp)
    rw [hall]
    rw [if_neg (by simp)]
    have ht₁ : h₁.IsList t items := (ht.push _).extBut hs₁.extBut hlt
    refine wpAny_bind (wpAny_holding (wpAny_pyNext_list_end hh hit₁ ht₁ (by simp) fun h₂ he₂ => ?_))
    simp only [Option.isSome_none, Bool.false_eq_true, if_false]
    refine wpAny_pure (hQ h₂ fun b o hb e => he₂ b o hb (hs₁.extBut b o hb (Heap.get?_push_of_some _ e)))
theorem assign_Tuple_list {env : Env} {elts : List Expr} {x1} {pos : Pos} {t : Addr} {items : Array Value} {Q : Unit → Shared → Prop} (hh : A.handled = none) (ht : s.heap.IsList t items)
    (hn : (assignEach elts env).length = items.size) (hstar : (assignEach elts env).findIdx? (·.1) = none)
    (h : ∀ h', Heap.ExtBut s.heap.objs.size s.heap h' → wpAny (model prog w) A (assignInOrder ((assignEach elts env).map (·.2)) items.toList) Q E { s with heap := h' }) :
    wpAny (model prog w) A (assign (.Tuple elts x1 pos) env (.ref t)) Q E s := by
  rw [assign_Tuple]
  refine wpAny_bind (wpAny_standAt ?_)
  unfold unpack
  rw [hn, hstar]
  exact wpAny_bind (wpAny_holding (unpackItems_listU hh ht h))
end
section
variable {X : Cx} {pos : Pos}
noncomputable def gLstU (K : PySem.W.Frag) (n : Nat) (t : TGs) : TG := fun v σ H Q => ∃ a xs, v = .ref a ∧ SqL K H a xs ∧ xs.length = n ∧ t xs σ H Q
theorem pg_lstU {es : List Expr} {k : Nat} {t : TGs} {n : Nat} (hc : X.calm = true) (h : PGs X es t)
    (hn : (assignEach es X.env).length = n := by rfl) (hst : (assignEach es X.env).findIdx? (·.1) = none := by rfl) : PG X (.Tuple es k pos) (gLstU X.K n t) := by
  intro pins s σ H v u Q I r hw
  obtain ⟨a, xs, e1, hq, hl, hw⟩ := hw
  subst e1
  cases r
  obtain ⟨its, rv, pl, hz⟩ := I.list hq
  refine assign_Tuple_list (I.ok.hd hc) pl.isList (by simp [hn, ← hl, rv.length]) hst fun h' hx => ?_
  have I1 : Inv X pins σ H { s with heap := h' } := I.kept (t' := s.toks) fun b o e => hx b o (Nat.ne_of_lt (Heap.lt_size e)) e
  exact h pins _ σ H xs _ Q I1 (by simpa using rv) hw
noncomputable def gTL (n : Nat) (gs : FGs) : FG := fun d δ μ => match d with
  | .loc l => match μ[l]? with
    | some (.lst ds) => bif ds.length == n then gs ds δ μ else none
    | _ => none
  | _ => none
theorem mg_lstU {es : List Expr} {k n : Nat} {gs : FGs} (h : MGs X es gs) (hc : X.calm = true := by rfl) (hn : (assignEach es X.env).length = n := by rfl) (hst : (assignEach es X.env).findIdx? (·.1) = none := by rfl) : MG X (.Tuple es k pos) (gTL n gs) :=
  mg_of (pg_lstU hc h hn hst) fun ρ δ μ d δ' μ' v σ H Q A q e k => by
    unfold gTL at e
    split at e
    · split at e
      · rename_i hm
        obtain ⟨h1, e⟩ := bif_inv e
        obtain ⟨a, rfl, ea⟩ := q.loc_inv
        obtain ⟨vs, e3, q2⟩ := A.hp.at_ _ _ _ ea hm
        exact ⟨a, vs, rfl, SqL.of e3, by rw [← q2.length]; exact beq_iff_eq.mp h1, ρ, δ, μ, _, δ', μ', A, q2, e, k⟩
      · cases e
    · cases e
end
end M
set_option Elab.async false
set_option linter.all false
set_option maxRecDepth 100000
set_option autoImplicit false
namespace M
open PySem PySem.Spec PyProof.Rows L2
section
variable {X : Cx} {a b c e : Expr} {φ ψ χ : FE} {pos : Pos}
@[simp] noncomputable def fDsp (φ ψ : FE) : FE := fun δ μ => (φ δ (μ ++ [.dct []])).bind fun p => (ψ δ p.2).bind fun q => match p.1, q.2[μ.length]? with
  | .int i, some (.dct []) => some (.loc μ.length, q.2.set μ.length (.dct [(i, q.1)]))
  | _, _ => none
theorem me_dsp (ha : ME X a φ) (hb : ME X b ψ) : ME X (.Dict [some a] [b] pos) (fDsp φ ψ) := fun pins s σ H Q I ⟨ρ, δ, μ, d, μ', A, e, k⟩ => by
  obtain ⟨⟨x, μ1⟩, e1, e⟩ := bind_inv e
  obtain ⟨⟨y, μ2⟩, e2, e⟩ := bind_inv e
  dsimp only at e e1 e2
  split at e
  case h_2 => cases e
  rename_i i hm _
  cases e
  have hf := I.hok.fresh (Nat.le_refl s.heap.objs.size)
  have I1 := I.laid (a := s.heap.objs.size) (o := .dK []) (h' := s.heap.push { cls := .type "dict", data := .dict #[] }) (t' := s.toks) (fun _ _ q => Heap.get?_push_of_some _ q) (Nat.le_refl _) ⟨Nat.zero_le _, beq_eq_false_iff_ne.mpr (Ne.symm (Nat.ne_of_lt (big I))), [], .nil, Heap.DictOf.new _⟩
  have R1 := A.hp.push hf (lo := .dct []) (o := .dK []) ⟨[], upd_same, rfl, .nil⟩
  have A1 := A.ext (Ext.push hf) R1
  have hr1 := push_get (p := s.heap.objs.size) A.hp
  refine wpAny_Dict_pairs (knd := mixKind X.prog X.w) (pairs := [(eval a X.env, do let x ← eval b X.env; standAt pos; pure x)]) rfl (by simp) (by simp) ?_
  refine evalPairs_cons (thn (ha pins _ σ _ (fun v H2 => ∃ ρ2, Ext _ _ ρ2 H2 ∧ RepH X.K ρ2 H2 μ1 ∧ RepV X.K ρ2 H2 (.int i) v) I1 ⟨_, δ, _, _, μ1, A1, e1, fun ρ2 H2 v x2 R2 r2 => ⟨ρ2, x2, R2, r2⟩⟩) fun kv s2 ⟨v, H2, I2, rk, ρ2, x2, R2, r2⟩ => ?_)
  refine wpAny_bind (thn (hb pins _ σ _ (fun v H3 => ∃ ρ3, Ext ρ2 H2 ρ3 H3 ∧ RepH X.K ρ3 H3 μ2 ∧ RepV X.K ρ3 H3 y v) I2 ⟨ρ2, δ, μ1, _, μ2, A1.ext x2 R2, e2, fun ρ3 H3 v x3 R3 r3 => ⟨ρ3, x3, R3, r3⟩⟩) fun vv s3 ⟨u, H3, I3, ru, ρ3, x3, R3, r3⟩ => wpAny_bind (wpAny_standAt (wpAny_pure (evalPairs_nil ?_))))
  have hr := (x2.trans x3).get hr1
  obtain ⟨vs, ev, q1, q2⟩ := R3.at_ _ _ _ hr hm
  have ev0 : vs = [] := by simpa using q1
  subst ev0
  obtain ⟨z, hd, us, rel, dd⟩ := dk_of I3.hok ev
  have eu : us = [] := by
    have := rel.length
    simpa using this.symm
  subst eu
  rw [r2.int_inv] at rk
  refine ⟨[(Sum.inl i, vv)], ⟨kV_is (k := .inl i) rk, rfl, True.intro⟩, dd, fun h' dd' hs => ⟨.ref s.heap.objs.size, _, I3.write (x := s.heap.objs.size) (e := s.heap.objs.size) (o := .dK [(Sum.inl i, u)]) (by rw [ev]; exact True.intro) (.inl rfl) (fun b q hb z => (hs.2 b hb).trans z) ?_ ⟨by rw [sizeLine_eq]; simp, hd, _, Paired.cons ⟨rfl, ru⟩ .nil, dd'⟩, rfl, ?_⟩⟩
  · obtain ⟨q, _, _, hq, _⟩ := dd'
    exact ⟨q, hq⟩
  · have hmu : Mut (H3 s.heap.objs.size) := by rw [ev]; trivial
    have R4 := R3.wr (o := .dK [(Sum.inl i, u)]) (lo := .dct [(i, y)]) hmu hr ⟨_, upd_same, rfl, .cons (r3.ext (Ext.wr hmu)) .nil⟩
    exact k ρ3 _ _ ((Ext.push hf).trans (x2.trans (x3.trans (Ext.wr hmu)))) R4 (.loc hr)
end
end M
set_option Elab.async false
set_option linter.all false
set_option maxRecDepth 100000
set_option autoImplicit false
namespace M
open PySem PySem.Spec PyProof.Rows L2
section
variable {X : Cx} {e : Expr} {te : TE} {φ : FE} {stp : Expr} {ts : TO} {pos p2 : Pos}
end
end M
set_option Elab.async false
set_option linter.all false
set_option maxRecDepth 100000
set_option autoImplicit false
namespace M
open PySem PySem.Spec PyProof.Rows L2
section
variable {X : Cx} {a b c e : Expr} {es : List Expr} {φ ψ χ : FE} {pos : Pos}
noncomputable def gReverse : GM := fun x ds μ => match x, ds with
  | .loc n, [] => match μ[n]? with
    | some (.lst xs) => some (.non, μ.set n (.lst xs.reverse))
    | _ => none
  | _, _ => none
noncomputable def gIndex : GM := fun x ds μ => match x, ds with
  | .loc n, [d] => match μ[n]? with
    | some (.lst xs) => bif flatD d && xs.all flatD then (xs.findIdx? fun y => eqF y d).bind fun j => some (.int (j : Nat), μ) else none
    | _ => none
  | _, _ => none
theorem mtG_index : MtG X "list.index" gIndex := by
  intro pins s σ H x xs v us Q I rx rs ⟨ρ, dx, ds, μ, d, μ', r1, r2, R, e, k⟩
  unfold gIndex at e
  split at e
  · split at e
    · rename_i d0 _ ys hm
      obtain ⟨h1, e⟩ := bif_inv e
      rw [Bool.and_eq_true] at h1
      obtain ⟨j, e2, e⟩ := bind_inv e
      cases e
      obtain ⟨a, rfl, ea⟩ := r1.loc_inv
      obtain ⟨vs, e3, q3⟩ := R.at_ _ _ _ ea hm
      obtain ⟨w, r, rfl, q1, q2⟩ := r2.cons_inv
      rw [q2.nil_inv] at rs
      obtain ⟨u, rfl, ru⟩ := vals1 rs
      cases rx
      obtain ⟨z, its, n, rv, hl, el⟩ := I.lstM e3
      obtain ⟨fv, _⟩ := in_rep q1 h1.1 q3 h1.2
      obtain ⟨hj, hyes, hno⟩ := List.findIdx?_eq_some_iff_getElem.mp e2
      have l1 := q3.length
      have l2 := rv.length
      have hju : j < its.length := by omega
      have same : ∀ (m : Nat) (h1 : m < its.length) (h2 : m < ys.length), eqU w its[m] = eqF ys[m] d0 := fun m h1' h2' => by
        obtain ⟨vm, em, rm⟩ := q3.get (show ys[m]? = some ys[m] from List.getElem?_eq_getElem h2')
        obtain ⟨um, em2, rm2⟩ := rv.get em
        have e6 : its[m] = um := by rw [List.getElem?_eq_getElem h1'] at em2; exact Option.some.inj em2
        have hfv : flatV vm = true := flat_rep rm (List.all_eq_true.mp h1.2 _ (List.getElem_mem h2'))
        rw [e6, eqU_of rm2 hfv, eqF_rep rm q1 (List.all_eq_true.mp h1.2 _ (List.getElem_mem h2')) h1.1]
      have hz := sizeLine_eq
      refine call_meets PySem.F.slot_list_index ⟨_, el, rfl⟩ PySem.F.entry_list_index (PySem.F.args_list_index_2 _ _) (SeqAt.list_indexAt a its.toArray n _ _ u (eqU w) j (by simpa using hju) (by omega) (by simpa [same j hju hj] using hyes) (fun m hm' hmj => ?_)) ⟨el, fun y hy => mem_eqAt ru (flat_rep q1 h1.1) rv fv y (by simpa using hy), ?_⟩
      · have hm2 : m < its.length := by simpa using hm'
        have := hno m hmj
        have e7 := same m hm2 (by omega)
        simp only [Bool.not_eq_true] at this
        simpa [e7] using this
      · exact ⟨.int _, H, I.tok _, ⟨_, rfl⟩, k ρ H _ Ext.refl R .int⟩
    · cases e
  · cases e
theorem me_index {o : Expr} {ψ : FA} {apos : Pos} (ho : ME X o φ) (ha : MAn X (e :: es) ψ)
    (hbase : attributeBase o "index" X.env (eval o X.env) = eval o X.env := by rfl)
    (hfew : ((backTo pos (starEach (e :: es) X.env)).all (fun x => !x.1) && (backToKw pos (keywordEach [] X.env)).all (fun x => x.1.isSome)
      && decide ((e :: es).length + ([] : List Keyword).length + (if ([] : List Keyword).isEmpty then 0 else 1) < 30)) = true := by rfl)
    (hline : (apos.endLine == pos.line) = true := by rfl) (hs : starEach (e :: es) X.env = (false, eval e X.env) :: starEach es X.env := by rfl) (hplain : (backTo pos (starEach es X.env)).any (·.1) = false := by rfl) :
    ME X (.Call (.Attribute o "index" apos) (e :: es) [] pos) (fMeth gIndex φ ψ) := me_meth PySem.F.slot_list_index PySem.F.type_list_index mtG_index ho ha hbase hfew hline hs hplain
end
end M
set_option Elab.async false
set_option linter.all false
set_option maxRecDepth 100000
set_option autoImplicit false
namespace M
open PySem PySem.Spec PyProof.Rows L2
section
variable {prog : Program} {w : World} {A : Around} {E : Value → Shared → Prop} {s : Shared} {T : String} {r d : Addr} {n : Nat} {P : Nat → Value → Prop} {OK : Heap → Prop}
noncomputable def ColD (s : Shared) (P : Nat → Value → Prop) (n : Nat) : Result → Shared → Prop := fun rr s' => ∃ h' tk acc' c', rr = .ok (.ret (.ref s.heap.objs.size)) ∧ s' = { s with heap := h', toks := tk } ∧ (∀ b o, s.heap.get? b = some o → h'.get? b = some o) ∧ h'.get? s.heap.objs.size = some { cls := .type "list", dict := none, data := .seq acc' c', slots := #[] } ∧ ItemsOf P acc' n
theorem collect_src {Q : List Value → Shared → Prop} (K : PySem.W.KdlSrc prog w T r d n P OK) (hh : A.handled = none) (hok : OK s.heap) (hn : n ≤ sizeLine)
    (h : ∀ h' tk acc', (∀ b o, s.heap.get? b = some o → h'.get? b = some o) → s.heap.objs.size ≤ h'.objs.size → ItemsOf P acc' n → Q acc'.toList { s with heap := h', toks := tk }) :
    wpAny (model prog w) A (collect (.ref r)) Q E s := by
  have hlt := K.there _ hok
  unfold collect
  refine wpAny_bind (wpAny_runValue (codeAny_builtin F.entry_proto_collect ?_))
  rw [Around.under_plainId F.plain_proto_collect _]
  show wpAny _ A.in1 (newList [] >>= fun l => again (.builtin "list.__iadd__" ⟨[l, .ref r], []⟩)) _ _ s
  refine wpAny_bind (wpAny_newObj_type ?_)
  have hS : (s.heap.push { cls := .type "list", data := .seq ([] : List Value).toArray }).get? s.heap.objs.size = some { cls := .type "list", data := .seq #[] } := Heap.get?_push_size _ rfl
  refine wpAny_pure ⟨plainId_quiet F.plain_list_iadd _, codeAny_mono (codeAny_builtin (R := ColD s P n) F.entry_list_iadd ?_) fun rr s' ⟨h', tk, acc', c', e1, e2, hk, hS', hacc⟩ => ?_⟩
  · rw [Around.under_plainId F.plain_list_iadd _]
    show wpAny _ A.in1 (Builtin.List.listExtendWith (.ref s.heap.objs.size) (.ref r) (.ref s.heap.objs.size)) _ _ _
    exact PySem.W.kdl_extend (R := ColD s P n) (A := A) (s := { s with heap := s.heap.push { cls := .type "list", data := .seq ([] : List Value).toArray } }) K hh (K.keep _ _ hok fun b _ o e => Heap.get?_push_of_some _ e) _ (Nat.ne_of_gt hlt.1) (Nat.ne_of_gt hlt.2) _ _ hS (fun h' tk acc' c' hk hS' hacc => ⟨h', tk, acc', c', rfl, rfl, fun b o e => hk b o (Nat.ne_of_lt (Heap.lt_size e)) (Heap.get?_push_of_some _ e), hS', hacc⟩) hn
  · subst e1 e2
    dsimp only
    refine wpAny_bind (wpAny_load hS' ?_)
    exact wpAny_pure (h h' tk acc' hk (Nat.le_of_lt (Heap.lt_size hS')) hacc)
theorem sorted_src {ks : List Int} {Q : Value → Shared → Prop} (K : PySem.W.KdlSrc prog w T r d n P OK) (hh : A.handled = none) (hok : OK s.heap) (h64 : n < 64) (hint : ∀ acc : Array Value, ItemsOf P acc n → IntsAre acc.toList ks) (h : ∀ p s', Sorted s ks p s' → Q (.ref p) s') :
    wpAny (model prog w) A (call (.builtin "sorted") [.ref r]) Q E s := by
  refine Calls.call_function_entry kind_sorted plain_sorted entry_sorted (args_sorted1 _) ?_
  unfold Builtin.«sorted»
  refine wpAny_bind (m := checkCount "sorted" 1 1 _) (wpAny_pure ?_)
  refine wpAny_bind (collect_src (A := A.in1) K hh hok (Nat.le_trans (Nat.le_of_lt h64) (by rw [sizeLine_eq]; decide)) fun h1 tk acc hk hsz hacc => ?_)
  have hI := hint acc hacc
  have hl : acc.toList.length < 64 := by
    have := hacc.1
    simp only [Array.length_toList]
    omega
  refine wpAny_bind (wpAny_newList ?_ (by rw [sizeLine_eq]; omega))
  have hnew : (h1.push (seqObj "list" acc.toList.toArray 0)).get? h1.objs.size = some (seqObj "list" acc.toList.toArray 0) := Heap.get?_push_size _ rfl
  refine wpAny_bind (wpAny_holding (wpAny_call_entry slot_list_sort ⟨_, hnew, rfl⟩ entry_list_sort (list_sort_tree hnew hI (by simp at hl ⊢; omega) fun out ns q1 q2 q3 => ⟨_, rfl, ?_⟩) (args_list_sort _)))
  obtain ⟨e, he⟩ := sortedHeap_at (out := out) hnew
  refine wpAny_pure ⟨_, rfl, h _ _ ⟨out, ns, e, he, q1, q2, q3, hsz, fun b ob eb => ?_, rfl, rfl⟩⟩
  have hb1 := hk _ _ eb
  have hlt1 : b < h1.objs.size := Heap.lt_size hb1
  show (sortedHeap (h1.push (seqObj "list" acc.toList.toArray 0)) h1.objs.size acc.toList out).get? b = some ob
  rw [sortedHeap_old (Nat.ne_of_lt hlt1) (by rw [size_push']; exact Nat.lt_succ_of_lt hlt1)]
  exact Heap.get?_push_of_some _ hb1
end
section
variable {X : Cx}
noncomputable def gSortD : GL := fun ds μ => match ds with
  | [x] => (dictOf μ x).bind fun kvs => bif decide (kvs.length < 64) then some (.loc μ.length, μ ++ [.lst ((sortL (kvs.map (·.1))).map .int)]) else none
  | _ => none
theorem callM_sortD (hc : X.calm = true) : CallM X (.builtin "sorted") gSortD := by
  intro pins s σ H xs us Q I r ⟨ρ, ds, μ, d, μ', r1, R, e, k⟩
  unfold gSortD at e
  split at e
  · obtain ⟨kvs, e1, e⟩ := bind_inv e
    obtain ⟨h64, e⟩ := bif_inv e
    have h64 := of_decide_eq_true h64
    cases e
    obtain ⟨v, rr, rfl, q1, q2⟩ := r1.cons_inv
    rw [q2.nil_inv] at r
    obtain ⟨p, vs, rfl, hq, w1, w2⟩ := dict_rep R q1 e1
    obtain ⟨u, rfl, ru⟩ := vals1 r
    cases ru
    obtain ⟨hz, hd, _⟩ := rdk_of I.hok hq
    obtain ⟨us', ep, rel, da⟩ := dict_at I.hok hq
    have hl := rel.length
    have hkv : (vs.map fun p => kV p.1) = ((kvs.map (·.1)).map V.int) := by
      have : (vs.map (·.1)).map kV = (kvs.map fun p => (Sum.inl p.1 : Key)).map kV := by rw [w1]
      rw [List.map_map, List.map_map] at this
      rw [List.map_map]
      exact this
    have hlk : kvs.length = vs.length := by
      have := congrArg List.length w1
      simpa using this.symm
    refine sorted_src (ks := kvs.map (·.1)) (PySem.W.kdl_dict hd) (I.ok.hd hc) da (by omega) (fun acc hi => ?_) fun q s' ⟨out, ns, e', h1, h2, h3, h4, h5, h6, h7, h8⟩ => ?_
    · obtain ⟨hi1, hi2⟩ := hi
      have hv := keys_vals (P := X.prog) (w := X.w) (its := acc.toList) rel (by simpa using hi1) fun j v e => hi2 j v (by simpa using e)
      rw [hkv] at hv
      exact intsAre_of hv
    · have hms : ns = sortL (kvs.map (·.1)) := sorted_same (h3.trans (List.mergeSort_perm _ _).symm) h4 (sort_pw _)
      subst hms
      have hlen : (sortL (kvs.map (·.1))).length = (kvs.map (·.1)).length := h3.length_eq
      rw [List.length_map] at hlen
      have hf := I.hok.fresh h5
      refine ⟨.ref q, _, inv_laid I h7 h8 h6 h5 (show ObjOk X.prog X.w _ s'.heap _ (.lst ((sortL (kvs.map (·.1))).map V.int)) from ⟨by simp; rw [sizeLine_eq]; omega, out.toList, e', vals_of_ints h2, by simpa using h1⟩), rfl, k _ _ _ (Ext.push hf) (R.push hf ⟨_, upd_same, ints_rep⟩) (.loc (push_get R))⟩
  · cases e
end
end M
set_option Elab.async false
set_option linter.all false
set_option maxRecDepth 100000
set_option autoImplicit false
namespace M
open PySem PySem.Spec PyProof.Rows L2
@[simp] theorem all_tt {α : Type} (l : List α) : (l.all fun _ => true) = true := by simp
theorem get_old {μ g : Mem} {n : Nat} (h : n < μ.length) : (μ ++ g)[n]? = μ[n]? := List.getElem?_append_left h
theorem get_old' {μ g : Mem} {n : Nat} {o : LObj} (h : μ[n]? = some o) : (μ ++ g)[n]? = some o := by
  rw [get_old (List.getElem?_eq_some_iff.mp h).1]; exact h
mutual
theorem eqv_refl : ∀ p : PyData, p.canLay0 = true → PyData.eqv p p = true
  | .none, _ => rfl
  | .bool b, _ => by simp [PyData.eqv]
  | .int b, _ => by simp [PyData.eqv]
  | .str b, _ => by simp [PyData.eqv]
  | .list xs, h => by
    unfold PyData.eqv
    exact eqvAll_refl xs (by simpa [PyData.canLay0] using h)
  | .tuple xs, h => by
    unfold PyData.eqv
    exact eqvAll_refl xs (by simpa [PyData.canLay0] using h)
  | .dict _, h => by simp [PyData.canLay0] at h
theorem eqvAll_refl : ∀ ps : List PyData, PyData.canLayAll0 ps = true → PyData.eqvAll ps ps = true
  | [], _ => rfl
  | p :: ps, h => by
    simp only [PyData.canLayAll0, Bool.and_eq_true] at h
    unfold PyData.eqvAll
    rw [eqv_refl p h.1, eqvAll_refl ps h.2]
    rfl
end
theorem gEq_same {x y : D} {μ : Mem} {p : PyData} (h1 : toP μ 8 x = some p) (h2 : toP μ 8 y = some p) : gEq x y μ = some (.bl true, μ) := by
  unfold gEq
  rw [h1, h2]
  simp [eqv_refl p (toP_shape 8 x p h1).1]
theorem gNe_same {x y : D} {μ : Mem} {p : PyData} (h1 : toP μ 8 x = some p) (h2 : toP μ 8 y = some p) : gNe x y μ = some (.bl false, μ) := by
  unfold gNe
  rw [h1, h2]
  simp [eqv_refl p (toP_shape 8 x p h1).1]
theorem law_sp {K : PySem.W.Frag} {F : FF} {H : Hp} {a : Addr} {ns : List Int} (hF : ∃ μ', F [.fz (ns.map D.int)] [] = some (.bl true, μ')) (hO : Only H) (hS : SqL K H a (ns.map V.int)) : spM K 1 F [.ref a] H (fun v _ => v = .bl true) fun _ _ _ => False := by
  obtain ⟨μ', e⟩ := hF
  have fz : FzL K H a (ns.map V.int) := by
    rcases hS with (h | ⟨o, h⟩) | h
    · rcases hO a with z | ⟨o, xs, z⟩
      · rw [h] at z; cases z
      · rw [h] at z; cases z
    · exact .inl ⟨o, h⟩
    · exact .inr h
  have hints : ∀ ns : List Int, RepVs K [] H (ns.map D.int) (ns.map V.int) := fun ns => by
    induction ns with
    | nil => exact .nil
    | cons i r ih => exact .cons .int ih
  exact ⟨rfl, [], [.fz (ns.map D.int)], [], .bl true, μ', .cons (.fz fz (hints ns)) .nil, ⟨List.nodup_nil, rfl, fun n a o h1 _ => by simp at h1⟩, e, fun ρ' H' v _ _ r => r.bl_inv⟩
end M
namespace M
open PySem PySem.Spec PyProof.Rows L2
end M
set_option Elab.async false
set_option linter.all false
set_option maxRecDepth 100000
set_option autoImplicit false
namespace M
open PySem PySem.Spec PyProof.Rows L2
structure WE (φ : FE) (δ : Loc) (μ : Mem) (Q : D → Mem → Prop) : Prop where
  ex : ∃ d μ', φ δ μ = some (d, μ') ∧ Q d μ'
structure WT (φ : FT) (δ : Loc) (μ : Mem) (Q : Bool → Mem → Prop) : Prop where
  ex : ∃ d μ', φ δ μ = some (d, μ') ∧ Q d μ'
structure WA (φ : FA) (δ : Loc) (μ : Mem) (Q : List D → Mem → Prop) : Prop where
  ex : ∃ d μ', φ δ μ = some (d, μ') ∧ Q d μ'
structure WO (φ : FO) (δ : Loc) (μ : Mem) (Q : Option Int → Mem → Prop) : Prop where
  ex : ∃ d μ', φ δ μ = some (d, μ') ∧ Q d μ'
structure W2 (g : G2) (x y : D) (μ : Mem) (Q : D → Mem → Prop) : Prop where
  ex : ∃ d μ', g x y μ = some (d, μ') ∧ Q d μ'
structure WF (F : FF) (ds : List D) (μ : Mem) (Q : D → Mem → Prop) : Prop where
  ex : ∃ d μ', F ds μ = some (d, μ') ∧ Q d μ'
structure WM (g : GM) (x : D) (ds : List D) (μ : Mem) (Q : D → Mem → Prop) : Prop where
  ex : ∃ d μ', g x ds μ = some (d, μ') ∧ Q d μ'
structure WI (i : FI) (δ : Loc) (μ : Mem) (Q : List D → (Mem → Bool) → Mem → Prop) : Prop where
  ex : ∃ ds ok μ', i δ μ = some (ds, ok, μ') ∧ Q ds ok μ'
structure WG (g : FG) (d : D) (δ : Loc) (μ : Mem) (Q : Loc → Mem → Prop) : Prop where
  ex : ∃ δ' μ', g d δ μ = some (δ', μ') ∧ Q δ' μ'
structure WGs (g : FGs) (ds : List D) (δ : Loc) (μ : Mem) (Q : Loc → Mem → Prop) : Prop where
  ex : ∃ δ' μ', g ds δ μ = some (δ', μ') ∧ Q δ' μ'
structure WL (g : FG) (c : FT) (φ : FE) (ok : Mem → Bool) (δ : Loc) (xs ys : List D) (μ : Mem) (Q : D → Mem → Prop) : Prop where
  ex : ∃ d μ', lcIt g c φ ok δ xs ys μ = some (d, μ') ∧ Q d μ'
noncomputable def Ek (nx : Loc → Mem → Prop) (rt : D → Mem → Prop) (bk ct : Loc → Mem → Prop) : Out → Prop
  | .next δ μ => nx δ μ
  | .ret d μ => rt d μ
  | .brk δ μ => bk δ μ
  | .cont δ μ => ct δ μ
  | .exc _ _ _ => False
structure WS (ψ : FS) (δ : Loc) (μ : Mem) (nx : Loc → Mem → Prop) (rt : D → Mem → Prop) (bk ct : Loc → Mem → Prop) : Prop where
  ex : ∃ o, ψ δ μ = some o ∧ Ek nx rt bk ct o
structure WFor (g : FG) (body : FS) (ok : Mem → Bool) (xs : List D) (δ : Loc) (μ : Mem) (nx : Loc → Mem → Prop) (rt : D → Mem → Prop) : Prop where
  ex : ∃ o, forIt g body ok xs δ μ = some o ∧ Ek nx rt (fun _ _ => False) (fun _ _ => False) o
noncomputable def Keep (μ μ' : Mem) : Prop := ∀ (n : Nat) (o : LObj), μ[n]? = some o → μ'[n]? = some o
theorem Keep.refl {μ : Mem} : Keep μ μ := fun _ _ h => h
theorem Keep.trans {μ μ1 μ2 : Mem} (a : Keep μ μ1) (b : Keep μ1 μ2) : Keep μ μ2 := fun n o h => b n o (a n o h)
theorem Keep.app {μ g : Mem} : Keep μ (μ ++ g) := fun _ _ h => get_old' h
theorem Keep.to {μ μ1 g : Mem} (a : Keep μ μ1) : Keep μ (μ1 ++ g) := a.trans .app
theorem Keep.len {μ μ' : Mem} (a : Keep μ μ') : μ.length ≤ μ'.length := by
  rcases Nat.lt_or_ge μ'.length μ.length with h | h
  · have := a μ'.length μ[μ'.length] (by simp [h])
    simp at this
  · exact h
theorem get_new {μ : Mem} {o : LObj} : (μ ++ [o])[μ.length]? = some o := by simp
theorem lt_of_get {μ : Mem} {n : Nat} {o : LObj} (h : μ[n]? = some o) : n < μ.length := (List.getElem?_eq_some_iff.mp h).1
theorem get_set_ne {μ : Mem} {n m : Nat} {o o' : LObj} (h : μ[n]? = some o) (hne : m ≠ n) : (μ.set m o')[n]? = some o := by
  rw [List.getElem?_set_ne hne]; exact h
theorem get_set_eq {μ : Mem} {n : Nat} {o o' : LObj} (h : μ[n]? = some o) : (μ.set n o')[n]? = some o' := by
  rw [List.getElem?_set_self (lt_of_get h)]
theorem items_loc {μ : Mem} {n : Nat} {ds : List D} (h : μ[n]? = some (.lst ds)) : items μ (.loc n) = some ds := by simp [h]
section
variable {φ ψ χ : FE} {g g2 : G2} {δ : Loc} {μ : Mem} {Q : D → Mem → Prop} {i j : Int} {d x y : D} {ds xs : List D}
theorem w_var {n : Nat} (h : δ[n]? = some (some d)) (q : Q d μ) : WE (fVar n) δ μ Q := ⟨d, μ, by simp [h], q⟩
theorem w_c (q : Q d μ) : WE (fC d) δ μ Q := ⟨d, μ, rfl, q⟩
theorem w_bin (h : WE φ δ μ fun x μ1 => WE ψ δ μ1 fun y μ2 => W2 g x y μ2 Q) : WE (fBin g φ ψ) δ μ Q := by
  obtain ⟨x, μ1, e1, y, μ2, e2, d, μ3, e3, q⟩ := h
  exact ⟨d, μ3, by simp [e1, e2, e3], q⟩
theorem w_and (h : WE φ δ μ fun x μ1 => ∃ b, x = .bl b ∧ (b = true → WE ψ δ μ1 Q) ∧ (b = false → Q (.bl false) μ1)) : WE (fAnd φ ψ) δ μ Q := by
  obtain ⟨x, μ1, e1, b, rfl, h1, h2⟩ := h
  cases b with
  | true => obtain ⟨d, μ2, e2, q⟩ := h1 rfl; exact ⟨d, μ2, by simp [e1, e2], q⟩
  | false => exact ⟨_, μ1, by simp [e1], h2 rfl⟩
theorem w_or (h : WE φ δ μ fun x μ1 => ∃ b, x = .bl b ∧ (b = false → WE ψ δ μ1 Q) ∧ (b = true → Q (.bl true) μ1)) : WE (fOr φ ψ) δ μ Q := by
  obtain ⟨x, μ1, e1, b, rfl, h1, h2⟩ := h
  cases b with
  | false => obtain ⟨d, μ2, e2, q⟩ := h1 rfl; exact ⟨d, μ2, by simp [e1, e2], q⟩
  | true => exact ⟨_, μ1, by simp [e1], h2 rfl⟩
theorem w_not (h : WE φ δ μ fun x μ1 => ∃ b, x = .bl b ∧ Q (.bl (!b)) μ1) : WE (fNot φ) δ μ Q := by
  obtain ⟨x, μ1, e1, b, rfl, q⟩ := h
  exact ⟨_, μ1, by simp [e1], q⟩
theorem w_neg (h : WE φ δ μ fun x μ1 => ∃ i, x = .int i ∧ Q (.int (-i)) μ1) : WE (fNeg φ) δ μ Q := by
  obtain ⟨x, μ1, e1, b, rfl, q⟩ := h
  exact ⟨_, μ1, by simp [e1], q⟩
theorem w_tup {α : FA} (h : WA α δ μ fun ds μ1 => Q (.tup ds) μ1) : WE (fTup α) δ μ Q := by
  obtain ⟨x, μ1, e1, q⟩ := h
  exact ⟨_, μ1, by simp [e1], q⟩
theorem w_lst {α : FA} (h : WA α δ μ fun ds μ1 => Q (.loc μ1.length) (μ1 ++ [.lst ds])) : WE (fLst α) δ μ Q := by
  obtain ⟨x, μ1, e1, q⟩ := h
  exact ⟨_, _, by simp [e1] <;> rfl, q⟩
theorem w_emp (h : Q (.loc μ.length) (μ ++ [.dct []])) : WE fEmp δ μ Q := ⟨_, _, rfl, h⟩
theorem w_sl {lo hi : FO} (h : WE φ δ μ fun x μ1 => WO lo δ μ1 fun l μ2 => WO hi δ μ2 fun u μ3 => ∃ ds, x = .tup ds ∧ Q (.tup (cutD ds l u)) μ3) : WE (fSl φ lo hi) δ μ Q := by
  obtain ⟨x, μ1, e1, l, μ2, e2, u, μ3, e3, ds, rfl, q⟩ := h
  exact ⟨_, _, by simp [e1, e2, e3] <;> rfl, q⟩
theorem w_pno {R : Option Int → Mem → Prop} (q : R none μ) : WO pNo δ μ R := ⟨_, _, rfl, q⟩
theorem w_pyes {R : Option Int → Mem → Prop} (h : WE φ δ μ fun x μ1 => ∃ i, x = .int i ∧ R (some i) μ1) : WO (pYes φ) δ μ R := by
  obtain ⟨x, μ1, e1, i, rfl, q⟩ := h
  exact ⟨_, _, by simp [e1] <;> rfl, q⟩
theorem w_call {F : FF} {α : FA} (h : WA α δ μ fun ds μ1 => WF F ds μ1 Q) : WE (fCall F α) δ μ Q := by
  obtain ⟨ds, μ1, e1, d, μ2, e2, q⟩ := h
  exact ⟨d, μ2, by simp [e1, e2], q⟩
theorem w_meth {m : GM} {α : FA} (h : WE φ δ μ fun x μ1 => ∃ n xs, x = .loc n ∧ μ1[n]? = some (.lst xs) ∧ WA α δ μ1 fun ds μ2 => WM m (.loc n) ds μ2 Q) : WE (fMeth m φ α) δ μ Q := by
  obtain ⟨x, μ1, e1, n, xs, rfl, e2, ds, μ2, e3, d, μ3, e4, q⟩ := h
  exact ⟨d, μ3, by simp [e1, e2, e3, e4], q⟩
theorem w_lc {n : Nat} {fr : List Nat} {it : FI} {tg : FG} {c : FT} (h : WI it δ μ fun ds ok μ1 => few ds = true ∧ WL tg c φ ok (δC n fr δ) ds [] μ1 Q) : WE (fLC n fr it tg c φ) δ μ Q := by
  obtain ⟨ds, ok, μ1, e1, hf, d, μ2, e2, q⟩ := h
  exact ⟨d, μ2, by unfold fLC; simp only [e1, Option.bind_some, hf, cond_true]; exact e2, q⟩
theorem w_test {R : Bool → Mem → Prop} (h : WE φ δ μ fun x μ1 => ∃ b, x = .bl b ∧ R b μ1) : WT (fTest φ) δ μ R := by
  obtain ⟨x, μ1, e1, b, rfl, q⟩ := h
  exact ⟨_, _, by simp [e1] <;> rfl, q⟩
theorem w_andT {c e : FT} {R : Bool → Mem → Prop} (h : WT c δ μ fun b μ1 => (b = true → WT e δ μ1 R) ∧ (b = false → R false μ1)) : WT (tAndT c e) δ μ R := by
  obtain ⟨b, μ1, e1, h1, h2⟩ := h
  cases b with
  | true => obtain ⟨d, μ2, e2, q⟩ := h1 rfl; exact ⟨d, μ2, by simp [e1, e2], q⟩
  | false => exact ⟨_, μ1, by simp [e1], h2 rfl⟩
theorem w_orT {c e : FT} {R : Bool → Mem → Prop} (h : WT c δ μ fun b μ1 => (b = false → WT e δ μ1 R) ∧ (b = true → R true μ1)) : WT (tOrT c e) δ μ R := by
  obtain ⟨b, μ1, e1, h1, h2⟩ := h
  cases b with
  | false => obtain ⟨d, μ2, e2, q⟩ := h1 rfl; exact ⟨d, μ2, by simp [e1, e2], q⟩
  | true => exact ⟨_, μ1, by simp [e1], h2 rfl⟩
theorem w_notT {c : FT} {R : Bool → Mem → Prop} (h : WT c δ μ fun b μ1 => R (!b) μ1) : WT (tNotT c) δ μ R := by
  obtain ⟨b, μ1, e1, q⟩ := h
  exact ⟨_, _, by simp [e1] <;> rfl, q⟩
theorem w_yes {R : Bool → Mem → Prop} (q : R true μ) : WT cYes δ μ R := ⟨_, _, rfl, q⟩
theorem w_nil {R : List D → Mem → Prop} (q : R [] μ) : WA aNil δ μ R := ⟨_, _, rfl, q⟩
theorem w_cons {α : FA} {R : List D → Mem → Prop} (h : WE φ δ μ fun x μ1 => WA α δ μ1 fun xs μ2 => R (x :: xs) μ2) : WA (aCons φ α) δ μ R := by
  obtain ⟨x, μ1, e1, xs, μ2, e2, q⟩ := h
  exact ⟨_, _, by simp [e1, e2] <;> rfl, q⟩
theorem w_add (q : Q (.int (i + j)) μ) : W2 gAdd (.int i) (.int j) μ Q := ⟨_, _, rfl, q⟩
theorem w_addT {as bs : List D} (h : as.length + bs.length ≤ 1000000) (q : Q (.tup (as ++ bs)) μ) : W2 gAdd (.tup as) (.tup bs) μ Q := ⟨_, _, by simp [h] <;> rfl, q⟩
theorem w_sub (q : Q (.int (i - j)) μ) : W2 gSub (.int i) (.int j) μ Q := ⟨_, _, rfl, q⟩
theorem w_mul (h : mulOk i j = true) (q : Q (.int (i * j)) μ) : W2 gMul (.int i) (.int j) μ Q := ⟨_, _, by simp [gMul, h] <;> rfl, q⟩
theorem w_mod (h : 0 < j) (q : Q (.int (i % j)) μ) : W2 gMod (.int i) (.int j) μ Q := ⟨_, _, by simp [h] <;> rfl, q⟩
theorem w_div (h : 0 < j) (h' : j < 1606938044258990275541962092341162602522202993782792835301376) (q : Q (.int (i / j)) μ) : W2 gDiv (.int i) (.int j) μ Q := ⟨_, _, by simp [h, h'] <;> rfl, q⟩
theorem w_pow (h : 0 ≤ j) (h1 : j ≤ 100000) (h2 : i.natAbs < 1606938044258990275541962092341162602522202993782792835301376) (q : Q (.int (i ^ j.toNat)) μ) : W2 gPow (.int i) (.int j) μ Q := ⟨_, _, by simp only [gPow]; rw [decide_eq_true ⟨h, h1, h2⟩]; rfl, q⟩
theorem w_cmp {r : Int → Int → Bool} (q : Q (.bl (r i j)) μ) : W2 (gCmp r) (.int i) (.int j) μ Q := ⟨_, _, rfl, q⟩
theorem w_ix (h : items μ x = some xs) (h2 : atI xs i = some d) (q : Q d μ) : W2 gIx x (.int i) μ Q := ⟨_, _, by show ((items μ x).bind fun ds => (atI ds i).bind fun d => some (d, μ)) = _; rw [h, Option.bind_some, h2, Option.bind_some], q⟩
theorem w_eqI (q : Q (.bl (i == j)) μ) : W2 gEq (.int i) (.int j) μ Q := ⟨_, _, by simp [gEq, toP, PyData.eqv] <;> rfl, q⟩
theorem w_neI (q : Q (.bl (!(i == j))) μ) : W2 gNe (.int i) (.int j) μ Q := ⟨_, _, by simp [gNe, toP, PyData.eqv] <;> rfl, q⟩
theorem w_eqS {p : PyData} (h1 : toP μ 8 x = some p) (h2 : toP μ 8 y = some p) (q : Q (.bl true) μ) : W2 gEq x y μ Q := ⟨_, _, gEq_same h1 h2, q⟩
theorem w_neS {p : PyData} (h1 : toP μ 8 x = some p) (h2 : toP μ 8 y = some p) (q : Q (.bl false) μ) : W2 gNe x y μ Q := ⟨_, _, gNe_same h1 h2, q⟩
theorem w_eq {p p' : PyData} (h1 : toP μ 8 x = some p) (h2 : toP μ 8 y = some p') (q : Q (.bl (PyData.eqv p p')) μ) : W2 gEq x y μ Q := ⟨_, _, by simp [gEq, h1, h2] <;> rfl, q⟩
theorem w_ne {p p' : PyData} (h1 : toP μ 8 x = some p) (h2 : toP μ 8 y = some p') (q : Q (.bl (!PyData.eqv p p')) μ) : W2 gNe x y μ Q := ⟨_, _, by simp [gNe, h1, h2] <;> rfl, q⟩
theorem w_isB {a b : Bool} (q : Q (.bl (a == b)) μ) : W2 gIs (.bl a) (.bl b) μ Q := ⟨_, _, rfl, q⟩
theorem w_isNotB {a b : Bool} (q : Q (.bl (a != b)) μ) : W2 gIsNot (.bl a) (.bl b) μ Q := ⟨_, _, rfl, q⟩
theorem w_in (h : items μ y = some xs) (h1 : flatD x = true) (h2 : xs.all flatD = true) (q : Q (.bl (xs.any fun d => eqF d x)) μ) : W2 gIn x y μ Q := ⟨_, _, by simp only [gIn, h, Option.bind_some, h1, h2, Bool.and_self, cond_true], q⟩
theorem w_len (h : items μ x = some xs) (q : Q (.int xs.length) μ) : WF gLen [x] μ Q := ⟨_, _, by show ((items μ x).bind fun xs => some (D.int xs.length, μ)) = _; rw [h, Option.bind_some], q⟩
theorem w_list (h : items μ x = some xs) (q : Q (.loc μ.length) (μ ++ [.lst xs])) : WF gList [x] μ Q := ⟨_, _, by show ((items μ x).bind fun xs => some (D.loc μ.length, μ ++ [LObj.lst xs])) = _; rw [h, Option.bind_some], q⟩
theorem w_tuple (h : items μ x = some xs) (q : Q (.tup xs) μ) : WF gTuple [x] μ Q := by
  refine ⟨_, _, ?_, q⟩
  cases x <;> first | (cases h; rfl) | (simp only [gTuple, h]; rfl)
theorem w_isi {c t : Ty} (h : tyOf μ x = some t) (q : Q (.bl (isTy t c)) μ) : WF (gIsi c) [x, .ty c.name] μ Q := ⟨_, _, by simp only [gIsi, beq_self_eq_true, cond_true, h, Option.bind_some], q⟩
theorem w_all {n : Nat} {bs : List Bool} (h : μ[n]? = some (.lst (bs.map .bl))) (q : Q (.bl (bs.all fun b => b)) μ) : WF gAll [.loc n] μ Q := ⟨_, _, by simp [h, List.all_map, Function.comp_def], q⟩
theorem w_append {n : Nat} (h : μ[n]? = some (.lst xs)) (hl : xs.length ≤ 1000000) (q : Q .non (μ.set n (.lst (xs ++ [d])))) : WM gAppend (.loc n) [d] μ Q := ⟨_, _, by simp [h, hl] <;> rfl, q⟩
theorem w_def {F : FF} {N : List Str} {p : FS} (hF : F = fun ds μ => retOf (p (startD N ds) μ)) (h : WS p (startD N ds) μ (fun _ μ' => Q .non μ') Q (fun _ _ => False) fun _ _ => False) : WF F ds μ Q := by
  subst hF
  obtain ⟨o, e, k⟩ := h
  cases o with
  | next δ' μ' => exact ⟨_, _, by rw [e]; rfl, k⟩
  | ret d μ' => exact ⟨_, _, by rw [e]; rfl, k⟩
  | brk _ _ => exact k.elim
  | cont _ _ => exact k.elim
  | exc _ _ _ => exact k.elim
theorem w_range {α : FA} {R : List D → (Mem → Bool) → Mem → Prop} (h : WA α δ μ fun ds μ1 => ∃ j : Int, ds = [.int j] ∧ -(2 ^ 62) ≤ j ∧ j < 2 ^ 62 ∧ R ((List.range j.toNat).map fun (k : Nat) => .int k) yes μ1) : WI (iRange α) δ μ R := by
  obtain ⟨ds, μ1, e1, j, rfl, h1, h2, q⟩ := h
  refine ⟨_, _, _, ?_, q⟩
  unfold iRange
  simp only [e1, Option.bind_some]
  rw [decide_eq_true ⟨h1, h2⟩]
  rfl
theorem w_seq {R : List D → (Mem → Bool) → Mem → Prop} (h : WE φ δ μ fun x μ1 => (∃ ds, x = .tup ds ∧ R ds yes μ1) ∨ (∃ ds, x = .fz ds ∧ R ds yes μ1) ∨ ∃ n ds, x = .loc n ∧ μ1[n]? = some (.lst ds) ∧ R ds (stays n ds) μ1) : WI (iSeq φ) δ μ R := by
  obtain ⟨x, μ1, e1, ⟨ds, rfl, q⟩ | ⟨ds, rfl, q⟩ | ⟨n, ds, rfl, e2, q⟩⟩ := h
  · exact ⟨_, _, _, by simp [e1] <;> rfl, q⟩
  · exact ⟨_, _, _, by simp [e1] <;> rfl, q⟩
  · exact ⟨_, _, _, by simp [e1, e2] <;> rfl, q⟩
theorem w_gn {n : Nat} {R : Loc → Mem → Prop} (q : R (δ.set n (some d)) μ) : WG (gN n) d δ μ R := ⟨_, _, rfl, q⟩
theorem w_gt {n : Nat} {gs : FGs} {R : Loc → Mem → Prop} (hl : ds.length = n) (h : WGs gs ds δ μ R) : WG (gT n gs) (.tup ds) δ μ R := by
  obtain ⟨δ', μ', e, q⟩ := h
  exact ⟨δ', μ', by simp [hl, e], q⟩
theorem w_gt2 {gs : FGs} {R : Loc → Mem → Prop} {a b : D} (h : WGs gs [a, b] δ μ R) : WG (gT 2 gs) (.tup [a, b]) δ μ R := w_gt rfl h
theorem w_gt3 {gs : FGs} {R : Loc → Mem → Prop} {a b c : D} (h : WGs gs [a, b, c] δ μ R) : WG (gT 3 gs) (.tup [a, b, c]) δ μ R := w_gt rfl h
theorem w_gsn {R : Loc → Mem → Prop} (q : R δ μ) : WGs gsNil [] δ μ R := ⟨_, _, rfl, q⟩
theorem w_gsc {t : FG} {gs : FGs} {R : Loc → Mem → Prop} (h : WG t d δ μ fun δ1 μ1 => WGs gs ds δ1 μ1 R) : WGs (gsCons t gs) (d :: ds) δ μ R := by
  obtain ⟨δ1, μ1, e1, δ2, μ2, e2, q⟩ := h
  exact ⟨δ2, μ2, by simp [e1, e2], q⟩
end
section
variable {φ ψ : FE} {δ : Loc} {μ : Mem} {nx : Loc → Mem → Prop} {rt : D → Mem → Prop} {bk ct : Loc → Mem → Prop} {p q : FS}
theorem w_skip (h : nx δ μ) : WS sSkip δ μ nx rt bk ct := ⟨.next δ μ, rfl, h⟩
theorem w_then (h : WS p δ μ (fun δ' μ' => WS q δ' μ' nx rt bk ct) rt bk ct) : WS (sSeq p q) δ μ nx rt bk ct := by
  obtain ⟨o, e, k⟩ := h
  cases o with
  | next δ' μ' => obtain ⟨o2, e2, k2⟩ := k; exact ⟨o2, by simp [e, e2], k2⟩
  | ret d μ' => exact ⟨.ret d μ', by simp only [sSeq, e], k⟩
  | brk d μ' => exact ⟨.brk d μ', by simp only [sSeq, e], k⟩
  | cont d μ' => exact ⟨.cont d μ', by simp only [sSeq, e], k⟩
  | exc _ _ _ => exact k.elim
theorem w_set {n : Nat} (h : WE φ δ μ fun d μ' => nx (δ.set n (some d)) μ') : WS (sSet n φ) δ μ nx rt bk ct := by
  obtain ⟨d, μ', e, k⟩ := h
  exact ⟨.next _ _, by simp only [sSet, e, Option.bind_some], k⟩
theorem w_asg {g : FG} (h : WE φ δ μ fun d μ1 => WG g d δ μ1 nx) : WS (sAsg φ g) δ μ nx rt bk ct := by
  obtain ⟨d, μ1, e, δ', μ2, e2, k⟩ := h
  exact ⟨.next _ _, by simp only [sAsg, e, Option.bind_some, e2], k⟩
theorem w_expr (h : WE φ δ μ fun _ μ' => nx δ μ') : WS (sExpr φ) δ μ nx rt bk ct := by
  obtain ⟨d, μ', e, k⟩ := h
  exact ⟨.next _ _, by simp only [sExpr, e, Option.bind_some], k⟩
theorem w_ret (h : WE φ δ μ rt) : WS (sRet φ) δ μ nx rt bk ct := by
  obtain ⟨d, μ', e, k⟩ := h
  exact ⟨.ret _ _, by simp only [sRet, e, Option.bind_some], k⟩
theorem w_if {c : FT} (h : WT c δ μ fun b μ1 => (b = true → WS p δ μ1 nx rt bk ct) ∧ (b = false → WS q δ μ1 nx rt bk ct)) : WS (sIf c p q) δ μ nx rt bk ct := by
  obtain ⟨b, μ1, e, h1, h2⟩ := h
  cases b with
  | true => obtain ⟨o, e2, k⟩ := h1 rfl; exact ⟨o, by simp [e, e2], k⟩
  | false => obtain ⟨o, e2, k⟩ := h2 rfl; exact ⟨o, by simp [e, e2], k⟩
theorem w_for {it : FI} {g : FG} {body : FS} (h : WI it δ μ fun ds ok μ1 => WFor g body ok ds δ μ1 nx rt) : WS (sFor it g body) δ μ nx rt bk ct := by
  obtain ⟨ds, ok, μ1, e, o, e2, k⟩ := h
  refine ⟨o, by simp only [sFor, e, Option.bind_some]; exact e2, ?_⟩
  cases o with
  | next _ _ => exact k
  | ret _ _ => exact k
  | brk _ _ => exact k.elim
  | cont _ _ => exact k.elim
  | exc _ _ _ => exact k.elim
theorem w_loop {g : FG} {body : FS} {ok : Mem → Bool} {nx : Loc → Mem → Prop} {rt : D → Mem → Prop} (I : Nat → Loc → Mem → Prop) : ∀ {xs : List D} {n : Nat} {δ : Loc} {μ : Mem}, I n δ μ → (∀ m δ μ, I m δ μ → ok μ = true) →
    (∀ (m : Nat) (x : D) (δ : Loc) (μ : Mem), xs[m]? = some x → I (n + m) δ μ → WG g x δ μ fun δ1 μ1 => WS body δ1 μ1 (I (n + m + 1)) rt nx (I (n + m + 1))) → (∀ δ μ, I (n + xs.length) δ μ → nx δ μ) → WFor g body ok xs δ μ nx rt
  | [], n, δ, μ, h0, hok, _, hend => ⟨.next δ μ, by simp only [forIt, hok _ _ _ h0, cond_true], hend δ μ h0⟩
  | x :: xs, n, δ, μ, h0, hok, hs, hend => by
    obtain ⟨δ1, μ1, e1, o, e2, k⟩ := hs 0 x δ μ rfl h0
    cases o with
    | next δ2 μ2 =>
      obtain ⟨o3, e3, k3⟩ := w_loop I (xs := xs) (n := n + 1) (δ := δ2) (μ := μ2) k hok (fun m y δ μ hy hI => by
        have := hs (m + 1) y δ μ (by simpa using hy) (by rw [show n + (m + 1) = n + 1 + m by omega]; exact hI)
        rw [show n + (m + 1) = n + 1 + m by omega] at this
        exact this) (fun δ μ hI => hend δ μ (by rw [List.length_cons, show n + (xs.length + 1) = n + 1 + xs.length by omega]; exact hI))
      exact ⟨o3, by simp only [forIt, hok _ _ _ h0, cond_true, e1, Option.bind_some, e2]; exact e3, k3⟩
    | cont δ2 μ2 =>
      obtain ⟨o3, e3, k3⟩ := w_loop I (xs := xs) (n := n + 1) (δ := δ2) (μ := μ2) k hok (fun m y δ μ hy hI => by
        have := hs (m + 1) y δ μ (by simpa using hy) (by rw [show n + (m + 1) = n + 1 + m by omega]; exact hI)
        rw [show n + (m + 1) = n + 1 + m by omega] at this
        exact this) (fun δ μ hI => hend δ μ (by rw [List.length_cons, show n + (xs.length + 1) = n + 1 + xs.length by omega]; exact hI))
      exact ⟨o3, by simp only [forIt, hok _ _ _ h0, cond_true, e1, Option.bind_some, e2]; exact e3, k3⟩
    | brk δ2 μ2 => exact ⟨.next δ2 μ2, by simp only [forIt, hok _ _ _ h0, cond_true, e1, Option.bind_some, e2], k⟩
    | ret d μ2 => exact ⟨.ret d μ2, by simp only [forIt, hok _ _ _ h0, cond_true, e1, Option.bind_some, e2], k⟩
    | exc _ _ _ => exact k.elim
end
theorem w_comp {g : FG} {c : FT} {φ : FE} {ok : Mem → Bool} {δ : Loc} {Q : D → Mem → Prop} (I : Nat → List D → Mem → Prop) : ∀ {xs ys : List D} {n : Nat} {μ : Mem}, I n ys μ → (∀ m ys μ, I m ys μ → ok μ = true) →
    (∀ (m : Nat) (x : D) (ys : List D) (μ : Mem), xs[m]? = some x → I (n + m) ys μ → WG g x δ μ fun δ1 μ1 => WT c δ1 μ1 fun b μ2 => (b = true → WE φ δ1 μ2 fun d μ3 => I (n + m + 1) (ys ++ [d]) μ3) ∧ (b = false → I (n + m + 1) ys μ2)) →
    (∀ ys μ, I (n + xs.length) ys μ → Q (.loc μ.length) (μ ++ [.lst ys])) → WL g c φ ok δ xs ys μ Q
  | [], ys, n, μ, h0, hok, _, hend => ⟨_, _, by simp only [lcIt, hok _ _ _ h0, cond_true], hend ys μ h0⟩
  | x :: xs, ys, n, μ, h0, hok, hs, hend => by
    obtain ⟨δ1, μ1, e1, b, μ2, e2, ht, hf⟩ := hs 0 x ys μ rfl h0
    have step : ∀ ys2 μ3, I (n + 1) ys2 μ3 → WL g c φ ok δ xs ys2 μ3 Q := fun ys2 μ3 h => w_comp I (n := n + 1) h hok (fun m y ys μ hy hI => by
        have := hs (m + 1) y ys μ (by simpa using hy) (by rw [show n + (m + 1) = n + 1 + m by omega]; exact hI)
        rw [show n + (m + 1) = n + 1 + m by omega] at this
        exact this) (fun ys μ hI => hend ys μ (by rw [List.length_cons, show n + (xs.length + 1) = n + 1 + xs.length by omega]; exact hI))
    cases b with
    | true =>
      obtain ⟨d, μ3, e3, h3⟩ := ht rfl
      obtain ⟨d', μ4, e4, q⟩ := step _ _ h3
      exact ⟨d', μ4, by simp only [lcIt, hok _ _ _ h0, cond_true, e1, Option.bind_some, e2, e3]; exact e4, q⟩
    | false =>
      obtain ⟨d', μ4, e4, q⟩ := step _ _ (hf rfl)
      exact ⟨d', μ4, by simp only [lcIt, hok _ _ _ h0, cond_true, e1, Option.bind_some, e2, cond_false]; exact e4, q⟩
theorem w_loop0 {g : FG} {body : FS} {ok : Mem → Bool} {nx : Loc → Mem → Prop} {rt : D → Mem → Prop} {xs : List D} {δ : Loc} {μ : Mem} (I : Nat → Loc → Mem → Prop) (h0 : I 0 δ μ) (hok : ∀ m δ μ, I m δ μ → ok μ = true)
    (hs : ∀ (m : Nat) (x : D) (δ : Loc) (μ : Mem), xs[m]? = some x → I m δ μ → WG g x δ μ fun δ1 μ1 => WS body δ1 μ1 (I (m + 1)) rt nx (I (m + 1))) (hend : ∀ δ μ, I xs.length δ μ → nx δ μ) : WFor g body ok xs δ μ nx rt :=
  w_loop I (n := 0) h0 hok (fun m x δ μ hx h => by
    rw [Nat.zero_add] at h ⊢
    exact hs m x δ μ hx h) (fun δ μ h => hend δ μ (by rw [Nat.zero_add] at h; exact h))
theorem w_comp0 {g : FG} {c : FT} {φ : FE} {ok : Mem → Bool} {δ : Loc} {Q : D → Mem → Prop} {xs : List D} {μ : Mem} (I : Nat → List D → Mem → Prop) (h0 : I 0 [] μ) (hok : ∀ m ys μ, I m ys μ → ok μ = true)
    (hs : ∀ (m : Nat) (x : D) (ys : List D) (μ : Mem), xs[m]? = some x → I m ys μ → WG g x δ μ fun δ1 μ1 => WT c δ1 μ1 fun b μ2 => (b = true → WE φ δ1 μ2 fun d μ3 => I (m + 1) (ys ++ [d]) μ3) ∧ (b = false → I (m + 1) ys μ2))
    (hend : ∀ ys μ, I xs.length ys μ → Q (.loc μ.length) (μ ++ [.lst ys])) : WL g c φ ok δ xs [] μ Q :=
  w_comp I (n := 0) h0 hok (fun m x ys μ hx h => by
    rw [Nat.zero_add] at h ⊢
    exact hs m x ys μ hx h) (fun ys μ h => hend ys μ (by rw [Nat.zero_add] at h; exact h))
theorem range_at {j m : Nat} {x : D} (h : ((List.range j).map fun (k : Nat) => D.int k)[m]? = some x) : m < j ∧ x = .int m := by
  have h1 := (List.getElem?_eq_some_iff.mp h).1
  simp at h1
  refine ⟨h1, ?_⟩
  simp [h1] at h
  exact h.symm
theorem w_pureE {α : Type} {g : FG} {c : FT} {φ : FE} {ok : Mem → Bool} {δ : Loc} {Q : D → Mem → Prop} {μ : Mem} (e : α → D) (l : List α) (f : α → D) (p : α → Bool) (hok : ∀ μ', Keep μ μ' → ok μ' = true)
    (hs : ∀ x ∈ l, ∀ μ', Keep μ μ' → WG g (e x) δ μ' fun δ1 μ1 => WT c δ1 μ1 fun b μ2 => b = p x ∧ Keep μ μ2 ∧ (b = true → WE φ δ1 μ2 fun d μ3 => d = f x ∧ Keep μ μ3))
    (hq : ∀ μ', Keep μ μ' → Q (.loc μ'.length) (μ' ++ [.lst ((l.filter p).map f)])) : WL g c φ ok δ (l.map e) [] μ Q := by
  refine w_comp0 (fun m ys μ' => Keep μ μ' ∧ ys = ((l.take m).filter p).map f) ⟨.refl, by simp⟩ (fun m ys μ' h => hok μ' h.1) (fun m x ys μ' hx h => ?_) (fun ys μ' h => ?_)
  · rw [List.getElem?_map] at hx
    cases hy : l[m]? with
    | none => rw [hy] at hx; cases hx
    | some y =>
      rw [hy] at hx
      cases hx
      obtain ⟨δ1, μ1, e1, b, μ2, e2, hb, k2, h3⟩ := hs y (List.mem_of_getElem? hy) μ' h.1
      have ht : l.take (m + 1) = l.take m ++ [y] := by
        rw [List.take_succ, hy]
        rfl
      refine ⟨δ1, μ1, e1, b, μ2, e2, fun hb1 => ?_, fun hb1 => ⟨k2, ?_⟩⟩
      · obtain ⟨d, μ3, e3, rfl, k3⟩ := h3 hb1
        refine ⟨_, _, e3, k3, ?_⟩
        rw [ht, List.filter_append, List.map_append, ← h.2, List.filter_cons_of_pos (by rw [← hb, hb1])]
        rfl
      · rw [ht, List.filter_append, List.map_append, ← h.2, List.filter_cons_of_neg (by rw [← hb, hb1]; exact Bool.false_ne_true)]
        simp
  · rw [List.length_map, List.take_length] at h
    rw [h.2]
    exact hq μ' h.1
theorem w_mapE {α : Type} {g : FG} {φ : FE} {ok : Mem → Bool} {δ : Loc} {Q : D → Mem → Prop} {μ : Mem} (e : α → D) (l : List α) (f : α → D) (hok : ∀ μ', Keep μ μ' → ok μ' = true)
    (hs : ∀ x ∈ l, ∀ μ', Keep μ μ' → WG g (e x) δ μ' fun δ1 μ1 => WE φ δ1 μ1 fun d μ3 => d = f x ∧ Keep μ μ3 ∧ Keep μ μ1)
    (hq : ∀ μ', Keep μ μ' → Q (.loc μ'.length) (μ' ++ [.lst (l.map f)])) : WL g cYes φ ok δ (l.map e) [] μ Q :=
  w_pureE e l f (fun _ => true) hok (fun x hx μ' k => by
    obtain ⟨δ1, μ1, e1, d, μ3, e3, h1, h2, h3⟩ := hs x hx μ' k
    exact ⟨δ1, μ1, e1, true, μ1, rfl, rfl, h3, fun _ => ⟨d, μ3, e3, h1, h2⟩⟩) (fun μ' k => by rw [List.filter_eq_self.mpr (fun _ _ => rfl)]; exact hq μ' k)
theorem few_of {ds : List D} (h : ds.length ≤ 1000000) : few ds = true := decide_eq_true h
theorem stays_of {n : Nat} {ds : List D} {μ μ' : Mem} (h : μ[n]? = some (.lst ds)) (k : Keep μ μ') : stays n ds μ' = true := stays_iff.mpr (k n _ h)
end M
set_option Elab.async false
set_option linter.all false
set_option maxRecDepth 100000
set_option autoImplicit false
namespace M
open PySem PySem.Spec PyProof.Rows L2
structure KB (L : List Nat) (μ μ' : Mem) : Prop where
  len : μ.length ≤ μ'.length
  at_ : ∀ (n : Nat) (o : LObj), n ∉ L → μ[n]? = some o → μ'[n]? = some o
section
variable {L : List Nat} {μ μ1 μ2 μ' : Mem} {n : Nat} {o : LObj}
theorem KB.refl : KB L μ μ := ⟨Nat.le_refl _, fun _ _ _ h => h⟩
theorem KB.trans (a : KB L μ μ1) (b : KB L μ1 μ2) : KB L μ μ2 := ⟨Nat.le_trans a.len b.len, fun n o h e => b.at_ n o h (a.at_ n o h e)⟩
theorem KB.app {g : Mem} (a : KB L μ μ1) : KB L μ (μ1 ++ g) := ⟨by simp; have := a.len; omega, fun n o h e => get_old' (a.at_ n o h e)⟩
theorem KB.set {m : Nat} (a : KB L μ μ1) (h : m ∈ L ∨ μ.length ≤ m) : KB L μ (μ1.set m o) := ⟨by simp; exact a.len, fun n o' hn e => by
  rw [List.getElem?_set_ne]
  · exact a.at_ n o' hn e
  · rintro rfl
    rcases h with h | h
    · exact hn h
    · exact absurd (lt_of_get e) (by omega)⟩
theorem KB.of_keep (a : Keep μ μ') : KB L μ μ' := ⟨a.len, fun n o _ e => a n o e⟩
end
section
variable {φ ψ χ : FE} {g g2 : G2} {δ : Loc} {μ : Mem} {Q : D → Mem → Prop} {i j : Int} {d x y : D} {ds xs : List D}
theorem w_lrange (h : WE φ δ μ fun x μ1 => ∃ j : Int, x = .int j ∧ (-(2 ^ 62) ≤ j ∧ j ≤ 1000000) ∧ Q (.loc μ1.length) (μ1 ++ [.lst ((List.range j.toNat).map fun (k : Nat) => .int k)])) : WE (fLRange φ) δ μ Q := by
  obtain ⟨x, μ1, e1, j, rfl, h1, q⟩ := h
  exact ⟨_, _, by simp only [fLRange, e1, Option.bind_some]; rw [decide_eq_true h1]; rfl, q⟩
theorem w_any {n : Nat} {bs : List Bool} (h : μ[n]? = some (.lst (bs.map .bl))) (q : Q (.bl (bs.any fun b => b)) μ) : WF gAny [.loc n] μ Q := ⟨_, _, by simp [h, List.any_map, Function.comp_def], q⟩
theorem w_intI (q : Q (.int i) μ) : WF gInt [.int i] μ Q := ⟨_, _, rfl, q⟩
theorem w_intB {b : Bool} (q : Q (.int (if b then 1 else 0)) μ) : WF gInt [.bl b] μ Q := ⟨_, _, rfl, q⟩
theorem w_min2 (q : Q (.int (if j < i then j else i)) μ) : WF gMin2 [.int i, .int j] μ Q := ⟨_, _, rfl, q⟩
theorem w_max2 (q : Q (.int (if j > i then j else i)) μ) : WF gMax2 [.int i, .int j] μ Q := ⟨_, _, rfl, q⟩
theorem w_ifE {c : FT} (h : WT c δ μ fun b μ1 => (b = true → WE φ δ μ1 Q) ∧ (b = false → WE ψ δ μ1 Q)) : WE (fIf c φ ψ) δ μ Q := by
  obtain ⟨b, μ1, e, h1, h2⟩ := h
  cases b with
  | true => obtain ⟨d, μ2, e2, k⟩ := h1 rfl; exact ⟨d, μ2, by simp [e, e2], k⟩
  | false => obtain ⟨d, μ2, e2, k⟩ := h2 rfl; exact ⟨d, μ2, by simp [e, e2], k⟩
theorem w_gat {R : Loc → Mem → Prop} (h : WE φ δ μ fun x μ1 => WE ψ δ μ1 fun y μ2 => ∃ (n : Nat) (i : Int) (zs : List D), x = .loc n ∧ y = .int i ∧ μ2[n]? = some (.lst zs) ∧ (0 ≤ i ∧ i < zs.length) ∧ R δ (μ2.set n (.lst (zs.set i.toNat d)))) : WG (gAt φ ψ) d δ μ R := by
  obtain ⟨x, μ1, e1, y, μ2, e2, n, i, zs, rfl, rfl, e3, hi, q⟩ := h
  have e4 : ixN zs.length i = some i.toNat := by unfold ixN; rw [if_pos hi.1, if_pos hi.2]
  exact ⟨_, _, by simp [e1, e2, e3, e4] <;> rfl, q⟩
end
end M
set_option Elab.async false
set_option linter.all false
set_option maxRecDepth 100000
set_option autoImplicit false
namespace M
open PySem PySem.Spec PyProof.Rows L2
noncomputable abbrev nat (S : List Nat) : List D := S.map fun (k : Nat) => D.int k
theorem nat_append (a b : List Nat) : nat (a ++ b) = nat a ++ nat b := List.map_append
theorem nat_map {α : Type} (f : α → Nat) (l : List α) : nat (l.map f) = l.map fun a => D.int (f a : Nat) := List.map_map
class Enc (α : Type) where
  d : α → D
  p : α → PyData
  dep : Nat
  rd : ∀ (μ : Mem) (n : Nat) (a : α), toP μ (n + dep) (d a) = some (p a)
  eq : ∀ a b : α, PyData.eqv (p a) (p b) = true ↔ a = b
noncomputable instance : Enc Int := ⟨.int, .int, 1, fun _ _ _ => rfl, fun a b => by simp [PyData.eqv]⟩
noncomputable instance : Enc Nat := ⟨fun (k : Nat) => .int k, fun (k : Nat) => .int k, 1, fun _ _ _ => rfl, fun a b => by simp [PyData.eqv]; omega⟩
noncomputable instance : Enc Bool := ⟨.bl, .bool, 1, fun _ _ _ => rfl, fun a b => by simp [PyData.eqv]⟩
noncomputable abbrev onD : Option Nat → D
  | none => .non
  | some k => .int k
noncomputable instance : Enc (Option Nat) := ⟨onD, fun | none => .none | some k => .int k, 1, fun _ _ a => by cases a <;> rfl, fun a b => by cases a <;> cases b <;> simp [PyData.eqv]; omega⟩
theorem eqvAll_map {α : Type} [Enc α] : ∀ xs ys : List α, PyData.eqvAll (xs.map Enc.p) (ys.map Enc.p) = true ↔ xs = ys
  | [], [] => by simp [PyData.eqvAll]
  | [], y :: ys => by simp [PyData.eqvAll]
  | x :: xs, [] => by simp [PyData.eqvAll]
  | x :: xs, y :: ys => by
    rw [List.map_cons, List.map_cons, PyData.eqvAll, Bool.and_eq_true, Enc.eq, eqvAll_map xs ys, List.cons.injEq]
theorem rdAll {α : Type} [Enc α] (μ : Mem) (n : Nat) : ∀ xs : List α, (xs.map Enc.d).mapM (toP μ (n + Enc.dep α)) = some (xs.map Enc.p)
  | [] => rfl
  | x :: xs => by rw [List.map_cons, List.mapM_cons, rdAll μ n xs, Enc.rd]; rfl
noncomputable instance instEncList {α : Type} [Enc α] : Enc (List α) := ⟨fun xs => .tup (xs.map Enc.d), fun xs => .tuple (xs.map Enc.p), Enc.dep α + 1, fun μ n xs => by
    show ((xs.map Enc.d).mapM (toP μ (n + Enc.dep α))).bind (fun ps => some (PyData.tuple ps)) = _
    rw [rdAll]; rfl, fun a b => by rw [PyData.eqv]; exact eqvAll_map a b⟩
theorem toP_more {μ : Mem} {α : Type} [Enc α] (a : α) (h : Enc.dep α ≤ 8) : toP μ 8 (Enc.d a) = some (Enc.p a) := by
  have := Enc.rd μ (8 - Enc.dep α) a
  rw [Nat.sub_add_cancel h] at this
  exact this
theorem bool_iff {b : Bool} {p : Prop} [Decidable p] (h : b = true ↔ p) : b = decide p := by
  cases b <;> simp_all
section
variable {φ ψ χ : FE} {g g2 : G2} {δ : Loc} {μ : Mem} {Q : D → Mem → Prop} {i j : Int} {d x y : D} {ds xs : List D} {α : Type} [Enc α] [DecidableEq α]
theorem w_eqE (a b : α) (q : Q (.bl (decide (a = b))) μ) (hx : x = Enc.d a := by rfl) (hy : y = Enc.d b := by rfl) (h : Enc.dep α ≤ 8 := by decide) : W2 gEq x y μ Q := by
  subst hx hy
  exact w_eq (toP_more a h) (toP_more b h) (by rw [bool_iff (Enc.eq a b)]; exact q)
theorem w_neE (a b : α) (q : Q (.bl (!decide (a = b))) μ) (hx : x = Enc.d a := by rfl) (hy : y = Enc.d b := by rfl) (h : Enc.dep α ≤ 8 := by decide) : W2 gNe x y μ Q := by
  subst hx hy
  exact w_ne (toP_more a h) (toP_more b h) (by rw [bool_iff (Enc.eq a b)]; exact q)
theorem toP_list {n : Nat} (as : List α) (e : μ[n]? = some (.lst (as.map Enc.d))) (h : Enc.dep α ≤ 7) : toP μ 8 (.loc n) = some (.list (as.map Enc.p)) := by
  show (match μ[n]? with
      | some (.lst ds) => (ds.mapM (toP μ 7)).bind fun ps => some (PyData.list ps)
      | _ => none) = _
  rw [e]
  show ((as.map Enc.d).mapM (toP μ 7)).bind (fun ps => some (PyData.list ps)) = _
  have := rdAll μ (7 - Enc.dep α) as
  rw [Nat.sub_add_cancel h] at this
  rw [this]; rfl
theorem w_neL (as bs : List α) {m n : Nat} (e1 : μ[m]? = some (.lst (as.map Enc.d))) (e2 : μ[n]? = some (.lst (bs.map Enc.d))) (q : Q (.bl (!decide (as = bs))) μ) (h : Enc.dep α ≤ 7 := by decide) : W2 gNe (.loc m) (.loc n) μ Q :=
  w_ne (toP_list as e1 h) (toP_list bs e2 h) (by rw [PyData.eqv, bool_iff (eqvAll_map as bs)]; exact q)
theorem flat_nat (S : List Nat) : (nat S).all flatD = true := List.all_eq_true.mpr fun x hx => by
  obtain ⟨k, _, rfl⟩ := List.mem_map.mp hx
  rfl
theorem any_nat (k : Nat) : ∀ S : List Nat, ((nat S).any fun d => eqF d (.int k)) = decide (k ∈ S) := fun S => by
  refine bool_iff ?_
  rw [List.any_eq_true]
  constructor
  · rintro ⟨x, hx, e⟩
    obtain ⟨j, hj, rfl⟩ := List.mem_map.mp hx
    have h1 : (j : Int) = k := by simpa [eqF] using e
    have h2 : j = k := by omega
    exact h2 ▸ hj
  · intro h
    exact ⟨.int k, List.mem_map.mpr ⟨k, h, rfl⟩, by simp [eqF]⟩
theorem w_inN {k : Nat} {S : List Nat} (h : items μ y = some (nat S)) (q : Q (.bl (decide (k ∈ S))) μ) : W2 gIn (.int k) y μ Q := w_in h rfl (flat_nat S) (by rw [any_nat]; exact q)
theorem atI_getD {S : List Nat} {i : Nat} (h : i < S.length) : atI (nat S) (i : Int) = some (.int (S.getD i 0 : Nat)) := atI_nat (by simp [h])
end
end M
set_option Elab.async false
set_option linter.all false
set_option maxRecDepth 100000
set_option autoImplicit false
namespace M
open PySem PySem.Spec PyProof.Rows L2
section
variable {φ ψ χ : FE} {g g2 : G2} {δ : Loc} {μ : Mem} {Q : D → Mem → Prop} {i j : Int} {d x y : D} {ds xs : List D}
theorem w_enum {R : List D → (Mem → Bool) → Mem → Prop} (h : WE φ δ μ fun x μ1 => (∃ ds, x = .tup ds ∧ R (enumD ds) yes μ1) ∨ (∃ ds, x = .fz ds ∧ R (enumD ds) yes μ1) ∨ ∃ n ds, x = .loc n ∧ μ1[n]? = some (.lst ds) ∧ R (enumD ds) (stays n ds) μ1) : WI (iEnum φ) δ μ R := by
  obtain ⟨x, μ1, e1, ⟨ds, rfl, q⟩ | ⟨ds, rfl, q⟩ | ⟨n, ds, rfl, e2, q⟩⟩ := h
  · exact ⟨_, _, _, by simp [e1] <;> rfl, q⟩
  · exact ⟨_, _, _, by simp [e1] <;> rfl, q⟩
  · exact ⟨_, _, _, by simp [e1, e2] <;> rfl, q⟩
theorem w_meth0 {m : GM} (h : WE φ δ μ fun x μ1 => ∃ n xs, x = .loc n ∧ μ1[n]? = some (.lst xs) ∧ WM m (.loc n) [] μ1 Q) : WE (fMeth0 m φ) δ μ Q := by
  obtain ⟨x, μ1, e1, n, xs, rfl, e2, d, μ3, e4, q⟩ := h
  exact ⟨d, μ3, by simp [e1, e2, e4], q⟩
theorem w_pop {n : Nat} (h : μ[n]? = some (.lst (xs ++ [d]))) (q : Q d (μ.set n (.lst xs))) : WM gPop (.loc n) [] μ Q := ⟨_, _, by simp [h] <;> rfl, q⟩
end
section
variable {φ ψ : FE} {δ : Loc} {μ : Mem} {nx : Loc → Mem → Prop} {rt : D → Mem → Prop} {bk ct : Loc → Mem → Prop} {p q : FS}
theorem w_while {c : FT} {body : FS} (I : Nat → Loc → Mem → Prop) : ∀ {n m : Nat} {δ : Loc} {μ : Mem}, m < n → I m δ μ →
    (∀ m δ μ, I m δ μ → WT c δ μ fun b μ1 => (b = true → WS body δ μ1 (fun δ' μ' => ∃ m', m' < m ∧ I m' δ' μ') rt nx (fun δ' μ' => ∃ m', m' < m ∧ I m' δ' μ')) ∧ (b = false → nx δ μ1)) → WS (sWhile n c body) δ μ nx rt bk ct
  | 0, m, δ, μ, h, _, _ => absurd h (Nat.not_lt_zero _)
  | n + 1, m, δ, μ, h, h0, hs => by
    obtain ⟨b, μ1, e1, ht, hf⟩ := hs m δ μ h0
    cases b with
    | false => exact ⟨.next δ μ1, by show whileIt c body (n + 1) δ μ = _; simp only [whileIt, e1, Option.bind_some, cond_false], hf rfl⟩
    | true =>
      obtain ⟨o, e2, k⟩ := ht rfl
      have step : ∀ δ' μ', (∃ m', m' < m ∧ I m' δ' μ') → ∃ o, whileIt c body n δ' μ' = some o ∧ Ek nx rt bk ct o := fun δ' μ' ⟨m', hm', hI⟩ => by
        obtain ⟨o, e, k⟩ := w_while I (n := n) (m := m') (by omega) hI hs
        exact ⟨o, e, k⟩
      cases o with
      | next δ' μ' => obtain ⟨o, e3, k3⟩ := step δ' μ' k; exact ⟨o, by show whileIt c body (n + 1) δ μ = _; simp only [whileIt, e1, Option.bind_some, cond_true, e2]; exact e3, k3⟩
      | cont δ' μ' => obtain ⟨o, e3, k3⟩ := step δ' μ' k; exact ⟨o, by show whileIt c body (n + 1) δ μ = _; simp only [whileIt, e1, Option.bind_some, cond_true, e2]; exact e3, k3⟩
      | brk δ' μ' => exact ⟨.next δ' μ', by show whileIt c body (n + 1) δ μ = _; simp only [whileIt, e1, Option.bind_some, cond_true, e2], k⟩
      | ret d μ' => exact ⟨.ret d μ', by show whileIt c body (n + 1) δ μ = _; simp only [whileIt, e1, Option.bind_some, cond_true, e2], k⟩
      | exc _ _ _ => exact k.elim
end
theorem enumD_range {α : Type} (f : α → D) (xs : List α) (d : α) : enumD (xs.map f) = (List.range xs.length).map fun (k : Nat) => .tup [.int k, f (xs.getD k d)] := by
  refine List.ext_getElem? fun i => ?_
  unfold enumD
  simp only [List.getElem?_map, List.getElem?_zipIdx]
  by_cases h : i < xs.length
  · simp [h]
  · simp [h]
theorem w_isiL {n : Nat} {xs : List D} {μ : Mem} {Q : D → Mem → Prop} (h : μ[n]? = some (.lst xs)) (q : Q (.bl true) μ) : WF (gIsi .lst) [.loc n, .ty "list"] μ Q := w_isi (c := .lst) (t := .lst) (by simp [h]) q
theorem w_isiS {s : Str} {μ : Mem} {Q : D → Mem → Prop} (q : Q (.bl true) μ) : WF (gIsi .str) [.str s, .ty "str"] μ Q := w_isi (c := .str) (t := .str) rfl q
noncomputable abbrev oiD : Option Int → D
  | none => .non
  | some k => .int k
noncomputable instance : Enc (Option Int) := ⟨oiD, fun | none => .none | some k => .int k, 1, fun _ _ a => by cases a <;> rfl, fun a b => by cases a <;> cases b <;> simp [PyData.eqv]⟩
end M
set_option Elab.async false
set_option linter.all false
set_option maxRecDepth 100000
set_option autoImplicit false
namespace M
open PySem PySem.Spec PyProof.Rows L2
section
variable {φ ψ χ : FE} {g g2 : G2} {δ : Loc} {μ : Mem} {Q : D → Mem → Prop} {i j : Int} {d x y : D} {ds xs : List D} {kvs : List (Int × D)} {n : Nat}
theorem w_dnotIn (h : dictOf μ y = some kvs) (q : Q (.bl (!(lookD kvs i).isSome)) μ) : W2 gDnotIn (.int i) y μ Q := ⟨_, _, by simp only [gDnotIn, h, Option.bind_some], q⟩
theorem w_gatD {R : Loc → Mem → Prop} (h : WE φ δ μ fun x μ1 => WE ψ δ μ1 fun y μ2 => ∃ (n : Nat) (i : Int) (kvs : List (Int × D)), x = .loc n ∧ y = .int i ∧ μ2[n]? = some (.dct kvs) ∧ kvs.length ≤ 1000000 ∧ R δ (μ2.set n (.dct (putD kvs i d)))) : WG (gAtD φ ψ) d δ μ R := by
  obtain ⟨x, μ1, e1, y, μ2, e2, n, i, kvs, rfl, rfl, e3, hi, q⟩ := h
  exact ⟨_, _, by simp [e1, e2, e3, hi] <;> rfl, q⟩
end
end M
set_option Elab.async false
set_option linter.all false
set_option maxRecDepth 100000
set_option autoImplicit false
namespace P
open PySem PySem.Spec PyProof.Rows L2 M
noncomputable def top (i : Nat) : Stmt := PySem.Challenge.pw_keynests_k33_words_of_parts.main.body.getD i (.Pass ⟨0, 0, 0, 0⟩)
noncomputable def kit : Kit := [((none, .own "Full"), false), ((none, .own "NoFit"), false), ((none, .own "NoKey"), false), ((none, .own "NoPush"), false), ((none, .own "NoRow"), false), ((none, .own "NoRule"), false), ((none, .own "NoText"), false), ((none, .own "Twice"), false), ((none, .own "NoPairs"), false), ((none, .ty "ValueError"), false), ((some "NoPairs", .own "Full"), false), ((some "NoPairs", .own "NoFit"), false), ((some "NoPairs", .own "NoKey"), false), ((some "NoPairs", .own "NoPush"), false), ((some "NoPairs", .own "NoRow"), false), ((some "NoPairs", .own "NoRule"), false), ((some "NoPairs", .own "NoText"), false), ((some "NoPairs", .own "Twice"), false), ((some "NoPairs", .own "NoPairs"), true), ((some "NoPairs", .ty "ValueError"), true)]
noncomputable def N__law_pen : List Str := ["_law_script"]
noncomputable def p__law_pen : FS := (sRet (fLst (aCons (fVar 0) (aCons (fOr (fBin gEq (fCall gLen (aCons (fVar 0) aNil)) (fC (.int 0))) (fBin gEq (fBin gMod (fBin gIx (fVar 0) (fC (.int 0))) (fC (.int 2))) (fC (.int 0)))) (aCons (fC (.int 0)) (aCons (fC (.int 0)) aNil))))))
noncomputable def F__law_pen : FF := fun ds μ => retOf (p__law_pen (startD N__law_pen ds) μ)
noncomputable def N__law_mixed : List Str := ["_law_script", "_law_k", "_law_cell", "_law_one", "_law_two"]
noncomputable def p__law_mixed : FS := (sSeq (sSet 2 (fC (.int 29))) (sSeq (sIf (fTest (fBin (gCmp fun i j => decide (j < i)) (fCall gLen (aCons (fVar 0) aNil)) (fC (.int 0)))) (sSet 2 (fBin gIx (fVar 0) (fBin gMod (fVar 1) (fCall gLen (aCons (fVar 0) aNil))))) sSkip) (sSeq (sSet 3 (fBin gMod (fBin gAdd (fBin gMul (fBin gAdd (fBin gAdd (fVar 2) (fBin gMul (fC (.int 40503)) (fVar 1))) (fC (.int 1))) (fC (.int 48271))) (fBin gMul (fVar 1) (fVar 1))) (fC (.int 2147483647)))) (sSeq (sSet 4 (fBin gMod (fBin gAdd (fBin gAdd (fBin gMul (fVar 3) (fVar 3)) (fBin gMul (fC (.int 69621)) (fVar 3))) (fBin gMul (fC (.int 31)) (fVar 1))) (fC (.int 2147483629)))) (sRet (fBin gMod (fBin gAdd (fBin gAdd (fBin gMul (fVar 4) (fVar 4)) (fBin gMul (fC (.int 16807)) (fVar 4))) (fVar 1)) (fC (.int 1073741789))))))))
noncomputable def F__law_mixed : FF := fun ds μ => retOf (p__law_mixed (startD N__law_mixed ds) μ)
noncomputable def N__law_take : List Str := ["_law_pen_here", "_law_many", "_law_script", "_law_is_mixed", "_law_k", "_law_rest"]
noncomputable def p__law_take : FS := (sSeq (sAsg (fVar 0) (gTL 4 (gsCons (gN 2) (gsCons (gN 3) (gsCons (gN 4) (gsCons (gN 5) gsNil)))))) (sSeq (sAsg (fBin gAdd (fVar 4) (fC (.int 1))) (gAt (fVar 0) (fC (.int 2)))) (sSeq (sIf (fTest (fVar 3)) (sRet (fBin gMod (fCall F__law_mixed (aCons (fVar 2) (aCons (fVar 4) aNil))) (fVar 1))) sSkip) (sSeq (sIf (fTest (fBin gEq (fBin gMod (fVar 4) (fC (.int 60))) (fC (.int 0)))) (sSeq (sSet 5 (fC (.int 0))) (sIf (fTest (fBin (gCmp fun i j => decide (i < j)) (fBin gAdd (fBin gDiv (fVar 4) (fC (.int 60))) (fC (.int 1))) (fCall gLen (aCons (fVar 2) aNil)))) (sSet 5 (fBin gIx (fVar 2) (fBin gAdd (fBin gDiv (fVar 4) (fC (.int 60))) (fC (.int 1))))) sSkip)) sSkip) (sSeq (sAsg (fBin gDiv (fVar 5) (fVar 1)) (gAt (fVar 0) (fC (.int 3)))) (sRet (fBin gMod (fVar 5) (fVar 1))))))))
noncomputable def F__law_take : FF := fun ds μ => retOf (p__law_take (startD N__law_take ds) μ)
noncomputable def e__law_pairs_0 : FE := (fC (.int 1))
noncomputable def b__law_pairs_0 : FS := (sExpr (fMeth gAppend (fVar 3) (aCons (fTup (aCons (fCall F__law_take (aCons (fVar 0) (aCons (fVar 2) aNil))) (aCons (fCall F__law_take (aCons (fVar 0) (aCons (fVar 2) aNil))) aNil))) aNil)))
noncomputable def N__law_pairs : List Str := ["_law_pen_here", "_law_many", "_law_nests", "_law_keys", "_law_k"]
noncomputable def p__law_pairs : FS := (sSeq (sSet 2 (fBin gAdd (fC (.int 1)) (fCall F__law_take (aCons (fVar 0) (aCons (fC (.int 10)) aNil))))) (sSeq (sSet 3 (fLst aNil)) (sSeq (sFor (iRange (aCons (fCall F__law_take (aCons (fVar 0) (aCons (fVar 1) aNil))) aNil)) (gN 4) b__law_pairs_0) (sRet (fTup (aCons (fCall gTuple (aCons (fLC 1 [] (iRange (aCons (fVar 2) aNil)) (gN 0) cYes e__law_pairs_0) aNil)) (aCons (fCall gTuple (aCons (fVar 3) aNil)) aNil)))))))
noncomputable def F__law_pairs : FF := fun ds μ => retOf (p__law_pairs (startD N__law_pairs ds) μ)
noncomputable def e__law_marks_0 : FE := (fBin gIx (fLst (aCons (fVar 0) (aCons (fVar 1) aNil))) (fCall gInt (aCons (fBin gEq (fVar 0) (fVar 2)) aNil)))
noncomputable def b__law_marks_0 : FS := (sSeq (sSet 5 (fBin gIx (fVar 2) (fVar 4))) (sSeq (sSet 6 (fBin gIx (fVar 2) (fBin gIx (fBin gIx (fBin gIx (fVar 0) (fC (.int 1))) (fVar 3)) (fC (.int 0))))) (sSet 2 (fLC 1 [6, 5] (iSeq (fVar 2)) (gN 0) cYes e__law_marks_0))))
noncomputable def b__law_marks_1 : FS := (sFor (iSeq (fSl (fBin gIx (fBin gIx (fVar 0) (fC (.int 1))) (fVar 3)) (pYes (fC (.int 1))) pNo)) (gN 4) b__law_marks_0)
noncomputable def N__law_marks : List Str := ["_law_web", "_law_keys", "_law_marks_here", "_law_key", "_law_nest", "_law_old", "_law_new"]
noncomputable def p__law_marks : FS := (sSeq (sSet 2 (fLRange (fCall gLen (aCons (fBin gIx (fVar 0) (fC (.int 0))) aNil)))) (sSeq (sFor (iSeq (fVar 1)) (gN 3) b__law_marks_1) (sRet (fVar 2))))
noncomputable def F__law_marks : FF := fun ds μ => retOf (p__law_marks (startD N__law_marks ds) μ)
noncomputable def e__law_due_0 : FE := (fVar 0)
noncomputable def c__law_due_0 : FT := (fTest (fBin gEq (fBin gIx (fVar 1) (fBin gIx (fVar 0) (fC (.int 0)))) (fBin gIx (fVar 1) (fVar 2))))
noncomputable def e__law_due_1 : FE := (fVar 0)
noncomputable def c__law_due_1 : FT := (fTest (fBin gEq (fVar 0) (fBin gIx (fVar 1) (fVar 2))))
noncomputable def b__law_due_0 : FS := (sIf (fTest (fBin gEq (fMeth gIndex (fVar 1) (aCons (fBin gIx (fVar 1) (fVar 3)) aNil)) (fVar 3))) (sSeq (sSet 4 (fCall gLen (aCons (fLC 1 [1, 3] (iSeq (fVar 1)) (gN 0) c__law_due_1 e__law_due_1) aNil))) (sSeq (sSet 5 (fCall gLen (aCons (fLC 1 [1, 3] (iSeq (fBin gIx (fVar 0) (fC (.int 1)))) (gN 0) c__law_due_0 e__law_due_0) aNil))) (sExpr (fMeth gAppend (fVar 2) (aCons (fBin gIx (fLst (aCons (fC (.str "tree")) (aCons (fC (.str "ring")) (aCons (fC (.str "over")) aNil)))) (fCall gMin2 (aCons (fC (.int 2)) (aCons (fBin gSub (fBin gAdd (fVar 5) (fC (.int 1))) (fVar 4)) aNil)))) aNil))))) sSkip)
noncomputable def N__law_due : List Str := ["_law_web", "_law_marks_here", "_law_found", "_law_nest", "_law_nests", "_law_keys"]
noncomputable def p__law_due : FS := (sSeq (sSet 1 (fCall F__law_marks (aCons (fVar 0) (aCons (fLRange (fCall gLen (aCons (fBin gIx (fVar 0) (fC (.int 1))) aNil))) aNil)))) (sSeq (sSet 2 (fLst aNil)) (sSeq (sFor (iRange (aCons (fCall gLen (aCons (fVar 1) aNil)) aNil)) (gN 3) b__law_due_0) (sRet (fVar 2)))))
noncomputable def F__law_due : FF := fun ds μ => retOf (p__law_due (startD N__law_due ds) μ)
noncomputable def e_check_pairs_0 : FE := (fBin gNe (fVar 0) (fC (.int 1)))
noncomputable def e_check_pairs_1 : FE := (fBin gNe (fCall gLen (aCons (fVar 0) aNil)) (fC (.int 2)))
noncomputable def N_check_pairs : List Str := ["web"]
noncomputable def p_check_pairs : FS := (sIf (tOrT (fTest (fCall gAny (aCons (fLC 1 [] (iSeq (fBin gIx (fVar 0) (fC (.int 0)))) (gN 0) cYes e_check_pairs_0) aNil))) (fTest (fCall gAny (aCons (fLC 1 [] (iSeq (fBin gIx (fVar 0) (fC (.int 1)))) (gN 0) cYes e_check_pairs_1) aNil)))) (sRaise "NoPairs" (aCons (fC (.str "a room is not 1, or a key has not two homes")) aNil)) sSkip)
noncomputable def F_check_pairs : FX := fun ds μ => retX (p_check_pairs (startD N_check_pairs ds) μ)
noncomputable def N_word_of : List Str := ["part"]
noncomputable def p_word_of : FS := (sSeq (sIf (fTest (fBin gEq (fCall gLen (aCons (fBin gIx (fVar 0) (fC (.int 1))) aNil)) (fBin gSub (fCall gLen (aCons (fBin gIx (fVar 0) (fC (.int 0))) aNil)) (fC (.int 1))))) (sRet (fC (.str "tree"))) sSkip) (sSeq (sIf (fTest (fBin gEq (fCall gLen (aCons (fBin gIx (fVar 0) (fC (.int 1))) aNil)) (fCall gLen (aCons (fBin gIx (fVar 0) (fC (.int 0))) aNil)))) (sRet (fC (.str "ring"))) sSkip) (sRet (fC (.str "over")))))
noncomputable def F_word_of : FF := fun ds μ => retOf (p_word_of (startD N_word_of ds) μ)
noncomputable def b_joined_to_0 : FS := (sIf (tAndT (fTest (fBin gIn (fVar 4) (fVar 5))) (fTest (fBin gDnotIn (fVar 6) (fVar 2)))) (sSeq (sAsg (fC (.bl true)) (gAtD (fVar 2) (fVar 6))) (sExpr (fMeth gAppend (fVar 3) (aCons (fVar 6) aNil)))) sSkip)
noncomputable def b_joined_to_1 : FS := (sFor (iSeq (fVar 5)) (gN 6) b_joined_to_0)
noncomputable def b_joined_to_2 : FS := (sSeq (sSet 4 (fMeth0 gPop (fVar 3))) (sFor (iSeq (fBin gIx (fVar 0) (fC (.int 1)))) (gN 5) b_joined_to_1))
noncomputable def N_joined_to : List Str := ["web", "nest", "nests", "rest", "here", "homes", "other"]
noncomputable def p_joined_to : FS := (sSeq (sSet 2 (fDsp (fVar 1) (fC (.bl true)))) (sSeq (sSet 3 (fLst (aCons (fVar 1) aNil))) (sSeq (sWhile 100000 (fTest (fBin gNe (fVar 3) (fLst aNil))) b_joined_to_2) (sRet (fCall gSortD (aCons (fVar 2) aNil))))))
noncomputable def F_joined_to : FF := fun ds μ => retOf (p_joined_to (startD N_joined_to ds) μ)
noncomputable def e_part_of_0 : FE := (fVar 0)
noncomputable def c_part_of_0 : FT := (fTest (fBin gIn (fBin gIx (fVar 1) (fC (.int 0))) (fVar 2)))
noncomputable def N_part_of : List Str := ["web", "nest", "nests"]
noncomputable def p_part_of : FS := (sSeq (sSet 2 (fCall F_joined_to (aCons (fVar 0) (aCons (fVar 1) aNil)))) (sRet (fTup (aCons (fVar 2) (aCons (fLC 2 [2] (iEnum (fBin gIx (fVar 0) (fC (.int 1)))) (gT 2 (gsCons (gN 0) (gsCons (gN 1) gsNil))) c_part_of_0 e_part_of_0) aNil)))))
noncomputable def F_part_of : FF := fun ds μ => retOf (p_part_of (startD N_part_of ds) μ)
noncomputable def e_parts_0 : FE := (fVar 1)
noncomputable def c_parts_0 : FT := (fTest (fBin gEq (fBin gIx (fBin gIx (fVar 1) (fC (.int 0))) (fC (.int 0))) (fVar 0)))
noncomputable def e_parts_1 : FE := (fCall F_part_of (aCons (fVar 1) (aCons (fVar 0) aNil)))
noncomputable def N_parts : List Str := ["web", "found"]
noncomputable def p_parts : FS := (sSeq (sSet 1 (fLC 1 [0] (iRange (aCons (fCall gLen (aCons (fBin gIx (fVar 0) (fC (.int 0))) aNil)) aNil)) (gN 0) cYes e_parts_1)) (sRet (fLC 2 [] (iEnum (fVar 1)) (gT 2 (gsCons (gN 0) (gsCons (gN 1) gsNil))) c_parts_0 e_parts_0)))
noncomputable def F_parts : FF := fun ds μ => retOf (p_parts (startD N_parts ds) μ)
noncomputable def e_words_0 : FE := (fCall F_word_of (aCons (fVar 0) aNil))
noncomputable def N_words : List Str := ["web"]
noncomputable def p_words : FS := (sSeq (sExprX F_check_pairs (aCons (fVar 0) aNil)) (sRet (fLC 1 [] (iSeq (fCall F_parts (aCons (fVar 0) aNil))) (gN 0) cYes e_words_0)))
noncomputable def F_words : FX := fun ds μ => retX (p_words (startD N_words ds) μ)
noncomputable def N__law_other : List Str := ["_law_pen_here", "_law_web", "_law_rooms", "_law_keys", "_law_at", "_law_room", "_law_more", "_law_place"]
noncomputable def p__law_other : FS := (sSeq (sAsg (fVar 1) (gT 2 (gsCons (gN 2) (gsCons (gN 3) gsNil)))) (sSeq (sSet 4 (fCall F__law_take (aCons (fVar 0) (aCons (fCall gLen (aCons (fVar 2) aNil)) aNil)))) (sSeq (sIf (fTest (fBin gEq (fCall F__law_take (aCons (fVar 0) (aCons (fC (.int 2)) aNil))) (fC (.int 0)))) (sSeq (sSet 5 (fBin gIx (fLst (aCons (fC (.int 0)) (aCons (fC (.int 2)) (aCons (fC (.int 9)) (aCons (fBin gPow (fC (.int 10)) (fC (.int 40))) aNil))))) (fCall F__law_take (aCons (fVar 0) (aCons (fC (.int 4)) aNil))))) (sRet (fTup (aCons (fBin gAdd (fBin gAdd (fSl (fVar 2) pNo (pYes (fVar 4))) (fTup (aCons (fVar 5) aNil))) (fSl (fVar 2) (pYes (fBin gAdd (fVar 4) (fC (.int 1)))) pNo)) (aCons (fVar 3) aNil))))) sSkip) (sSeq (sSet 6 (fTup (aCons (fVar 4) (aCons (fCall F__law_take (aCons (fVar 0) (aCons (fCall gLen (aCons (fVar 2) aNil)) aNil))) (aCons (fCall F__law_take (aCons (fVar 0) (aCons (fCall gLen (aCons (fVar 2) aNil)) aNil))) aNil))))) (sSeq (sSet 7 (fCall F__law_take (aCons (fVar 0) (aCons (fBin gAdd (fCall gLen (aCons (fVar 3) aNil)) (fC (.int 1))) aNil)))) (sRet (fTup (aCons (fVar 2) (aCons (fBin gAdd (fBin gAdd (fSl (fVar 3) pNo (pYes (fVar 7))) (fTup (aCons (fVar 6) aNil))) (fSl (fVar 3) (pYes (fBin gAdd (fVar 7) (fCall F__law_take (aCons (fVar 0) (aCons (fC (.int 2)) aNil))))) pNo)) aNil)))))))))
noncomputable def F__law_other : FF := fun ds μ => retOf (p__law_other (startD N__law_other ds) μ)
noncomputable def N_is_on_ring : List Str := ["web", "key", "homes", "others"]
noncomputable def p_is_on_ring : FS := (sSeq (sSet 2 (fBin gIx (fBin gIx (fVar 0) (fC (.int 1))) (fVar 1))) (sSeq (sSet 3 (fTup (aCons (fBin gIx (fVar 0) (fC (.int 0))) (aCons (fBin gAdd (fSl (fBin gIx (fVar 0) (fC (.int 1))) pNo (pYes (fVar 1))) (fSl (fBin gIx (fVar 0) (fC (.int 1))) (pYes (fBin gAdd (fVar 1) (fC (.int 1)))) pNo)) aNil)))) (sRet (fBin gIn (fBin gIx (fVar 2) (fC (.int 1))) (fCall F_joined_to (aCons (fVar 3) (aCons (fBin gIx (fVar 2) (fC (.int 0))) aNil)))))))
noncomputable def F_is_on_ring : FF := fun ds μ => retOf (p_is_on_ring (startD N_is_on_ring ds) μ)
noncomputable def e_on_rings_0 : FE := (fVar 0)
noncomputable def c_on_rings_0 : FT := (fTest (fCall F_is_on_ring (aCons (fVar 1) (aCons (fVar 0) aNil))))
noncomputable def N_on_rings : List Str := ["web"]
noncomputable def p_on_rings : FS := (sSeq (sExprX F_check_pairs (aCons (fVar 0) aNil)) (sRet (fLC 1 [0] (iRange (aCons (fCall gLen (aCons (fBin gIx (fVar 0) (fC (.int 1))) aNil)) aNil)) (gN 0) c_on_rings_0 e_on_rings_0)))
noncomputable def F_on_rings : FX := fun ds μ => retX (p_on_rings (startD N_on_rings ds) μ)
noncomputable def e_ways_of_0 : FE := (fVar 0)
noncomputable def c_ways_of_0 : FT := (fTest (fBin gIn (fVar 0) (fVar 1)))
noncomputable def N_ways_of : List Str := ["part", "ring_keys", "word"]
noncomputable def p_ways_of : FS := (sSeq (sSet 2 (fCall F_word_of (aCons (fVar 0) aNil))) (sSeq (sIf (fTest (fBin gEq (fVar 2) (fC (.str "tree")))) (sRet (fCall gLen (aCons (fBin gIx (fVar 0) (fC (.int 0))) aNil))) sSkip) (sSeq (sIf (fTest (fBin gEq (fVar 2) (fC (.str "over")))) (sRet (fC (.int 0))) sSkip) (sSeq (sIf (fTest (fBin gEq (fCall gLen (aCons (fLC 1 [1] (iSeq (fBin gIx (fVar 0) (fC (.int 1)))) (gN 0) c_ways_of_0 e_ways_of_0) aNil)) (fC (.int 1)))) (sRet (fC (.int 1))) sSkip) (sRet (fC (.int 2)))))))
noncomputable def F_ways_of : FF := fun ds μ => retOf (p_ways_of (startD N_ways_of ds) μ)
noncomputable def b_ways_0 : FS := (sAug 2 gMulI (fCall F_ways_of (aCons (fVar 3) (aCons (fVar 1) aNil))))
noncomputable def N_ways : List Str := ["web", "ring_keys", "product", "part"]
noncomputable def p_ways : FS := (sSeq (sSetX 1 F_on_rings (aCons (fVar 0) aNil)) (sSeq (sSet 2 (fC (.int 1))) (sSeq (sFor (iSeq (fCall F_parts (aCons (fVar 0) aNil))) (gN 3) b_ways_0) (sRet (fVar 2)))))
noncomputable def F_ways : FX := fun ds μ => retX (p_ways (startD N_ways ds) μ)
noncomputable def N__law_refused : List Str := ["_law_which", "_law_web", "_law_kept", "e"]
noncomputable def p__law_refused : FS := (sSeq (sSet 2 (fC .non)) (sSeq (sTry (sIf (fTest (fBin gEq (fVar 0) (fC (.int 0)))) (sExprX F_words (aCons (fVar 1) aNil)) (sIf (fTest (fBin gEq (fVar 0) (fC (.int 1)))) (sExprX F_on_rings (aCons (fVar 1) aNil)) (sExprX F_ways (aCons (fVar 1) aNil)))) (hAs 3 [("NoPairs", true)] (sSet 2 (fVar 3)) hNone)) (sSeq (sIf (tOrT (tNotT (fTest (fCall (gAsk kit) (aCons (fVar 2) (aCons (fC (.own "NoPairs")) aNil))))) (tNotT (fTest (fCall (gAsk kit) (aCons (fVar 2) (aCons (fC (.ty "ValueError")) aNil)))))) (sRet (fC (.bl false))) sSkip) (sRet (fNot (fCall (gAsk kit) (aCons (fVar 2) (aCons (fTup (aCons (fC (.own "Full")) (aCons (fC (.own "NoFit")) (aCons (fC (.own "NoKey")) (aCons (fC (.own "NoPush")) (aCons (fC (.own "NoRow")) (aCons (fC (.own "NoRule")) (aCons (fC (.own "NoText")) (aCons (fC (.own "Twice")) aNil))))))))) aNil))))))))
noncomputable def F__law_refused : FF := fun ds μ => retOf (p__law_refused (startD N__law_refused ds) μ)
noncomputable def e_law_0 : FE := (fCall F__law_refused (aCons (fVar 0) (aCons (fVar 1) aNil)))
noncomputable def e_law_1 : FE := (fCall (gIsi .str) (aCons (fVar 0) (aCons (fC (.ty "str")) aNil)))
noncomputable def N_law : List Str := ["_law_script", "_law_pen_here", "_law_web", "_law_due_here", "_law_found", "_law_other_here"]
noncomputable def p_law : FS := (sSeq (sSet 1 (fCall F__law_pen (aCons (fVar 0) aNil))) (sSeq (sSet 2 (fCall F__law_pairs (aCons (fVar 1) (aCons (fC (.int 13)) aNil)))) (sSeq (sSet 3 (fCall F__law_due (aCons (fVar 2) aNil))) (sSeq (sSet 4 (fCallX F_words (aCons (fVar 2) aNil))) (sSeq (sIf (tOrT (tNotT (fTest (fCall (gIsi .lst) (aCons (fVar 4) (aCons (fC (.ty "list")) aNil))))) (tOrT (fTest (fBin gNe (fVar 4) (fVar 3))) (tNotT (fTest (fCall gAll (aCons (fLC 1 [] (iSeq (fVar 4)) (gN 0) cYes e_law_1) aNil)))))) (sRet (fC (.bl false))) sSkip) (sSeq (sExpr (fMeth gAppend (fVar 4) (aCons (fC (.str "")) aNil))) (sSeq (sSet 5 (fCall F__law_other (aCons (fVar 1) (aCons (fVar 2) aNil)))) (sSeq (sIf (tNotT (fTest (fCall gAll (aCons (fLC 1 [5] (iRange (aCons (fC (.int 3)) aNil)) (gN 0) cYes e_law_0) aNil)))) (sRet (fC (.bl false))) sSkip) (sRet (fBin gEq (fCallX F_words (aCons (fVar 2) aNil)) (fVar 3)))))))))))
noncomputable def F_law : FF := fun ds μ => retOf (p_law (startD N_law ds) μ)
structure Txt (K : PySem.W.Frag) (mg : Str → Option Value) : Prop where
  x_NoPairs : ∃ C, PySem.W.nsIn K mainGlobals "NoPairs" = some (some (.ref C)) ∧ mg "NoPairs" = some (.ref C) ∧ PySem.W.ktsIn K C "BaseException" = true
  x_Twice : ∃ C, PySem.W.nsIn K mainGlobals "Twice" = some (some (.ref C)) ∧ mg "Twice" = some (.ref C) ∧ PySem.W.ktsIn K C "BaseException" = true
  x_NoText : ∃ C, PySem.W.nsIn K mainGlobals "NoText" = some (some (.ref C)) ∧ mg "NoText" = some (.ref C) ∧ PySem.W.ktsIn K C "BaseException" = true
  x_NoRule : ∃ C, PySem.W.nsIn K mainGlobals "NoRule" = some (some (.ref C)) ∧ mg "NoRule" = some (.ref C) ∧ PySem.W.ktsIn K C "BaseException" = true
  x_NoRow : ∃ C, PySem.W.nsIn K mainGlobals "NoRow" = some (some (.ref C)) ∧ mg "NoRow" = some (.ref C) ∧ PySem.W.ktsIn K C "BaseException" = true
  x_NoPush : ∃ C, PySem.W.nsIn K mainGlobals "NoPush" = some (some (.ref C)) ∧ mg "NoPush" = some (.ref C) ∧ PySem.W.ktsIn K C "BaseException" = true
  x_NoKey : ∃ C, PySem.W.nsIn K mainGlobals "NoKey" = some (some (.ref C)) ∧ mg "NoKey" = some (.ref C) ∧ PySem.W.ktsIn K C "BaseException" = true
  x_NoFit : ∃ C, PySem.W.nsIn K mainGlobals "NoFit" = some (some (.ref C)) ∧ mg "NoFit" = some (.ref C) ∧ PySem.W.ktsIn K C "BaseException" = true
  x_Full : ∃ C, PySem.W.nsIn K mainGlobals "Full" = some (some (.ref C)) ∧ mg "Full" = some (.ref C) ∧ PySem.W.ktsIn K C "BaseException" = true
  x_NestError : ∃ C, PySem.W.nsIn K mainGlobals "NestError" = some (some (.ref C)) ∧ mg "NestError" = some (.ref C) ∧ PySem.W.ktsIn K C "BaseException" = true
  e_NoPairs : ∀ C, PySem.W.nsIn K mainGlobals "NoPairs" = some (some (.ref C)) → PySem.W.excIn K C [.type "ValueError", .type "Exception", .type "BaseException", .type "object"] "ValueError.__new__" = true
  s_NestError : ∀ C, PySem.W.nsIn K mainGlobals "NestError" = some (some (.ref C)) → Subs K C [("NoPairs", true)]
  kit : KitOk K kit
  n_ValueError : mg "ValueError" = none
  n_all : mg "all" = none
  n_any : mg "any" = none
  n_enumerate : mg "enumerate" = none
  n_int : mg "int" = none
  n_isinstance : mg "isinstance" = none
  n_len : mg "len" = none
  n_list : mg "list" = none
  n_min : mg "min" = none
  n_range : mg "range" = none
  n_sorted : mg "sorted" = none
  n_str : mg "str" = none
  n_tuple : mg "tuple" = none
theorem bb_ValueError : bootBuiltins "ValueError" = some (.type "ValueError") := by decide +kernel
theorem bb_all : bootBuiltins "all" = some (.builtin "all") := by decide +kernel
theorem bb_any : bootBuiltins "any" = some (.builtin "any") := by decide +kernel
theorem bb_enumerate : bootBuiltins "enumerate" = some (.type "enumerate") := by decide +kernel
theorem bb_int : bootBuiltins "int" = some (.type "int") := by decide +kernel
theorem bb_isinstance : bootBuiltins "isinstance" = some (.builtin "isinstance") := by decide +kernel
theorem bb_len : bootBuiltins "len" = some (.builtin "len") := by decide +kernel
theorem bb_list : bootBuiltins "list" = some (.type "list") := by decide +kernel
theorem bb_min : bootBuiltins "min" = some (.builtin "min") := by decide +kernel
theorem bb_sorted : bootBuiltins "sorted" = some (.builtin "sorted") := by decide +kernel
theorem bb_str : bootBuiltins "str" = some (.type "str") := by decide +kernel
theorem bb_tuple : bootBuiltins "tuple" = some (.type "tuple") := by decide +kernel
section
variable {P : Program} {w : World} {K : PySem.W.Frag} {mg : Str → Option Value} {base : Heap}
set_option maxHeartbeats 4000000
noncomputable abbrev s__law_pen : Stmt := top 23
noncomputable abbrev ps__law_pen : List Str := ["_law_script"]
theorem sc__law_pen : FnScope N__law_pen ps__law_pen (defScope s__law_pen) := ⟨rfl, rfl, rfl, by decide +kernel, rfl, by decide +kernel, by decide +kernel⟩
theorem okf__law_pen (T : Txt K mg) {f : Addr} {fd : FuncData} (B : FnAt K mg "_law_pen" s__law_pen ps__law_pen f fd) : FnOk P w K mg base CX0 1 f fd ps__law_pen (spM K 1 F__law_pen) := by
  refine fnM B.fn sc__law_pen rfl (fun cdv A outer s H E hr => ⟨p__law_pen, ?_, fun _ _ _ _ _ e => e⟩)
  have hu := hr.units
  exact (mss_one (ms_ret (me_lst (man_cons (mv 0) (man_cons (me_or (me_cmp (opM_eq hu) (me_callB callM_len T.n_len bb_len (man_cons (mv 0) man_nil)) me_int) (me_one (me_cmp (opM_eq hu) (me_op opM_mod (me_ix (mv 0) me_int) me_int) me_int))) (man_cons me_int (man_cons me_int man_nil)))))))
noncomputable abbrev s__law_mixed : Stmt := top 24
noncomputable abbrev ps__law_mixed : List Str := ["_law_script", "_law_k"]
theorem sc__law_mixed : FnScope N__law_mixed ps__law_mixed (defScope s__law_mixed) := ⟨rfl, rfl, rfl, by decide +kernel, rfl, by decide +kernel, by decide +kernel⟩
theorem okf__law_mixed (T : Txt K mg) {f : Addr} {fd : FuncData} (B : FnAt K mg "_law_mixed" s__law_mixed ps__law_mixed f fd) : FnOk P w K mg base CX0 1 f fd ps__law_mixed (spM K 2 F__law_mixed) := by
  refine fnM B.fn sc__law_mixed rfl (fun cdv A outer s H E hr => ⟨p__law_mixed, ?_, fun _ _ _ _ _ e => e⟩)
  have hu := hr.units
  exact (mss_cons (ms_set 2 me_int (hN := sc__law_mixed.nd)) (mss_cons (ms_if (mt_cmp opM_gt (me_callB callM_len T.n_len bb_len (man_cons (mv 0) man_nil)) me_int) (mss_one (ms_set 2 (me_ix (mv 0) (me_op opM_mod (mv 1) (me_callB callM_len T.n_len bb_len (man_cons (mv 0) man_nil)))) (hN := sc__law_mixed.nd))) mss_nil) (mss_cons (ms_set 3 (me_op opM_mod (me_op opM_add (me_op opM_mul (me_op opM_add (me_op opM_add (mv 2) (me_op opM_mul me_int (mv 1))) me_int) me_int) (me_op opM_mul (mv 1) (mv 1))) me_int) (hN := sc__law_mixed.nd)) (mss_cons (ms_set 4 (me_op opM_mod (me_op opM_add (me_op opM_add (me_op opM_mul (mv 3) (mv 3)) (me_op opM_mul me_int (mv 3))) (me_op opM_mul me_int (mv 1))) me_int) (hN := sc__law_mixed.nd)) (mss_one (ms_ret (me_op opM_mod (me_op opM_add (me_op opM_add (me_op opM_mul (mv 4) (mv 4)) (me_op opM_mul me_int (mv 4))) (mv 1)) me_int)))))))
noncomputable abbrev s__law_take : Stmt := top 25
noncomputable abbrev ps__law_take : List Str := ["_law_pen_here", "_law_many"]
theorem sc__law_take : FnScope N__law_take ps__law_take (defScope s__law_take) := ⟨rfl, rfl, rfl, by decide +kernel, rfl, by decide +kernel, by decide +kernel⟩
theorem okf__law_take (T : Txt K mg) {f__law_mixed : Addr} {fd__law_mixed : FuncData} (B__law_mixed : FnAt K mg "_law_mixed" s__law_mixed ps__law_mixed f__law_mixed fd__law_mixed) (ok__law_mixed : FnOk P w K mg base CX0 1 f__law_mixed fd__law_mixed ps__law_mixed (spM K 2 F__law_mixed)) {f : Addr} {fd : FuncData} (B : FnAt K mg "_law_take" s__law_take ps__law_take f fd) : FnOk P w K mg base CX0 2 f fd ps__law_take (spM K 2 F__law_take) := by
  refine fnM B.fn sc__law_take rfl (fun cdv A outer s H E hr => ⟨p__law_take, ?_, fun _ _ _ _ _ e => e⟩)
  have hu := hr.units
  exact (mss_cons (ms_asg (mv 0) (mg_lstU (mgs_cons (mg_name 2 (hN := sc__law_take.nd)) (mgs_cons (mg_name 3 (hN := sc__law_take.nd)) (mgs_cons (mg_name 4 (hN := sc__law_take.nd)) (mgs_cons (mg_name 5 (hN := sc__law_take.nd)) mgs_nil)))))) (mss_cons (ms_asg (me_op opM_add (mv 4) me_int) (mg_at (mv 0) me_int)) (mss_cons (ms_if (mt_val (mv 3)) (mss_one (ms_ret (me_op opM_mod (mcall B__law_mixed ok__law_mixed hr (man_cons (mv 2) (man_cons (mv 4) man_nil))) (mv 1)))) mss_nil) (mss_cons (ms_if (mt_cmp (opM_eq hu) (me_op opM_mod (mv 4) me_int) me_int) (mss_cons (ms_set 5 me_int (hN := sc__law_take.nd)) (mss_one (ms_if (mt_cmp opM_lt (me_op opM_add (me_op opM_div (mv 4) me_int) me_int) (me_callB callM_len T.n_len bb_len (man_cons (mv 2) man_nil))) (mss_one (ms_set 5 (me_ix (mv 2) (me_op opM_add (me_op opM_div (mv 4) me_int) me_int)) (hN := sc__law_take.nd))) mss_nil))) mss_nil) (mss_cons (ms_asg (me_op opM_div (mv 5) (mv 1)) (mg_at (mv 0) me_int)) (mss_one (ms_ret (me_op opM_mod (mv 5) (mv 1)))))))))
noncomputable abbrev s__law_pairs : Stmt := top 26
noncomputable abbrev ps__law_pairs : List Str := ["_law_pen_here", "_law_many"]
theorem sc__law_pairs : FnScope N__law_pairs ps__law_pairs (defScope s__law_pairs) := ⟨rfl, rfl, rfl, by decide +kernel, rfl, by decide +kernel, by decide +kernel⟩
theorem okf__law_pairs (T : Txt K mg) {f__law_take : Addr} {fd__law_take : FuncData} (B__law_take : FnAt K mg "_law_take" s__law_take ps__law_take f__law_take fd__law_take) (ok__law_take : FnOk P w K mg base CX0 2 f__law_take fd__law_take ps__law_take (spM K 2 F__law_take)) {f : Addr} {fd : FuncData} (B : FnAt K mg "_law_pairs" s__law_pairs ps__law_pairs f fd) : FnOk P w K mg base CX0 3 f fd ps__law_pairs (spM K 2 F__law_pairs) := by
  refine fnM B.fn sc__law_pairs rfl (fun cdv A outer s H E hr => ⟨p__law_pairs, ?_, fun _ _ _ _ _ e => e⟩)
  have hu := hr.units
  exact (mss_cons (ms_set 2 (me_op opM_add me_int (mcall B__law_take ok__law_take hr (man_cons (mv 0) (man_cons me_int man_nil)))) (hN := sc__law_pairs.nd)) (mss_cons (ms_set 3 (me_lst man_nil) (hN := sc__law_pairs.nd)) (mss_cons (ms_for (mi_range T.n_range (man_cons (mcall B__law_take ok__law_take hr (man_cons (mv 0) (man_cons (mv 1) man_nil))) man_nil)) (mg_name 4 (hN := sc__law_pairs.nd)) (mss_one (ms_expr (me_append (mv 3) (man_cons (me_tup (man_cons (mcall B__law_take ok__law_take hr (man_cons (mv 0) (man_cons (mv 2) man_nil))) (man_cons (mcall B__law_take ok__law_take hr (man_cons (mv 0) (man_cons (mv 2) man_nil))) man_nil))) man_nil))))) (mss_one (ms_ret (me_tup (man_cons (me_callT callM_tuple T.n_tuple bb_tuple (man_cons (mlc ["_law_nest"] [] (mi_range T.n_range (man_cons (mv 2) man_nil)) (fun _ _ _ _ _ => (mgc_name 0 (hN := nodup_of (by rfl)))) (fun _ _ _ _ _ => mf_nil) (fun _ _ _ _ _ => me_int) fr_nil) man_nil)) (man_cons (me_callT callM_tuple T.n_tuple bb_tuple (man_cons (mv 3) man_nil)) man_nil))))))))
noncomputable abbrev s__law_marks : Stmt := top 27
noncomputable abbrev ps__law_marks : List Str := ["_law_web", "_law_keys"]
theorem sc__law_marks : FnScope N__law_marks ps__law_marks (defScope s__law_marks) := ⟨rfl, rfl, rfl, by decide +kernel, rfl, by decide +kernel, by decide +kernel⟩
theorem okf__law_marks (T : Txt K mg) {f : Addr} {fd : FuncData} (B : FnAt K mg "_law_marks" s__law_marks ps__law_marks f fd) : FnOk P w K mg base CX0 1 f fd ps__law_marks (spM K 2 F__law_marks) := by
  refine fnM B.fn sc__law_marks rfl (fun cdv A outer s H E hr => ⟨p__law_marks, ?_, fun _ _ _ _ _ e => e⟩)
  have hu := hr.units
  exact (mss_cons (ms_set 2 (me_lrange T.n_list bb_list T.n_range (me_callB callM_len T.n_len bb_len (man_cons (me_ix (mv 0) me_int) man_nil))) (hN := sc__law_marks.nd)) (mss_cons (ms_for (mi_seq (mv 1)) (mg_name 3 (hN := sc__law_marks.nd)) (mss_one (ms_for (mi_seq (me_sl (me_ix (me_ix (mv 0) me_int) (mv 3)) (mp_yes me_int) mp_no)) (mg_name 4 (hN := sc__law_marks.nd)) (mss_cons (ms_set 5 (me_ix (mv 2) (mv 4)) (hN := sc__law_marks.nd)) (mss_cons (ms_set 6 (me_ix (mv 2) (me_ix (me_ix (me_ix (mv 0) me_int) (mv 3)) me_int)) (hN := sc__law_marks.nd)) (mss_one (mslc 2 ["_law_mark"] [6, 5] (mi_seq (mv 2)) (fun _ _ _ _ _ => (mgc_name 0 (hN := nodup_of (by rfl)))) (fun _ _ _ _ _ => mf_nil) (fun _ _ _ _ _ => (me_ix (me_lst (man_cons (mv 0) (man_cons (mv 1) man_nil))) (me_callT callM_int T.n_int bb_int (man_cons (me_cmp (opM_eq hu) (mv 0) (mv 2)) man_nil)))) (fr_cons ⟨_, rfl, rfl⟩ (fr_cons ⟨_, rfl, rfl⟩ fr_nil)) sc__law_marks.nd))))))) (mss_one (ms_ret (mv 2)))))
noncomputable abbrev s__law_due : Stmt := top 28
noncomputable abbrev ps__law_due : List Str := ["_law_web"]
theorem sc__law_due : FnScope N__law_due ps__law_due (defScope s__law_due) := ⟨rfl, rfl, rfl, by decide +kernel, rfl, by decide +kernel, by decide +kernel⟩
theorem okf__law_due (T : Txt K mg) {f__law_marks : Addr} {fd__law_marks : FuncData} (B__law_marks : FnAt K mg "_law_marks" s__law_marks ps__law_marks f__law_marks fd__law_marks) (ok__law_marks : FnOk P w K mg base CX0 1 f__law_marks fd__law_marks ps__law_marks (spM K 2 F__law_marks)) {f : Addr} {fd : FuncData} (B : FnAt K mg "_law_due" s__law_due ps__law_due f fd) : FnOk P w K mg base CX0 2 f fd ps__law_due (spM K 1 F__law_due) := by
  refine fnM B.fn sc__law_due rfl (fun cdv A outer s H E hr => ⟨p__law_due, ?_, fun _ _ _ _ _ e => e⟩)
  have hu := hr.units
  exact (mss_cons (ms_set 1 (mcall B__law_marks ok__law_marks hr (man_cons (mv 0) (man_cons (me_lrange T.n_list bb_list T.n_range (me_callB callM_len T.n_len bb_len (man_cons (me_ix (mv 0) me_int) man_nil))) man_nil))) (hN := sc__law_due.nd)) (mss_cons (ms_set 2 (me_lst man_nil) (hN := sc__law_due.nd)) (mss_cons (ms_for (mi_range T.n_range (man_cons (me_callB callM_len T.n_len bb_len (man_cons (mv 1) man_nil)) man_nil)) (mg_name 3 (hN := sc__law_due.nd)) (mss_one (ms_if (mt_cmp (opM_eq hu) (me_index (mv 1) (man_cons (me_ix (mv 1) (mv 3)) man_nil)) (mv 3)) (mss_cons (ms_set 4 (me_callB callM_len T.n_len bb_len (man_cons (mlc ["_law_mark"] [1, 3] (mi_seq (mv 1)) (fun _ _ _ _ _ => (mgc_name 0 (hN := nodup_of (by rfl)))) (fun _ _ _ _ _ => (mf_one (mt_cmp (opM_eq hu) (mv 0) (me_ix (mv 1) (mv 2))))) (fun _ _ _ _ _ => (mv 0)) (fr_cons ⟨_, rfl, rfl⟩ (fr_cons ⟨_, rfl, rfl⟩ fr_nil))) man_nil)) (hN := sc__law_due.nd)) (mss_cons (ms_set 5 (me_callB callM_len T.n_len bb_len (man_cons (mlc ["_law_key"] [1, 3] (mi_seq (me_ix (mv 0) me_int)) (fun _ _ _ _ _ => (mgc_name 0 (hN := nodup_of (by rfl)))) (fun _ _ _ _ _ => (mf_one (mt_cmp (opM_eq hu) (me_ix (mv 1) (me_ix (mv 0) me_int)) (me_ix (mv 1) (mv 2))))) (fun _ _ _ _ _ => (mv 0)) (fr_cons ⟨_, rfl, rfl⟩ (fr_cons ⟨_, rfl, rfl⟩ fr_nil))) man_nil)) (hN := sc__law_due.nd)) (mss_one (ms_expr (me_append (mv 2) (man_cons (me_ix (me_lst (man_cons me_str (man_cons me_str (man_cons me_str man_nil)))) (me_callB (callM_min2 rfl) T.n_min bb_min (man_cons me_int (man_cons (me_op opM_sub (me_op opM_add (mv 5) me_int) (mv 4)) man_nil)))) man_nil)))))) mss_nil))) (mss_one (ms_ret (mv 2))))))
noncomputable abbrev s_check_pairs : Stmt := top 15
noncomputable abbrev ps_check_pairs : List Str := ["web"]
theorem sc_check_pairs : FnScope N_check_pairs ps_check_pairs (defScope s_check_pairs) := ⟨rfl, rfl, rfl, by decide +kernel, rfl, by decide +kernel, by decide +kernel⟩
theorem okf_check_pairs (T : Txt K mg) {f : Addr} {fd : FuncData} (B : FnAt K mg "check_pairs" s_check_pairs ps_check_pairs f fd) : FnOk P w K mg base (CXq P w) 1 f fd ps_check_pairs (spX K 1 F_check_pairs) := by
  obtain ⟨C_NoPairs, n_NoPairs, m_NoPairs, k_NoPairs⟩ := T.x_NoPairs
  refine fnX B.fn sc_check_pairs rfl (fun cdv A outer s H E hr => ⟨p_check_pairs, ?_, fun _ _ _ _ e => e⟩)
  have hu := hr.units
  exact (mss_one (ms_if (MW.mt (mw_or (mt_val (me_callB (callM_any rfl) T.n_any bb_any (man_cons (mlc ["room"] [] (mi_seq (me_ix (mv 0) me_int)) (fun _ _ _ _ _ => (mgc_name 0 (hN := nodup_of (by rfl)))) (fun _ _ _ _ _ => mf_nil) (fun _ _ _ _ _ => (me_cmp (opM_ne hu) (mv 0) me_int)) fr_nil) man_nil))) (mw_or1 (mt_val (me_callB (callM_any rfl) T.n_any bb_any (man_cons (mlc ["homes"] [] (mi_seq (me_ix (mv 0) me_int)) (fun _ _ _ _ _ => (mgc_name 0 (hN := nodup_of (by rfl)))) (fun _ _ _ _ _ => mf_nil) (fun _ _ _ _ _ => (me_cmp (opM_ne hu) (me_callB callM_len T.n_len bb_len (man_cons (mv 0) man_nil)) me_int)) fr_nil) man_nil)))))) (mss_one (ms_raise n_NoPairs (T.e_NoPairs C_NoPairs n_NoPairs) PySem.F.excBase_ValueError (man_cons me_str man_nil))) mss_nil))
noncomputable abbrev s_word_of : Stmt := top 16
noncomputable abbrev ps_word_of : List Str := ["part"]
theorem sc_word_of : FnScope N_word_of ps_word_of (defScope s_word_of) := ⟨rfl, rfl, rfl, by decide +kernel, rfl, by decide +kernel, by decide +kernel⟩
theorem okf_word_of (T : Txt K mg) {f : Addr} {fd : FuncData} (B : FnAt K mg "word_of" s_word_of ps_word_of f fd) : FnOk P w K mg base CX0 1 f fd ps_word_of (spM K 1 F_word_of) := by
  refine fnM B.fn sc_word_of rfl (fun cdv A outer s H E hr => ⟨p_word_of, ?_, fun _ _ _ _ _ e => e⟩)
  have hu := hr.units
  exact (mss_cons (ms_if (mt_cmp (opM_eq hu) (me_callB callM_len T.n_len bb_len (man_cons (me_ix (mv 0) me_int) man_nil)) (me_op opM_sub (me_callB callM_len T.n_len bb_len (man_cons (me_ix (mv 0) me_int) man_nil)) me_int)) (mss_one (ms_ret me_str)) mss_nil) (mss_cons (ms_if (mt_cmp (opM_eq hu) (me_callB callM_len T.n_len bb_len (man_cons (me_ix (mv 0) me_int) man_nil)) (me_callB callM_len T.n_len bb_len (man_cons (me_ix (mv 0) me_int) man_nil))) (mss_one (ms_ret me_str)) mss_nil) (mss_one (ms_ret me_str))))
noncomputable abbrev s_joined_to : Stmt := top 12
noncomputable abbrev ps_joined_to : List Str := ["web", "nest"]
theorem sc_joined_to : FnScope N_joined_to ps_joined_to (defScope s_joined_to) := ⟨rfl, rfl, rfl, by decide +kernel, rfl, by decide +kernel, by decide +kernel⟩
theorem okf_joined_to (T : Txt K mg) {f : Addr} {fd : FuncData} (B : FnAt K mg "joined_to" s_joined_to ps_joined_to f fd) : FnOk P w K mg base CX0 1 f fd ps_joined_to (spM K 2 F_joined_to) := by
  refine fnM B.fn sc_joined_to rfl (fun cdv A outer s H E hr => ⟨p_joined_to, ?_, fun _ _ _ _ _ e => e⟩)
  have hu := hr.units
  exact (mss_cons (ms_set 2 (me_dsp (mv 1) me_bl) (hN := sc_joined_to.nd)) (mss_cons (ms_set 3 (me_lst (man_cons (mv 1) man_nil)) (hN := sc_joined_to.nd)) (mss_cons (ms_while 100000 (mt_cmp (opM_ne hu) (mv 3) (me_lst man_nil)) (mss_cons (ms_set 4 (me_pop (mv 3)) (hN := sc_joined_to.nd)) (mss_one (ms_for (mi_seq (me_ix (mv 0) me_int)) (mg_name 5 (hN := sc_joined_to.nd)) (mss_one (ms_for (mi_seq (mv 5)) (mg_name 6 (hN := sc_joined_to.nd)) (mss_one (ms_if (MW.mt (mw_and (mt_cmp opM_in (mv 4) (mv 5)) (mw_and1 (mt_cmp opM_dnotIn (mv 6) (mv 2))))) (mss_cons (ms_asg me_bl (mg_atD (mv 2) (mv 6))) (mss_one (ms_expr (me_append (mv 3) (man_cons (mv 6) man_nil))))) mss_nil)))))))) (mss_one (ms_ret (me_callB (callM_sortD rfl) T.n_sorted bb_sorted (man_cons (mv 2) man_nil)))))))
noncomputable abbrev s_part_of : Stmt := top 13
noncomputable abbrev ps_part_of : List Str := ["web", "nest"]
theorem sc_part_of : FnScope N_part_of ps_part_of (defScope s_part_of) := ⟨rfl, rfl, rfl, by decide +kernel, rfl, by decide +kernel, by decide +kernel⟩
theorem okf_part_of (T : Txt K mg) {f_joined_to : Addr} {fd_joined_to : FuncData} (B_joined_to : FnAt K mg "joined_to" s_joined_to ps_joined_to f_joined_to fd_joined_to) (ok_joined_to : FnOk P w K mg base CX0 1 f_joined_to fd_joined_to ps_joined_to (spM K 2 F_joined_to)) {f : Addr} {fd : FuncData} (B : FnAt K mg "part_of" s_part_of ps_part_of f fd) : FnOk P w K mg base CX0 2 f fd ps_part_of (spM K 2 F_part_of) := by
  refine fnM B.fn sc_part_of rfl (fun cdv A outer s H E hr => ⟨p_part_of, ?_, fun _ _ _ _ _ e => e⟩)
  have hu := hr.units
  exact (mss_cons (ms_set 2 (mcall B_joined_to ok_joined_to hr (man_cons (mv 0) (man_cons (mv 1) man_nil))) (hN := sc_part_of.nd)) (mss_one (ms_ret (me_tup (man_cons (mv 2) (man_cons (mlc ["key", "homes"] [2] (mi_enum T.n_enumerate bb_enumerate (me_ix (mv 0) me_int)) (fun _ _ _ _ _ => (mgc_tup (mgcs_cons (mgc_name 0 (hN := nodup_of (by rfl))) (mgcs_cons (mgc_name 1 (hN := nodup_of (by rfl))) mgcs_nil)))) (fun _ _ _ _ _ => (mf_one (mt_cmp opM_in (me_ix (mv 1) me_int) (mv 2)))) (fun _ _ _ _ _ => (mv 0)) (fr_cons ⟨_, rfl, rfl⟩ fr_nil)) man_nil))))))
noncomputable abbrev s_parts : Stmt := top 14
noncomputable abbrev ps_parts : List Str := ["web"]
theorem sc_parts : FnScope N_parts ps_parts (defScope s_parts) := ⟨rfl, rfl, rfl, by decide +kernel, rfl, by decide +kernel, by decide +kernel⟩
theorem okf_parts (T : Txt K mg) {f_part_of : Addr} {fd_part_of : FuncData} (B_part_of : FnAt K mg "part_of" s_part_of ps_part_of f_part_of fd_part_of) (ok_part_of : FnOk P w K mg base CX0 2 f_part_of fd_part_of ps_part_of (spM K 2 F_part_of)) {f : Addr} {fd : FuncData} (B : FnAt K mg "parts" s_parts ps_parts f fd) : FnOk P w K mg base CX0 3 f fd ps_parts (spM K 1 F_parts) := by
  refine fnM B.fn sc_parts rfl (fun cdv A outer s H E hr => ⟨p_parts, ?_, fun _ _ _ _ _ e => e⟩)
  have hu := hr.units
  exact (mss_cons (mslc 1 ["nest"] [0] (mi_range T.n_range (man_cons (me_callB callM_len T.n_len bb_len (man_cons (me_ix (mv 0) me_int) man_nil)) man_nil)) (fun _ _ _ _ _ => (mgc_name 0 (hN := nodup_of (by rfl)))) (fun _ _ _ _ _ => mf_nil) (fun _ _ _ _ _ => (mcall B_part_of ok_part_of hr (man_cons (mv 1) (man_cons (mv 0) man_nil)))) (fr_cons ⟨_, rfl, rfl⟩ fr_nil) sc_parts.nd) (mss_one (ms_ret (mlc ["nest", "part"] [] (mi_enum T.n_enumerate bb_enumerate (mv 1)) (fun _ _ _ _ _ => (mgc_tup (mgcs_cons (mgc_name 0 (hN := nodup_of (by rfl))) (mgcs_cons (mgc_name 1 (hN := nodup_of (by rfl))) mgcs_nil)))) (fun _ _ _ _ _ => (mf_one (mt_cmp (opM_eq hu) (me_ix (me_ix (mv 1) me_int) me_int) (mv 0)))) (fun _ _ _ _ _ => (mv 1)) fr_nil))))
noncomputable abbrev s_words : Stmt := top 17
noncomputable abbrev ps_words : List Str := ["web"]
theorem sc_words : FnScope N_words ps_words (defScope s_words) := ⟨rfl, rfl, rfl, by decide +kernel, rfl, by decide +kernel, by decide +kernel⟩
theorem okf_words (T : Txt K mg) {f_check_pairs : Addr} {fd_check_pairs : FuncData} (B_check_pairs : FnAt K mg "check_pairs" s_check_pairs ps_check_pairs f_check_pairs fd_check_pairs) (ok_check_pairs : FnOk P w K mg base (CXq P w) 1 f_check_pairs fd_check_pairs ps_check_pairs (spX K 1 F_check_pairs)) {f_word_of : Addr} {fd_word_of : FuncData} (B_word_of : FnAt K mg "word_of" s_word_of ps_word_of f_word_of fd_word_of) (ok_word_of : FnOk P w K mg base CX0 1 f_word_of fd_word_of ps_word_of (spM K 1 F_word_of)) {f_parts : Addr} {fd_parts : FuncData} (B_parts : FnAt K mg "parts" s_parts ps_parts f_parts fd_parts) (ok_parts : FnOk P w K mg base CX0 3 f_parts fd_parts ps_parts (spM K 1 F_parts)) {f : Addr} {fd : FuncData} (B : FnAt K mg "words" s_words ps_words f fd) : FnOk P w K mg base (CXq P w) 4 f fd ps_words (spX K 1 F_words) := by
  refine fnX B.fn sc_words rfl (fun cdv A outer s H E hr => ⟨p_words, ?_, fun _ _ _ _ e => e⟩)
  have hu := hr.units
  exact (mss_cons (ms_exprX B_check_pairs ok_check_pairs hr (man_cons (mv 0) man_nil)) (mss_one (ms_ret (mlc ["part"] [] (mi_seq (mcall B_parts ok_parts hr (man_cons (mv 0) man_nil))) (fun _ _ _ _ _ => (mgc_name 0 (hN := nodup_of (by rfl)))) (fun _ _ _ _ _ => mf_nil) (fun _ _ _ _ _ => (mcall B_word_of ok_word_of hr (man_cons (mv 0) man_nil))) fr_nil))))
noncomputable abbrev s__law_other : Stmt := top 29
noncomputable abbrev ps__law_other : List Str := ["_law_pen_here", "_law_web"]
theorem sc__law_other : FnScope N__law_other ps__law_other (defScope s__law_other) := ⟨rfl, rfl, rfl, by decide +kernel, rfl, by decide +kernel, by decide +kernel⟩
theorem okf__law_other (T : Txt K mg) {f__law_take : Addr} {fd__law_take : FuncData} (B__law_take : FnAt K mg "_law_take" s__law_take ps__law_take f__law_take fd__law_take) (ok__law_take : FnOk P w K mg base CX0 2 f__law_take fd__law_take ps__law_take (spM K 2 F__law_take)) {f : Addr} {fd : FuncData} (B : FnAt K mg "_law_other" s__law_other ps__law_other f fd) : FnOk P w K mg base CX0 3 f fd ps__law_other (spM K 2 F__law_other) := by
  refine fnM B.fn sc__law_other rfl (fun cdv A outer s H E hr => ⟨p__law_other, ?_, fun _ _ _ _ _ e => e⟩)
  have hu := hr.units
  exact (mss_cons (ms_asg (mv 1) (mg_tup (mgs_cons (mg_name 2 (hN := sc__law_other.nd)) (mgs_cons (mg_name 3 (hN := sc__law_other.nd)) mgs_nil)))) (mss_cons (ms_set 4 (mcall B__law_take ok__law_take hr (man_cons (mv 0) (man_cons (me_callB callM_len T.n_len bb_len (man_cons (mv 2) man_nil)) man_nil))) (hN := sc__law_other.nd)) (mss_cons (ms_if (mt_cmp (opM_eq hu) (mcall B__law_take ok__law_take hr (man_cons (mv 0) (man_cons me_int man_nil))) me_int) (mss_cons (ms_set 5 (me_ix (me_lst (man_cons me_int (man_cons me_int (man_cons me_int (man_cons (me_op opM_pow me_int me_int) man_nil))))) (mcall B__law_take ok__law_take hr (man_cons (mv 0) (man_cons me_int man_nil)))) (hN := sc__law_other.nd)) (mss_one (ms_ret (me_tup (man_cons (me_op opM_add (me_op opM_add (me_sl (mv 2) mp_no (mp_yes (mv 4))) (me_tup (man_cons (mv 5) man_nil))) (me_sl (mv 2) (mp_yes (me_op opM_add (mv 4) me_int)) mp_no)) (man_cons (mv 3) man_nil)))))) mss_nil) (mss_cons (ms_set 6 (me_tup (man_cons (mv 4) (man_cons (mcall B__law_take ok__law_take hr (man_cons (mv 0) (man_cons (me_callB callM_len T.n_len bb_len (man_cons (mv 2) man_nil)) man_nil))) (man_cons (mcall B__law_take ok__law_take hr (man_cons (mv 0) (man_cons (me_callB callM_len T.n_len bb_len (man_cons (mv 2) man_nil)) man_nil))) man_nil)))) (hN := sc__law_other.nd)) (mss_cons (ms_set 7 (mcall B__law_take ok__law_take hr (man_cons (mv 0) (man_cons (me_op opM_add (me_callB callM_len T.n_len bb_len (man_cons (mv 3) man_nil)) me_int) man_nil))) (hN := sc__law_other.nd)) (mss_one (ms_ret (me_tup (man_cons (mv 2) (man_cons (me_op opM_add (me_op opM_add (me_sl (mv 3) mp_no (mp_yes (mv 7))) (me_tup (man_cons (mv 6) man_nil))) (me_sl (mv 3) (mp_yes (me_op opM_add (mv 7) (mcall B__law_take ok__law_take hr (man_cons (mv 0) (man_cons me_int man_nil))))) mp_no)) man_nil))))))))))
noncomputable abbrev s_is_on_ring : Stmt := top 18
noncomputable abbrev ps_is_on_ring : List Str := ["web", "key"]
theorem sc_is_on_ring : FnScope N_is_on_ring ps_is_on_ring (defScope s_is_on_ring) := ⟨rfl, rfl, rfl, by decide +kernel, rfl, by decide +kernel, by decide +kernel⟩
theorem okf_is_on_ring (T : Txt K mg) {f_joined_to : Addr} {fd_joined_to : FuncData} (B_joined_to : FnAt K mg "joined_to" s_joined_to ps_joined_to f_joined_to fd_joined_to) (ok_joined_to : FnOk P w K mg base CX0 1 f_joined_to fd_joined_to ps_joined_to (spM K 2 F_joined_to)) {f : Addr} {fd : FuncData} (B : FnAt K mg "is_on_ring" s_is_on_ring ps_is_on_ring f fd) : FnOk P w K mg base CX0 2 f fd ps_is_on_ring (spM K 2 F_is_on_ring) := by
  refine fnM B.fn sc_is_on_ring rfl (fun cdv A outer s H E hr => ⟨p_is_on_ring, ?_, fun _ _ _ _ _ e => e⟩)
  have hu := hr.units
  exact (mss_cons (ms_set 2 (me_ix (me_ix (mv 0) me_int) (mv 1)) (hN := sc_is_on_ring.nd)) (mss_cons (ms_set 3 (me_tup (man_cons (me_ix (mv 0) me_int) (man_cons (me_op opM_add (me_sl (me_ix (mv 0) me_int) mp_no (mp_yes (mv 1))) (me_sl (me_ix (mv 0) me_int) (mp_yes (me_op opM_add (mv 1) me_int)) mp_no)) man_nil))) (hN := sc_is_on_ring.nd)) (mss_one (ms_ret (me_cmp opM_in (me_ix (mv 2) me_int) (mcall B_joined_to ok_joined_to hr (man_cons (mv 3) (man_cons (me_ix (mv 2) me_int) man_nil))))))))
noncomputable abbrev s_on_rings : Stmt := top 19
noncomputable abbrev ps_on_rings : List Str := ["web"]
theorem sc_on_rings : FnScope N_on_rings ps_on_rings (defScope s_on_rings) := ⟨rfl, rfl, rfl, by decide +kernel, rfl, by decide +kernel, by decide +kernel⟩
theorem okf_on_rings (T : Txt K mg) {f_check_pairs : Addr} {fd_check_pairs : FuncData} (B_check_pairs : FnAt K mg "check_pairs" s_check_pairs ps_check_pairs f_check_pairs fd_check_pairs) (ok_check_pairs : FnOk P w K mg base (CXq P w) 1 f_check_pairs fd_check_pairs ps_check_pairs (spX K 1 F_check_pairs)) {f_is_on_ring : Addr} {fd_is_on_ring : FuncData} (B_is_on_ring : FnAt K mg "is_on_ring" s_is_on_ring ps_is_on_ring f_is_on_ring fd_is_on_ring) (ok_is_on_ring : FnOk P w K mg base CX0 2 f_is_on_ring fd_is_on_ring ps_is_on_ring (spM K 2 F_is_on_ring)) {f : Addr} {fd : FuncData} (B : FnAt K mg "on_rings" s_on_rings ps_on_rings f fd) : FnOk P w K mg base (CXq P w) 3 f fd ps_on_rings (spX K 1 F_on_rings) := by
  refine fnX B.fn sc_on_rings rfl (fun cdv A outer s H E hr => ⟨p_on_rings, ?_, fun _ _ _ _ e => e⟩)
  have hu := hr.units
  exact (mss_cons (ms_exprX B_check_pairs ok_check_pairs hr (man_cons (mv 0) man_nil)) (mss_one (ms_ret (mlc ["key"] [0] (mi_range T.n_range (man_cons (me_callB callM_len T.n_len bb_len (man_cons (me_ix (mv 0) me_int) man_nil)) man_nil)) (fun _ _ _ _ _ => (mgc_name 0 (hN := nodup_of (by rfl)))) (fun _ _ _ _ _ => (mf_one (mt_val (mcall B_is_on_ring ok_is_on_ring hr (man_cons (mv 1) (man_cons (mv 0) man_nil)))))) (fun _ _ _ _ _ => (mv 0)) (fr_cons ⟨_, rfl, rfl⟩ fr_nil)))))
noncomputable abbrev s_ways_of : Stmt := top 20
noncomputable abbrev ps_ways_of : List Str := ["part", "ring_keys"]
theorem sc_ways_of : FnScope N_ways_of ps_ways_of (defScope s_ways_of) := ⟨rfl, rfl, rfl, by decide +kernel, rfl, by decide +kernel, by decide +kernel⟩
theorem okf_ways_of (T : Txt K mg) {f_word_of : Addr} {fd_word_of : FuncData} (B_word_of : FnAt K mg "word_of" s_word_of ps_word_of f_word_of fd_word_of) (ok_word_of : FnOk P w K mg base CX0 1 f_word_of fd_word_of ps_word_of (spM K 1 F_word_of)) {f : Addr} {fd : FuncData} (B : FnAt K mg "ways_of" s_ways_of ps_ways_of f fd) : FnOk P w K mg base CX0 2 f fd ps_ways_of (spM K 2 F_ways_of) := by
  refine fnM B.fn sc_ways_of rfl (fun cdv A outer s H E hr => ⟨p_ways_of, ?_, fun _ _ _ _ _ e => e⟩)
  have hu := hr.units
  exact (mss_cons (ms_set 2 (mcall B_word_of ok_word_of hr (man_cons (mv 0) man_nil)) (hN := sc_ways_of.nd)) (mss_cons (ms_if (mt_cmp (opM_eq hu) (mv 2) me_str) (mss_one (ms_ret (me_callB callM_len T.n_len bb_len (man_cons (me_ix (mv 0) me_int) man_nil)))) mss_nil) (mss_cons (ms_if (mt_cmp (opM_eq hu) (mv 2) me_str) (mss_one (ms_ret me_int)) mss_nil) (mss_cons (ms_if (mt_cmp (opM_eq hu) (me_callB callM_len T.n_len bb_len (man_cons (mlc ["key"] [1] (mi_seq (me_ix (mv 0) me_int)) (fun _ _ _ _ _ => (mgc_name 0 (hN := nodup_of (by rfl)))) (fun _ _ _ _ _ => (mf_one (mt_cmp opM_in (mv 0) (mv 1)))) (fun _ _ _ _ _ => (mv 0)) (fr_cons ⟨_, rfl, rfl⟩ fr_nil)) man_nil)) me_int) (mss_one (ms_ret me_int)) mss_nil) (mss_one (ms_ret me_int))))))
noncomputable abbrev s_ways : Stmt := top 21
noncomputable abbrev ps_ways : List Str := ["web"]
theorem sc_ways : FnScope N_ways ps_ways (defScope s_ways) := ⟨rfl, rfl, rfl, by decide +kernel, rfl, by decide +kernel, by decide +kernel⟩
theorem okf_ways (T : Txt K mg) {f_on_rings : Addr} {fd_on_rings : FuncData} (B_on_rings : FnAt K mg "on_rings" s_on_rings ps_on_rings f_on_rings fd_on_rings) (ok_on_rings : FnOk P w K mg base (CXq P w) 3 f_on_rings fd_on_rings ps_on_rings (spX K 1 F_on_rings)) {f_parts : Addr} {fd_parts : FuncData} (B_parts : FnAt K mg "parts" s_parts ps_parts f_parts fd_parts) (ok_parts : FnOk P w K mg base CX0 3 f_parts fd_parts ps_parts (spM K 1 F_parts)) {f_ways_of : Addr} {fd_ways_of : FuncData} (B_ways_of : FnAt K mg "ways_of" s_ways_of ps_ways_of f_ways_of fd_ways_of) (ok_ways_of : FnOk P w K mg base CX0 2 f_ways_of fd_ways_of ps_ways_of (spM K 2 F_ways_of)) {f : Addr} {fd : FuncData} (B : FnAt K mg "ways" s_ways ps_ways f fd) : FnOk P w K mg base (CXq P w) 4 f fd ps_ways (spX K 1 F_ways) := by
  refine fnX B.fn sc_ways rfl (fun cdv A outer s H E hr => ⟨p_ways, ?_, fun _ _ _ _ e => e⟩)
  have hu := hr.units
  exact (mss_cons (ms_setX 1 B_on_rings ok_on_rings hr (man_cons (mv 0) man_nil) (hN := sc_ways.nd)) (mss_cons (ms_set 2 me_int (hN := sc_ways.nd)) (mss_cons (ms_for (mi_seq (mcall B_parts ok_parts hr (man_cons (mv 0) man_nil))) (mg_name 3 (hN := sc_ways.nd)) (mss_one (ms_aug 2 ipM_mul (mcall B_ways_of ok_ways_of hr (man_cons (mv 3) (man_cons (mv 1) man_nil))) (hN := sc_ways.nd)))) (mss_one (ms_ret (mv 2))))))
noncomputable abbrev s__law_refused : Stmt := top 30
noncomputable abbrev ps__law_refused : List Str := ["_law_which", "_law_web"]
theorem sc__law_refused : FnScope N__law_refused ps__law_refused (defScope s__law_refused) := ⟨rfl, rfl, rfl, by decide +kernel, rfl, by decide +kernel, by decide +kernel⟩
theorem okf__law_refused (T : Txt K mg) {f_words : Addr} {fd_words : FuncData} (B_words : FnAt K mg "words" s_words ps_words f_words fd_words) (ok_words : FnOk P w K mg base (CXq P w) 4 f_words fd_words ps_words (spX K 1 F_words)) {f_on_rings : Addr} {fd_on_rings : FuncData} (B_on_rings : FnAt K mg "on_rings" s_on_rings ps_on_rings f_on_rings fd_on_rings) (ok_on_rings : FnOk P w K mg base (CXq P w) 3 f_on_rings fd_on_rings ps_on_rings (spX K 1 F_on_rings)) {f_ways : Addr} {fd_ways : FuncData} (B_ways : FnAt K mg "ways" s_ways ps_ways f_ways fd_ways) (ok_ways : FnOk P w K mg base (CXq P w) 4 f_ways fd_ways ps_ways (spX K 1 F_ways)) {f : Addr} {fd : FuncData} (B : FnAt K mg "_law_refused" s__law_refused ps__law_refused f fd) : FnOk P w K mg base CX0 5 f fd ps__law_refused (spM K 2 F__law_refused) := by
  obtain ⟨C_NoPairs, n_NoPairs, m_NoPairs, k_NoPairs⟩ := T.x_NoPairs
  obtain ⟨C_Twice, n_Twice, m_Twice, k_Twice⟩ := T.x_Twice
  obtain ⟨C_NoText, n_NoText, m_NoText, k_NoText⟩ := T.x_NoText
  obtain ⟨C_NoRule, n_NoRule, m_NoRule, k_NoRule⟩ := T.x_NoRule
  obtain ⟨C_NoRow, n_NoRow, m_NoRow, k_NoRow⟩ := T.x_NoRow
  obtain ⟨C_NoPush, n_NoPush, m_NoPush, k_NoPush⟩ := T.x_NoPush
  obtain ⟨C_NoKey, n_NoKey, m_NoKey, k_NoKey⟩ := T.x_NoKey
  obtain ⟨C_NoFit, n_NoFit, m_NoFit, k_NoFit⟩ := T.x_NoFit
  obtain ⟨C_Full, n_Full, m_Full, k_Full⟩ := T.x_Full
  obtain ⟨C_NestError, n_NestError, m_NestError, k_NestError⟩ := T.x_NestError
  refine fnM B.fn sc__law_refused rfl (fun cdv A outer s H E hr => ⟨p__law_refused, ?_, fun _ _ _ _ _ e => e⟩)
  have hu := hr.units
  exact (mss_cons (ms_set 2 me_non (hN := sc__law_refused.nd)) (mss_cons (ms_try (px_one (px_if (mt_cmp (opM_eq hu) (mv 0) me_int) (px_one (px_expr B_words ok_words hr (man_cons (mv 1) man_nil))) (px_one (px_if (mt_cmp (opM_eq hu) (mv 0) me_int) (px_one (px_expr B_on_rings ok_on_rings hr (man_cons (mv 1) man_nil))) (px_one (px_expr B_ways ok_ways hr (man_cons (mv 1) man_nil))))))) (mh_as 3 [("NoPairs", true)] n_NestError k_NestError (T.s_NestError C_NestError n_NestError) (fun _ => (mss_one (ms_set 2 (mv 3) (hN := sc__law_refused.nd)))) mh_none (hN := sc__law_refused.nd))) (mss_cons (ms_if (MW.mt (mw_or (mt_not (mt_val (me_callB (callM_ask T.kit) T.n_isinstance bb_isinstance (man_cons (mv 2) (man_cons (me_own n_NoPairs m_NoPairs) man_nil))))) (mw_or1 (mt_not (mt_val (me_callB (callM_ask T.kit) T.n_isinstance bb_isinstance (man_cons (mv 2) (man_cons (me_gty T.n_ValueError bb_ValueError) man_nil)))))))) (mss_one (ms_ret me_bl)) mss_nil) (mss_one (ms_ret (me_not (me_callB (callM_ask T.kit) T.n_isinstance bb_isinstance (man_cons (mv 2) (man_cons (me_tup (man_cons (me_own n_Full m_Full) (man_cons (me_own n_NoFit m_NoFit) (man_cons (me_own n_NoKey m_NoKey) (man_cons (me_own n_NoPush m_NoPush) (man_cons (me_own n_NoRow m_NoRow) (man_cons (me_own n_NoRule m_NoRule) (man_cons (me_own n_NoText m_NoText) (man_cons (me_own n_Twice m_Twice) man_nil))))))))) man_nil)))))))))
noncomputable abbrev s_law : Stmt := top 31
noncomputable abbrev ps_law : List Str := ["_law_script"]
theorem sc_law : FnScope N_law ps_law (defScope s_law) := ⟨rfl, rfl, rfl, by decide +kernel, rfl, by decide +kernel, by decide +kernel⟩
theorem okf_law (T : Txt K mg) {f__law_pen : Addr} {fd__law_pen : FuncData} (B__law_pen : FnAt K mg "_law_pen" s__law_pen ps__law_pen f__law_pen fd__law_pen) (ok__law_pen : FnOk P w K mg base CX0 1 f__law_pen fd__law_pen ps__law_pen (spM K 1 F__law_pen)) {f__law_pairs : Addr} {fd__law_pairs : FuncData} (B__law_pairs : FnAt K mg "_law_pairs" s__law_pairs ps__law_pairs f__law_pairs fd__law_pairs) (ok__law_pairs : FnOk P w K mg base CX0 3 f__law_pairs fd__law_pairs ps__law_pairs (spM K 2 F__law_pairs)) {f__law_due : Addr} {fd__law_due : FuncData} (B__law_due : FnAt K mg "_law_due" s__law_due ps__law_due f__law_due fd__law_due) (ok__law_due : FnOk P w K mg base CX0 2 f__law_due fd__law_due ps__law_due (spM K 1 F__law_due)) {f_words : Addr} {fd_words : FuncData} (B_words : FnAt K mg "words" s_words ps_words f_words fd_words) (ok_words : FnOk P w K mg base (CXq P w) 4 f_words fd_words ps_words (spX K 1 F_words)) {f__law_other : Addr} {fd__law_other : FuncData} (B__law_other : FnAt K mg "_law_other" s__law_other ps__law_other f__law_other fd__law_other) (ok__law_other : FnOk P w K mg base CX0 3 f__law_other fd__law_other ps__law_other (spM K 2 F__law_other)) {f__law_refused : Addr} {fd__law_refused : FuncData} (B__law_refused : FnAt K mg "_law_refused" s__law_refused ps__law_refused f__law_refused fd__law_refused) (ok__law_refused : FnOk P w K mg base CX0 5 f__law_refused fd__law_refused ps__law_refused (spM K 2 F__law_refused)) {f : Addr} {fd : FuncData} (B : FnAt K mg "law" s_law ps_law f fd) : FnOk P w K mg base CX0 6 f fd ps_law (spM K 1 F_law) := by
  refine fnM B.fn sc_law rfl (fun cdv A outer s H E hr => ⟨p_law, ?_, fun _ _ _ _ _ e => e⟩)
  have hu := hr.units
  exact (mss_cons (ms_set 1 (mcall B__law_pen ok__law_pen hr (man_cons (mv 0) man_nil)) (hN := sc_law.nd)) (mss_cons (ms_set 2 (mcall B__law_pairs ok__law_pairs hr (man_cons (mv 1) (man_cons me_int man_nil))) (hN := sc_law.nd)) (mss_cons (ms_set 3 (mcall B__law_due ok__law_due hr (man_cons (mv 2) man_nil)) (hN := sc_law.nd)) (mss_cons (ms_set 4 (mcallX B_words ok_words hr (man_cons (mv 2) man_nil)) (hN := sc_law.nd)) (mss_cons (ms_if (MW.mt (mw_or (mt_not (mt_val (me_callB (callM_isi .lst) T.n_isinstance bb_isinstance (man_cons (mv 4) (man_cons (me_gty T.n_list bb_list) man_nil))))) (mw_or (mt_cmp (opM_ne hu) (mv 4) (mv 3)) (mw_or1 (mt_not (mt_val (me_callB (callM_all rfl) T.n_all bb_all (man_cons (mlc ["_law_word"] [] (mi_seq (mv 4)) (fun _ _ _ _ _ => (mgc_name 0 (hN := nodup_of (by rfl)))) (fun _ _ _ _ _ => mf_nil) (fun _ _ _ _ _ => (me_callB (callM_isi .str) T.n_isinstance bb_isinstance (man_cons (mv 0) (man_cons (me_gty T.n_str bb_str) man_nil)))) fr_nil) man_nil)))))))) (mss_one (ms_ret me_bl)) mss_nil) (mss_cons (ms_expr (me_append (mv 4) (man_cons me_str man_nil))) (mss_cons (ms_set 5 (mcall B__law_other ok__law_other hr (man_cons (mv 1) (man_cons (mv 2) man_nil))) (hN := sc_law.nd)) (mss_cons (ms_if (mt_not (mt_val (me_callB (callM_all rfl) T.n_all bb_all (man_cons (mlc ["_law_which"] [5] (mi_range T.n_range (man_cons me_int man_nil)) (fun _ _ _ _ _ => (mgc_name 0 (hN := nodup_of (by rfl)))) (fun _ _ _ _ _ => mf_nil) (fun _ _ _ _ _ => (mcall B__law_refused ok__law_refused hr (man_cons (mv 0) (man_cons (mv 1) man_nil)))) (fr_cons ⟨_, rfl, rfl⟩ fr_nil)) man_nil)))) (mss_one (ms_ret me_bl)) mss_nil) (mss_one (ms_ret (me_cmp (opM_eq hu) (mcallX B_words ok_words hr (man_cons (mv 2) man_nil)) (mv 3))))))))))))
end
end P
set_option Elab.async false
set_option linter.all false
set_option maxRecDepth 100000
set_option autoImplicit false
namespace P
open PySem PySem.Spec PyProof.Rows L2 M
set_option maxHeartbeats 4000000
theorem gEq_int {i j : Int} {μ : Mem} : gEq (.int i) (.int j) μ = some (.bl (i == j), μ) := by simp [gEq, toP, PyData.eqv]
theorem cut_pre {xs : List D} {i : Nat} : M.cutD xs none (some (i : Int)) = xs.take i := by
  unfold M.cutD
  rw [HT.sIx_none, HT.sIx_nat, List.drop_zero, Nat.sub_zero]
  rcases Nat.le_total i xs.length with h | h
  · rw [Nat.min_eq_left h]
  · rw [Nat.min_eq_right h, List.take_length, List.take_of_length_le h]
theorem cut_post {xs : List D} {i : Nat} : M.cutD xs (some (i : Int)) none = xs.drop i := by
  unfold M.cutD
  rw [HT.sIx_none, HT.sIx_nat]
  rcases Nat.le_total i xs.length with h | h
  · rw [Nat.min_eq_left h, List.take_of_length_le (by simp)]
  · rw [Nat.min_eq_right h, Nat.sub_self, List.take_zero, List.drop_eq_nil_of_le h]
local macro_rules | `(tactic| walk_at "w") => `(tactic| first
  | refine w_then ?_ | refine w_set ?_ | refine w_asg ?_ | refine w_ret ?_ | refine w_expr ?_ | refine w_if ?_ | refine w_skip ?_ | refine w_for ?_
  | refine w_var rfl ?_ | refine w_c ?_ | refine w_bin ?_ | refine w_call ?_ | refine w_cons ?_ | refine w_nil ?_ | refine w_tup ?_ | refine w_lst ?_ | refine w_emp ?_ | refine w_pno ?_ | refine w_pyes ?_ | refine w_and ?_ | refine w_or ?_ | refine w_not ?_ | refine w_neg ?_ | refine w_meth ?_ | refine w_lc ?_ | refine w_lrange ?_ | refine w_ifE ?_
  | refine w_test ?_ | refine w_andT ?_ | refine w_orT ?_ | refine w_notT ?_ | refine w_yes ?_ | refine w_range ?_ | refine w_gn ?_ | refine w_gt2 ?_ | refine w_gt3 ?_ | refine w_gsc ?_ | refine w_gsn ?_
  | refine w_add ?_ | refine w_sub ?_ | refine w_mod (by first | decide | omega) ?_ | refine w_div (by first | decide | omega) (by first | decide | omega) ?_ | refine w_cmp ?_ | refine w_eqI ?_ | refine w_neI ?_ | refine w_isB ?_ | refine w_isNotB ?_ | refine w_pow (by decide) (by decide) (by decide) ?_ | refine w_intI ?_ | refine w_intB ?_ | refine w_min2 ?_ | refine w_max2 ?_
  | refine w_len rfl ?_ | refine w_list rfl ?_ | refine w_tuple rfl ?_ | with_reducible refine ⟨_, rfl, ?_⟩)
local macro_rules | `(tactic| walk_at "om") => `(tactic| first | omega | (simp only [List.length_map, List.length_range, Int.toNat_natCast, List.length_append, List.length_cons, List.length_nil] at *; omega) | (simp <;> omega))
structure WebA (L : Int) (rooms : List Int) (ks : List (List Int)) : Prop where
  rl : 1 ≤ rooms.length ∧ rooms.length ≤ 10
  rn : ∀ r ∈ rooms, 0 ≤ r
  kl : ks.length ≤ L
  kn : ∀ k ∈ ks, (2 ≤ k.length ∧ k.length ≤ 3) ∧ ∀ i ∈ k, 0 ≤ i ∧ i < rooms.length
theorem atI_at {ds : List D} {i : Int} (h0 : 0 ≤ i) (h1 : i < ds.length) : ∃ d, d ∈ ds ∧ ds[i.toNat]? = some d ∧ atI ds i = some d := by
  have hi : i.toNat < ds.length := by omega
  refine ⟨ds[i.toNat], List.getElem_mem hi, by simp [hi], ?_⟩
  have := atI_nat (xs := ds) (j := i.toNat) (v := ds[i.toNat]) (by simp [hi])
  rw [Int.toNat_of_nonneg h0] at this
  exact this
noncomputable def PenC (ns : List Int) (μ : Mem) (l B : Nat) : Prop := ∃ (b : Bool) (k : Nat) (r : Int), k ≤ B ∧ μ[l]? = some (.lst [.fz (ns.map .int), .bl b, .int (k : Nat), .int r])
section
variable {ns : List Int}
theorem PenC.kb {μ μ' : Mem} {L : List Nat} {l B : Nat} (h : PenC ns μ l B) (k : KB L μ μ') (hl : l ∉ L) : PenC ns μ' l B := by
  obtain ⟨b, j, r, hj, e⟩ := h
  exact ⟨b, j, r, hj, k.at_ _ _ hl e⟩
theorem PenC.app {μ g : Mem} {l B : Nat} (h : PenC ns μ l B) : PenC ns (μ ++ g) l B := h.kb (L := []) (KB.refl.app) (by simp)
theorem PenC.keep {μ μ' : Mem} {l B : Nat} (h : PenC ns μ l B) (k : Keep μ μ') : PenC ns μ' l B := h.kb (L := []) (KB.of_keep k) (by simp)
theorem PenC.lt {μ : Mem} {l B : Nat} (h : PenC ns μ l B) : l < μ.length := by
  obtain ⟨b, j, r, hj, e⟩ := h
  exact lt_of_get e
theorem PenC.set {μ : Mem} {l m B : Nat} {o : LObj} (h : PenC ns μ l B) (hne : m ≠ l) : PenC ns (μ.set m o) l B := by
  obtain ⟨b, j, r, hj, e⟩ := h
  exact ⟨b, j, r, hj, get_set_ne e hne⟩
theorem PenC.up {μ : Mem} {l B B' : Nat} (h : PenC ns μ l B) (hb : B ≤ B') : PenC ns μ l B' := by
  obtain ⟨b, j, r, hj, e⟩ := h
  exact ⟨b, j, r, by omega, e⟩
theorem wf_penC {μ : Mem} {Q : D → Mem → Prop} (q : ∀ μ', Keep μ μ' → PenC ns μ' μ.length 0 → μ'.length = μ.length + 1 → Q (.loc μ.length) μ') : WF F__law_pen [.fz (ns.map .int)] μ Q := by
  refine w_def rfl ?_
  show WS p__law_pen [some (.fz (ns.map .int))] μ _ _ _ _
  unfold p__law_pen
  refine w_ret (w_lst (w_cons (w_var rfl (w_cons (w_or (w_bin (w_call (w_cons (w_var rfl (w_nil (w_len rfl (w_c (w_eqI ⟨_, rfl, fun h => ?_, fun h => ?_⟩)))))))))))))
  · have h0 : ns ≠ [] := by
      rintro rfl
      simp at h
    obtain ⟨n, ns', rfl⟩ := List.exists_cons_of_ne_nil h0
    refine w_bin (w_bin (w_bin (w_var rfl (w_c (w_ix rfl (atI_nat (j := 0) (v := D.int n) rfl) (w_c (w_mod (by omega) (w_c (w_eqI ?_)))))))))
    exact w_cons (w_c (w_cons (w_c (w_nil (q _ .app ⟨_, 0, 0, Nat.le_refl _, get_new⟩ (by simp))))))
  · exact w_cons (w_c (w_cons (w_c (w_nil (q _ .app ⟨_, 0, 0, Nat.le_refl _, get_new⟩ (by simp))))))
theorem wf_mixedC {k : Nat} {μ : Mem} {Q : D → Mem → Prop} (hk : k ≤ 1000000) (q : ∀ v : Int, Q (.int v) μ) : WF F__law_mixed [.fz (ns.map .int), .int (k : Nat)] μ Q := by
  refine w_def rfl ?_
  show WS p__law_mixed [some (.fz (ns.map .int)), some (.int (k : Nat)), none, none, none] μ _ _ _ _
  unfold p__law_mixed
  have mk : ∀ {i : Int}, mulOk i (k : Nat) = true := fun {i} => by
    unfold mulOk
    rw [decide_eq_true (show -(2 ^ 64) < ((k : Nat) : Int) ∧ ((k : Nat) : Int) < 2 ^ 64 by omega)]
    simp
  have rest : ∀ c : Int, WS (sSeq (sSet 3 (fBin gMod (fBin gAdd (fBin gMul (fBin gAdd (fBin gAdd (fVar 2) (fBin gMul (fC (.int 40503)) (fVar 1))) (fC (.int 1))) (fC (.int 48271))) (fBin gMul (fVar 1) (fVar 1))) (fC (.int 2147483647)))) (sSeq (sSet 4 (fBin gMod (fBin gAdd (fBin gAdd (fBin gMul (fVar 3) (fVar 3)) (fBin gMul (fC (.int 69621)) (fVar 3))) (fBin gMul (fC (.int 31)) (fVar 1))) (fC (.int 2147483629)))) (sRet (fBin gMod (fBin gAdd (fBin gAdd (fBin gMul (fVar 4) (fVar 4)) (fBin gMul (fC (.int 16807)) (fVar 4))) (fVar 1)) (fC (.int 1073741789)))))) [some (.fz (ns.map .int)), some (.int (k : Nat)), some (.int c), none, none] μ (fun _ μ' => Q .non μ') Q (fun _ _ => False) (fun _ _ => False) := fun c => by
    refine w_then (w_set (w_bin (w_bin (w_bin (w_bin (w_bin (w_var rfl (w_bin (w_c (w_var rfl (w_mul mk (w_add (w_c (w_add (w_c (w_mul (by unfold mulOk; simp) (w_bin (w_var rfl (w_var rfl (w_mul mk (w_add (w_c (w_mod (by omega) ?_)))))))))))))))))))))))
    have h1 : ∀ x : Int, 0 ≤ x % 2147483647 ∧ x % 2147483647 < 2147483647 := fun x => ⟨Int.emod_nonneg _ (by omega), Int.emod_lt_of_pos _ (by omega)⟩
    obtain ⟨a1, b1⟩ := h1 ((c + 40503 * (k : Nat) + 1) * 48271 + (k : Nat) * (k : Nat))
    generalize ((c + 40503 * ((k : Nat) : Int) + 1) * 48271 + ((k : Nat) : Int) * ((k : Nat) : Int)) % 2147483647 = x at a1 b1
    have mx : ∀ {i : Int}, mulOk i x = true := fun {i} => by
      unfold mulOk
      rw [decide_eq_true (show -(2 ^ 64) < x ∧ x < 2 ^ 64 by omega)]
      simp
    refine w_then (w_set (w_bin (w_bin (w_bin (w_bin (w_var rfl (w_var rfl (w_mul mx (w_bin (w_c (w_var rfl (w_mul mx (w_add (w_bin (w_c (w_var rfl (w_mul mk (w_add (w_c (w_mod (by omega) ?_))))))))))))))))))))
    have h2 : ∀ y : Int, 0 ≤ y % 2147483629 ∧ y % 2147483629 < 2147483629 := fun y => ⟨Int.emod_nonneg _ (by omega), Int.emod_lt_of_pos _ (by omega)⟩
    obtain ⟨a2, b2⟩ := h2 (x * x + 69621 * x + 31 * (k : Nat))
    generalize (x * x + 69621 * x + 31 * ((k : Nat) : Int)) % 2147483629 = y at a2 b2
    have my : ∀ {i : Int}, mulOk i y = true := fun {i} => by
      unfold mulOk
      rw [decide_eq_true (show -(2 ^ 64) < y ∧ y < 2 ^ 64 by omega)]
      simp
    exact w_ret (w_bin (w_bin (w_bin (w_bin (w_var rfl (w_var rfl (w_mul my (w_bin (w_c (w_var rfl (w_mul my (w_add (w_var rfl (w_add (w_c (w_mod (by omega) (q _)))))))))))))))))
  refine w_then (w_set (w_c ?_))
  refine w_then (w_if (w_test (w_bin (w_call (w_cons (w_var rfl (w_nil (w_len rfl (w_c (w_cmp ⟨_, rfl, fun h2 => ?_, fun h2 => w_skip (rest _)⟩))))))))))
  have h2 := of_decide_eq_true h2
  obtain ⟨d, hm, _, ha⟩ := atI_at (ds := ns.map .int) (i := (k : Nat) % ((ns.map D.int).length : Int)) (Int.emod_nonneg _ (by omega)) (Int.emod_lt_of_pos _ h2)
  obtain ⟨v, _, rfl⟩ := List.mem_map.mp hm
  exact w_set (w_bin (w_var rfl (w_bin (w_var rfl (w_call (w_cons (w_var rfl (w_nil (w_len rfl (w_mod h2 (w_ix rfl ha (rest _))))))))))))
theorem w_gtl4 {gs : FGs} {P : M.Loc → Mem → Prop} {a b c d : D} {l : Nat} {δ : M.Loc} {μ : Mem} (e : μ[l]? = some (.lst [a, b, c, d])) (h : WGs gs [a, b, c, d] δ μ P) : WG (gTL 4 gs) (.loc l) δ μ P := by
  obtain ⟨δ1, μ1, e1, q⟩ := h
  refine ⟨δ1, μ1, ?_, q⟩
  unfold gTL
  dsimp only
  rw [e]
  exact e1
theorem wf_takeC {μ : Mem} {l B : Nat} {s : Int} {Q : D → Mem → Prop} (h : PenC ns μ l B) (hB : B ≤ 1000000) (h0 : 0 < s) (h1 : s < 1606938044258990275541962092341162602522202993782792835301376)
    (q : ∀ v μ', 0 ≤ v → v < s → KB [l] μ μ' → μ'.length = μ.length → PenC ns μ' l (B + 1) → Q (.int v) μ') : WF F__law_take [.loc l, .int s] μ Q := by
  obtain ⟨b, k, r, hk, e⟩ := h
  have hlt := lt_of_get e
  refine w_def rfl ?_
  show WS p__law_take [some (.loc l), some (.int s), none, none, none, none] μ _ _ _ _
  unfold p__law_take
  refine w_then (w_asg (w_var rfl (w_gtl4 e (w_gsc (w_gn (w_gsc (w_gn (w_gsc (w_gn (w_gsc (w_gn (w_gsn ?_))))))))))))
  refine w_then (w_asg (w_bin (w_var rfl (w_c (w_add ?_)))))
  refine w_gat (w_var rfl (w_c ⟨_, _, _, rfl, rfl, e, ⟨by omega, by simp⟩, ?_⟩))
  show WS _ _ (μ.set l (.lst [.fz (ns.map .int), .bl b, .int (((k : Nat) : Int) + 1), .int r])) _ _ _ _
  have e2 : (μ.set l (LObj.lst [.fz (ns.map .int), .bl b, .int (((k : Nat) : Int) + 1), .int r]))[l]? = some (.lst [.fz (ns.map .int), .bl b, .int ((k + 1 : Nat) : Int), .int r]) := get_set_eq e
  have k2 : KB [l] μ (μ.set l (LObj.lst [.fz (ns.map .int), .bl b, .int (((k : Nat) : Int) + 1), .int r])) := KB.refl.set (.inl (by simp))
  have l2 : (μ.set l (LObj.lst [.fz (ns.map .int), .bl b, .int (((k : Nat) : Int) + 1), .int r])).length = μ.length := by simp
  generalize μ.set l (LObj.lst [.fz (ns.map .int), .bl b, .int (((k : Nat) : Int) + 1), .int r]) = μ2 at e2 k2 l2
  refine w_then (w_if (w_test (w_var rfl ⟨_, rfl, fun hb => ?_, fun hb => w_skip ?_⟩)))
  · refine w_ret (w_bin (w_call (w_cons (w_var rfl (w_cons (w_var rfl (w_nil ?_))))))) 
    refine wf_mixedC (by omega) fun v => w_var rfl (w_mod h0 ?_)
    exact q _ _ (Int.emod_nonneg _ (by omega)) (Int.emod_lt_of_pos _ h0) k2 l2 ⟨b, k + 1, r, by omega, e2⟩
  · have last : ∀ r' : Int, WS (sSeq (sAsg (fBin gDiv (fVar 5) (fVar 1)) (gAt (fVar 0) (fC (.int 3)))) (sRet (fBin gMod (fVar 5) (fVar 1)))) [some (.loc l), some (.int s), some (.fz (ns.map .int)), some (.bl b), some (.int (k : Nat)), some (.int r')] μ2 (fun _ μ' => Q .non μ') Q (fun _ _ => False) (fun _ _ => False) := fun r' => by
      refine w_then (w_asg (w_bin (w_var rfl (w_var rfl (w_div h0 h1 ?_)))))
      refine w_gat (w_var rfl (w_c ⟨_, _, _, rfl, rfl, e2, ⟨by omega, by simp⟩, ?_⟩))
      show WS _ _ (μ2.set l (.lst [.fz (ns.map .int), .bl b, .int ((k + 1 : Nat) : Int), .int (r' / s)])) _ _ _ _
      refine w_ret (w_bin (w_var rfl (w_var rfl (w_mod h0 ?_))))
      exact q _ _ (Int.emod_nonneg _ (by omega)) (Int.emod_lt_of_pos _ h0) (k2.trans (KB.refl.set (.inl (by simp)))) (by simp [l2]) ⟨b, k + 1, r' / s, by omega, get_set_eq e2⟩
    refine w_then (w_if (w_test (w_bin (w_bin (w_var rfl (w_c (w_mod (by omega) (w_c (w_eqI ⟨_, rfl, fun hz => ?_, fun hz => w_skip (last r)⟩)))))))))
    refine w_then (w_set (w_c ?_))
    refine w_if (w_test (w_bin (w_bin (w_bin (w_var rfl (w_c (w_div (by omega) (by omega) (w_c (w_add (w_call (w_cons (w_var rfl (w_nil (w_len rfl (w_cmp ⟨_, rfl, fun h2 => ?_, fun h2 => w_skip (last 0)⟩)))))))))))))))
    have h2 := of_decide_eq_true h2
    obtain ⟨d, hm, _, ha⟩ := atI_at (ds := ns.map .int) (i := ((k : Nat) : Int) / 60 + 1) (by omega) h2
    obtain ⟨v, _, rfl⟩ := List.mem_map.mp hm
    exact w_set (w_bin (w_var rfl (w_bin (w_bin (w_var rfl (w_c (w_div (by omega) (by omega) (w_c (w_add (w_ix rfl ha (last v)))))))))))
end
noncomputable abbrev tn (ns : List Nat) : D := .tup (nat ns)
noncomputable abbrev wn (R : List Nat) (K : List (List Nat)) : D := .tup [tn R, .tup (K.map tn)]
structure Wb (L : Nat) (R : List Nat) (K : List (List Nat)) : Prop where
  rl : 1 ≤ R.length ∧ R.length ≤ 10
  kl : K.length ≤ L
  kn : ∀ k ∈ K, (2 ≤ k.length ∧ k.length ≤ 3) ∧ ∀ h ∈ k, h < R.length
theorem Wb.key {L : Nat} {R : List Nat} {K : List (List Nat)} (w : Wb L R K) {k : Nat} (h : k < K.length) : (2 ≤ (K.getD k []).length ∧ (K.getD k []).length ≤ 3) ∧ ∀ x ∈ K.getD k [], x < R.length := by
  have : K.getD k [] = K[k] := by simp [h]
  rw [this]
  exact w.kn _ (List.getElem_mem h)
theorem w_rooms {R : List Nat} {K : List (List Nat)} {μ : Mem} {Q : D → Mem → Prop} (q : Q (tn R) μ) : W2 gIx (wn R K) (.int 0) μ Q := w_ix rfl (show atI [tn R, .tup (K.map tn)] 0 = some (tn R) from rfl) q
theorem w_keys {R : List Nat} {K : List (List Nat)} {μ : Mem} {Q : D → Mem → Prop} (q : Q (.tup (K.map tn)) μ) : W2 gIx (wn R K) (.int 1) μ Q := w_ix rfl (show atI [tn R, .tup (K.map tn)] 1 = some (.tup (K.map tn)) from rfl) q
theorem w_key {K : List (List Nat)} {k : Nat} {μ : Mem} {Q : D → Mem → Prop} (h : k < K.length) (q : Q (tn (K.getD k [])) μ) : W2 gIx (.tup (K.map tn)) (.int k) μ Q :=
  w_ix rfl (atI_nat (v := tn (K.getD k [])) (by simp [h])) q
structure RightL (R : List Nat) (K : List (List Nat)) (lay : List (Option Nat)) : Prop where
  len : lay.length = K.length
  home : ∀ k h, lay[k]? = some (some h) → h ∈ K.getD k []
  room : ∀ h, lay.count (some h) ≤ R.getD h 0
theorem sub_len_of {α : Type} [DecidableEq α] : ∀ {l m : List α}, l.Nodup → (∀ x ∈ l, x ∈ m) → l.length ≤ m.length
  | [], _, _, _ => Nat.zero_le _
  | x :: l, m, nd, h => by
    obtain ⟨h1, h2⟩ := List.nodup_cons.mp nd
    have hx := h x List.mem_cons_self
    have ih := sub_len_of (l := l) (m := m.erase x) h2 fun y hy => (List.mem_erase_of_ne (by rintro rfl; exact h1 hy)).mpr (h y (List.mem_cons_of_mem _ hy))
    rw [List.length_erase_of_mem hx] at ih
    have := List.length_pos_of_mem hx
    rw [List.length_cons]
    omega
structure Shut (R : List Nat) (K : List (List Nat)) (lay : List (Option Nat)) (C : List Nat) : Prop where
  keys : ∀ k ∈ C, k < K.length
  full : ∀ k ∈ C, ∀ h ∈ K.getD k [], R.getD h 0 ≤ lay.count (some h)
  lies : ∀ k ∈ C, ∀ h ∈ K.getD k [], ∀ o, lay.getD o none = some h → o ∈ C
structure RowOk (K : List (List Nat)) (lay : List (Option Nat)) (key : Nat) (row : List (Nat × Nat)) : Prop where
  first : ∃ h r, row = (key, h) :: r
  mem : ∀ p ∈ row, p.1 < K.length ∧ p.2 ∈ K.getD p.1 [] ∧ lay.getD p.1 none ≠ some p.2
  link : ∀ i p q, row[i]? = some p → row[i + 1]? = some q → lay.getD q.1 none = some p.2
  nd : (row.map (·.1)).Nodup
theorem dict_loc {n : Nat} {kvs : List (Int × D)} {μ : Mem} (h : μ[n]? = some (.dct kvs)) : dictOf μ (.loc n) = some kvs := by simp only [dictOf, h]
theorem w_dsp {φ ψ : FE} {δ : M.Loc} {μ : Mem} {Q : D → Mem → Prop} (h : WE φ δ (μ ++ [.dct []]) fun x μ1 => WE ψ δ μ1 fun y μ2 => ∃ i, x = .int i ∧ μ2[μ.length]? = some (.dct []) ∧ Q (.loc μ.length) (μ2.set μ.length (.dct [(i, y)]))) : WE (fDsp φ ψ) δ μ Q := by
  obtain ⟨x, μ1, e1, y, μ2, e2, i, rfl, e3, q⟩ := h
  exact ⟨_, _, by simp only [fDsp, e1, e2, e3, Option.bind_some], q⟩
noncomputable def dkB (N : List Nat) : List (Int × D) := N.map fun (h : Nat) => ((h : Int), D.bl true)
noncomputable def addB (N : List Nat) (h : Nat) : List Nat := if h ∈ N then N else N ++ [h]
theorem addB_nd {N : List Nat} {h : Nat} (nd : N.Nodup) : (addB N h).Nodup := by
  unfold addB
  split
  · exact nd
  · rename_i hn
    rw [List.nodup_append]
    refine ⟨nd, by simp, fun a ha b hb => ?_⟩
    rw [List.mem_singleton.mp hb]
    rintro rfl
    exact hn ha
theorem put_dkB (N : List Nat) (h : Nat) : putD (dkB N) (h : Int) (.bl true) = dkB (addB N h) := by
  have ha : ((dkB N).any fun p => decide (p.1 = (h : Int))) = decide (h ∈ N) := by
    refine bool_iff ?_
    unfold dkB
    rw [List.any_map, List.any_eq_true]
    simp only [Function.comp, decide_eq_true_iff]
    constructor
    · rintro ⟨p, hp, e⟩
      have : p = h := by omega
      subst this
      exact hp
    · intro hm
      exact ⟨h, hm, rfl⟩
  unfold putD addB
  rw [ha]
  by_cases hm : h ∈ N
  · rw [decide_eq_true hm, if_pos rfl, if_pos hm]
    unfold dkB
    rw [List.map_map]
    refine List.map_congr_left fun p _ => ?_
    simp only [Function.comp]
    split <;> rfl
  · rw [decide_eq_false hm, if_neg Bool.false_ne_true, if_neg hm]
    simp [dkB]
theorem look_dkB {N : List Nat} {h : Nat} : (lookD (dkB N) (h : Int)).isSome = decide (h ∈ N) := by
  refine bool_iff ?_
  unfold lookD dkB
  rw [Option.isSome_map, List.find?_isSome]
  constructor
  · rintro ⟨p, hp, e⟩
    obtain ⟨k, hk, rfl⟩ := List.mem_map.mp hp
    have e := of_decide_eq_true e
    have : k = h := by omega
    rw [← this]; exact hk
  · intro hm
    exact ⟨_, List.mem_map.mpr ⟨h, hm, rfl⟩, decide_eq_true rfl⟩
inductive Jn (K : List (List Nat)) (a : Nat) : Nat → Prop
  | refl : Jn K a a
  | step {b c : Nat} : Jn K a b → (∃ k ∈ K, b ∈ k ∧ c ∈ k) → Jn K a c
theorem Jn.trans {K : List (List Nat)} {a b c : Nat} (h1 : Jn K a b) (h2 : Jn K b c) : Jn K a c := by
  induction h2 with
  | refl => exact h1
  | step _ e ih => exact .step ih e
theorem Jn.symm {K : List (List Nat)} {a b : Nat} (h : Jn K a b) : Jn K b a := by
  induction h with
  | refl => exact .refl
  | step _ e ih =>
    obtain ⟨k, hk, h1, h2⟩ := e
    exact Jn.trans (.step .refl ⟨k, hk, h2, h1⟩) ih
noncomputable def jnB (K : List (List Nat)) (a b : Nat) : Bool := @decide (Jn K a b) (Classical.propDecidable _)
theorem jnB_iff {K : List (List Nat)} {a b : Nat} : jnB K a b = true ↔ Jn K a b := @decide_eq_true_iff _ (Classical.propDecidable _)
noncomputable def compN (n : Nat) (K : List (List Nat)) (a : Nat) : List Nat := (List.range n).filter fun b => jnB K a b
theorem compN_mem {n : Nat} {K : List (List Nat)} {a b : Nat} : b ∈ compN n K a ↔ b < n ∧ Jn K a b := by
  unfold compN
  rw [List.mem_filter, List.mem_range, jnB_iff]
theorem compN_pw (n : Nat) (K : List (List Nat)) (a : Nat) : (compN n K a).Pairwise (· < ·) := List.pairwise_lt_range.filter _
theorem perm_of {a b : List Nat} (na : a.Nodup) (nb : b.Nodup) (h : ∀ x, x ∈ a ↔ x ∈ b) : a.Perm b := (List.perm_ext_iff_of_nodup na nb).mpr h
theorem w_sortDB {n : Nat} {S T : List Nat} {μ : Mem} {Q : D → Mem → Prop} (h : μ[n]? = some (.dct (dkB S))) (hp : T.Perm S) (hT : T.Pairwise (· < ·)) (hl : S.length < 64) (q : Q (.loc μ.length) (μ ++ [.lst (nat T)])) : WF gSortD [.loc n] μ Q := by
  have e0 : (dkB S).map (·.1) = S.map fun (k : Nat) => (k : Int) := by unfold dkB; rw [List.map_map]; rfl
  have e2 : nat T = (T.map fun (k : Nat) => (k : Int)).map D.int := by rw [List.map_map]; rfl
  have e3 : sortL (S.map fun (k : Nat) => (k : Int)) = T.map fun (k : Nat) => (k : Int) := by
    refine sorted_same ((List.mergeSort_perm _ _).trans (hp.symm.map _)) (sort_pw _) ?_
    rw [List.pairwise_map]
    exact hT.imp fun h => by omega
  have e4 : (dkB S).length < 64 := by unfold dkB; rw [List.length_map]; exact hl
  refine ⟨_, _, ?_, q⟩
  simp only [gSortD, dict_loc h, Option.bind_some]
  rw [decide_eq_true e4, cond_true, e0, e3, ← e2]
structure Jw (n : Nat) (K : List (List Nat)) (a : Nat) (S T : List Nat) : Prop where
  nd : S.Nodup
  lt : ∀ s ∈ S, s < n
  jn : ∀ s ∈ S, Jn K a s
  one : a ∈ S
  sub : ∀ t ∈ T, t ∈ S
theorem Jw.len {n a : Nat} {K : List (List Nat)} {S T : List Nat} (j : Jw n K a S T) : S.length ≤ n := by
  simpa using sub_len_of (m := List.range n) j.nd fun s hs => List.mem_range.mpr (j.lt s hs)
noncomputable def Cl (K : List (List Nat)) (S : List Nat) (s : Nat) : Prop := ∀ c, (∃ k ∈ K, s ∈ k ∧ c ∈ k) → c ∈ S
theorem wf_joined {L : Nat} {R : List Nat} {K : List (List Nat)} {nest : Nat} {μ : Mem} {Q : D → Mem → Prop} (w : Wb L R K) (hL : L ≤ 60) (hn : nest < R.length) (q : ∀ (l : Nat) (μ' : Mem), Keep μ μ' → μ.length ≤ l → μ'[l]? = some (.lst (nat (compN R.length K nest))) → Q (.loc l) μ') : WF F_joined_to [wn R K, .int (nest : Nat)] μ Q := by
  have hkl := w.kl
  have hrl := w.rl
  refine w_def rfl ?_
  show WS p_joined_to [some (wn R K), some (.int (nest : Nat)), none, none, none, none, none] μ _ _ _ _
  unfold p_joined_to
  refine w_then (w_set (w_dsp (w_var rfl (w_c ⟨_, rfl, get_new, ?_⟩))))
  have gA0 : ((μ ++ [LObj.dct []]).set μ.length (.dct [((nest : Nat), D.bl true)]))[μ.length]? = some (.dct (dkB [nest])) := get_set_eq get_new
  have kA0 : KB [] μ ((μ ++ [LObj.dct []]).set μ.length (.dct [((nest : Nat), D.bl true)])) := KB.refl.app.set (.inr (Nat.le_refl _))
  generalize (μ ++ [LObj.dct []]).set μ.length (.dct [((nest : Nat), D.bl true)]) = μ1 at gA0 kA0
  generalize hA : μ.length = A at gA0
  have hA1 := lt_of_get gA0
  refine w_then (w_set (w_lst (w_cons (w_var rfl (w_nil ?_)))))
  have gA1 : (μ1 ++ [LObj.lst [D.int (nest : Nat)]])[A]? = some (.dct (dkB [nest])) := get_old' gA0
  have gB1 : (μ1 ++ [LObj.lst [D.int (nest : Nat)]])[μ1.length]? = some (.lst (nat [nest])) := get_new
  have k1 : KB [] μ (μ1 ++ [LObj.lst [D.int (nest : Nat)]]) := kA0.app
  have hAB : A ≠ μ1.length := by omega
  have hB : A ≤ μ1.length := by omega
  generalize μ1 ++ [LObj.lst [D.int (nest : Nat)]] = μ2 at gA1 gB1 k1
  generalize μ1.length = B at gB1 hAB hB
  clear gA0 kA0 hA1
  refine w_then ?_
  refine w_while (n := 100000) (m := 2 * (R.length - 1) + 1) (fun m δ ν => ∃ (S T : List Nat) (x y z : Option D), δ = [some (wn R K), some (.int (nest : Nat)), some (.loc A), some (.loc B), x, y, z] ∧ m = 2 * (R.length - S.length) + T.length ∧ m ≤ 100 ∧ Jw R.length K nest S T ∧ (∀ s ∈ S, s ∉ T → Cl K S s) ∧ KB [] μ ν ∧ ν[A]? = some (.dct (dkB S)) ∧ ν[B]? = some (.lst (nat T))) (by omega)
    ⟨[nest], [nest], _, _, _, rfl, rfl, by omega, ⟨by simp, fun s hs => by rw [List.mem_singleton.mp hs]; exact hn, fun s hs => by rw [List.mem_singleton.mp hs]; exact .refl, by simp, fun t ht => ht⟩, fun s hs hno => absurd hs hno, k1, gA1, gB1⟩ ?_
  rintro m δ ν ⟨S, T, x, y, z, rfl, rfl, h100, jw, cl, kν, gA, gB⟩
  refine w_test (w_bin (w_var rfl (w_lst (w_nil (w_neL T [] (get_old' gB) get_new ⟨_, rfl, fun hT => ?_, fun hT => ?_⟩)))))
  · have hT : T ≠ [] := by simpa using hT
    obtain ⟨T', h, rfl⟩ : ∃ T' h, T = T' ++ [h] := ⟨T.dropLast, T.getLast hT, (List.dropLast_concat_getLast hT).symm⟩
    have gA2 : (ν ++ [LObj.lst []])[A]? = some (.dct (dkB S)) := get_old' gA
    have gB2 : (ν ++ [LObj.lst []])[B]? = some (.lst (nat T' ++ [.int (h : Nat)])) := by rw [get_old' gB, nat_append]; rfl
    have k2 : KB [] μ (ν ++ [LObj.lst []]) := kν.app
    show WS b_joined_to_2 _ _ _ _ _ _
    generalize ν ++ [LObj.lst []] = ν2 at gA2 gB2 k2
    unfold b_joined_to_2
    refine w_then (w_set (w_meth0 (w_var rfl ⟨_, _, rfl, gB2, w_pop gB2 ?_⟩)))
    have hhS : h ∈ S := jw.sub h (by simp)
    have hlen := jw.len
    refine w_for (w_seq (w_bin (w_var rfl (w_c (w_keys (.inl ⟨_, rfl, ?_⟩))))))
    refine w_loop0 (fun i δ ν => ∃ (S1 T1 : List Nat) (y z : Option D), δ = [some (wn R K), some (.int (nest : Nat)), some (.loc A), some (.loc B), some (.int (h : Nat)), y, z] ∧ 2 * (R.length - S1.length) + T1.length + 1 ≤ 2 * (R.length - S.length) + (T' ++ [h]).length ∧ Jw R.length K nest S1 T1 ∧ h ∈ S1 ∧ (∀ s ∈ S1, s ∉ T1 → s ≠ h → Cl K S1 s) ∧ (∀ k ∈ K.take i, h ∈ k → ∀ c ∈ k, c ∈ S1) ∧ KB [] μ ν ∧ ν[A]? = some (.dct (dkB S1)) ∧ ν[B]? = some (.lst (nat T1)))
      ⟨S, T', _, _, rfl, by rw [List.length_append]; exact Nat.le_refl _, ⟨jw.nd, jw.lt, jw.jn, jw.one, fun t ht => jw.sub t (List.mem_append_left _ ht)⟩, hhS, fun s hs hno hne => cl s hs fun hm => by
        rcases List.mem_append.mp hm with hm | hm
        · exact hno hm
        · exact hne (List.mem_singleton.mp hm), by simp, k2.set (.inr (by omega)), get_set_ne gA2 (Ne.symm hAB), get_set_eq gB2⟩ (fun _ _ _ _ => rfl) ?_ ?_
    · rintro i z0 δ ν3 hz ⟨S1, T1, y, z, rfl, hm, j1, hh1, cl1, pr1, k3, gA3, gB3⟩
      rw [List.getElem?_map] at hz
      cases er : K[i]? with
      | none => rw [er] at hz; cases hz
      | some ks =>
        rw [er] at hz
        cases hz
        have hks := List.mem_of_getElem? er
        have hkn := (w.kn ks hks).2
        have htk : K.take (i + 1) = K.take i ++ [ks] := by rw [List.take_succ, er]; rfl
        refine w_gn ?_
        unfold b_joined_to_1
        refine w_for (w_seq (w_var rfl (.inl ⟨_, rfl, ?_⟩)))
        refine w_loop0 (fun j δ ν => ∃ (S1 T1 : List Nat) (z : Option D), δ = [some (wn R K), some (.int (nest : Nat)), some (.loc A), some (.loc B), some (.int (h : Nat)), some (tn ks), z] ∧ 2 * (R.length - S1.length) + T1.length + 1 ≤ 2 * (R.length - S.length) + (T' ++ [h]).length ∧ Jw R.length K nest S1 T1 ∧ h ∈ S1 ∧ (∀ s ∈ S1, s ∉ T1 → s ≠ h → Cl K S1 s) ∧ (∀ k ∈ K.take i, h ∈ k → ∀ c ∈ k, c ∈ S1) ∧ (h ∈ ks → ∀ c ∈ ks.take j, c ∈ S1) ∧ KB [] μ ν ∧ ν[A]? = some (.dct (dkB S1)) ∧ ν[B]? = some (.lst (nat T1)))
          ⟨S1, T1, _, rfl, hm, j1, hh1, cl1, pr1, by simp, k3, gA3, gB3⟩ (fun _ _ _ _ => rfl) ?_ ?_
        · rintro j z0 δ ν4 hz ⟨S2, T2, z, rfl, hm, j2, hh2, cl2, pr2, ps2, k4, gA4, gB4⟩
          rw [List.getElem?_map] at hz
          cases ej : ks[j]? with
          | none => rw [ej] at hz; cases hz
          | some o =>
            rw [ej] at hz
            cases hz
            have hom := List.mem_of_getElem? ej
            have hoR := hkn o hom
            have htj : ks.take (j + 1) = ks.take j ++ [o] := by rw [List.take_succ, ej]; rfl
            have hl2 := j2.len
            refine w_gn ?_
            unfold b_joined_to_0
            refine w_if (w_andT (w_test (w_bin (w_var rfl (w_var rfl (w_inN (S := ks) rfl ⟨_, rfl, fun hin => ?_, fun hin => ⟨fun h => (by cases h), fun _ => w_skip ?_⟩⟩))))))
            · have hin : h ∈ ks := of_decide_eq_true hin
              refine w_test (w_bin (w_var rfl (w_var rfl (w_dnotIn (dict_loc gA4) ⟨_, rfl, fun ho => ?_, fun ho => w_skip ?_⟩))))
              · rw [look_dkB] at ho
                have ho : o ∉ S2 := by simpa using ho
                refine w_then (w_asg (w_c (w_gatD (w_var rfl (w_var rfl ⟨_, _, _, rfl, rfl, gA4, by unfold dkB; rw [List.length_map]; omega, ?_⟩)))))
                rw [put_dkB]
                have eS : addB S2 o = S2 ++ [o] := by unfold addB; rw [if_neg ho]
                have gB5 : (ν4.set A (.dct (dkB (addB S2 o))))[B]? = some (.lst (nat T2)) := get_set_ne gB4 hAB
                have gA5 : (ν4.set A (.dct (dkB (addB S2 o))))[A]? = some (.dct (dkB (S2 ++ [o]))) := by rw [get_set_eq gA4, eS]
                have hT2 : T2.length ≤ 1000000 := by omega
                refine w_expr (w_meth (w_var rfl ⟨_, _, rfl, gB5, w_cons (w_var rfl (w_nil (w_append gB5 (by rw [List.length_map]; exact hT2) ?_)))⟩))
                have nd' : (S2 ++ [o]).Nodup := eS ▸ addB_nd j2.nd
                have j3 : Jw R.length K nest (S2 ++ [o]) (T2 ++ [o]) := by
                  refine ⟨nd', fun s hs => ?_, fun s hs => ?_, List.mem_append_left _ j2.one, fun t ht => ?_⟩
                  · rcases List.mem_append.mp hs with hs | hs
                    · exact j2.lt s hs
                    · rw [List.mem_singleton.mp hs]; exact hoR
                  · rcases List.mem_append.mp hs with hs | hs
                    · exact j2.jn s hs
                    · rw [List.mem_singleton.mp hs]; exact .step (j2.jn h hh2) ⟨ks, hks, hin, hom⟩
                  · rcases List.mem_append.mp ht with ht | ht
                    · exact List.mem_append_left _ (j2.sub t ht)
                    · exact List.mem_append_right _ ht
                have hl3 := j3.len
                refine ⟨S2 ++ [o], T2 ++ [o], _, rfl, ?_, j3, List.mem_append_left _ hh2, fun s hs hno hne => ?_, fun k hk hhk c hc => List.mem_append_left _ (pr2 k hk hhk c hc), fun _ c hc => ?_, (k4.set (.inr (by omega))).set (.inr (by omega)), get_set_ne gA5 (Ne.symm hAB), by rw [get_set_eq gB5, nat_append]; rfl⟩
                · rw [List.length_append] at hl3 ⊢
                  rw [List.length_append]
                  simp only [List.length_singleton] at hl3 ⊢
                  simp only [List.length_append, List.length_singleton] at hm ⊢
                  omega
                · rcases List.mem_append.mp hs with hs | hs
                  · intro c hc
                    exact List.mem_append_left _ (cl2 s hs (fun ht => hno (List.mem_append_left _ ht)) hne c hc)
                  · exact absurd (List.mem_append_right _ hs) hno
                · rw [htj] at hc
                  rcases List.mem_append.mp hc with hc | hc
                  · exact List.mem_append_left _ (ps2 hin c hc)
                  · exact List.mem_append_right _ hc
              · rw [look_dkB] at ho
                have ho : o ∈ S2 := by simpa using ho
                refine ⟨S2, T2, _, rfl, hm, j2, hh2, cl2, pr2, fun _ c hc => ?_, k4, gA4, gB4⟩
                rw [htj] at hc
                rcases List.mem_append.mp hc with hc | hc
                · exact ps2 hin c hc
                · rw [List.mem_singleton.mp hc]; exact ho
            · have hin : h ∉ ks := of_decide_eq_false hin
              exact ⟨S2, T2, _, rfl, hm, j2, hh2, cl2, pr2, fun h' => absurd h' hin, k4, gA4, gB4⟩
        · rintro δ ν4 ⟨S2, T2, z, rfl, hm, j2, hh2, cl2, pr2, ps2, k4, gA4, gB4⟩
          rw [List.length_map, List.take_length] at ps2
          refine ⟨S2, T2, _, _, rfl, hm, j2, hh2, cl2, fun k hk hhk c hc => ?_, k4, gA4, gB4⟩
          rw [htk] at hk
          rcases List.mem_append.mp hk with hk | hk
          · exact pr2 k hk hhk c hc
          · rw [List.mem_singleton.mp hk] at hhk hc
            exact ps2 hhk c hc
    · rintro δ ν3 ⟨S1, T1, y, z, rfl, hm, j1, hh1, cl1, pr1, k3, gA3, gB3⟩
      rw [List.length_map, List.take_length] at pr1
      refine ⟨_, by omega, S1, T1, _, _, _, rfl, rfl, by omega, j1, fun s hs hno => ?_, k3, gA3, gB3⟩
      by_cases hsh : s = h
      · subst hsh
        rintro c ⟨k, hk, h1, h2⟩
        exact pr1 k hk h1 c h2
      · exact cl1 s hs hno hsh
  · have hT : T = [] := by simpa using hT
    subst hT
    have hin : ∀ {b}, Jn K nest b → b ∈ S := fun {b} h => by
      induction h with
      | refl => exact jw.one
      | step hb e ih => exact cl _ ih (by simp) _ e
    have hall : ∀ b, b ∈ compN R.length K nest ↔ b ∈ S := fun b => by
      rw [compN_mem]
      constructor
      · exact fun h => hin h.2
      · exact fun h => ⟨jw.lt b h, jw.jn b h⟩
    have hlen := jw.len
    refine w_ret (w_call (w_cons (w_var rfl (w_nil (w_sortDB (get_old' gA) (perm_of (List.nodup_range.filter _) jw.nd hall) (compN_pw _ _ _) (by omega) ?_)))))
    have kk : Keep μ ((ν ++ [LObj.lst []]) ++ [LObj.lst (nat (compN R.length K nest))]) := fun a o e => get_old' (get_old' (kν.at_ _ _ (by simp) e))
    refine q _ _ kk ?_ get_new
    have := kν.len
    simp
    omega
theorem wf_takeN {ns : List Int} {μ : Mem} {l B s : Nat} {Q : D → Mem → Prop} (h : PenC ns μ l B) (hB : B ≤ 1000000) (h0 : 0 < s) (h1 : s ≤ 1000) (q : ∀ (v : Nat) (μ' : Mem), v < s → KB [l] μ μ' → PenC ns μ' l (B + 1) → Q (.int (v : Nat)) μ') : WF F__law_take [.loc l, .int (s : Nat)] μ Q :=
  wf_takeC h hB (by omega) (by omega) fun v μ' a b k _ p => by
    obtain ⟨v, rfl⟩ := Int.eq_ofNat_of_zero_le a
    exact q v μ' (by omega) k p
theorem nin1 {a l : Nat} (h : l ≠ a) : a ∉ [l] := fun hm => h (List.mem_singleton.mp hm).symm
theorem PenC.new {ns : List Int} {μ : Mem} {l B : Nat} (h : PenC ns μ l B) : μ.length ∉ [l] := nin1 (Nat.ne_of_lt h.lt)
theorem up100 {B k : Nat} (hB : B ≤ 200000) (hk : k ≤ 100) : B + k ≤ 1000000 := by omega
theorem cut_le0 (xs : List D) (lo hi : Option Int) : (M.cutD xs lo hi).length ≤ xs.length := by
  unfold M.cutD
  rw [List.length_take, List.length_drop]
  exact Nat.le_trans (Nat.min_le_right _ _) (Nat.sub_le _ _)
noncomputable def keysN (n : Nat) (K : List (List Nat)) (a : Nat) : List Nat := (List.range K.length).filter fun k => decide ((K.getD k []).getD 0 0 ∈ compN n K a)
theorem w_first {ks : List Nat} {μ : Mem} {Q : D → Mem → Prop} (h : 0 < ks.length) (q : Q (.int (ks.getD 0 0 : Nat)) μ) : W2 gIx (tn ks) (.int 0) μ Q := w_ix rfl (atI_getD h) q
theorem wf_partof {L : Nat} {R : List Nat} {K : List (List Nat)} {nest : Nat} {μ : Mem} {Q : D → Mem → Prop} (w : Wb L R K) (hL : L ≤ 60) (hn : nest < R.length) (q : ∀ (a b : Nat) (μ' : Mem), Keep μ μ' → μ.length ≤ a → a < b → μ'[a]? = some (.lst (nat (compN R.length K nest))) → μ'[b]? = some (.lst (nat (keysN R.length K nest))) → Q (.tup [.loc a, .loc b]) μ') : WF F_part_of [wn R K, .int (nest : Nat)] μ Q := by
  have hkl := w.kl
  refine w_def rfl ?_
  show WS p_part_of [some (wn R K), some (.int (nest : Nat)), none] μ _ _ _ _
  unfold p_part_of
  refine w_then (w_set (w_call (w_cons (w_var rfl (w_cons (w_var rfl (w_nil ?_)))))))
  refine wf_joined w hL hn fun a μ1 k1 ha ga => ?_
  refine w_ret (w_tup (w_cons (w_var rfl (w_cons (w_lc (w_enum (w_bin (w_var rfl (w_c (w_keys (.inl ⟨_, rfl, ?_⟩)))))))))))
  rw [enumD_range tn K []]
  refine ⟨few_of (by simp; omega), ?_⟩
  refine w_pureE (fun (k : Nat) => D.tup [.int k, tn (K.getD k [])]) (List.range K.length) (fun (k : Nat) => D.int k) (fun k => decide ((K.getD k []).getD 0 0 ∈ compN R.length K nest)) (fun _ _ => rfl) (fun k hk μ2 k2 => ?_) (fun μ2 k2 => ?_)
  · have hk : k < K.length := List.mem_range.mp hk
    refine w_gt2 (w_gsc (w_gn (w_gsc (w_gn (w_gsn ?_)))))
    unfold c_part_of_0 e_part_of_0
    exact w_test (w_bin (w_bin (w_var rfl (w_c (w_first (by have := (w.key hk).1; omega) (w_var rfl (w_inN (items_loc (k2 _ _ ga)) ⟨_, rfl, rfl, k2, fun _ => w_var rfl ⟨rfl, k2⟩⟩)))))))
  · refine w_nil (q a μ2.length _ (k1.trans k2.to) ha ?_ (get_old' (k2 _ _ ga)) get_new)
    exact lt_of_get (k2 _ _ ga)
noncomputable def PartsAt (μ : Mem) (lo : Nat) (n : Nat) (K : List (List Nat)) (l : Nat) (P : List Nat) : Prop := ∃ xs : List (Nat × Nat), μ[l]? = some (.lst (xs.map fun p => D.tup [.loc p.1, .loc p.2])) ∧ xs.length = P.length ∧ lo ≤ l ∧ ∀ (i : Nat) (p : Nat × Nat) (a : Nat), xs[i]? = some p → P[i]? = some a → lo ≤ p.1 ∧ lo ≤ p.2 ∧ p.1 ≠ l ∧ p.2 ≠ l ∧ μ[p.1]? = some (.lst (nat (compN n K a))) ∧ μ[p.2]? = some (.lst (nat (keysN n K a)))
noncomputable def leastN (n : Nat) (K : List (List Nat)) : List Nat := (List.range n).filter fun a => decide ((compN n K a).getD 0 0 = a)
theorem comp_pos {n : Nat} {K : List (List Nat)} {a : Nat} (h : a < n) : 0 < (compN n K a).length := List.length_pos_of_mem (compN_mem.mpr ⟨h, .refl⟩)
theorem wf_parts {L : Nat} {R : List Nat} {K : List (List Nat)} {μ : Mem} {Q : D → Mem → Prop} (w : Wb L R K) (hL : L ≤ 60) (q : ∀ (l : Nat) (μ' : Mem), Keep μ μ' → PartsAt μ' μ.length R.length K l (leastN R.length K) → Q (.loc l) μ') : WF F_parts [wn R K] μ Q := by
  have hkl := w.kl
  have hrl := w.rl
  refine w_def rfl ?_
  show WS p_parts [some (wn R K), none] μ _ _ _ _
  unfold p_parts
  refine w_then (w_set (w_lc (w_range (w_cons (w_call (w_cons (w_bin (w_var rfl (w_c (w_rooms (w_nil (w_len rfl (w_nil ⟨_, rfl, by omega, ?_, few_of ?_, ?_⟩)))))))))))))
  · rw [List.length_map]; omega
  · simp; omega
  rw [Int.toNat_natCast, List.length_map]
  refine w_comp0 (fun i ys μ' => Keep μ μ' ∧ ∃ xs : List (Nat × Nat), ys = xs.map (fun p => D.tup [.loc p.1, .loc p.2]) ∧ xs.length = i ∧ ∀ (j : Nat) (p : Nat × Nat), xs[j]? = some p → μ.length ≤ p.1 ∧ μ.length ≤ p.2 ∧ μ'[p.1]? = some (.lst (nat (compN R.length K j))) ∧ μ'[p.2]? = some (.lst (nat (keysN R.length K j)))) ⟨.refl, [], rfl, rfl, by simp⟩ (fun _ _ _ _ => rfl) ?_ ?_
  · rintro i x ys μ1 hx ⟨k1, xs, rfl, hl, hxs⟩
    obtain ⟨hi, rfl⟩ := range_at hx
    refine w_gn (w_yes ⟨fun _ => ?_, fun hf => (by cases hf)⟩)
    unfold e_parts_1
    refine w_call (w_cons (w_var rfl (w_cons (w_var rfl (w_nil ?_)))))
    refine wf_partof w hL hi fun a b μ2 k2 ha hab ga gb => ⟨k1.trans k2, xs ++ [(a, b)], by rw [List.map_append]; rfl, by simp [hl], fun j p hj => ?_⟩
    have hm1 := k1.len
    by_cases hjl : j < xs.length
    · rw [List.getElem?_append_left hjl] at hj
      obtain ⟨h1, h2, h3, h4⟩ := hxs j p hj
      exact ⟨h1, h2, k2 _ _ h3, k2 _ _ h4⟩
    · have hj2 := (List.getElem?_eq_some_iff.mp hj).1
      rw [List.length_append, List.length_singleton] at hj2
      have ej : j = xs.length := by omega
      subst ej
      rw [List.getElem?_append_right (Nat.le_refl _), Nat.sub_self] at hj
      cases hj
      rw [hl]
      exact ⟨by show μ.length ≤ a; omega, by show μ.length ≤ b; omega, ga, gb⟩
  rintro ys μ1 ⟨k1, xs, rfl, hl, hxs⟩
  simp only [List.length_map, List.length_range] at hl
  have hm1 := k1.len
  have g1 : (μ1 ++ [LObj.lst (xs.map fun p => D.tup [.loc p.1, .loc p.2])])[μ1.length]? = some (.lst (xs.map fun p => D.tup [.loc p.1, .loc p.2])) := get_new
  have k2 : Keep μ1 (μ1 ++ [LObj.lst (xs.map fun p => D.tup [.loc p.1, .loc p.2])]) := .app
  generalize hM : μ1 ++ [LObj.lst (xs.map fun p => D.tup [.loc p.1, .loc p.2])] = M2 at g1 k2
  refine w_ret (w_lc (w_enum (w_var rfl (.inr (.inr ⟨μ1.length, _, rfl, g1, ?_⟩)))))
  rw [enumD_range (fun (p : Nat × Nat) => D.tup [.loc p.1, .loc p.2]) xs (0, 0), hl]
  refine ⟨few_of (by simp; omega), ?_⟩
  refine w_pureE (fun (k : Nat) => D.tup [.int k, D.tup [.loc (xs.getD k (0, 0)).1, .loc (xs.getD k (0, 0)).2]]) (List.range R.length) (fun (k : Nat) => D.tup [.loc (xs.getD k (0, 0)).1, .loc (xs.getD k (0, 0)).2]) (fun a => decide ((compN R.length K a).getD 0 0 = a)) (fun μ' k => stays_of g1 k) (fun k hk μ3 k3 => ?_) (fun μ3 k3 => ?_)
  · have hk : k < R.length := List.mem_range.mp hk
    obtain ⟨h1, h2, h3, h4⟩ := hxs k (xs.getD k (0, 0)) (by rw [List.getD_eq_getElem?_getD, List.getElem?_eq_getElem (by omega)]; rfl)
    refine w_gt2 (w_gsc (w_gn (w_gsc (w_gn (w_gsn ?_)))))
    unfold c_parts_0 e_parts_0
    exact w_test (w_bin (w_bin (w_bin (w_var rfl (w_c (w_ix rfl rfl (w_c (w_ix (items_loc (k3 _ _ (k2 _ _ h3))) (atI_getD (i := 0) (comp_pos hk)) (w_var rfl (w_eqE (α := Nat) ((compN R.length K k).getD 0 0) k ⟨_, rfl, rfl, k3, fun _ => w_var rfl ⟨rfl, k3⟩⟩))))))))))
  · refine q _ _ (k1.trans (k2.trans k3.to)) ⟨(leastN R.length K).map fun k => xs.getD k (0, 0), by rw [get_new, List.map_map]; rfl, by simp, by have := k2.len; have := k3.len; omega, fun i p a e1 e2 => ?_⟩
    rw [List.getElem?_map, e2] at e1
    cases e1
    have ha : a < R.length := by
      have := List.mem_of_getElem? e2
      unfold leastN at this
      exact List.mem_range.mp (List.mem_filter.mp this).1
    obtain ⟨h1, h2, h3, h4⟩ := hxs a (xs.getD a (0, 0)) (by rw [List.getD_eq_getElem?_getD, List.getElem?_eq_getElem (by omega)]; rfl)
    have g3 := k3 _ _ (k2 _ _ h3)
    have g4 := k3 _ _ (k2 _ _ h4)
    exact ⟨h1, h2, Nat.ne_of_lt (lt_of_get g3), Nat.ne_of_lt (lt_of_get g4), get_old' g3, get_old' g4⟩
theorem mem0 {k : List Nat} (h : 0 < k.length) : k.getD 0 0 ∈ k := by
  cases k with
  | nil => cases h
  | cons a t => exact List.mem_cons_self
structure WX (F : FX) (ds : List D) (μ : Mem) (Q : D → Mem → Prop) : Prop where
  ex : ∃ d μ', F ds μ = some (.ok d μ') ∧ Q d μ'
theorem w_defX {F : FX} {N : List Str} {p : FS} {ds : List D} {μ : Mem} {Q : D → Mem → Prop} (hF : F = fun ds μ => retX (p (startD N ds) μ)) (h : WS p (startD N ds) μ (fun _ μ' => Q .non μ') Q (fun _ _ => False) fun _ _ => False) : WX F ds μ Q := by
  subst hF
  obtain ⟨o, e, k⟩ := h
  cases o with
  | next δ' μ' => exact ⟨_, _, by rw [e]; rfl, k⟩
  | ret d μ' => exact ⟨_, _, by rw [e]; rfl, k⟩
  | brk _ _ => exact k.elim
  | cont _ _ => exact k.elim
  | exc _ _ _ => exact k.elim
theorem w_exprX {F : FX} {φ : FA} {δ : M.Loc} {μ : Mem} {nx : M.Loc → Mem → Prop} {rt : D → Mem → Prop} {bk ct : M.Loc → Mem → Prop} (h : WA φ δ μ fun ds μ1 => WX F ds μ1 fun _ μ' => nx δ μ') : WS (sExprX F φ) δ μ nx rt bk ct := by
  obtain ⟨ds, μ1, e1, d, μ2, e2, k⟩ := h
  exact ⟨.next δ μ2, by simp [e1, e2], k⟩
theorem w_callX {F : FX} {φ : FA} {δ : M.Loc} {μ : Mem} {Q : D → Mem → Prop} (h : WA φ δ μ fun ds μ1 => WX F ds μ1 Q) : WE (fCallX F φ) δ μ Q := by
  obtain ⟨ds, μ1, e1, d, μ2, e2, q⟩ := h
  exact ⟨d, μ2, by simp [e1, e2], q⟩
theorem w_tryAs {p q : FS} {i : Nat} {tb : List (Str × Bool)} {η : FH} {c : Str} {δ : M.Loc} {μ μ1 : Mem} {nx : M.Loc → Mem → Prop} {rt : D → Mem → Prop} {bk ct : M.Loc → Mem → Prop} (hp : p δ μ = some (.exc c [] μ1)) (ht : tb.lookup c = some true)
    (h : WS q (δ.set i (some (.loc μ1.length))) (μ1 ++ [.exc c []]) (fun δ' μ' => nx (δ'.set i none) μ') rt (fun _ _ => False) (fun _ _ => False)) : WS (sTry p (hAs i tb q η)) δ μ nx rt bk ct := by
  obtain ⟨o, e, k⟩ := h
  cases o with
  | next δ' μ' => exact ⟨.next _ μ', by simp only [sTry, hp, hAs, ht, e, behind], k⟩
  | ret d μ' => exact ⟨.ret d μ', by simp only [sTry, hp, hAs, ht, e, behind], k⟩
  | brk _ _ => exact k.elim
  | cont _ _ => exact k.elim
  | exc _ _ _ => exact k.elim
theorem w_askO {tb : Kit} {n : Nat} {c s : Str} {fs : List (Str × D)} {b : Bool} {μ : Mem} {Q : D → Mem → Prop} (h : μ[n]? = some (.exc c fs)) (ha : tb.lookup (some c, CN.own s) = some b) (q : Q (.bl b) μ) : WF (gAsk tb) [.loc n, .own s] μ Q := ⟨_, _, by simp only [gAsk, askOf, h, Option.bind_some, ask1, nmOf, ha], q⟩
theorem w_askY {tb : Kit} {n : Nat} {c : Str} {s : String} {fs : List (Str × D)} {b : Bool} {μ : Mem} {Q : D → Mem → Prop} (h : μ[n]? = some (.exc c fs)) (ha : tb.lookup (some c, CN.ty s) = some b) (q : Q (.bl b) μ) : WF (gAsk tb) [.loc n, .ty s] μ Q := ⟨_, _, by simp only [gAsk, askOf, h, Option.bind_some, ask1, nmOf, ha], q⟩
theorem w_askT {tb : Kit} {n : Nat} {c : Str} {d : D} {ds : List D} {fs : List (Str × D)} {b : Bool} {μ : Mem} {Q : D → Mem → Prop} (h : μ[n]? = some (.exc c fs)) (ha : askAny tb (some c) (d :: ds) = some b) (q : Q (.bl b) μ) : WF (gAsk tb) [.loc n, .tup (d :: ds)] μ Q := ⟨_, _, by simp only [gAsk, askOf, h, Option.bind_some, ha], q⟩
theorem wf_pairs {ns : List Int} {μ : Mem} {l B m : Nat} {Q : D → Mem → Prop} (h : PenC ns μ l B) (hB : B ≤ 100000) (hm : 0 < m) (hm31 : m ≤ 31)
    (q : ∀ N K μ', Wb (m - 1) (List.replicate N 1) K → (∀ k ∈ K, k.length = 2) → KB [l] μ μ' → PenC ns μ' l (B + 1000) → Q (wn (List.replicate N 1) K) μ') : WF F__law_pairs [.loc l, .int (m : Nat)] μ Q := by
  have hB2 : B ≤ 200000 := Nat.le_trans hB (by decide)
  refine w_def rfl ?_
  show WS p__law_pairs [some (.loc l), some (.int (m : Nat)), none, none, none] μ _ _ _ _
  unfold p__law_pairs
  refine w_then (w_set (w_bin (w_c (w_call (w_cons (w_var rfl (w_cons (w_c (w_nil ?_)))))))))
  refine wf_takeN (s := 10) h (up100 (k := 0) hB2 (by decide)) (by decide) (by decide) fun n0 μ1 b1 k1 p1 => w_add ?_
  rw [show (1 : Int) + (n0 : Nat) = ((1 + n0 : Nat) : Int) from (Int.natCast_add 1 n0).symm]
  have h1 : 0 < 1 + n0 := by omega
  have hN : 1 + n0 ≤ 10 := by omega
  clear b1
  generalize 1 + n0 = N at h1 hN
  have hlc : l ≠ μ1.length := Nat.ne_of_lt p1.lt
  have hc : μ.length ≤ μ1.length := k1.len
  refine w_then (w_set (w_lst (w_nil ?_)))
  have pa := p1.app (g := [LObj.lst []])
  have ka : KB [l] μ (μ1 ++ [LObj.lst []]) := k1.app
  have ga : (μ1 ++ [LObj.lst []])[μ1.length]? = some (.lst []) := get_new
  generalize μ1 ++ [LObj.lst []] = νa at pa ka ga
  generalize μ1.length = c at ga hlc hc
  refine w_then (w_for (w_range (w_cons (w_call (w_cons (w_var rfl (w_cons (w_var rfl (w_nil ?_)))))))))
  refine wf_takeN pa (up100 (k := 1) hB2 (by decide)) hm (Nat.le_trans hm31 (by decide)) fun t νb b0 kb pb => w_nil ⟨_, rfl, Int.natCast_nonneg _, by omega, ?_⟩
  rw [Int.toNat_natCast]
  have ht : t ≤ m - 1 := by omega
  have ht30 : t ≤ 30 := by omega
  refine w_loop0 (fun i δ ν => ∃ (K : List (List Nat)) (y : Option D), δ = [some (.loc l), some (.int (m : Nat)), some (.int (N : Nat)), some (.loc c), y] ∧ K.length = i ∧ (∀ k ∈ K, k.length = 2 ∧ ∀ h ∈ k, h < N) ∧ KB [l] μ ν ∧ PenC ns ν l (B + 2 + 2 * i) ∧ ν[c]? = some (.lst (K.map tn)))
    ⟨[], _, rfl, rfl, by simp, ka.trans kb, pb, kb.at_ _ _ (nin1 hlc) ga⟩ (fun _ _ _ _ => rfl) ?_ ?_
  · rintro i z0 δ ν1 hz ⟨K, y, rfl, hKl, hK, kk, pp, gg⟩
    obtain ⟨hi, rfl⟩ := range_at hz
    have hB1 : B + 2 + 2 * i ≤ 300000 := by omega
    refine w_gn ?_
    unfold b__law_pairs_0
    refine w_expr (w_meth (w_var rfl ⟨_, _, rfl, gg, ?_⟩))
    refine w_cons (w_tup (w_cons (w_call (w_cons (w_var rfl (w_cons (w_var rfl (w_nil ?_))))))))
    refine wf_takeN pp (Nat.le_trans hB1 (by decide)) h1 (Nat.le_trans hN (by decide)) fun a ν2 b2 k2 p2 => w_cons (w_call (w_cons (w_var rfl (w_cons (w_var rfl (w_nil ?_))))))
    refine wf_takeN p2 (Nat.le_trans (Nat.add_le_add_right hB1 1) (by decide)) h1 (Nat.le_trans hN (by decide)) fun b ν3 b3 k3 p3 => w_nil (w_nil ?_)
    have g3 := k3.at_ _ _ (nin1 hlc) (k2.at_ _ _ (nin1 hlc) gg)
    refine w_append g3 (by rw [List.length_map]; omega) ?_
    refine ⟨K ++ [[a, b]], _, rfl, by rw [List.length_append, hKl]; rfl, fun k hk => ?_, (kk.trans (k2.trans k3)).set (.inr hc), (p3.set (Ne.symm hlc)).up (by omega), ?_⟩
    · rcases List.mem_append.mp hk with hk | hk
      · exact hK k hk
      · rw [List.mem_singleton.mp hk]
        refine ⟨rfl, fun h hh => ?_⟩
        rcases List.mem_cons.mp hh with rfl | hh
        · exact b2
        · rw [List.mem_singleton.mp hh]; exact b3
    · rw [get_set_eq g3, List.map_append]; rfl
  · rintro δ ν1 ⟨K, y, rfl, hKl, hK, kk, pp, gg⟩
    simp only [List.length_map, List.length_range] at hKl pp
    refine w_ret (w_tup (w_cons (w_call (w_cons (w_lc (w_range (w_cons (w_var rfl (w_nil ⟨_, rfl, Int.natCast_nonneg _, by omega, few_of (by simp; omega), ?_⟩)))))))))
    rw [Int.toNat_natCast]
    refine w_mapE (fun (k : Nat) => D.int k) (List.range N) (fun _ => .int 1) (fun _ _ => rfl) (fun k hk μ2 k2 => ?_) (fun μ2 k2 => ?_)
    · refine w_gn ?_
      unfold e__law_pairs_0
      exact w_c ⟨rfl, k2, k2⟩
    · refine w_nil (w_tuple (items_loc get_new) (w_cons (w_call (w_cons (w_var rfl (w_nil (w_tuple (items_loc (get_old' (k2 _ _ gg))) (w_nil ?_))))))))
      have e : (List.range N).map (fun _ => D.int 1) = nat (List.replicate N 1) := by
        show _ = (List.replicate N 1).map _
        rw [List.map_replicate, List.map_const', List.length_range]
        rfl
      rw [e]
      refine q N K _ ⟨by rw [List.length_replicate]; exact ⟨h1, hN⟩, by rw [hKl]; exact ht, fun k hk => ?_⟩ (fun k hk => (hK k hk).1) ((kk.trans (KB.of_keep k2)).app) (((pp.keep k2).app).up (by omega))
      obtain ⟨h2, h3⟩ := hK k hk
      rw [List.length_replicate, h2]
      exact ⟨by decide, h3⟩
theorem wf_checkpairs {N : Nat} {K : List (List Nat)} {μ : Mem} {Q : D → Mem → Prop} (hN : N ≤ 1000) (hKl : K.length ≤ 1000) (h2 : ∀ k ∈ K, k.length = 2) (q : ∀ μ', Keep μ μ' → Q .non μ') : WX F_check_pairs [wn (List.replicate N 1) K] μ Q := by
  refine w_defX rfl ?_
  show WS p_check_pairs [some (wn (List.replicate N 1) K)] μ _ _ _ _
  unfold p_check_pairs
  refine w_if (w_orT (w_test (w_call (w_cons (w_lc (w_seq (w_bin (w_var rfl (w_c (w_rooms (.inl ⟨_, rfl, few_of (by rw [List.length_map, List.length_replicate]; omega), ?_⟩)))))))))))
  refine w_mapE (fun (k : Nat) => D.int k) (List.replicate N 1) (fun _ => .bl false) (fun _ _ => rfl) (fun k hk μ2 k2 => ?_) (fun μ2 k2 => ?_)
  · refine w_gn ?_
    unfold e_check_pairs_0
    rw [List.eq_of_mem_replicate hk]
    exact w_bin (w_var rfl (w_c (w_neI ⟨rfl, k2, k2⟩)))
  refine w_nil (w_any (bs := (List.replicate N 1).map fun _ => false) (by rw [get_new, List.map_map]; rfl) ?_)
  have e : (((List.replicate N 1).map fun _ => false).any fun b => b) = false := by simp
  rw [e]
  refine ⟨_, rfl, fun _ => ?_, fun h => (by cases h)⟩
  refine w_test (w_call (w_cons (w_lc (w_seq (w_bin (w_var rfl (w_c (w_keys (.inl ⟨_, rfl, few_of (by rw [List.length_map]; omega), ?_⟩)))))))))
  refine w_mapE tn K (fun _ => .bl false) (fun _ _ => rfl) (fun k hk μ3 k3 => ?_) (fun μ3 k3 => ?_)
  · refine w_gn ?_
    unfold e_check_pairs_1
    refine w_bin (w_call (w_cons (w_var rfl (w_nil (w_len rfl (w_c (w_neI ⟨?_, k3, k3⟩)))))))
    rw [List.length_map, h2 k hk]
    rfl
  refine w_nil (w_any (bs := K.map fun _ => false) (by rw [get_new, List.map_map]; rfl) ?_)
  have e : ((K.map fun _ => false).any fun b => b) = false := by simp
  rw [e]
  exact ⟨_, rfl, fun h => (by cases h), fun _ => w_skip (q _ (k2.to.trans k3.to))⟩
theorem Jn.mono {E E' : List (List Nat)} {a b : Nat} (h : ∀ k ∈ E, k ∈ E') (j : Jn E a b) : Jn E' a b := by
  induction j with
  | refl => exact .refl
  | step _ e ih =>
    obtain ⟨k, hk, h1, h2⟩ := e
    exact .step ih ⟨k, h k hk, h1, h2⟩
structure Mk (n : Nat) (E : List (List Nat)) (M : List Nat) : Prop where
  len : M.length = n
  lt : ∀ k ∈ E, ∀ x ∈ k, x < n
  iff : ∀ a b, a < n → b < n → (M.getD a 0 = M.getD b 0 ↔ Jn E a b)
theorem mk_start (n : Nat) : Mk n [] (List.range n) := by
  refine ⟨by simp, by simp, fun a b ha hb => ?_⟩
  have e : ∀ {x}, x < n → (List.range n).getD x 0 = x := fun {x} hx => by rw [List.getD_eq_getElem?_getD, List.getElem?_range hx]; rfl
  rw [e ha, e hb]
  constructor
  · rintro rfl; exact .refl
  · intro h
    cases h with
    | refl => rfl
    | step _ e =>
      obtain ⟨k, hk, _⟩ := e
      cases hk
noncomputable def reM (M : List Nat) (old new : Nat) : List Nat := M.map fun m => if m = old then new else m
theorem reM_at {M : List Nat} {old new a : Nat} (h : a < M.length) : (reM M old new).getD a 0 = if M.getD a 0 = old then new else M.getD a 0 := by
  unfold reM
  rw [List.getD_eq_getElem?_getD, List.getElem?_map, List.getD_eq_getElem?_getD, List.getElem?_eq_getElem h]
  rfl
theorem mk_step {n f h : Nat} {E : List (List Nat)} {M : List Nat} (m : Mk n E M) (hf : f < n) (hh : h < n) : Mk n (E ++ [[f, h]]) (reM M (M.getD h 0) (M.getD f 0)) := by
  have hl := m.len
  refine ⟨by unfold reM; rw [List.length_map]; exact hl, fun k hk x hx => ?_, fun a b ha hb => ?_⟩
  · rcases List.mem_append.mp hk with hk | hk
    · exact m.lt k hk x hx
    · rw [List.mem_singleton.mp hk] at hx
      rcases List.mem_cons.mp hx with rfl | hx
      · exact hf
      · rw [List.mem_singleton.mp hx]; exact hh
  have mono : ∀ {a b}, Jn E a b → Jn (E ++ [[f, h]]) a b := fun j => j.mono fun k hk => List.mem_append_left _ hk
  have fh : Jn (E ++ [[f, h]]) f h := .step .refl ⟨[f, h], by simp, by simp, by simp⟩
  constructor
  · rw [reM_at (by omega), reM_at (by omega)]
    intro e
    split at e <;> split at e
    · rename_i h1 h2
      exact mono ((m.iff a b ha hb).mp (h1.trans h2.symm))
    · rename_i h1 h2
      exact (mono ((m.iff a h ha hh).mp h1)).trans (fh.symm.trans (mono ((m.iff f b hf hb).mp e)))
    · rename_i h1 h2
      exact (mono ((m.iff a f ha hf).mp e)).trans (fh.trans (mono ((m.iff h b hh hb).mp h2.symm)))
    · exact mono ((m.iff a b ha hb).mp e)
  · intro j
    have : ∀ {c}, Jn (E ++ [[f, h]]) a c → c < n ∧ (reM M (M.getD h 0) (M.getD f 0)).getD a 0 = (reM M (M.getD h 0) (M.getD f 0)).getD c 0 := fun {c} j => by
      induction j with
      | refl => exact ⟨ha, rfl⟩
      | step _ e ih =>
        obtain ⟨hb, ih⟩ := ih
        obtain ⟨k, hk, h1, h2⟩ := e
        rcases List.mem_append.mp hk with hk | hk
        · have hc := m.lt k hk _ h2
          refine ⟨hc, ih.trans ?_⟩
          rw [reM_at (by omega), reM_at (by omega), (m.iff _ _ hb hc).mpr (.step .refl ⟨k, hk, h1, h2⟩)]
        · rw [List.mem_singleton.mp hk] at h1 h2
          have ef : (reM M (M.getD h 0) (M.getD f 0)).getD f 0 = M.getD f 0 := by
            rw [reM_at (by omega)]; split <;> rfl
          have eh : (reM M (M.getD h 0) (M.getD f 0)).getD h 0 = M.getD f 0 := by
            rw [reM_at (by omega), if_pos rfl]
          have one : ∀ {x}, x ∈ [f, h] → x < n ∧ (reM M (M.getD h 0) (M.getD f 0)).getD x 0 = M.getD f 0 := fun {x} hx => by
            rcases List.mem_cons.mp hx with rfl | hx
            · exact ⟨hf, ef⟩
            · rw [List.mem_singleton.mp hx]; exact ⟨hh, eh⟩
          exact ⟨(one h2).1, ih.trans ((one h1).2.trans (one h2).2.symm)⟩
    exact (this j).2
noncomputable def edgN (K : List (List Nat)) : List (List Nat) := K.flatMap fun k => (k.drop 1).map fun h => [k.getD 0 0, h]
theorem wf_marksL {L : Nat} {R : List Nat} {K : List (List Nat)} {n : Nat} {μ : Mem} {Q : D → Mem → Prop} (w : Wb L R K) (hL : L ≤ 60) {ks : List Nat} (hks : ∀ k ∈ ks, k < K.length) (hn : μ[n]? = some (.lst (nat ks))) (q : ∀ (M : List Nat) (l : Nat) (μ' : Mem), Mk R.length (edgN (ks.map fun k => K.getD k [])) M → Keep μ μ' → μ.length ≤ l → μ'[l]? = some (.lst (nat M)) → Q (.loc l) μ') : WF F__law_marks [wn R K, .loc n] μ Q := by
  have hkl := w.kl
  have hrl := w.rl
  refine w_def rfl ?_
  show WS p__law_marks [some (wn R K), some (.loc n), none, none, none, none, none] μ _ _ _ _
  unfold p__law_marks
  refine w_then (w_set (w_lrange (w_call (w_cons (w_bin (w_var rfl (w_c (w_rooms (w_nil (w_len rfl ⟨_, rfl, ⟨by omega, ?_⟩, ?_⟩))))))))))
  · rw [List.length_map]; omega
  rw [Int.toNat_natCast, List.length_map]
  refine w_then (w_for (w_seq (w_var rfl (.inr (.inr ⟨n, _, rfl, get_old' hn, ?_⟩)))))
  refine w_loop0 (fun i δ ν => ∃ (M : List Nat) (l : Nat) (a b c d : Option D), δ = [some (wn R K), some (.loc n), some (.loc l), a, b, c, d] ∧ Mk R.length (edgN ((ks.take i).map fun k => K.getD k [])) M ∧ Keep μ ν ∧ μ.length ≤ l ∧ ν[l]? = some (.lst (nat M))) ⟨List.range R.length, μ.length, _, _, _, _, rfl, mk_start _, .app, Nat.le_refl _, get_new⟩ (fun i δ ν ⟨M, l, a, b, c, d, _, _, k, _, _⟩ => stays_of hn k) ?_ ?_
  · rintro i0 z δ ν hz ⟨M, l, a, b, c, d, rfl, mk, k, hl, g⟩
    obtain ⟨i, hki, rfl⟩ : ∃ i, ks[i0]? = some i ∧ z = .int (i : Nat) := by
      rw [List.getElem?_map] at hz
      cases e : ks[i0]? with
      | none => rw [e] at hz; cases hz
      | some i => rw [e] at hz; cases hz; exact ⟨i, rfl, rfl⟩
    have hi := hks i (List.mem_of_getElem? hki)
    obtain ⟨⟨h2, h3⟩, hkn⟩ := w.key hi
    have htk : edgN ((ks.take (i0 + 1)).map fun k => K.getD k []) = edgN ((ks.take i0).map fun k => K.getD k []) ++ ((K.getD i []).drop 1).map fun h => [(K.getD i []).getD 0 0, h] := by
      unfold edgN
      rw [List.take_succ, hki, List.map_append, List.flatMap_append]
      simp
    have hf : (K.getD i []).getD 0 0 < R.length := hkn _ (mem0 (by omega))
    refine w_gn ?_
    unfold b__law_marks_1
    refine w_for (w_seq (w_sl (w_bin (w_bin (w_var rfl (w_c (w_keys (w_var rfl (w_key hi (w_pyes (w_c ⟨_, rfl, w_pno ⟨_, rfl, .inl ⟨_, rfl, ?_⟩⟩⟩)))))))))))
    have ec : _root_.M.cutD (nat (K.getD i [])) (some 1) none = nat ((K.getD i []).drop 1) := by
      have := cut_post (xs := nat (K.getD i [])) (i := 1)
      rw [show ((1 : Nat) : Int) = 1 from rfl] at this
      rw [this]
      exact List.map_drop.symm
    rw [ec]
    refine w_loop0 (fun j δ ν => ∃ (M : List Nat) (l : Nat) (b c d : Option D), δ = [some (wn R K), some (.loc n), some (.loc l), some (.int (i : Nat)), b, c, d] ∧ Mk R.length (edgN ((ks.take i0).map fun k => K.getD k []) ++ (((K.getD i []).drop 1).take j).map fun h => [(K.getD i []).getD 0 0, h]) M ∧ Keep μ ν ∧ μ.length ≤ l ∧ ν[l]? = some (.lst (nat M))) ⟨M, l, _, _, _, rfl, by simpa using mk, k, hl, g⟩ (fun _ _ _ _ => rfl) ?_ ?_
    · rintro j z δ ν1 hz ⟨M1, l1, b, c, d, rfl, mk1, k1, hl1, g1⟩
      rw [List.getElem?_map] at hz
      cases ej : ((K.getD i []).drop 1)[j]? with
      | none => rw [ej] at hz; cases hz
      | some h =>
        rw [ej] at hz
        cases hz
        have hhR : h < R.length := hkn h (List.mem_of_mem_drop (List.mem_of_getElem? ej))
        have htj : ((K.getD i []).drop 1).take (j + 1) = ((K.getD i []).drop 1).take j ++ [h] := by rw [List.take_succ, ej]; rfl
        have hM1 := mk1.len
        refine w_gn ?_
        unfold b__law_marks_0
        refine w_then (w_set (w_bin (w_var rfl (w_var rfl (w_ix (items_loc g1) (atI_getD (i := h) (by omega)) ?_)))))
        refine w_then (w_set (w_bin (w_var rfl (w_bin (w_bin (w_bin (w_var rfl (w_c (w_keys (w_var rfl (w_key hi (w_c (w_first (by omega) (w_ix (items_loc g1) (atI_getD (by omega)) ?_))))))))))))))
        refine w_set (w_lc (w_seq (w_var rfl (.inr (.inr ⟨l1, _, rfl, g1, few_of (by rw [List.length_map]; omega), ?_⟩)))))
        refine w_mapE (fun (m : Nat) => D.int m) M1 (fun m => .int ((if m = M1.getD h 0 then M1.getD ((K.getD i []).getD 0 0) 0 else m : Nat) : Int)) (fun μ' k' => stays_of g1 k') (fun m hm μ2 k2 => ?_) (fun μ2 k2 => ?_)
        · refine w_gn ?_
          unfold e__law_marks_0
          refine w_bin (w_lst (w_cons (w_var rfl (w_cons (w_var rfl (w_nil (w_call (w_cons (w_bin (w_var rfl (w_var rfl (w_eqE (α := Nat) m (M1.getD h 0) (w_nil (w_intB ?_))))))))))))))
          by_cases e : m = M1.getD h 0
          · rw [decide_eq_true e, if_pos e]
            exact w_ix (items_loc get_new) (show atI [_, D.int (M1.getD ((K.getD i []).getD 0 0) 0 : Nat)] 1 = some (D.int (M1.getD ((K.getD i []).getD 0 0) 0 : Nat)) from rfl) ⟨rfl, k2.to, k2⟩
          · rw [decide_eq_false e, if_neg e]
            exact w_ix (items_loc get_new) (show atI [D.int (m : Nat), _] 0 = some (D.int (m : Nat)) from rfl) ⟨rfl, k2.to, k2⟩
        · refine ⟨reM M1 (M1.getD h 0) (M1.getD ((K.getD i []).getD 0 0) 0), μ2.length, _, _, _, rfl, ?_, k1.trans k2.to, Nat.le_trans k1.len k2.len, by rw [get_new]; unfold reM; rw [nat_map]⟩
          rw [htj, List.map_append, ← List.append_assoc]
          exact mk_step mk1 hf hhR
    · rintro δ ν1 ⟨M1, l1, b, c, d, rfl, mk1, k1, hl1, g1⟩
      rw [List.length_map, List.take_length, ← htk] at mk1
      exact ⟨M1, l1, _, _, _, _, rfl, mk1, k1, hl1, g1⟩
  · rintro δ ν ⟨M, l, a, b, c, d, rfl, mk, k, hl, g⟩
    rw [List.length_map, List.take_length] at mk
    exact w_ret (w_var rfl (q M l ν mk k hl g))
theorem least_iff {n : Nat} {K : List (List Nat)} {a : Nat} (ha : a < n) : (compN n K a).getD 0 0 = a ↔ ∀ b, b < n → Jn K a b → a ≤ b := by
  obtain ⟨c, t, ec⟩ := List.exists_cons_of_length_pos (comp_pos (K := K) ha)
  have hpw := compN_pw n K a
  have hc : c ∈ compN n K a := by rw [ec]; exact List.mem_cons_self
  have haM : a ∈ compN n K a := compN_mem.mpr ⟨ha, .refl⟩
  rw [ec, List.pairwise_cons] at hpw
  have hle : ∀ b ∈ compN n K a, c ≤ b := fun b hb => by
    rw [ec] at hb
    rcases List.mem_cons.mp hb with rfl | hb
    · exact Nat.le_refl _
    · exact Nat.le_of_lt (hpw.1 b hb)
  rw [ec]
  show c = a ↔ _
  constructor
  · rintro rfl b hb j
    exact hle b (compN_mem.mpr ⟨hb, j⟩)
  · intro h
    have h1 := hle a haM
    have h2 := compN_mem.mp hc
    have := h c h2.1 h2.2
    omega
noncomputable def prodN : List Nat → Nat
  | [] => 1
  | x :: xs => x * prodN xs
theorem prod_perm {xs ys : List Nat} (h : xs.Perm ys) : prodN xs = prodN ys := by
  induction h with
  | nil => rfl
  | cons x _ ih => show x * _ = x * _; rw [ih]
  | swap x y l => show y * (x * _) = x * (y * _); rw [← Nat.mul_assoc, ← Nat.mul_assoc, Nat.mul_comm y x]
  | trans _ _ ih1 ih2 => rw [ih1, ih2]
theorem prod_ones {xs : List Nat} (h : ∀ x ∈ xs, x = 1) : prodN xs = 1 := by
  induction xs with
  | nil => rfl
  | cons x xs ih => show x * prodN xs = 1; rw [h x (by simp), ih fun y hy => h y (by simp [hy])]
theorem prod_map_congr {L : List Nat} {F G : Nat → Nat} (h : ∀ x ∈ L, F x = G x) : prodN (L.map F) = prodN (L.map G) := by rw [List.map_congr_left h]
theorem prod_out {L : List Nat} {i : Nat} (F : Nat → Nat) (hi : i ∈ L) : prodN (L.map F) = F i * prodN ((L.erase i).map F) := by
  rw [prod_perm ((List.perm_cons_erase hi).map F)]
  rfl
theorem prod_one {n i : Nat} (F : Nat → Nat) (hi : i < n) : ∃ p, ∀ G : Nat → Nat, (∀ x, x < n → x ≠ i → G x = F x) → prodN ((List.range n).map G) = G i * p := by
  refine ⟨prodN (((List.range n).erase i).map F), fun G h => ?_⟩
  rw [prod_out G (List.mem_range.mpr hi)]
  congr 1
  refine prod_map_congr fun x hx => ?_
  obtain ⟨h1, h2⟩ := (List.nodup_range.mem_erase_iff).mp hx
  exact h x (List.mem_range.mp h2) h1
theorem prod_two {n i j : Nat} (F : Nat → Nat) (hi : i < n) (hj : j < n) (hne : i ≠ j) : ∃ p, ∀ G : Nat → Nat, (∀ x, x < n → x ≠ i → x ≠ j → G x = F x) → prodN ((List.range n).map G) = G i * G j * p := by
  refine ⟨prodN ((((List.range n).erase i).erase j).map F), fun G h => ?_⟩
  have hnd := (List.nodup_range (n := n)).erase i
  rw [prod_out G (List.mem_range.mpr hi), prod_out G ((List.nodup_range.mem_erase_iff).mpr ⟨Ne.symm hne, List.mem_range.mpr hj⟩), Nat.mul_assoc]
  congr 2
  refine prod_map_congr fun x hx => ?_
  obtain ⟨h1, h2⟩ := hnd.mem_erase_iff.mp hx
  obtain ⟨h3, h4⟩ := (List.nodup_range.mem_erase_iff).mp h2
  exact h x (List.mem_range.mp h4) h3 h1
noncomputable def gW (v e s : Nat) (l : Bool) : Nat :=
  if v = 0 then 1 else if e + 1 = v then (if s = 0 then v else if s = 1 then 1 else 0) else if e = v then (if s = 0 then (if l then 1 else 2) else 0) else 0
theorem gW_tree {v e s : Nat} {l : Bool} (h : e + 1 = v) : gW v e s l = if s = 0 then v else if s = 1 then 1 else 0 := by
  unfold gW
  rw [if_neg (by omega), if_pos h]
theorem gW_ring {v e s : Nat} {l : Bool} (h : e = v) (h0 : 0 < v) : gW v e s l = if s = 0 then (if l then 1 else 2) else 0 := by
  unfold gW
  rw [if_neg (by omega), if_neg (by omega), if_pos h]
theorem gW_over {v e s : Nat} {l : Bool} (h : v < e) (h0 : 0 < v) : gW v e s l = 0 := by
  unfold gW
  rw [if_neg (by omega), if_neg (by omega), if_neg (by omega)]
theorem gW_join {va ea sa vb eb sb : Nat} {la lb : Bool} (a0 : 0 < va) (b0 : 0 < vb) (ha : va ≤ ea + 1) (hb : vb ≤ eb + 1) (hla : la = true → va ≤ ea) (hlb : lb = true → vb ≤ eb) :
    gW va ea (sa + 1) la * gW vb eb sb lb + gW va ea sa la * gW vb eb (sb + 1) lb = gW (va + vb) (ea + eb + 1) (sa + sb) (la || lb) := by
  have ta : ea + 1 = va ∨ ea = va ∨ va < ea := by omega
  have tb : eb + 1 = vb ∨ eb = vb ∨ vb < eb := by omega
  rcases ta with ta | ta | ta <;> rcases tb with tb | tb | tb
  · rw [gW_tree ta, gW_tree tb, gW_tree ta, gW_tree tb, gW_tree (by omega)]
    rcases sa with _ | sa <;> rcases sb with _ | sb <;> simp <;> (try omega)
  · have : la = false := by cases la with | false => rfl | true => exact absurd (hla rfl) (by omega)
    subst this
    rw [gW_tree ta, gW_ring tb b0, gW_tree ta, gW_ring tb b0, gW_ring (by omega) (by omega)]
    rcases sa with _ | sa <;> rcases sb with _ | sb <;> simp
  · rw [gW_over tb b0, gW_over tb b0, gW_over (v := va + vb) (e := ea + eb + 1) (by omega) (by omega)]; simp
  · have : lb = false := by cases lb with | false => rfl | true => exact absurd (hlb rfl) (by omega)
    subst this
    rw [gW_ring ta a0, gW_tree tb, gW_ring ta a0, gW_tree tb, gW_ring (by omega) (by omega)]
    rcases sa with _ | sa <;> rcases sb with _ | sb <;> simp
  · rw [gW_ring ta a0, gW_ring tb b0, gW_ring ta a0, gW_ring tb b0, gW_over (by omega) (by omega)]
    simp
  · rw [gW_over tb b0, gW_over tb b0, gW_over (v := va + vb) (e := ea + eb + 1) (by omega) (by omega)]; simp
  · rw [gW_over ta a0, gW_over ta a0, gW_over (v := va + vb) (e := ea + eb + 1) (by omega) (by omega)]; simp
  · rw [gW_over ta a0, gW_over ta a0, gW_over (v := va + vb) (e := ea + eb + 1) (by omega) (by omega)]; simp
  · rw [gW_over ta a0, gW_over ta a0, gW_over (v := va + vb) (e := ea + eb + 1) (by omega) (by omega)]; simp
theorem gW_more {v e s : Nat} {l : Bool} (v0 : 0 < v) (hv : v ≤ e + 1) (hl : l = true → v ≤ e) : gW v e (s + 1) l + gW v e (s + 1) l = gW v (e + 1) s l := by
  have t : e + 1 = v ∨ e = v ∨ v < e := by omega
  rcases t with t | t | t
  · have : l = false := by cases l with | false => rfl | true => exact absurd (hl rfl) (by omega)
    subst this
    rw [gW_tree t, gW_ring t v0]
    rcases s with _ | s <;> simp
  · rw [gW_ring t v0, gW_over (by omega) v0]; simp
  · rw [gW_over t v0, gW_over (by omega) v0]
theorem gW_loop {v e s : Nat} {l : Bool} (v0 : 0 < v) (hv : v ≤ e + 1) : gW v e (s + 1) l = gW v (e + 1) s true := by
  have t : e + 1 = v ∨ e = v ∨ v < e := by omega
  rcases t with t | t | t
  · rw [gW_tree t, gW_ring t v0]
    rcases s with _ | s <;> simp
  · rw [gW_ring t v0, gW_over (by omega) v0]; simp
  · rw [gW_over t v0, gW_over (by omega) v0]
theorem gW_twice {v e s : Nat} {l : Bool} (v0 : 0 < v) (hv : v ≤ e + 1) (hs : 0 < s) : gW v e (s + 1) l = 0 := by
  have t : e + 1 = v ∨ e = v ∨ v < e := by omega
  rcases t with t | t | t
  · rw [gW_tree t, if_neg (by omega), if_neg (by omega)]
  · rw [gW_ring t v0, if_neg (by omega)]
  · rw [gW_over t v0]
noncomputable def stepR (rows : List (List Nat)) (U : List Nat) : List (List Nat) := U.flatMap fun h => (rows.filter fun r => !decide (h ∈ r)).map fun r => r ++ [h]
noncomputable def avoid (S r : List Nat) : Bool := S.all fun s => !decide (s ∈ r)
noncomputable def cntR (rows : List (List Nat)) (S : List Nat) : Nat := rows.countP (avoid S)
theorem avoid_app (S r : List Nat) (h : Nat) : avoid S (r ++ [h]) = (!decide (h ∈ S) && avoid S r) := by
  rw [Bool.eq_iff_iff]
  unfold avoid
  simp only [List.all_eq_true, Bool.and_eq_true, Bool.not_eq_true', decide_eq_false_iff_not, List.mem_append, List.mem_singleton, not_or]
  constructor
  · intro q
    exact ⟨fun hs => (q h hs).2 rfl, fun s hs => (q s hs).1⟩
  · rintro ⟨q1, q2⟩ s hs
    exact ⟨q2 s hs, fun e => q1 (e ▸ hs)⟩
theorem cnt_one (rows : List (List Nat)) (S : List Nat) (h : Nat) : cntR (stepR rows [h]) S = if h ∈ S then 0 else cntR rows (h :: S) := by
  unfold cntR stepR
  rw [List.flatMap_singleton, List.countP_map, List.countP_filter]
  by_cases hs : h ∈ S
  · rw [if_pos hs, List.countP_eq_zero]
    intro r _
    rw [Function.comp, avoid_app, decide_eq_true hs]
    simp
  · rw [if_neg hs]
    refine List.countP_congr fun r _ => ?_
    rw [Function.comp, avoid_app, decide_eq_false hs]
    unfold avoid
    rw [List.all_cons, Bool.not_false, Bool.true_and, Bool.and_comm]
theorem cnt_two (rows : List (List Nat)) (S : List Nat) (h h' : Nat) : cntR (stepR rows [h, h']) S = cntR (stepR rows [h]) S + cntR (stepR rows [h']) S := by
  unfold cntR stepR
  simp only [List.flatMap_cons, List.flatMap_nil, List.append_nil, List.countP_append]
noncomputable abbrev labN (M : List Nat) (k : List Nat) : Nat := M.getD (k.getD 0 0) 0
noncomputable def isLoop (k : List Nat) : Bool := decide (k.getD 0 0 = k.getD 1 0)
noncomputable abbrev eL (K : List (List Nat)) (M : List Nat) (l : Nat) : Nat := (K.map (labN M)).count l
noncomputable abbrev sL (S M : List Nat) (l : Nat) : Nat := (S.map fun v => M.getD v 0).count l
noncomputable abbrev lL (K : List (List Nat)) (M : List Nat) (l : Nat) : Nat := ((K.filter isLoop).map (labN M)).count l
noncomputable abbrev gK (K : List (List Nat)) (M S : List Nat) (l : Nat) : Nat := gW (M.count l) (eL K M l) (sL S M l) (decide (0 < lL K M l))
theorem re_count {Y : List Nat} {old new l : Nat} (hne : new ≠ old) : (reM Y old new).count l = if l = new then Y.count new + Y.count old else if l = old then 0 else Y.count l := by
  induction Y with
  | nil => simp [reM]
  | cons y Y ih =>
    have e : reM (y :: Y) old new = (if y = old then new else y) :: reM Y old new := rfl
    rw [e, List.count_cons, ih]
    simp only [List.count_cons, beq_iff_eq]
    by_cases h1 : y = old
    · subst h1
      by_cases h2 : l = new
      · subst h2
        simp [Ne.symm hne]
        omega
      · by_cases h3 : l = y
        · subst h3; simp [hne, h2]
        · simp [h2, h3, Ne.symm h2, Ne.symm h3]
    · by_cases h2 : l = new
      · subst h2
        simp [h1]
        omega
      · by_cases h3 : l = old
        · subst h3; simp [h1, h2]
        · simp [h1, h2, h3]
theorem re_same (M : List Nat) (l : Nat) : reM M l l = M := by
  unfold reM
  conv => rhs; rw [← List.map_id M]
  refine List.map_congr_left fun m _ => ?_
  by_cases h : m = l
  · rw [if_pos h]; exact h.symm
  · rw [if_neg h]; rfl
theorem re_map {α : Type} {X : List α} {f : α → Nat} {M : List Nat} {old new : Nat} (h : ∀ x ∈ X, f x < M.length) : (X.map fun x => (reM M old new).getD (f x) 0) = reM (X.map fun x => M.getD (f x) 0) old new := by
  conv => rhs; unfold reM
  rw [List.map_map]
  refine List.map_congr_left fun x hx => ?_
  rw [reM_at (h x hx)]
  rfl
theorem mark_pos {M : List Nat} {v : Nat} (h : v < M.length) : 0 < M.count (M.getD v 0) := by
  rw [List.count_pos_iff]
  rw [List.getD_eq_getElem?_getD, List.getElem?_eq_getElem h]
  exact List.getElem_mem h
structure Cw (n : Nat) (K : List (List Nat)) (M : List Nat) (rows : List (List Nat)) : Prop where
  mks : Mk n K M
  lt : ∀ v, v < n → M.getD v 0 < n
  two : ∀ k ∈ K, k.length = 2
  tr : ∀ l, 0 < M.count l → M.count l ≤ eL K M l + 1
  lp : ∀ l, 0 < lL K M l → M.count l ≤ eL K M l
  cn : ∀ S : List Nat, S.Nodup → (∀ v ∈ S, v < n) → cntR rows S = prodN ((List.range n).map (gK K M S))
theorem cw_start (n : Nat) : Cw n [] (List.range n) [[]] := by
  have e : ∀ {x}, x < n → (List.range n).getD x 0 = x := fun {x} hx => by rw [List.getD_eq_getElem?_getD, List.getElem?_range hx]; rfl
  refine ⟨mk_start n, fun v h => by rw [e h]; exact h, by simp, fun l h => ?_, fun l h => by simp [lL] at h, fun S nd hS => ?_⟩
  · have := (List.nodup_range (n := n)).count (a := l)
    simp only [List.mem_range] at this
    rw [this]
    split <;> omega
  · have h1 : cntR [[]] S = 1 := by
      unfold cntR
      rw [List.countP_cons, List.countP_nil]
      unfold avoid
      simp
    rw [h1]
    refine (prod_ones fun x hx => ?_).symm
    obtain ⟨l, hl, rfl⟩ := List.mem_map.mp hx
    have c1 : (List.range n).count l = 1 := by
      rw [(List.nodup_range (n := n)).count, if_pos hl]
    have c2 : sL S (List.range n) l ≤ 1 := by
      have e2 : (S.map fun v => (List.range n).getD v 0) = S := by
        conv => rhs; rw [← List.map_id S]
        exact List.map_congr_left fun v hv => e (hS v hv)
      show (S.map fun v => (List.range n).getD v 0).count l ≤ 1
      rw [e2, nd.count]
      split <;> omega
    show gW _ _ _ _ = 1
    rw [c1, gW_tree (by simp [eL])]
    have : sL S (List.range n) l = 0 ∨ sL S (List.range n) l = 1 := by omega
    rcases this with h | h <;> rw [h] <;> rfl
theorem cnt_h {n : Nat} {K : List (List Nat)} {M S : List Nat} {rows : List (List Nat)} {h : Nat} (c : Cw n K M rows) (nd : S.Nodup) (hS : ∀ v ∈ S, v < n) (hh : h < n) : cntR (stepR rows [h]) S = prodN ((List.range n).map fun l => gW (M.count l) (eL K M l) (sL S M l + if M.getD h 0 = l then 1 else 0) (decide (0 < lL K M l))) := by
  rw [cnt_one]
  by_cases hm : h ∈ S
  · rw [if_pos hm]
    have hl := c.mks.len
    rw [prod_out (i := M.getD h 0) _ (List.mem_range.mpr (c.lt h hh))]
    have hp := mark_pos (M := M) (v := h) (by omega)
    have hs : 0 < sL S M (M.getD h 0) := by
      rw [List.count_pos_iff]
      exact List.mem_map.mpr ⟨h, hm, rfl⟩
    rw [if_pos rfl, gW_twice hp (c.tr _ hp) hs, Nat.zero_mul]
  · rw [if_neg hm, c.cn (h :: S) (List.nodup_cons.mpr ⟨hm, nd⟩) (fun v hv => by
      rcases List.mem_cons.mp hv with rfl | hv
      · exact hh
      · exact hS v hv)]
    refine prod_map_congr fun l _ => ?_
    show gW _ _ (sL (h :: S) M l) _ = _
    congr 1
    show ((h :: S).map fun v => M.getD v 0).count l = _
    rw [List.map_cons, List.count_cons]
    simp only [beq_iff_eq]
theorem cw_step {n a b : Nat} {K : List (List Nat)} {M U : List Nat} {rows : List (List Nat)} (c : Cw n K M rows) (ha : a < n) (hb : b < n) (h1 : a = b → U = [a]) (h2 : a ≠ b → U = [a, b] ∨ U = [b, a]) :
    Cw n (K ++ [[a, b]]) (reM M (M.getD b 0) (M.getD a 0)) (stepR rows U) := by
  have hlen := c.mks.len
  have hk0 : ∀ k ∈ K, k.getD 0 0 < M.length := fun k hk => by
    have h2 := c.two k hk
    rw [hlen]
    refine c.mks.lt k hk _ ?_
    rw [List.getD_eq_getElem?_getD, List.getElem?_eq_getElem (by omega)]
    exact List.getElem_mem _
  have pa := mark_pos (M := M) (v := a) (by omega)
  have pb := mark_pos (M := M) (v := b) (by omega)
  have la := c.lt a ha
  have lb := c.lt b hb
  have mk' := mk_step c.mks ha hb
  have two' : ∀ k ∈ K ++ [[a, b]], k.length = 2 := fun k hk => by
    rcases List.mem_append.mp hk with hk | hk
    · exact c.two k hk
    · rw [List.mem_singleton.mp hk]; rfl
  have cnU : ∀ S : List Nat, S.Nodup → (∀ v ∈ S, v < n) → cntR (stepR rows U) S = if a = b then cntR (stepR rows [a]) S else cntR (stepR rows [a]) S + cntR (stepR rows [b]) S := fun S _ _ => by
    by_cases hab : a = b
    · rw [if_pos hab, h1 hab]
    · rw [if_neg hab]
      rcases h2 hab with e | e <;> rw [e, cnt_two]
      exact Nat.add_comm _ _
  have lpK : (K ++ [[a, b]]).filter isLoop = K.filter isLoop ++ if a = b then [[a, b]] else [] := by
    rw [List.filter_append]
    congr 1
    by_cases hab : a = b
    · rw [if_pos hab, List.filter_cons_of_pos (by simp [isLoop, hab])]; rfl
    · rw [if_neg hab, List.filter_cons_of_neg (by simp [isLoop, hab])]; rfl
  by_cases hl : M.getD a 0 = M.getD b 0
  · -- both in one part
    rw [hl, re_same] at mk' ⊢
    have e1 : ∀ l, eL (K ++ [[a, b]]) M l = eL K M l + if M.getD a 0 = l then 1 else 0 := fun l => by
      show ((K ++ [[a, b]]).map (labN M)).count l = _
      rw [List.map_append, List.count_append]
      show _ + [M.getD a 0].count l = _
      rw [List.count_singleton]
      simp only [beq_iff_eq]
    have l1 : ∀ l, lL (K ++ [[a, b]]) M l = lL K M l + if a = b ∧ M.getD a 0 = l then 1 else 0 := fun l => by
      show (((K ++ [[a, b]]).filter isLoop).map (labN M)).count l = _
      rw [lpK, List.map_append, List.count_append]
      congr 1
      by_cases hab : a = b
      · rw [if_pos hab]
        show [M.getD a 0].count l = _
        rw [List.count_singleton]
        simp [hab]
      · simp [hab]
    refine ⟨mk', c.lt, two', fun l h => ?_, fun l h => ?_, fun S nd hS => ?_⟩
    · have := c.tr l h
      rw [e1]
      omega
    · rw [e1]
      rw [l1] at h
      by_cases hh : a = b ∧ M.getD a 0 = l
      · rw [if_pos hh.2]
        obtain ⟨_, rfl⟩ := hh
        exact c.tr _ pa
      · rw [if_neg hh] at h
        have := c.lp l h
        omega
    · rw [cnU S nd hS]
      obtain ⟨p, hp⟩ := prod_one (n := n) (i := M.getD a 0) (gK K M S) la
      have hr : prodN ((List.range n).map (gK (K ++ [[a, b]]) M S)) = gW (M.count (M.getD a 0)) (eL K M (M.getD a 0) + 1) (sL S M (M.getD a 0)) (decide (0 < lL (K ++ [[a, b]]) M (M.getD a 0))) * p := by
        rw [hp _ fun x _ hx => ?_]
        · show gW _ (eL (K ++ [[a, b]]) M (M.getD a 0)) _ _ * p = _
          rw [e1, if_pos rfl]
        · show gW _ (eL (K ++ [[a, b]]) M x) _ (decide (0 < lL (K ++ [[a, b]]) M x)) = _
          rw [e1, l1, if_neg (Ne.symm hx), if_neg (fun q => hx q.2.symm), Nat.add_zero, Nat.add_zero]
      have ht : ∀ h, h < n → M.getD h 0 = M.getD a 0 → cntR (stepR rows [h]) S = gW (M.count (M.getD a 0)) (eL K M (M.getD a 0)) (sL S M (M.getD a 0) + 1) (decide (0 < lL K M (M.getD a 0))) * p := fun h hh e => by
        rw [cnt_h c nd hS hh, hp _ fun x _ hx => ?_]
        · rw [e, if_pos rfl]
        · rw [e, if_neg (Ne.symm hx), Nat.add_zero]
      rw [hr, ht a ha rfl]
      have hta := c.tr _ pa
      by_cases hab : a = b
      · rw [if_pos hab, l1, if_pos ⟨hab, rfl⟩]
        congr 1
        rw [gW_loop pa hta]
        simp
      · rw [if_neg hab, ht b hb hl.symm, l1, if_neg (fun q => hab q.1), Nat.add_zero, ← Nat.add_mul]
        congr 1
        refine gW_more pa hta fun q => ?_
        exact c.lp _ (of_decide_eq_true q)
  · -- two parts become one
    have hab : a ≠ b := fun e => hl (by rw [e])
    have hne := hl
    have v1 : ∀ l, (reM M (M.getD b 0) (M.getD a 0)).count l = if l = M.getD a 0 then M.count (M.getD a 0) + M.count (M.getD b 0) else if l = M.getD b 0 then 0 else M.count l := fun l => re_count hne
    have em : (K.map (labN (reM M (M.getD b 0) (M.getD a 0)))) = reM (K.map (labN M)) (M.getD b 0) (M.getD a 0) := re_map (f := fun (k : List Nat) => k.getD 0 0) hk0
    have ea' : (reM M (M.getD b 0) (M.getD a 0)).getD a 0 = M.getD a 0 := by
      rw [reM_at (by omega), if_neg hne]
    have e1 : ∀ l, eL (K ++ [[a, b]]) (reM M (M.getD b 0) (M.getD a 0)) l = if l = M.getD a 0 then eL K M (M.getD a 0) + eL K M (M.getD b 0) + 1 else if l = M.getD b 0 then 0 else eL K M l := fun l => by
      show ((K ++ [[a, b]]).map (labN (reM M (M.getD b 0) (M.getD a 0)))).count l = _
      rw [List.map_append, List.count_append, em, re_count hne]
      show _ + [(reM M (M.getD b 0) (M.getD a 0)).getD a 0].count l = _
      rw [ea', List.count_singleton]
      simp only [beq_iff_eq]
      by_cases h : l = M.getD a 0
      · rw [if_pos h, if_pos h, if_pos h.symm]
      · rw [if_neg h, if_neg h, if_neg (Ne.symm h)]; rfl
    have l1 : ∀ l, lL (K ++ [[a, b]]) (reM M (M.getD b 0) (M.getD a 0)) l = if l = M.getD a 0 then lL K M (M.getD a 0) + lL K M (M.getD b 0) else if l = M.getD b 0 then 0 else lL K M l := fun l => by
      show (((K ++ [[a, b]]).filter isLoop).map (labN (reM M (M.getD b 0) (M.getD a 0)))).count l = _
      rw [lpK, if_neg hab, List.append_nil]
      rw [show ((K.filter isLoop).map (labN (reM M (M.getD b 0) (M.getD a 0)))) = reM ((K.filter isLoop).map (labN M)) (M.getD b 0) (M.getD a 0) from re_map (f := fun (k : List Nat) => k.getD 0 0) fun k hk => hk0 k (List.mem_filter.mp hk).1]
      exact re_count hne
    have s1 : ∀ S : List Nat, (∀ v ∈ S, v < n) → ∀ l, sL S (reM M (M.getD b 0) (M.getD a 0)) l = if l = M.getD a 0 then sL S M (M.getD a 0) + sL S M (M.getD b 0) else if l = M.getD b 0 then 0 else sL S M l := fun S hS l => by
      show (S.map fun v => (reM M (M.getD b 0) (M.getD a 0)).getD v 0).count l = _
      rw [re_map (f := fun v => v) fun v hv => by have := hS v hv; omega]
      exact re_count hne
    have hta := c.tr _ pa
    have htb := c.tr _ pb
    refine ⟨mk', fun v hv => ?_, two', fun l h => ?_, fun l h => ?_, fun S nd hS => ?_⟩
    · rw [reM_at (by omega)]
      split
      · exact la
      · exact c.lt v hv
    · rw [v1] at h ⊢
      rw [e1]
      by_cases h3 : l = M.getD a 0
      · rw [if_pos h3, if_pos h3]; omega
      · rw [if_neg h3] at h ⊢
        rw [if_neg h3]
        by_cases h4 : l = M.getD b 0
        · rw [if_pos h4] at h; omega
        · rw [if_neg h4] at h ⊢
          rw [if_neg h4]
          exact c.tr l h
    · rw [l1] at h
      rw [v1, e1]
      by_cases h3 : l = M.getD a 0
      · rw [if_pos h3] at h ⊢
        rw [if_pos h3]
        have : 0 < lL K M (M.getD a 0) ∨ 0 < lL K M (M.getD b 0) := by omega
        rcases this with q | q
        · have := c.lp _ q; omega
        · have := c.lp _ q; omega
      · rw [if_neg h3] at h ⊢
        rw [if_neg h3]
        by_cases h4 : l = M.getD b 0
        · rw [if_pos h4]; omega
        · rw [if_neg h4] at h ⊢
          rw [if_neg h4]
          exact c.lp l h
    · rw [cnU S nd hS, if_neg hab]
      obtain ⟨p, hp⟩ := prod_two (n := n) (gK K M S) la lb hne
      have ta : cntR (stepR rows [a]) S = gW (M.count (M.getD a 0)) (eL K M (M.getD a 0)) (sL S M (M.getD a 0) + 1) (decide (0 < lL K M (M.getD a 0))) * gW (M.count (M.getD b 0)) (eL K M (M.getD b 0)) (sL S M (M.getD b 0)) (decide (0 < lL K M (M.getD b 0))) * p := by
        rw [cnt_h c nd hS ha, hp _ fun x _ hx _ => ?_]
        · rw [if_pos rfl, if_neg hne]; rfl
        · rw [if_neg (Ne.symm hx)]; rfl
      have tb : cntR (stepR rows [b]) S = gW (M.count (M.getD a 0)) (eL K M (M.getD a 0)) (sL S M (M.getD a 0)) (decide (0 < lL K M (M.getD a 0))) * gW (M.count (M.getD b 0)) (eL K M (M.getD b 0)) (sL S M (M.getD b 0) + 1) (decide (0 < lL K M (M.getD b 0))) * p := by
        rw [cnt_h c nd hS hb, hp _ fun x _ _ hx => ?_]
        · rw [if_pos rfl, if_neg (Ne.symm hne)]; rfl
        · rw [if_neg (Ne.symm hx)]; rfl
      rw [ta, tb, hp _ fun x _ hx hy => ?_]
      · rw [← Nat.add_mul]
        congr 1
        show _ = gW _ (eL (K ++ [[a, b]]) (reM M (M.getD b 0) (M.getD a 0)) (M.getD a 0)) (sL S (reM M (M.getD b 0) (M.getD a 0)) (M.getD a 0)) (decide (0 < lL (K ++ [[a, b]]) (reM M (M.getD b 0) (M.getD a 0)) (M.getD a 0))) * gW _ (eL (K ++ [[a, b]]) (reM M (M.getD b 0) (M.getD a 0)) (M.getD b 0)) (sL S (reM M (M.getD b 0) (M.getD a 0)) (M.getD b 0)) (decide (0 < lL (K ++ [[a, b]]) (reM M (M.getD b 0) (M.getD a 0)) (M.getD b 0)))
        rw [v1, e1, s1 S hS, l1, if_pos rfl, if_pos rfl, if_pos rfl, if_pos rfl]
        rw [v1, if_neg (Ne.symm hne), if_pos rfl]
        rw [show ∀ e s l, gW 0 e s l = 1 from fun _ _ _ => rfl, Nat.mul_one]
        rw [gW_join pa pb hta htb (fun q => c.lp _ (of_decide_eq_true q)) (fun q => c.lp _ (of_decide_eq_true q))]
        congr 1
        rw [Bool.eq_iff_iff]
        simp only [Bool.or_eq_true, decide_eq_true_iff]
        omega
      · show gW _ (eL (K ++ [[a, b]]) (reM M (M.getD b 0) (M.getD a 0)) x) (sL S (reM M (M.getD b 0) (M.getD a 0)) x) (decide (0 < lL (K ++ [[a, b]]) (reM M (M.getD b 0) (M.getD a 0)) x)) = _
        rw [v1, e1, s1 S hS, l1, if_neg hx, if_neg hx, if_neg hx, if_neg hx, if_neg hy, if_neg hy, if_neg hy, if_neg hy]
noncomputable abbrev Ok2 (n : Nat) (K : List (List Nat)) : Prop := ∀ k ∈ K, k.length = 2 ∧ ∀ x ∈ k, x < n
theorem pair_of {k : List Nat} (h : k.length = 2) : k = [k.getD 0 0, k.getD 1 0] := by
  match k, h with
  | [a, b], _ => rfl
theorem cw_all {n : Nat} {K : List (List Nat)} (hK : Ok2 n K) : ∀ i, i ≤ K.length → ∃ M rows, Cw n (K.take i) M rows
  | 0, _ => ⟨_, _, cw_start n⟩
  | i + 1, h => by
    obtain ⟨M, rows, c⟩ := cw_all hK i (by omega)
    have hi : i < K.length := h
    obtain ⟨h2, hx⟩ := hK K[i] (List.getElem_mem hi)
    have e := pair_of h2
    have h0 : K[i].getD 0 0 < n := hx _ (by rw [e]; simp)
    have h1 : K[i].getD 1 0 < n := hx _ (by rw [e]; simp)
    have s := cw_step c h0 h1 (U := if K[i].getD 0 0 = K[i].getD 1 0 then [K[i].getD 0 0] else [K[i].getD 0 0, K[i].getD 1 0]) (fun q => if_pos q) (fun q => .inl (if_neg q))
    rw [← e] at s
    rw [List.take_add_one, List.getElem?_eq_getElem hi, show (some K[i]).toList = [K[i]] from rfl]
    exact ⟨_, _, s⟩
noncomputable def eN (K : List (List Nat)) (a : Nat) : Nat := K.countP fun k => jnB K a (k.getD 0 0)
theorem k0_lt {n : Nat} {K : List (List Nat)} (hK : Ok2 n K) {k : List Nat} (hk : k ∈ K) : k.getD 0 0 < n := by
  obtain ⟨h2, hx⟩ := hK k hk
  exact hx _ (by rw [pair_of h2]; simp)
theorem lab_eq {n : Nat} {K : List (List Nat)} {M : List Nat} (m : Mk n K M) {a b : Nat} (ha : a < n) (hb : b < n) : (M.getD b 0 == M.getD a 0) = jnB K a b := by
  rw [Bool.eq_iff_iff, beq_iff_eq, jnB_iff, eq_comm]
  exact m.iff a b ha hb
theorem count_comp {n : Nat} {K : List (List Nat)} {M : List Nat} (m : Mk n K M) {a : Nat} (ha : a < n) : M.count (M.getD a 0) = (compN n K a).length := by
  have hl := m.len
  have e : M = (List.range n).map fun v => M.getD v 0 := by
    refine List.ext_getElem? fun i => ?_
    rw [List.getElem?_map]
    by_cases hi : i < n
    · rw [List.getElem?_range hi, List.getElem?_eq_getElem (by omega)]
      show _ = some (M.getD i 0)
      rw [List.getD_eq_getElem?_getD, List.getElem?_eq_getElem (by omega)]
      rfl
    · rw [List.getElem?_eq_none (by omega), List.getElem?_eq_none (by simp; omega)]
      rfl
  unfold compN
  rw [← List.countP_eq_length_filter, List.count_eq_countP]
  conv => lhs; arg 2; rw [e]
  rw [List.countP_map]
  refine List.countP_congr fun v hv => ?_
  rw [Function.comp, lab_eq m ha (List.mem_range.mp hv)]
theorem count_keys {n : Nat} {K : List (List Nat)} {M : List Nat} (m : Mk n K M) (hK : Ok2 n K) {a : Nat} (ha : a < n) : eL K M (M.getD a 0) = eN K a := by
  unfold eN
  show (K.map (labN M)).count _ = _
  rw [List.count_eq_countP, List.countP_map]
  refine List.countP_congr fun k hk => ?_
  rw [Function.comp, lab_eq m ha (k0_lt hK hk)]
theorem conn {n : Nat} {K : List (List Nat)} (hK : Ok2 n K) {a : Nat} (ha : a < n) : (compN n K a).length ≤ eN K a + 1 := by
  obtain ⟨M, rows, c⟩ := cw_all hK K.length (Nat.le_refl _)
  rw [List.take_length] at c
  have h := c.tr (M.getD a 0) (mark_pos (by have := c.mks.len; omega))
  rw [count_comp c.mks ha, count_keys c.mks hK ha] at h
  exact h
theorem getD_at {K : List (List Nat)} {i : Nat} (h : i < K.length) : K.getD i [] = K[i] := by
  rw [List.getD_eq_getElem?_getD, List.getElem?_eq_getElem h]
  rfl
theorem keys_len {n : Nat} {K : List (List Nat)} (hK : Ok2 n K) (a : Nat) : (keysN n K a).length = eN K a := by
  have e : K = (List.range K.length).map fun i => K.getD i [] := by
    refine List.ext_getElem? fun i => ?_
    rw [List.getElem?_map]
    by_cases hi : i < K.length
    · rw [List.getElem?_range hi, List.getElem?_eq_getElem hi]
      show _ = some (K.getD i [])
      rw [getD_at hi]
    · rw [List.getElem?_eq_none (by omega), List.getElem?_eq_none (by simp; omega)]
      rfl
  have : eN K a = ((List.range K.length).map fun i => K.getD i []).countP fun k => jnB K a (k.getD 0 0) := by rw [← e]; rfl
  rw [this, List.countP_map]
  unfold keysN
  rw [← List.countP_eq_length_filter]
  refine List.countP_congr fun i hi => ?_
  rw [decide_eq_true_iff, compN_mem, Function.comp, jnB_iff]
  have hi := List.mem_range.mp hi
  exact ⟨fun h => h.2, fun h => ⟨by rw [getD_at hi]; exact k0_lt hK (List.getElem_mem hi), h⟩⟩
theorem w_indexN {n k : Nat} {S : List Nat} {μ : Mem} {Q : D → Mem → Prop} (h : μ[n]? = some (.lst (nat S))) (hk : k ∈ S) (q : Q (.int (S.idxOf k : Nat)) μ) : WM gIndex (.loc n) [.int (k : Nat)] μ Q := by
  have hf : (nat S).findIdx? (fun y => eqF y (.int (k : Nat))) = some (S.idxOf k) := by
    rw [List.findIdx?_map, List.findIdx?_eq_some_iff_getElem]
    have hi := List.idxOf_lt_length_iff.mpr hk
    refine ⟨hi, ?_, fun j hj => ?_⟩
    · show eqF (.int _) (.int _) = true
      rw [List.getElem_idxOf hi]
      show (((k : Nat) : Int) == ((k : Nat) : Int)) = true
      exact beq_self_eq_true _
    · intro he
      have he : (((S[j]'(by omega) : Nat) : Int) == ((k : Nat) : Int)) = true := he
      have he := beq_iff_eq.mp he
      have := List.not_of_lt_findIdx (p := (· == k)) (xs := S) (i := j) hj
      have e9 : (S[j]'(by omega) == k) = true := by
        rw [beq_iff_eq]
        omega
      rw [e9] at this
      cases this
  exact ⟨_, _, by simp only [gIndex, h]; rw [flat_nat S]; show (bif true && true then _ else _) = _; rw [Bool.and_self, cond_true, hf, Option.bind_some], q⟩
noncomputable def wdN (v e : Nat) : Str := if e + 1 = v then "tree" else if e = v then "ring" else "over"
theorem wd_ok (v e : Nat) : PyData.strOk (wdN v e) = true := by
  unfold wdN
  split
  · decide +kernel
  · split <;> decide +kernel
theorem wf_wordof {A B : List Nat} {a b : Nat} {μ : Mem} {Q : D → Mem → Prop} (ga : μ[a]? = some (.lst (nat A))) (gb : μ[b]? = some (.lst (nat B))) (q : Q (.str (wdN A.length B.length)) μ) : WF F_word_of [.tup [.loc a, .loc b]] μ Q := by
  unfold wdN at q
  refine w_def rfl ?_
  show WS p_word_of [some (.tup [.loc a, .loc b])] μ _ _ _ _
  unfold p_word_of
  refine w_then (w_if (w_test (w_bin (w_call (w_cons (w_bin (w_var rfl (w_c (w_ix rfl (show atI [D.loc a, D.loc b] 1 = some (.loc b) from rfl) (w_nil (w_len (items_loc gb) (w_bin (w_call (w_cons (w_bin (w_var rfl (w_c (w_ix rfl (show atI [D.loc a, D.loc b] 0 = some (.loc a) from rfl) (w_nil (w_len (items_loc ga) (w_c (w_sub (w_eqI ⟨_, rfl, fun h => w_ret (w_c ?_), fun h => w_skip ?_⟩)))))))))))))))))))))))
  · rw [List.length_map, List.length_map, beq_iff_eq] at h
    rw [if_pos (by omega)] at q
    exact q
  rw [List.length_map, List.length_map, beq_eq_false_iff_ne] at h
  rw [if_neg (by omega)] at q
  refine w_then (w_if (w_test (w_bin (w_call (w_cons (w_bin (w_var rfl (w_c (w_ix rfl (show atI [D.loc a, D.loc b] 1 = some (.loc b) from rfl) (w_nil (w_len (items_loc gb) (w_call (w_cons (w_bin (w_var rfl (w_c (w_ix rfl (show atI [D.loc a, D.loc b] 0 = some (.loc a) from rfl) (w_nil (w_len (items_loc ga) (w_eqI ⟨_, rfl, fun h2 => w_ret (w_c ?_), fun h2 => w_skip (w_ret (w_c ?_))⟩))))))))))))))))))))
  · rw [List.length_map, List.length_map, beq_iff_eq] at h2
    rw [if_pos (by omega)] at q
    exact q
  · rw [List.length_map, List.length_map, beq_eq_false_iff_ne] at h2
    rw [if_neg (by omega)] at q
    exact q
noncomputable def wordsN (n : Nat) (K : List (List Nat)) (P : List Nat) : List Str := P.map fun a => wdN (compN n K a).length (keysN n K a).length
theorem wf_words {L N : Nat} {K : List (List Nat)} {μ : Mem} {Q : D → Mem → Prop} (w : Wb L (List.replicate N 1) K) (hL : L ≤ 60) (h2 : ∀ k ∈ K, k.length = 2) (q : ∀ (l : Nat) (μ' : Mem), Keep μ μ' → μ.length ≤ l → μ'[l]? = some (.lst ((wordsN N K (leastN N K)).map D.str)) → Q (.loc l) μ') : WX F_words [wn (List.replicate N 1) K] μ Q := by
  have hkl := w.kl
  have hrl := w.rl
  rw [List.length_replicate] at hrl
  refine w_defX rfl ?_
  show WS p_words [some (wn (List.replicate N 1) K)] μ _ _ _ _
  unfold p_words
  refine w_then (w_exprX (w_cons (w_var rfl (w_nil ?_))))
  refine wf_checkpairs (by omega) (by omega) h2 fun μ1 k1 => ?_
  refine w_ret (w_lc (w_seq (w_call (w_cons (w_var rfl (w_nil ?_))))))
  refine wf_parts w hL fun pl μ2 k2 pa => ?_
  rw [List.length_replicate] at pa
  obtain ⟨xs, ex, hxs, _, hx⟩ := pa
  have hP : (leastN N K).length ≤ N := by
    unfold leastN
    simpa using List.length_filter_le (fun a => decide ((compN N K a).getD 0 0 = a)) (List.range N)
  have ez : xs.map (fun p => D.tup [.loc p.1, .loc p.2]) = (xs.zip (leastN N K)).map fun z => D.tup [.loc z.1.1, .loc z.1.2] := by
    have e2 : (xs.zip (leastN N K)).map (fun z => D.tup [.loc z.1.1, .loc z.1.2]) = ((xs.zip (leastN N K)).map Prod.fst).map fun p => D.tup [.loc p.1, .loc p.2] := by rw [List.map_map]; rfl
    rw [e2, List.map_fst_zip (by omega)]
  refine .inr (.inr ⟨pl, _, rfl, ex, few_of (by rw [List.length_map]; omega), ?_⟩)
  rw [ez] at ex ⊢
  refine w_mapE (α := (Nat × Nat) × Nat) (fun z => D.tup [.loc z.1.1, .loc z.1.2]) (xs.zip (leastN N K)) (fun z => .str (wdN (compN N K z.2).length (keysN N K z.2).length)) (fun μ' k => stays_of ex k) (fun z hz μ' kp => ?_) (fun μ' kp => ?_)
  · obtain ⟨i, hi⟩ := List.mem_iff_getElem?.mp hz
    obtain ⟨e1, e2⟩ := List.getElem?_zip_eq_some.mp hi
    obtain ⟨_, _, _, _, g1, g2⟩ := hx i z.1 z.2 e1 e2
    refine w_gn ?_
    unfold e_words_0
    exact w_call (w_cons (w_var rfl (w_nil (wf_wordof (kp _ _ g1) (kp _ _ g2) ⟨rfl, kp, kp⟩))))
  · refine q _ _ (k1.trans (k2.trans kp.to)) (Nat.le_trans k1.len (Nat.le_trans k2.len kp.len)) ?_
    rw [get_new]
    congr 2
    unfold wordsN
    rw [List.map_map]
    have e2 : (xs.zip (leastN N K)).map (fun z => D.str (wdN (compN N K z.2).length (keysN N K z.2).length)) = ((xs.zip (leastN N K)).map Prod.snd).map fun a => D.str (wdN (compN N K a).length (keysN N K a).length) := by rw [List.map_map]; rfl
    rw [e2, List.map_snd_zip (by omega)]
    rfl
theorem idx_le {k : Nat} : ∀ {M : List Nat} {b : Nat}, M[b]? = some k → M.idxOf k ≤ b
  | [], b, h => by cases h
  | m :: M, b, h => by
    rw [List.idxOf_cons]
    by_cases hm : m = k
    · simp [hm]
    · cases b with
      | zero => cases h; exact absurd rfl hm
      | succ b =>
        have := idx_le (M := M) (b := b) (by simpa using h)
        have hb : (m == k) = false := by simpa using hm
        rw [hb]
        show M.idxOf k + 1 ≤ b + 1
        omega
theorem at_getD {M : List Nat} {b : Nat} (h : b < M.length) : M[b]? = some (M.getD b 0) := by
  rw [List.getD_eq_getElem?_getD, List.getElem?_eq_getElem h]
  rfl
theorem first_iff {n : Nat} {K : List (List Nat)} {M : List Nat} (m : Mk n K M) {v : Nat} (hv : v < n) : M.idxOf (M.getD v 0) = v ↔ (compN n K v).getD 0 0 = v := by
  have hl := m.len
  rw [least_iff hv]
  have h1 : M.idxOf (M.getD v 0) ≤ v := idx_le (at_getD (by omega))
  have h2 : M.getD (M.idxOf (M.getD v 0)) 0 = M.getD v 0 := by
    rw [List.getD_eq_getElem?_getD, List.getElem?_eq_getElem (by omega)]
    exact List.getElem_idxOf (by omega)
  constructor
  · intro e b hb j
    have : M[b]? = some (M.getD v 0) := by rw [at_getD (by omega), (m.iff v b hv hb).mpr j]
    have := idx_le this
    omega
  · intro h
    have := h _ (by omega) ((m.iff _ _ hv (by omega)).mp h2.symm)
    omega
theorem edg_pairs {K : List (List Nat)} (h2 : ∀ k ∈ K, k.length = 2) : edgN K = K := by
  unfold edgN
  induction K with
  | nil => rfl
  | cons k K ih =>
    rw [List.flatMap_cons, ih fun q hq => h2 q (by simp [hq])]
    have := h2 k (by simp)
    match k, this with
    | [a, b], _ => rfl
theorem all_keys (K : List (List Nat)) : ((List.range K.length).map fun k => K.getD k []) = K := by
  refine List.ext_getElem? fun i => ?_
  rw [List.getElem?_map]
  by_cases hi : i < K.length
  · rw [List.getElem?_range hi, List.getElem?_eq_getElem hi]
    show some (K.getD i []) = _
    rw [getD_at hi]
  · rw [List.getElem?_eq_none (by simp; omega), List.getElem?_eq_none (by omega)]
    rfl
theorem wf_due {L N : Nat} {K : List (List Nat)} {μ : Mem} {Q : D → Mem → Prop} (w : Wb L (List.replicate N 1) K) (hL : L ≤ 60) (h2 : ∀ k ∈ K, k.length = 2) (q : ∀ (l : Nat) (μ' : Mem), Keep μ μ' → μ.length ≤ l → μ'[l]? = some (.lst ((wordsN N K (leastN N K)).map D.str)) → Q (.loc l) μ') : WF F__law_due [wn (List.replicate N 1) K] μ Q := by
  have hkl := w.kl
  have hrl := w.rl
  have hNl : (List.replicate N 1).length = N := List.length_replicate
  rw [hNl] at hrl
  have hK : Ok2 N K := fun k hk => ⟨h2 k hk, by have := (w.kn k hk).2; rw [hNl] at this; exact this⟩
  refine w_def rfl ?_
  show WS p__law_due [some (wn (List.replicate N 1) K), none, none, none, none, none] μ _ _ _ _
  unfold p__law_due
  refine w_then (w_set (w_call (w_cons (w_var rfl (w_cons (w_lrange (w_call (w_cons (w_bin (w_var rfl (w_c (w_keys (w_nil (w_len rfl ⟨_, rfl, ⟨by omega, ?_⟩, w_nil ?_⟩))))))))))))))
  · rw [List.length_map]; omega
  rw [Int.toNat_natCast, List.length_map]
  refine wf_marksL w hL (ks := List.range K.length) (fun k hk => List.mem_range.mp hk) get_new fun M lm μ1 mk k1 _ gm => ?_
  rw [all_keys, edg_pairs h2, hNl] at mk
  have hM := mk.len
  refine w_then (w_set (w_lst (w_nil ?_)))
  have k01 : Keep μ μ1 := Keep.app.trans k1
  have gm2 : (μ1 ++ [LObj.lst []])[lm]? = some (.lst (nat M)) := get_old' gm
  have hne : μ1.length ≠ lm := Nat.ne_of_gt (lt_of_get gm)
  refine w_then (w_for (w_range (w_cons (w_call (w_cons (w_var rfl (w_nil (w_len (items_loc gm2) (w_nil ⟨_, rfl, by omega, ?_, ?_⟩)))))))))
  · rw [List.length_map]; omega
  rw [Int.toNat_natCast, List.length_map, hM]
  refine w_loop0 (fun i δ ν => Keep μ1 ν ∧ ν[μ1.length]? = some (.lst ((wordsN N K ((List.range i).filter fun a => decide ((compN N K a).getD 0 0 = a))).map D.str)) ∧ ∃ a b c : Option D, δ = [some (wn (List.replicate N 1) K), some (.loc lm), some (.loc μ1.length), a, b, c]) ⟨Keep.app, get_new, _, _, _, rfl⟩ (fun _ _ _ _ => rfl) ?_ ?_
  · rintro v x δ ν hx ⟨kν, gc, a, b, c, rfl⟩
    obtain ⟨hv, rfl⟩ := range_at hx
    have gν := kν _ _ gm
    have hr : (List.range (v + 1)).filter (fun a => decide ((compN N K a).getD 0 0 = a)) = (List.range v).filter (fun a => decide ((compN N K a).getD 0 0 = a)) ++ (if (compN N K v).getD 0 0 = v then [v] else []) := by
      rw [List.range_succ, List.filter_append]
      congr 1
      show List.filter _ [v] = _
      rw [List.filter_cons]
      by_cases h : (compN N K v).getD 0 0 = v
      · rw [if_pos h, if_pos (decide_eq_true h)]; rfl
      · rw [if_neg h, if_neg (by rw [decide_eq_false h]; exact Bool.false_ne_true)]; rfl
    have hlen : ((List.range v).filter fun a => decide ((compN N K a).getD 0 0 = a)).length ≤ v := by
      simpa using List.length_filter_le (fun a => decide ((compN N K a).getD 0 0 = a)) (List.range v)
    refine w_gn ?_
    unfold b__law_due_0
    refine w_if (w_test (w_bin (w_meth (w_var rfl ⟨_, _, rfl, gν, w_cons (w_bin (w_var rfl (w_var rfl (w_ix (items_loc gν) (atI_getD (by omega)) (w_nil (w_indexN gν (List.mem_of_getElem? (at_getD (by omega))) (w_var rfl (w_eqE (α := Nat) (M.idxOf (M.getD v 0)) v ⟨_, rfl, fun h => ?_, fun h => w_skip ?_⟩))))))))⟩))))
    · have hf := (first_iff mk hv).mp (of_decide_eq_true h)
      rw [if_pos hf] at hr
      refine w_then (w_set (w_call (w_cons (w_lc (w_seq (w_var rfl (.inr (.inr ⟨lm, _, rfl, gν, few_of (by rw [List.length_map]; omega), ?_⟩))))))))
      refine w_pureE (fun (k : Nat) => D.int k) M (fun (k : Nat) => D.int k) (fun m => decide (m = M.getD v 0)) (fun μ' k => stays_of gν k) (fun m hm μ' kp => ?_) (fun μ2 k2 => ?_)
      · refine w_gn ?_
        unfold c__law_due_1 e__law_due_1
        exact w_test (w_bin (w_var rfl (w_bin (w_var rfl (w_var rfl (w_ix (items_loc (kp _ _ gν)) (atI_getD (by omega)) (w_eqE (α := Nat) m (M.getD v 0) ⟨_, rfl, rfl, kp, fun _ => w_var rfl ⟨rfl, kp⟩⟩)))))))
      refine w_nil (w_len (items_loc get_new) ?_)
      have c1 : ((M.filter fun m => decide (m = M.getD v 0)).map fun (k : Nat) => D.int k).length = (compN N K v).length := by
        rw [List.length_map, ← List.countP_eq_length_filter, ← count_comp mk hv, List.count_eq_countP]
        refine List.countP_congr fun m _ => ?_
        rw [decide_eq_true_iff, beq_iff_eq]
      rw [c1]
      have k3 : Keep ν (μ2 ++ [LObj.lst ((M.filter fun m => decide (m = M.getD v 0)).map fun (k : Nat) => D.int k)]) := k2.to
      generalize μ2 ++ [LObj.lst ((M.filter fun m => decide (m = M.getD v 0)).map fun (k : Nat) => D.int k)] = μ3 at k3
      refine w_then (w_set (w_call (w_cons (w_lc (w_seq (w_bin (w_var rfl (w_c (w_keys (.inl ⟨_, rfl, few_of (by rw [List.length_map]; omega), ?_⟩))))))))))
      refine w_pureE tn K tn (fun k => decide (M.getD (k.getD 0 0) 0 = M.getD v 0)) (fun _ _ => rfl) (fun k hk μ' kp => ?_) (fun μ4 k4 => ?_)
      · have hk0 := k0_lt hK hk
        have hk2 := h2 k hk
        have gp := kp _ _ (k3 _ _ gν)
        refine w_gn ?_
        unfold c__law_due_0 e__law_due_0
        exact w_test (w_bin (w_bin (w_var rfl (w_bin (w_var rfl (w_c (w_first (by omega) (w_ix (items_loc gp) (atI_getD (by omega)) (w_bin (w_var rfl (w_var rfl (w_ix (items_loc gp) (atI_getD (by omega)) (w_eqE (α := Nat) (M.getD (k.getD 0 0) 0) (M.getD v 0) ⟨_, rfl, rfl, kp, fun _ => w_var rfl ⟨rfl, kp⟩⟩)))))))))))))
      refine w_nil (w_len (items_loc get_new) ?_)
      have c2 : ((K.filter fun k => decide (M.getD (k.getD 0 0) 0 = M.getD v 0)).map tn).length = (keysN N K v).length := by
        rw [List.length_map, ← List.countP_eq_length_filter, keys_len hK, ← count_keys mk hK hv]
        show _ = (K.map (labN M)).count (M.getD v 0)
        rw [List.count_eq_countP, List.countP_map]
        refine List.countP_congr fun k _ => ?_
        rw [decide_eq_true_iff, Function.comp, beq_iff_eq]
      rw [c2]
      have k5 : Keep ν (μ4 ++ [LObj.lst ((K.filter fun k => decide (M.getD (k.getD 0 0) 0 = M.getD v 0)).map tn)]) := k3.trans k4.to
      generalize μ4 ++ [LObj.lst ((K.filter fun k => decide (M.getD (k.getD 0 0) 0 = M.getD v 0)).map tn)] = μ5 at k5
      have hc := conn hK hv
      rw [← keys_len hK] at hc
      have gc5 := k5 _ _ gc
      refine w_expr (w_meth (w_var rfl ⟨_, _, rfl, gc5, ?_⟩))
      refine w_cons (w_bin (w_lst (w_cons (w_c (w_cons (w_c (w_cons (w_c (w_nil ?_)))))))))
      refine w_call (w_cons (w_c (w_cons (w_bin (w_bin (w_var rfl (w_c (w_add (w_var rfl (w_sub (w_nil (w_min2 ?_))))))))))))
      have hat : atI [D.str "tree", D.str "ring", D.str "over"] (if ((keysN N K v).length : Int) + 1 - ((compN N K v).length : Int) < 2 then ((keysN N K v).length : Int) + 1 - ((compN N K v).length : Int) else 2) = some (.str (wdN (compN N K v).length (keysN N K v).length)) := by
        unfold wdN
        by_cases h1 : (keysN N K v).length + 1 = (compN N K v).length
        · rw [if_pos h1, show ((keysN N K v).length : Int) + 1 - ((compN N K v).length : Int) = 0 by omega]; rfl
        · rw [if_neg h1]
          by_cases h3 : (keysN N K v).length = (compN N K v).length
          · rw [if_pos h3, show ((keysN N K v).length : Int) + 1 - ((compN N K v).length : Int) = 1 by omega]; rfl
          · rw [if_neg h3, if_neg (by omega)]; rfl
      refine w_ix (items_loc get_new) hat (w_nil (w_append (get_old' gc5) (by rw [List.length_map]; unfold wordsN; rw [List.length_map]; omega) ?_))
      refine ⟨fun m o e => get_set_ne (get_old' (k5 _ _ (kν _ _ e))) (by have := lt_of_get e; omega), ?_, _, _, _, rfl⟩
      rw [get_set_eq (get_old' gc5), hr]
      unfold wordsN
      rw [List.map_append, List.map_append]
      rfl
    · have hf : ¬ (compN N K v).getD 0 0 = v := fun e => of_decide_eq_false h ((first_iff mk hv).mpr e)
      rw [if_neg hf, List.append_nil] at hr
      exact ⟨kν, by rw [hr]; exact gc, _, _, _, rfl⟩
  · rintro δ ν ⟨kν, gc, a, b, c, rfl⟩
    rw [List.length_map, List.length_range] at gc
    exact w_ret (w_var rfl (q _ ν (k01.trans kν) k01.len gc))
noncomputable def BadW (R : List Nat) (K : List (List Nat)) : Prop := R.length ≤ 1000 ∧ K.length ≤ 1000 ∧ ((∃ r ∈ R, r ≠ 1) ∨ ∃ k ∈ K, k.length ≠ 2)
theorem check_bad {R : List Nat} {K : List (List Nat)} (μ : Mem) (h : BadW R K) : ∃ μ', F_check_pairs [wn R K] μ = some (.exc "NoPairs" [] μ') ∧ Keep μ μ' := by
  obtain ⟨hR, hK, bad⟩ := h
  have t : WT (tOrT (fTest (fCall gAny (aCons (fLC 1 [] (iSeq (fBin gIx (fVar 0) (fC (.int 0)))) (gN 0) cYes e_check_pairs_0) aNil))) (fTest (fCall gAny (aCons (fLC 1 [] (iSeq (fBin gIx (fVar 0) (fC (.int 1)))) (gN 0) cYes e_check_pairs_1) aNil)))) [some (wn R K)] μ fun b μ1 => b = true ∧ Keep μ μ1 := by
    refine w_orT (w_test (w_call (w_cons (w_lc (w_seq (w_bin (w_var rfl (w_c (w_rooms (.inl ⟨_, rfl, few_of (by rw [List.length_map]; omega), ?_⟩))))))))))
    refine w_mapE (fun (k : Nat) => D.int k) R (fun r => .bl (!decide (r = 1))) (fun _ _ => rfl) (fun k hk μ2 k2 => ?_) (fun μ2 k2 => ?_)
    · refine w_gn ?_
      unfold e_check_pairs_0
      exact w_bin (w_var rfl (w_c (w_neE (α := Nat) k 1 ⟨rfl, k2, k2⟩)))
    refine w_nil (w_any (bs := R.map fun r => !decide (r = 1)) (by rw [get_new, List.map_map]; rfl) ⟨_, rfl, fun h1 => ?_, fun h1 => ⟨rfl, k2.to⟩⟩)
    refine w_test (w_call (w_cons (w_lc (w_seq (w_bin (w_var rfl (w_c (w_keys (.inl ⟨_, rfl, few_of (by rw [List.length_map]; omega), ?_⟩)))))))))
    refine w_mapE tn K (fun k => .bl (!decide (k.length = 2))) (fun _ _ => rfl) (fun k hk μ3 k3 => ?_) (fun μ3 k3 => ?_)
    · refine w_gn ?_
      unfold e_check_pairs_1
      refine w_bin (w_call (w_cons (w_var rfl (w_nil (w_len rfl (w_c (w_neE (α := Nat) (nat k).length 2 ⟨?_, k3, k3⟩)))))))
      rw [List.length_map]
    refine w_nil (w_any (bs := K.map fun k => !decide (k.length = 2)) (by rw [get_new, List.map_map]; rfl) ⟨_, rfl, ?_, k2.to.trans k3.to⟩)
    rcases bad with ⟨r, hr, hne⟩ | ⟨k, hk, hne⟩
    · have : ((R.map fun r => !decide (r = 1)).any fun b => b) = true := List.any_eq_true.mpr ⟨_, List.mem_map.mpr ⟨r, hr, rfl⟩, by simp [hne]⟩
      rw [this] at h1
      cases h1
    · exact List.any_eq_true.mpr ⟨_, List.mem_map.mpr ⟨k, hk, rfl⟩, by simp [hne]⟩
  obtain ⟨b, μ1, e, rfl, k⟩ := t
  refine ⟨μ1, ?_, k⟩
  show retX (p_check_pairs [some (wn R K)] μ) = _
  unfold p_check_pairs
  simp only [sIf, e, Option.bind_some, cond_true, sRaise, aCons, fC, aNil, retX]
theorem words_bad {R : List Nat} {K : List (List Nat)} {μ μ' : Mem} (e : F_check_pairs [wn R K] μ = some (.exc "NoPairs" [] μ')) : F_words [wn R K] μ = some (.exc "NoPairs" [] μ') := by
  show retX (p_words [some (wn R K)] μ) = _
  unfold p_words
  simp only [sSeq, sExprX, outX, aCons, fVar, aNil, Option.bind_some, List.getElem?_cons_zero, e, retX]
theorem rings_bad {R : List Nat} {K : List (List Nat)} {μ μ' : Mem} (e : F_check_pairs [wn R K] μ = some (.exc "NoPairs" [] μ')) : F_on_rings [wn R K] μ = some (.exc "NoPairs" [] μ') := by
  show retX (p_on_rings [some (wn R K)] μ) = _
  unfold p_on_rings
  simp only [sSeq, sExprX, outX, aCons, fVar, aNil, Option.bind_some, List.getElem?_cons_zero, e, retX]
theorem ways_bad {R : List Nat} {K : List (List Nat)} {μ μ' : Mem} (e : F_check_pairs [wn R K] μ = some (.exc "NoPairs" [] μ')) : F_ways [wn R K] μ = some (.exc "NoPairs" [] μ') := by
  show retX (p_ways [some (wn R K), none, none, none] μ) = _
  unfold p_ways
  simp only [sSeq, sSetX, outX, aCons, fVar, aNil, Option.bind_some, List.getElem?_cons_zero, rings_bad e, retX]
theorem wf_refused {R : List Nat} {K : List (List Nat)} {wh : Nat} {μ : Mem} {Q : D → Mem → Prop} (h : BadW R K) (q : ∀ μ', Keep μ μ' → Q (.bl true) μ') : WF F__law_refused [.int (wh : Nat), wn R K] μ Q := by
  obtain ⟨μ1, e, k1⟩ := check_bad μ h
  refine w_def rfl ?_
  show WS p__law_refused [some (.int (wh : Nat)), some (wn R K), none, none] μ _ _ _ _
  unfold p__law_refused
  refine w_then (w_set (w_c ?_))
  have hp : (sIf (fTest (fBin gEq (fVar 0) (fC (.int 0)))) (sExprX F_words (aCons (fVar 1) aNil)) (sIf (fTest (fBin gEq (fVar 0) (fC (.int 1)))) (sExprX F_on_rings (aCons (fVar 1) aNil)) (sExprX F_ways (aCons (fVar 1) aNil)))) [some (.int (wh : Nat)), some (wn R K), some .non, none] μ = some (.exc "NoPairs" [] μ1) := by
    have b0 : ∀ j : Int, fTest (fBin gEq (fVar 0) (fC (.int j))) [some (.int (wh : Nat)), some (wn R K), some .non, none] μ = some ((wh : Int) == j, μ) := fun j => by
      simp only [fTest, fBin, fVar, fC, List.getElem?_cons_zero, Option.bind_some, gEq_int]
    have x0 : ∀ {F : FX}, F [wn R K] μ = some (.exc "NoPairs" [] μ1) → sExprX F (aCons (fVar 1) aNil) [some (.int (wh : Nat)), some (wn R K), some .non, none] μ = some (.exc "NoPairs" [] μ1) := fun {F} eF => by
      simp only [sExprX, outX, aCons, fVar, aNil, Option.bind_some, List.getElem?_cons_succ, List.getElem?_cons_zero, eF]
    unfold sIf
    rw [b0, Option.bind_some]
    cases (wh : Int) == 0 with
    | true => exact x0 (words_bad e)
    | false =>
      show (sIf _ _ _) _ _ = _
      unfold sIf
      rw [b0, Option.bind_some]
      cases (wh : Int) == 1 with
      | true => exact x0 (rings_bad e)
      | false => exact x0 (ways_bad e)
  refine w_then (w_tryAs hp rfl (w_set (w_var rfl ?_)))
  have g : (μ1 ++ [LObj.exc "NoPairs" []])[μ1.length]? = some (.exc "NoPairs" []) := get_new
  refine w_then (w_if (w_orT (w_notT (w_test (w_call (w_cons (w_var rfl (w_cons (w_c (w_nil (w_askO (b := true) g (by decide +kernel) ⟨_, rfl, fun _ => ?_, fun h => (by cases h)⟩)))))))))))
  refine w_notT (w_test (w_call (w_cons (w_var rfl (w_cons (w_c (w_nil (w_askY (b := true) g (by decide +kernel) ⟨_, rfl, fun h => (by cases h), fun _ => w_skip ?_⟩))))))))
  refine w_ret (w_not (w_call (w_cons (w_var rfl (w_cons (w_tup ?_))))))
  refine w_cons (w_c (w_cons (w_c (w_cons (w_c (w_cons (w_c (w_cons (w_c (w_cons (w_c (w_cons (w_c (w_cons (w_c (w_nil (w_nil (w_askT g (b := false) (by decide +kernel) ⟨_, rfl, q _ k1.to⟩))))))))))))))))))
theorem wf_other {ns : List Int} {L N l B : Nat} {K : List (List Nat)} {μ : Mem} {Q : D → Mem → Prop} (w : Wb L (List.replicate N 1) K) (hL : L ≤ 60) (h : PenC ns μ l B) (hB : B ≤ 200000) (q : ∀ (R' : List Nat) (K' : List (List Nat)) (μ' : Mem), BadW R' K' → KB [l] μ μ' → Q (wn R' K') μ') : WF F__law_other [.loc l, wn (List.replicate N 1) K] μ Q := by
  have hkl := w.kl
  have hrl := w.rl
  have hNl : (List.replicate N 1).length = N := List.length_replicate
  have hnl : (nat (List.replicate N 1)).length = N := by rw [List.length_map]; exact hNl
  rw [hNl] at hrl
  refine w_def rfl ?_
  show WS p__law_other [some (.loc l), some (wn (List.replicate N 1) K), none, none, none, none, none, none] μ _ _ _ _
  unfold p__law_other
  refine w_then (w_asg (w_var rfl (w_gt2 (w_gsc (w_gn (w_gsc (w_gn (w_gsn ?_))))))))
  refine w_then (w_set (w_call (w_cons (w_var rfl (w_cons (w_call (w_cons (w_var rfl (w_nil (w_len rfl (w_nil ?_)))))))))))
  rw [hnl]
  refine wf_takeN h (by omega) (by omega) (by omega) fun t μ1 ht k1 p1 => ?_
  refine w_then (w_if (w_test (w_bin (w_call (w_cons (w_var rfl (w_cons (w_c (w_nil ?_)))))))))
  refine wf_takeN (s := 2) p1 (by omega) (by omega) (by omega) fun f μ2 _ k2 p2 => w_c (w_eqI ⟨_, rfl, fun _ => ?_, fun _ => w_skip ?_⟩)
  · refine w_then (w_set (w_bin (w_lst (w_cons (w_c (w_cons (w_c (w_cons (w_c (w_cons (w_bin (w_c (w_c (w_pow (by decide) (by decide) (by decide) (w_nil (w_call (w_cons (w_var rfl (w_cons (w_c (w_nil ?_)))))))))))))))))))))
    refine wf_takeN (s := 4) p2.app (by omega) (by omega) (by omega) fun i μ3 hi k3 p3 => ?_
    have g3 := k3.at_ _ _ p2.new (get_new (μ := μ2))
    obtain ⟨r, hr1, hat⟩ : ∃ r : Nat, r ≠ 1 ∧ atI [D.int 0, D.int 2, D.int 9, D.int ((10 : Int) ^ (40 : Int).toNat)] (i : Int) = some (.int (r : Nat)) := by
      match i, hi with
      | 0, _ => exact ⟨0, by decide, rfl⟩
      | 1, _ => exact ⟨2, by decide, rfl⟩
      | 2, _ => exact ⟨9, by decide, rfl⟩
      | 3, _ => exact ⟨10 ^ 40, by decide, rfl⟩
    refine w_ix (items_loc g3) hat ?_
    have c1 := cut_le0 (nat (List.replicate N 1)) none (some (t : Int))
    have c2 := cut_le0 (nat (List.replicate N 1)) (some ((t : Int) + 1)) none
    rw [hnl] at c1 c2
    refine w_ret (w_tup (w_cons (w_bin (w_bin (w_sl (w_var rfl (w_pno (w_pyes (w_var rfl ⟨_, rfl, _, rfl, ?_⟩)))))))))
    refine w_tup (w_cons (w_var rfl (w_nil (w_addT (by rw [List.length_singleton]; omega) (w_sl (w_var rfl (w_pyes (w_bin (w_var rfl (w_c (w_add ⟨_, rfl, w_pno ⟨_, rfl, ?_⟩⟩)))))))))))
    refine w_addT (by rw [List.length_append, List.length_singleton]; omega) (w_cons (w_var rfl (w_nil ?_)))
    have f1 := cut_pre (xs := nat (List.replicate N 1)) (i := t)
    have f2 := cut_post (xs := nat (List.replicate N 1)) (i := t + 1)
    have f3 : (((t + 1 : Nat)) : Int) = (t : Int) + 1 := by omega
    rw [f3] at f2
    rw [f1, f2, ← List.map_take, ← List.map_drop]
    have e5 : D.tup [D.tup (nat ((List.replicate N 1).take t) ++ [D.int (r : Nat)] ++ nat ((List.replicate N 1).drop (t + 1))), D.tup (K.map tn)] = wn ((List.replicate N 1).take t ++ [r] ++ (List.replicate N 1).drop (t + 1)) K := by
      show D.tup [_, _] = D.tup [D.tup (nat ((List.replicate N 1).take t ++ [r] ++ (List.replicate N 1).drop (t + 1))), _]
      rw [nat_append, nat_append]
      rfl
    rw [e5]
    refine q _ _ μ3 ⟨by simp; omega, by omega, .inl ⟨r, by simp, hr1⟩⟩ ?_
    exact (k1.trans k2).trans (KB.refl.app.trans k3)
  · refine w_then (w_set (w_tup (w_cons (w_var rfl (w_cons (w_call (w_cons (w_var rfl (w_cons (w_call (w_cons (w_var rfl (w_nil (w_len rfl (w_nil ?_)))))))))))))))
    rw [hnl]
    refine wf_takeN p2 (by omega) (by omega) (by omega) fun t2 μ3 _ k3 p3 => w_cons (w_call (w_cons (w_var rfl (w_cons (w_call (w_cons (w_var rfl (w_nil (w_len rfl (w_nil ?_))))))))))
    rw [hnl]
    refine wf_takeN p3 (by omega) (by omega) (by omega) fun t3 μ4 _ k4 p4 => w_nil ?_
    refine w_then (w_set (w_call (w_cons (w_var rfl (w_cons (w_bin (w_call (w_cons (w_var rfl (w_nil (w_len rfl (w_c (w_add (w_nil ?_))))))))))))))
    rw [List.length_map, show (K.length : Int) + 1 = ((K.length + 1 : Nat) : Int) by omega]
    refine wf_takeN p4 (by omega) (by omega) (by omega) fun pl μ5 hpl k5 p5 => ?_
    have cl : ∀ (lo hi : Option Int), (M.cutD (K.map tn) lo hi).length ≤ K.length := fun lo hi => by
      have := cut_le0 (K.map tn) lo hi
      rw [List.length_map] at this
      exact this
    have c1 := cl none (some (pl : Int))
    refine w_ret (w_tup (w_cons (w_var rfl (w_cons (w_bin (w_bin (w_sl (w_var rfl (w_pno (w_pyes (w_var rfl ⟨_, rfl, _, rfl, ?_⟩)))))))))))
    refine w_tup (w_cons (w_var rfl (w_nil (w_addT (by rw [List.length_singleton]; omega) (w_sl (w_var rfl (w_pyes (w_bin (w_var rfl (w_call (w_cons (w_var rfl (w_cons (w_c (w_nil ?_)))))))))))))))
    refine wf_takeN (s := 2) p5 (by omega) (by omega) (by omega) fun z μ6 hz k6 p6 => w_add ⟨_, rfl, w_pno ⟨_, rfl, ?_⟩⟩
    have c2 := cl (some ((pl : Int) + (z : Int))) none
    refine w_addT (by rw [List.length_append, List.length_singleton]; omega) (w_nil ?_)
    have f1 := cut_pre (xs := K.map tn) (i := pl)
    have f2 := cut_post (xs := K.map tn) (i := pl + z)
    have f3 : (((pl + z : Nat)) : Int) = (pl : Int) + (z : Int) := by omega
    rw [f3] at f2
    rw [f1, f2, ← List.map_take, ← List.map_drop]
    have e5 : D.tup [tn (List.replicate N 1), D.tup ((K.take pl).map tn ++ [D.tup [D.int (t : Nat), D.int (t2 : Nat), D.int (t3 : Nat)]] ++ (K.drop (pl + z)).map tn)] = wn (List.replicate N 1) (K.take pl ++ [[t, t2, t3]] ++ K.drop (pl + z)) := by
      show D.tup [_, _] = D.tup [_, D.tup ((K.take pl ++ [[t, t2, t3]] ++ K.drop (pl + z)).map tn)]
      rw [List.map_append, List.map_append]
      rfl
    rw [e5]
    refine q _ _ μ6 ⟨by rw [hNl]; omega, by simp; omega, .inr ⟨[t, t2, t3], by simp, by simp⟩⟩ ?_
    exact (k1.trans k2).trans ((k3.trans k4).trans (k5.trans k6))
theorem toP_strs {ss : List Str} {n : Nat} {μ : Mem} (h : ∀ s ∈ ss, PyData.strOk s = true) (g : μ[n]? = some (.lst (ss.map D.str))) : toP μ 8 (.loc n) = some (.list (ss.map PyData.str)) := by
  show (match μ[n]? with
      | some (.lst ds) => (ds.mapM (toP μ 7)).bind fun ps => some (PyData.list ps)
      | _ => none) = _
  rw [g]
  show ((ss.map D.str).mapM (toP μ 7)).bind (fun ps => some (PyData.list ps)) = _
  have e : (ss.map D.str).mapM (toP μ 7) = some (ss.map PyData.str) := by
    clear g
    induction ss with
    | nil => rfl
    | cons s ss ih =>
      rw [List.map_cons, List.mapM_cons, ih fun x hx => h x (by simp [hx])]
      have : toP μ 7 (.str s) = some (.str s) := by
        show (bif PyData.strOk s then some (PyData.str s) else none) = _
        rw [h s (by simp)]; rfl
      rw [this]
      rfl
  rw [e]
  rfl
theorem law_true (ns : List Int) (_hn : ns.length ≤ 63) : ∃ μ', F_law [.fz (ns.map .int)] [] = some (.bl true, μ') := by
  have main : WF F_law [.fz (ns.map .int)] [] fun d _ => d = .bl true := by
    refine w_def rfl ?_
    show WS p_law [some (.fz (ns.map .int)), none, none, none, none, none] [] _ _ _ _
    unfold p_law
    refine w_then (w_set (w_call (w_cons (w_var rfl (w_nil ?_)))))
    refine wf_penC fun μ1 k1 p1 e1 => ?_
    refine w_then (w_set (w_call (w_cons (w_var rfl (w_cons (w_c (w_nil ?_)))))))
    refine wf_pairs (m := 13) p1 (by omega) (by omega) (by omega) fun N K μ2 w h2 k2 p2 => ?_
    have hkl := w.kl
    have hrl := w.rl
    rw [List.length_replicate] at hrl
    have hP : (leastN N K).length ≤ N := by
      unfold leastN
      simpa using List.length_filter_le (fun a => decide ((compN N K a).getD 0 0 = a)) (List.range N)
    have hok : ∀ s ∈ wordsN N K (leastN N K), PyData.strOk s = true := fun s hs => by
      obtain ⟨a, _, rfl⟩ := List.mem_map.mp hs
      exact wd_ok _ _
    have hwl : (wordsN N K (leastN N K)).length ≤ N := by unfold wordsN; rw [List.length_map]; exact hP
    refine w_then (w_set (w_call (w_cons (w_var rfl (w_nil ?_)))))
    refine wf_due w (by omega) h2 fun dl μ3 k3 hdl gd => ?_
    have p3 := p2.keep k3
    refine w_then (w_set (w_callX (w_cons (w_var rfl (w_nil ?_)))))
    refine wf_words w (by omega) h2 fun wl μ4 k4 hwl2 gw => ?_
    have gd4 := k4 _ _ gd
    have p4 := p3.keep k4
    have hne : wl ≠ dl := by have := lt_of_get gd; omega
    generalize hss : wordsN N K (leastN N K) = ss at hok hwl gd gd4 gw
    refine w_then (w_if (w_orT (w_notT (w_test (w_call (w_cons (w_var rfl (w_cons (w_c (w_nil (w_isiL gw ⟨_, rfl, fun _ => ?_, fun h => (by cases h)⟩)))))))))))
    refine w_orT (w_test (w_bin (w_var rfl (w_var rfl (w_neS (toP_strs hok gw) (toP_strs hok gd4) ⟨_, rfl, fun _ => ?_, fun h => (by cases h)⟩)))))
    refine w_notT (w_test (w_call (w_cons (w_lc (w_seq (w_var rfl (.inr (.inr ⟨wl, _, rfl, gw, few_of (by rw [List.length_map]; omega), ?_⟩))))))))
    refine w_mapE D.str ss (fun _ => .bl true) (fun μ' k => stays_of gw k) (fun s hs μ' kp => ?_) (fun μ5 k5 => ?_)
    · refine w_gn ?_
      unfold e_law_1
      exact w_call (w_cons (w_var rfl (w_cons (w_c (w_nil (w_isiS ⟨rfl, kp, kp⟩))))))
    refine w_nil (w_all (bs := ss.map fun _ => true) (by rw [get_new, List.map_map]; rfl) ?_)
    have e : ((ss.map fun _ => true).all fun b => b) = true := by simp
    rw [e]
    refine ⟨_, rfl, fun h => (by cases h), fun _ => w_skip ?_⟩
    have k6 : Keep μ4 (μ5 ++ [LObj.lst (ss.map fun _ => D.bl true)]) := k5.to
    have p6 := p4.keep k6
    have gd6 := k6 _ _ gd4
    have gw6 := k6 _ _ gw
    generalize μ5 ++ [LObj.lst (ss.map fun _ => D.bl true)] = μ6 at k6 p6 gd6 gw6
    refine w_then (w_expr (w_meth (w_var rfl ⟨_, _, rfl, gw6, w_cons (w_c (w_nil (w_append gw6 (by rw [List.length_map]; omega) ?_)))⟩)))
    have hwp : wl ≠ ([] : Mem).length := fun e => by
      have h1 := p4.lt
      obtain ⟨_, _, _, _, ep⟩ := p4
      rw [← e, gw] at ep
      cases ss with
      | nil => cases ep
      | cons s ss => cases ep
    have p7 : PenC ns (μ6.set wl (.lst (ss.map D.str ++ [D.str ""]))) ([] : Mem).length (0 + 1000) := p6.set hwp
    have gd7 : (μ6.set wl (.lst (ss.map D.str ++ [D.str ""])))[dl]? = some (.lst (ss.map D.str)) := get_set_ne gd6 hne
    generalize μ6.set wl (.lst (ss.map D.str ++ [D.str ""])) = μ7 at p7 gd7
    refine w_then (w_set (w_call (w_cons (w_var rfl (w_cons (w_var rfl (w_nil ?_)))))))
    refine wf_other w (by omega) p7 (by omega) fun R' K' μ8 bad k8 => ?_
    have hdp : dl ∉ [([] : Mem).length] := fun hm => by
      obtain ⟨_, _, _, _, ep⟩ := p7
      rw [← List.mem_singleton.mp hm, gd7] at ep
      cases ss with
      | nil => cases ep
      | cons s ss => cases ep
    have gd8 := k8.at_ _ _ hdp gd7
    refine w_then (w_if (w_notT (w_test (w_call (w_cons (w_lc (w_range (w_cons (w_c (w_nil ⟨3, rfl, by omega, by omega, few_of (by simp), ?_⟩))))))))))
    refine w_mapE (fun (k : Nat) => D.int k) (List.range (3 : Int).toNat) (fun _ => .bl true) (fun _ _ => rfl) (fun k hk μ' kp => ?_) (fun μ9 k9 => ?_)
    · refine w_gn ?_
      unfold e_law_0
      refine w_call (w_cons (w_var rfl (w_cons (w_var rfl (w_nil ?_)))))
      exact wf_refused bad fun μ'' k'' => ⟨rfl, kp.trans k'', kp⟩
    refine w_nil (w_all (bs := (List.range (3 : Int).toNat).map fun _ => true) (by rw [get_new, List.map_map]; rfl) ⟨_, rfl, fun h => (by cases h), fun _ => w_skip ?_⟩)
    refine w_ret (w_bin (w_callX (w_cons (w_var rfl (w_nil ?_)))))
    refine wf_words w (by omega) h2 fun wl2 μa ka _ gwa => w_var rfl ?_
    rw [hss] at gwa
    exact w_eqS (toP_strs hok gwa) (toP_strs hok (ka _ _ (k9.to _ _ gd8))) rfl
  obtain ⟨d, μ', e, rfl⟩ := main
  exact ⟨μ', e⟩
end P
set_option Elab.async false
set_option linter.all false
set_option maxRecDepth 100000
set_option autoImplicit false
namespace P
open PySem PySem.Spec PyProof.Rows L2 M
set_option maxHeartbeats 4000000
theorem ln1 {α : Type} : ∀ {us : List α}, us.length = 1 → ∃ a0, us = [a0]
  | [a0], _ => ⟨a0, rfl⟩
theorem ln2 {α : Type} : ∀ {us : List α}, us.length = 2 → ∃ a0 a1, us = [a0, a1]
  | [a0, a1], _ => ⟨a0, a1, rfl⟩
theorem all_mk {l : PySem.W.OpenLaw} {w : World} {K : PySem.W.Frag} {h : Heap} {mg : Str → Option Value} {fa f__law_pen f__law_mixed f__law_take f__law_pairs f__law_marks f__law_due f_check_pairs f_word_of f_joined_to f_part_of f_parts f_words f__law_other f_is_on_ring f_on_rings f_ways_of f_ways f__law_refused f_law C_NoPairs C_Twice C_NoText C_NoRule C_NoRow C_NoPush C_NoKey C_NoFit C_Full C_NestError : Addr} (X : K.In h) (G : h.Ns mainGlobals mg) (hfa : mg "law" = some (.ref fa))
    {od0 an0 : Option Addr} {sl0 : Array (Option Value)} {oc0 kV0 dc0 pm0 cd0 ct0 : Value} (a0 : PySem.W.nsIn K mainGlobals "_law_pen" = some (some (.ref f__law_pen))) (l0 : K.lookup f__law_pen = some ⟨oc0, od0, .func (PySem.W.fnOf "_law_pen" "_law_pen" (defArgs s__law_pen) (defBody s__law_pen) (defScope s__law_pen) .none kV0 dc0 pm0 an0 cd0 ct0), sl0⟩) (c0 : PySem.W.codeIn K cd0 "_law_pen" = true) (k0 : PySem.W.keepIn K (.ref f__law_pen) = true)
    {od1 an1 : Option Addr} {sl1 : Array (Option Value)} {oc1 kV1 dc1 pm1 cd1 ct1 : Value} (a1 : PySem.W.nsIn K mainGlobals "_law_mixed" = some (some (.ref f__law_mixed))) (l1 : K.lookup f__law_mixed = some ⟨oc1, od1, .func (PySem.W.fnOf "_law_mixed" "_law_mixed" (defArgs s__law_mixed) (defBody s__law_mixed) (defScope s__law_mixed) .none kV1 dc1 pm1 an1 cd1 ct1), sl1⟩) (c1 : PySem.W.codeIn K cd1 "_law_mixed" = true) (k1 : PySem.W.keepIn K (.ref f__law_mixed) = true)
    {od2 an2 : Option Addr} {sl2 : Array (Option Value)} {oc2 kV2 dc2 pm2 cd2 ct2 : Value} (a2 : PySem.W.nsIn K mainGlobals "_law_take" = some (some (.ref f__law_take))) (l2 : K.lookup f__law_take = some ⟨oc2, od2, .func (PySem.W.fnOf "_law_take" "_law_take" (defArgs s__law_take) (defBody s__law_take) (defScope s__law_take) .none kV2 dc2 pm2 an2 cd2 ct2), sl2⟩) (c2 : PySem.W.codeIn K cd2 "_law_take" = true) (k2 : PySem.W.keepIn K (.ref f__law_take) = true)
    {od3 an3 : Option Addr} {sl3 : Array (Option Value)} {oc3 kV3 dc3 pm3 cd3 ct3 : Value} (a3 : PySem.W.nsIn K mainGlobals "_law_pairs" = some (some (.ref f__law_pairs))) (l3 : K.lookup f__law_pairs = some ⟨oc3, od3, .func (PySem.W.fnOf "_law_pairs" "_law_pairs" (defArgs s__law_pairs) (defBody s__law_pairs) (defScope s__law_pairs) .none kV3 dc3 pm3 an3 cd3 ct3), sl3⟩) (c3 : PySem.W.codeIn K cd3 "_law_pairs" = true) (k3 : PySem.W.keepIn K (.ref f__law_pairs) = true)
    {od4 an4 : Option Addr} {sl4 : Array (Option Value)} {oc4 kV4 dc4 pm4 cd4 ct4 : Value} (a4 : PySem.W.nsIn K mainGlobals "_law_marks" = some (some (.ref f__law_marks))) (l4 : K.lookup f__law_marks = some ⟨oc4, od4, .func (PySem.W.fnOf "_law_marks" "_law_marks" (defArgs s__law_marks) (defBody s__law_marks) (defScope s__law_marks) .none kV4 dc4 pm4 an4 cd4 ct4), sl4⟩) (c4 : PySem.W.codeIn K cd4 "_law_marks" = true) (k4 : PySem.W.keepIn K (.ref f__law_marks) = true)
    {od5 an5 : Option Addr} {sl5 : Array (Option Value)} {oc5 kV5 dc5 pm5 cd5 ct5 : Value} (a5 : PySem.W.nsIn K mainGlobals "_law_due" = some (some (.ref f__law_due))) (l5 : K.lookup f__law_due = some ⟨oc5, od5, .func (PySem.W.fnOf "_law_due" "_law_due" (defArgs s__law_due) (defBody s__law_due) (defScope s__law_due) .none kV5 dc5 pm5 an5 cd5 ct5), sl5⟩) (c5 : PySem.W.codeIn K cd5 "_law_due" = true) (k5 : PySem.W.keepIn K (.ref f__law_due) = true)
    {od6 an6 : Option Addr} {sl6 : Array (Option Value)} {oc6 kV6 dc6 pm6 cd6 ct6 : Value} (a6 : PySem.W.nsIn K mainGlobals "check_pairs" = some (some (.ref f_check_pairs))) (l6 : K.lookup f_check_pairs = some ⟨oc6, od6, .func (PySem.W.fnOf "check_pairs" "check_pairs" (defArgs s_check_pairs) (defBody s_check_pairs) (defScope s_check_pairs) .none kV6 dc6 pm6 an6 cd6 ct6), sl6⟩) (c6 : PySem.W.codeIn K cd6 "check_pairs" = true) (k6 : PySem.W.keepIn K (.ref f_check_pairs) = true)
    {od7 an7 : Option Addr} {sl7 : Array (Option Value)} {oc7 kV7 dc7 pm7 cd7 ct7 : Value} (a7 : PySem.W.nsIn K mainGlobals "word_of" = some (some (.ref f_word_of))) (l7 : K.lookup f_word_of = some ⟨oc7, od7, .func (PySem.W.fnOf "word_of" "word_of" (defArgs s_word_of) (defBody s_word_of) (defScope s_word_of) .none kV7 dc7 pm7 an7 cd7 ct7), sl7⟩) (c7 : PySem.W.codeIn K cd7 "word_of" = true) (k7 : PySem.W.keepIn K (.ref f_word_of) = true)
    {od8 an8 : Option Addr} {sl8 : Array (Option Value)} {oc8 kV8 dc8 pm8 cd8 ct8 : Value} (a8 : PySem.W.nsIn K mainGlobals "joined_to" = some (some (.ref f_joined_to))) (l8 : K.lookup f_joined_to = some ⟨oc8, od8, .func (PySem.W.fnOf "joined_to" "joined_to" (defArgs s_joined_to) (defBody s_joined_to) (defScope s_joined_to) .none kV8 dc8 pm8 an8 cd8 ct8), sl8⟩) (c8 : PySem.W.codeIn K cd8 "joined_to" = true) (k8 : PySem.W.keepIn K (.ref f_joined_to) = true)
    {od9 an9 : Option Addr} {sl9 : Array (Option Value)} {oc9 kV9 dc9 pm9 cd9 ct9 : Value} (a9 : PySem.W.nsIn K mainGlobals "part_of" = some (some (.ref f_part_of))) (l9 : K.lookup f_part_of = some ⟨oc9, od9, .func (PySem.W.fnOf "part_of" "part_of" (defArgs s_part_of) (defBody s_part_of) (defScope s_part_of) .none kV9 dc9 pm9 an9 cd9 ct9), sl9⟩) (c9 : PySem.W.codeIn K cd9 "part_of" = true) (k9 : PySem.W.keepIn K (.ref f_part_of) = true)
    {od10 an10 : Option Addr} {sl10 : Array (Option Value)} {oc10 kV10 dc10 pm10 cd10 ct10 : Value} (a10 : PySem.W.nsIn K mainGlobals "parts" = some (some (.ref f_parts))) (l10 : K.lookup f_parts = some ⟨oc10, od10, .func (PySem.W.fnOf "parts" "parts" (defArgs s_parts) (defBody s_parts) (defScope s_parts) .none kV10 dc10 pm10 an10 cd10 ct10), sl10⟩) (c10 : PySem.W.codeIn K cd10 "parts" = true) (k10 : PySem.W.keepIn K (.ref f_parts) = true)
    {od11 an11 : Option Addr} {sl11 : Array (Option Value)} {oc11 kV11 dc11 pm11 cd11 ct11 : Value} (a11 : PySem.W.nsIn K mainGlobals "words" = some (some (.ref f_words))) (l11 : K.lookup f_words = some ⟨oc11, od11, .func (PySem.W.fnOf "words" "words" (defArgs s_words) (defBody s_words) (defScope s_words) .none kV11 dc11 pm11 an11 cd11 ct11), sl11⟩) (c11 : PySem.W.codeIn K cd11 "words" = true) (k11 : PySem.W.keepIn K (.ref f_words) = true)
    {od12 an12 : Option Addr} {sl12 : Array (Option Value)} {oc12 kV12 dc12 pm12 cd12 ct12 : Value} (a12 : PySem.W.nsIn K mainGlobals "_law_other" = some (some (.ref f__law_other))) (l12 : K.lookup f__law_other = some ⟨oc12, od12, .func (PySem.W.fnOf "_law_other" "_law_other" (defArgs s__law_other) (defBody s__law_other) (defScope s__law_other) .none kV12 dc12 pm12 an12 cd12 ct12), sl12⟩) (c12 : PySem.W.codeIn K cd12 "_law_other" = true) (k12 : PySem.W.keepIn K (.ref f__law_other) = true)
    {od13 an13 : Option Addr} {sl13 : Array (Option Value)} {oc13 kV13 dc13 pm13 cd13 ct13 : Value} (a13 : PySem.W.nsIn K mainGlobals "is_on_ring" = some (some (.ref f_is_on_ring))) (l13 : K.lookup f_is_on_ring = some ⟨oc13, od13, .func (PySem.W.fnOf "is_on_ring" "is_on_ring" (defArgs s_is_on_ring) (defBody s_is_on_ring) (defScope s_is_on_ring) .none kV13 dc13 pm13 an13 cd13 ct13), sl13⟩) (c13 : PySem.W.codeIn K cd13 "is_on_ring" = true) (k13 : PySem.W.keepIn K (.ref f_is_on_ring) = true)
    {od14 an14 : Option Addr} {sl14 : Array (Option Value)} {oc14 kV14 dc14 pm14 cd14 ct14 : Value} (a14 : PySem.W.nsIn K mainGlobals "on_rings" = some (some (.ref f_on_rings))) (l14 : K.lookup f_on_rings = some ⟨oc14, od14, .func (PySem.W.fnOf "on_rings" "on_rings" (defArgs s_on_rings) (defBody s_on_rings) (defScope s_on_rings) .none kV14 dc14 pm14 an14 cd14 ct14), sl14⟩) (c14 : PySem.W.codeIn K cd14 "on_rings" = true) (k14 : PySem.W.keepIn K (.ref f_on_rings) = true)
    {od15 an15 : Option Addr} {sl15 : Array (Option Value)} {oc15 kV15 dc15 pm15 cd15 ct15 : Value} (a15 : PySem.W.nsIn K mainGlobals "ways_of" = some (some (.ref f_ways_of))) (l15 : K.lookup f_ways_of = some ⟨oc15, od15, .func (PySem.W.fnOf "ways_of" "ways_of" (defArgs s_ways_of) (defBody s_ways_of) (defScope s_ways_of) .none kV15 dc15 pm15 an15 cd15 ct15), sl15⟩) (c15 : PySem.W.codeIn K cd15 "ways_of" = true) (k15 : PySem.W.keepIn K (.ref f_ways_of) = true)
    {od16 an16 : Option Addr} {sl16 : Array (Option Value)} {oc16 kV16 dc16 pm16 cd16 ct16 : Value} (a16 : PySem.W.nsIn K mainGlobals "ways" = some (some (.ref f_ways))) (l16 : K.lookup f_ways = some ⟨oc16, od16, .func (PySem.W.fnOf "ways" "ways" (defArgs s_ways) (defBody s_ways) (defScope s_ways) .none kV16 dc16 pm16 an16 cd16 ct16), sl16⟩) (c16 : PySem.W.codeIn K cd16 "ways" = true) (k16 : PySem.W.keepIn K (.ref f_ways) = true)
    {od17 an17 : Option Addr} {sl17 : Array (Option Value)} {oc17 kV17 dc17 pm17 cd17 ct17 : Value} (a17 : PySem.W.nsIn K mainGlobals "_law_refused" = some (some (.ref f__law_refused))) (l17 : K.lookup f__law_refused = some ⟨oc17, od17, .func (PySem.W.fnOf "_law_refused" "_law_refused" (defArgs s__law_refused) (defBody s__law_refused) (defScope s__law_refused) .none kV17 dc17 pm17 an17 cd17 ct17), sl17⟩) (c17 : PySem.W.codeIn K cd17 "_law_refused" = true) (k17 : PySem.W.keepIn K (.ref f__law_refused) = true)
    {od18 an18 : Option Addr} {sl18 : Array (Option Value)} {oc18 kV18 dc18 pm18 cd18 ct18 : Value} (a18 : PySem.W.nsIn K mainGlobals "law" = some (some (.ref f_law))) (l18 : K.lookup f_law = some ⟨oc18, od18, .func (PySem.W.fnOf "law" "law" (defArgs s_law) (defBody s_law) (defScope s_law) .none kV18 dc18 pm18 an18 cd18 ct18), sl18⟩) (c18 : PySem.W.codeIn K cd18 "law" = true) (k18 : PySem.W.keepIn K (.ref f_law) = true)
    (z_ValueError : PySem.W.nsIn K mainGlobals "ValueError" = some none)
    (z_all : PySem.W.nsIn K mainGlobals "all" = some none)
    (z_any : PySem.W.nsIn K mainGlobals "any" = some none)
    (z_enumerate : PySem.W.nsIn K mainGlobals "enumerate" = some none)
    (z_int : PySem.W.nsIn K mainGlobals "int" = some none)
    (z_isinstance : PySem.W.nsIn K mainGlobals "isinstance" = some none)
    (z_len : PySem.W.nsIn K mainGlobals "len" = some none)
    (z_list : PySem.W.nsIn K mainGlobals "list" = some none)
    (z_min : PySem.W.nsIn K mainGlobals "min" = some none)
    (z_range : PySem.W.nsIn K mainGlobals "range" = some none)
    (z_sorted : PySem.W.nsIn K mainGlobals "sorted" = some none)
    (z_str : PySem.W.nsIn K mainGlobals "str" = some none)
    (z_tuple : PySem.W.nsIn K mainGlobals "tuple" = some none)
    (xa_NoPairs : PySem.W.nsIn K mainGlobals "NoPairs" = some (some (.ref C_NoPairs)))
    (xk_NoPairs : PySem.W.ktsIn K C_NoPairs "BaseException" = true)
    (xa_Twice : PySem.W.nsIn K mainGlobals "Twice" = some (some (.ref C_Twice)))
    (xk_Twice : PySem.W.ktsIn K C_Twice "BaseException" = true)
    (xa_NoText : PySem.W.nsIn K mainGlobals "NoText" = some (some (.ref C_NoText)))
    (xk_NoText : PySem.W.ktsIn K C_NoText "BaseException" = true)
    (xa_NoRule : PySem.W.nsIn K mainGlobals "NoRule" = some (some (.ref C_NoRule)))
    (xk_NoRule : PySem.W.ktsIn K C_NoRule "BaseException" = true)
    (xa_NoRow : PySem.W.nsIn K mainGlobals "NoRow" = some (some (.ref C_NoRow)))
    (xk_NoRow : PySem.W.ktsIn K C_NoRow "BaseException" = true)
    (xa_NoPush : PySem.W.nsIn K mainGlobals "NoPush" = some (some (.ref C_NoPush)))
    (xk_NoPush : PySem.W.ktsIn K C_NoPush "BaseException" = true)
    (xa_NoKey : PySem.W.nsIn K mainGlobals "NoKey" = some (some (.ref C_NoKey)))
    (xk_NoKey : PySem.W.ktsIn K C_NoKey "BaseException" = true)
    (xa_NoFit : PySem.W.nsIn K mainGlobals "NoFit" = some (some (.ref C_NoFit)))
    (xk_NoFit : PySem.W.ktsIn K C_NoFit "BaseException" = true)
    (xa_Full : PySem.W.nsIn K mainGlobals "Full" = some (some (.ref C_Full)))
    (xk_Full : PySem.W.ktsIn K C_Full "BaseException" = true)
    (xa_NestError : PySem.W.nsIn K mainGlobals "NestError" = some (some (.ref C_NestError)))
    (xk_NestError : PySem.W.ktsIn K C_NestError "BaseException" = true)
    (xe_NoPairs : PySem.W.excIn K C_NoPairs [.type "ValueError", .type "Exception", .type "BaseException", .type "object"] "ValueError.__new__" = true)
    (xm_NoPairs_NestError : PySem.W.mroIn K C_NoPairs (.ref C_NestError) = some true)
    {cd_NoPairs : ClassData}
    (q1_NoPairs : PySem.W.clsIn K C_NoPairs = some cd_NoPairs)
    (q2_NoPairs : PySem.W.findIn K (.ref C_NoPairs) "__getattribute__" = some (some (.builtin "BaseException.__getattribute__")))
    (q7_NoPairs : PySem.W.findIn K (.ref C_NoPairs) "__getattr__" = some none)
    (q8_NoPairs : PySem.W.mroIn K C_NoPairs (.type "BaseException") = some true)
    (q3_NoPairs : PySem.W.findIn K (.ref C_NoPairs) "__class__" = some (some (.builtin "object.__class__")))
    (q6_NoPairs : PySem.W.mroIn K C_NoPairs (.type "object") = some true)
    (q4 : PySem.W.specialIn K (.builtin "object.__class__") "__get__" = some (some (.builtin "getset_descriptor.__get__")))
    (q5 : PySem.W.takesIn K (.builtin "object.__class__") = some true)
    (kq_None_Full : PySem.W.kitOne K (.type "NoneType") (.ref C_Full) = some false)
    (kq_None_NoFit : PySem.W.kitOne K (.type "NoneType") (.ref C_NoFit) = some false)
    (kq_None_NoKey : PySem.W.kitOne K (.type "NoneType") (.ref C_NoKey) = some false)
    (kq_None_NoPush : PySem.W.kitOne K (.type "NoneType") (.ref C_NoPush) = some false)
    (kq_None_NoRow : PySem.W.kitOne K (.type "NoneType") (.ref C_NoRow) = some false)
    (kq_None_NoRule : PySem.W.kitOne K (.type "NoneType") (.ref C_NoRule) = some false)
    (kq_None_NoText : PySem.W.kitOne K (.type "NoneType") (.ref C_NoText) = some false)
    (kq_None_Twice : PySem.W.kitOne K (.type "NoneType") (.ref C_Twice) = some false)
    (kq_None_NoPairs : PySem.W.kitOne K (.type "NoneType") (.ref C_NoPairs) = some false)
    (kq_None_ValueError : PySem.W.kitOne K (.type "NoneType") (.type "ValueError") = some false)
    (kq_NoPairs_Full : PySem.W.kitOne K (.ref C_NoPairs) (.ref C_Full) = some false)
    (kq_NoPairs_NoFit : PySem.W.kitOne K (.ref C_NoPairs) (.ref C_NoFit) = some false)
    (kq_NoPairs_NoKey : PySem.W.kitOne K (.ref C_NoPairs) (.ref C_NoKey) = some false)
    (kq_NoPairs_NoPush : PySem.W.kitOne K (.ref C_NoPairs) (.ref C_NoPush) = some false)
    (kq_NoPairs_NoRow : PySem.W.kitOne K (.ref C_NoPairs) (.ref C_NoRow) = some false)
    (kq_NoPairs_NoRule : PySem.W.kitOne K (.ref C_NoPairs) (.ref C_NoRule) = some false)
    (kq_NoPairs_NoText : PySem.W.kitOne K (.ref C_NoPairs) (.ref C_NoText) = some false)
    (kq_NoPairs_Twice : PySem.W.kitOne K (.ref C_NoPairs) (.ref C_Twice) = some false)
    (kq_NoPairs_NoPairs : PySem.W.kitOne K (.ref C_NoPairs) (.ref C_NoPairs) = some true)
    (kq_NoPairs_ValueError : PySem.W.kitOne K (.ref C_NoPairs) (.type "ValueError") = some true)
    : ∃ fd : FuncData, (∀ (s : Shared) (v : Value), BindsTo s fd ⟨[v], []⟩ [("_law_script", v)]) ∧ ∀ base : Heap, K.In base → base.Ns mainGlobals mg → FnOk l.prog w K mg base CX0 6 fa fd ["_law_script"] (spM K 1 F_law) := by
  have e := hfa.symm.trans (PySem.W.mg_of X G a18)
  cases e
  have T : Txt K mg := ⟨⟨C_NoPairs, xa_NoPairs, PySem.W.mg_of X G xa_NoPairs, xk_NoPairs⟩, ⟨C_Twice, xa_Twice, PySem.W.mg_of X G xa_Twice, xk_Twice⟩, ⟨C_NoText, xa_NoText, PySem.W.mg_of X G xa_NoText, xk_NoText⟩, ⟨C_NoRule, xa_NoRule, PySem.W.mg_of X G xa_NoRule, xk_NoRule⟩, ⟨C_NoRow, xa_NoRow, PySem.W.mg_of X G xa_NoRow, xk_NoRow⟩, ⟨C_NoPush, xa_NoPush, PySem.W.mg_of X G xa_NoPush, xk_NoPush⟩, ⟨C_NoKey, xa_NoKey, PySem.W.mg_of X G xa_NoKey, xk_NoKey⟩, ⟨C_NoFit, xa_NoFit, PySem.W.mg_of X G xa_NoFit, xk_NoFit⟩, ⟨C_Full, xa_Full, PySem.W.mg_of X G xa_Full, xk_Full⟩, ⟨C_NestError, xa_NestError, PySem.W.mg_of X G xa_NestError, xk_NestError⟩, (fun C h => by rw [xa_NoPairs] at h; cases h; exact xe_NoPairs), (fun C h => by rw [xa_NestError] at h; cases h; exact (Subs.cons xa_NoPairs xk_NoPairs xm_NoPairs_NestError Subs.nil)), (KitOk.none (clsV_own (P := fun v => PySem.W.kitOne K (.type "NoneType") v = some false) xa_Full kq_None_Full) (KitOk.none (clsV_own (P := fun v => PySem.W.kitOne K (.type "NoneType") v = some false) xa_NoFit kq_None_NoFit) (KitOk.none (clsV_own (P := fun v => PySem.W.kitOne K (.type "NoneType") v = some false) xa_NoKey kq_None_NoKey) (KitOk.none (clsV_own (P := fun v => PySem.W.kitOne K (.type "NoneType") v = some false) xa_NoPush kq_None_NoPush) (KitOk.none (clsV_own (P := fun v => PySem.W.kitOne K (.type "NoneType") v = some false) xa_NoRow kq_None_NoRow) (KitOk.none (clsV_own (P := fun v => PySem.W.kitOne K (.type "NoneType") v = some false) xa_NoRule kq_None_NoRule) (KitOk.none (clsV_own (P := fun v => PySem.W.kitOne K (.type "NoneType") v = some false) xa_NoText kq_None_NoText) (KitOk.none (clsV_own (P := fun v => PySem.W.kitOne K (.type "NoneType") v = some false) xa_Twice kq_None_Twice) (KitOk.none (clsV_own (P := fun v => PySem.W.kitOne K (.type "NoneType") v = some false) xa_NoPairs kq_None_NoPairs) (KitOk.none (clsV_ty (P := fun v => PySem.W.kitOne K (.type "NoneType") v = some false) kq_None_ValueError) (KitOk.some xa_NoPairs ⟨by rw [q1_NoPairs]; rfl, q2_NoPairs, q7_NoPairs, q8_NoPairs, q3_NoPairs, q4, q5, q6_NoPairs⟩ (clsV_own (P := fun v => PySem.W.kitOne K (.ref C_NoPairs) v = some false) xa_Full kq_NoPairs_Full) (KitOk.some xa_NoPairs ⟨by rw [q1_NoPairs]; rfl, q2_NoPairs, q7_NoPairs, q8_NoPairs, q3_NoPairs, q4, q5, q6_NoPairs⟩ (clsV_own (P := fun v => PySem.W.kitOne K (.ref C_NoPairs) v = some false) xa_NoFit kq_NoPairs_NoFit) (KitOk.some xa_NoPairs ⟨by rw [q1_NoPairs]; rfl, q2_NoPairs, q7_NoPairs, q8_NoPairs, q3_NoPairs, q4, q5, q6_NoPairs⟩ (clsV_own (P := fun v => PySem.W.kitOne K (.ref C_NoPairs) v = some false) xa_NoKey kq_NoPairs_NoKey) (KitOk.some xa_NoPairs ⟨by rw [q1_NoPairs]; rfl, q2_NoPairs, q7_NoPairs, q8_NoPairs, q3_NoPairs, q4, q5, q6_NoPairs⟩ (clsV_own (P := fun v => PySem.W.kitOne K (.ref C_NoPairs) v = some false) xa_NoPush kq_NoPairs_NoPush) (KitOk.some xa_NoPairs ⟨by rw [q1_NoPairs]; rfl, q2_NoPairs, q7_NoPairs, q8_NoPairs, q3_NoPairs, q4, q5, q6_NoPairs⟩ (clsV_own (P := fun v => PySem.W.kitOne K (.ref C_NoPairs) v = some false) xa_NoRow kq_NoPairs_NoRow) (KitOk.some xa_NoPairs ⟨by rw [q1_NoPairs]; rfl, q2_NoPairs, q7_NoPairs, q8_NoPairs, q3_NoPairs, q4, q5, q6_NoPairs⟩ (clsV_own (P := fun v => PySem.W.kitOne K (.ref C_NoPairs) v = some false) xa_NoRule kq_NoPairs_NoRule) (KitOk.some xa_NoPairs ⟨by rw [q1_NoPairs]; rfl, q2_NoPairs, q7_NoPairs, q8_NoPairs, q3_NoPairs, q4, q5, q6_NoPairs⟩ (clsV_own (P := fun v => PySem.W.kitOne K (.ref C_NoPairs) v = some false) xa_NoText kq_NoPairs_NoText) (KitOk.some xa_NoPairs ⟨by rw [q1_NoPairs]; rfl, q2_NoPairs, q7_NoPairs, q8_NoPairs, q3_NoPairs, q4, q5, q6_NoPairs⟩ (clsV_own (P := fun v => PySem.W.kitOne K (.ref C_NoPairs) v = some false) xa_Twice kq_NoPairs_Twice) (KitOk.some xa_NoPairs ⟨by rw [q1_NoPairs]; rfl, q2_NoPairs, q7_NoPairs, q8_NoPairs, q3_NoPairs, q4, q5, q6_NoPairs⟩ (clsV_own (P := fun v => PySem.W.kitOne K (.ref C_NoPairs) v = some true) xa_NoPairs kq_NoPairs_NoPairs) (KitOk.some xa_NoPairs ⟨by rw [q1_NoPairs]; rfl, q2_NoPairs, q7_NoPairs, q8_NoPairs, q3_NoPairs, q4, q5, q6_NoPairs⟩ (clsV_ty (P := fun v => PySem.W.kitOne K (.ref C_NoPairs) v = some true) kq_NoPairs_ValueError) KitOk.nil)))))))))))))))))))), PySem.W.mg_none_of X G z_ValueError, PySem.W.mg_none_of X G z_all, PySem.W.mg_none_of X G z_any, PySem.W.mg_none_of X G z_enumerate, PySem.W.mg_none_of X G z_int, PySem.W.mg_none_of X G z_isinstance, PySem.W.mg_none_of X G z_len, PySem.W.mg_none_of X G z_list, PySem.W.mg_none_of X G z_min, PySem.W.mg_none_of X G z_range, PySem.W.mg_none_of X G z_sorted, PySem.W.mg_none_of X G z_str, PySem.W.mg_none_of X G z_tuple⟩
  have B__law_pen : FnAt K mg "_law_pen" s__law_pen ps__law_pen _ _ := ⟨fun_mk (st := s__law_pen) l0 c0 k0, PySem.W.mg_of X G a0, (fun_mk (st := s__law_pen) l0 c0 k0).binds (ps := ps__law_pen) fun _ _ _ _ _ _ us hl => by obtain ⟨_, rfl⟩ := ln1 hl; rfl⟩
  have B__law_mixed : FnAt K mg "_law_mixed" s__law_mixed ps__law_mixed _ _ := ⟨fun_mk (st := s__law_mixed) l1 c1 k1, PySem.W.mg_of X G a1, (fun_mk (st := s__law_mixed) l1 c1 k1).binds (ps := ps__law_mixed) fun _ _ _ _ _ _ us hl => by obtain ⟨_, _, rfl⟩ := ln2 hl; rfl⟩
  have B__law_take : FnAt K mg "_law_take" s__law_take ps__law_take _ _ := ⟨fun_mk (st := s__law_take) l2 c2 k2, PySem.W.mg_of X G a2, (fun_mk (st := s__law_take) l2 c2 k2).binds (ps := ps__law_take) fun _ _ _ _ _ _ us hl => by obtain ⟨_, _, rfl⟩ := ln2 hl; rfl⟩
  have B__law_pairs : FnAt K mg "_law_pairs" s__law_pairs ps__law_pairs _ _ := ⟨fun_mk (st := s__law_pairs) l3 c3 k3, PySem.W.mg_of X G a3, (fun_mk (st := s__law_pairs) l3 c3 k3).binds (ps := ps__law_pairs) fun _ _ _ _ _ _ us hl => by obtain ⟨_, _, rfl⟩ := ln2 hl; rfl⟩
  have B__law_marks : FnAt K mg "_law_marks" s__law_marks ps__law_marks _ _ := ⟨fun_mk (st := s__law_marks) l4 c4 k4, PySem.W.mg_of X G a4, (fun_mk (st := s__law_marks) l4 c4 k4).binds (ps := ps__law_marks) fun _ _ _ _ _ _ us hl => by obtain ⟨_, _, rfl⟩ := ln2 hl; rfl⟩
  have B__law_due : FnAt K mg "_law_due" s__law_due ps__law_due _ _ := ⟨fun_mk (st := s__law_due) l5 c5 k5, PySem.W.mg_of X G a5, (fun_mk (st := s__law_due) l5 c5 k5).binds (ps := ps__law_due) fun _ _ _ _ _ _ us hl => by obtain ⟨_, rfl⟩ := ln1 hl; rfl⟩
  have B_check_pairs : FnAt K mg "check_pairs" s_check_pairs ps_check_pairs _ _ := ⟨fun_mk (st := s_check_pairs) l6 c6 k6, PySem.W.mg_of X G a6, (fun_mk (st := s_check_pairs) l6 c6 k6).binds (ps := ps_check_pairs) fun _ _ _ _ _ _ us hl => by obtain ⟨_, rfl⟩ := ln1 hl; rfl⟩
  have B_word_of : FnAt K mg "word_of" s_word_of ps_word_of _ _ := ⟨fun_mk (st := s_word_of) l7 c7 k7, PySem.W.mg_of X G a7, (fun_mk (st := s_word_of) l7 c7 k7).binds (ps := ps_word_of) fun _ _ _ _ _ _ us hl => by obtain ⟨_, rfl⟩ := ln1 hl; rfl⟩
  have B_joined_to : FnAt K mg "joined_to" s_joined_to ps_joined_to _ _ := ⟨fun_mk (st := s_joined_to) l8 c8 k8, PySem.W.mg_of X G a8, (fun_mk (st := s_joined_to) l8 c8 k8).binds (ps := ps_joined_to) fun _ _ _ _ _ _ us hl => by obtain ⟨_, _, rfl⟩ := ln2 hl; rfl⟩
  have B_part_of : FnAt K mg "part_of" s_part_of ps_part_of _ _ := ⟨fun_mk (st := s_part_of) l9 c9 k9, PySem.W.mg_of X G a9, (fun_mk (st := s_part_of) l9 c9 k9).binds (ps := ps_part_of) fun _ _ _ _ _ _ us hl => by obtain ⟨_, _, rfl⟩ := ln2 hl; rfl⟩
  have B_parts : FnAt K mg "parts" s_parts ps_parts _ _ := ⟨fun_mk (st := s_parts) l10 c10 k10, PySem.W.mg_of X G a10, (fun_mk (st := s_parts) l10 c10 k10).binds (ps := ps_parts) fun _ _ _ _ _ _ us hl => by obtain ⟨_, rfl⟩ := ln1 hl; rfl⟩
  have B_words : FnAt K mg "words" s_words ps_words _ _ := ⟨fun_mk (st := s_words) l11 c11 k11, PySem.W.mg_of X G a11, (fun_mk (st := s_words) l11 c11 k11).binds (ps := ps_words) fun _ _ _ _ _ _ us hl => by obtain ⟨_, rfl⟩ := ln1 hl; rfl⟩
  have B__law_other : FnAt K mg "_law_other" s__law_other ps__law_other _ _ := ⟨fun_mk (st := s__law_other) l12 c12 k12, PySem.W.mg_of X G a12, (fun_mk (st := s__law_other) l12 c12 k12).binds (ps := ps__law_other) fun _ _ _ _ _ _ us hl => by obtain ⟨_, _, rfl⟩ := ln2 hl; rfl⟩
  have B_is_on_ring : FnAt K mg "is_on_ring" s_is_on_ring ps_is_on_ring _ _ := ⟨fun_mk (st := s_is_on_ring) l13 c13 k13, PySem.W.mg_of X G a13, (fun_mk (st := s_is_on_ring) l13 c13 k13).binds (ps := ps_is_on_ring) fun _ _ _ _ _ _ us hl => by obtain ⟨_, _, rfl⟩ := ln2 hl; rfl⟩
  have B_on_rings : FnAt K mg "on_rings" s_on_rings ps_on_rings _ _ := ⟨fun_mk (st := s_on_rings) l14 c14 k14, PySem.W.mg_of X G a14, (fun_mk (st := s_on_rings) l14 c14 k14).binds (ps := ps_on_rings) fun _ _ _ _ _ _ us hl => by obtain ⟨_, rfl⟩ := ln1 hl; rfl⟩
  have B_ways_of : FnAt K mg "ways_of" s_ways_of ps_ways_of _ _ := ⟨fun_mk (st := s_ways_of) l15 c15 k15, PySem.W.mg_of X G a15, (fun_mk (st := s_ways_of) l15 c15 k15).binds (ps := ps_ways_of) fun _ _ _ _ _ _ us hl => by obtain ⟨_, _, rfl⟩ := ln2 hl; rfl⟩
  have B_ways : FnAt K mg "ways" s_ways ps_ways _ _ := ⟨fun_mk (st := s_ways) l16 c16 k16, PySem.W.mg_of X G a16, (fun_mk (st := s_ways) l16 c16 k16).binds (ps := ps_ways) fun _ _ _ _ _ _ us hl => by obtain ⟨_, rfl⟩ := ln1 hl; rfl⟩
  have B__law_refused : FnAt K mg "_law_refused" s__law_refused ps__law_refused _ _ := ⟨fun_mk (st := s__law_refused) l17 c17 k17, PySem.W.mg_of X G a17, (fun_mk (st := s__law_refused) l17 c17 k17).binds (ps := ps__law_refused) fun _ _ _ _ _ _ us hl => by obtain ⟨_, _, rfl⟩ := ln2 hl; rfl⟩
  have B_law : FnAt K mg "law" s_law ps_law _ _ := ⟨fun_mk (st := s_law) l18 c18 k18, PySem.W.mg_of X G a18, (fun_mk (st := s_law) l18 c18 k18).binds (ps := ps_law) fun _ _ _ _ _ _ us hl => by obtain ⟨_, rfl⟩ := ln1 hl; rfl⟩
  refine ⟨PySem.W.fnOf "law" "law" (defArgs s_law) (defBody s_law) (defScope s_law) .none kV18 dc18 pm18 an18 cd18 ct18, fun s v => .of_eq rfl, fun base _ _ => ?_⟩
  have ok__law_pen := okf__law_pen (P := l.prog) (w := w) (base := base) T B__law_pen
  have ok__law_mixed := okf__law_mixed (P := l.prog) (w := w) (base := base) T B__law_mixed
  have ok__law_take := okf__law_take (P := l.prog) (w := w) (base := base) T B__law_mixed ok__law_mixed B__law_take
  have ok__law_pairs := okf__law_pairs (P := l.prog) (w := w) (base := base) T B__law_take ok__law_take B__law_pairs
  have ok__law_marks := okf__law_marks (P := l.prog) (w := w) (base := base) T B__law_marks
  have ok__law_due := okf__law_due (P := l.prog) (w := w) (base := base) T B__law_marks ok__law_marks B__law_due
  have ok_check_pairs := okf_check_pairs (P := l.prog) (w := w) (base := base) T B_check_pairs
  have ok_word_of := okf_word_of (P := l.prog) (w := w) (base := base) T B_word_of
  have ok_joined_to := okf_joined_to (P := l.prog) (w := w) (base := base) T B_joined_to
  have ok_part_of := okf_part_of (P := l.prog) (w := w) (base := base) T B_joined_to ok_joined_to B_part_of
  have ok_parts := okf_parts (P := l.prog) (w := w) (base := base) T B_part_of ok_part_of B_parts
  have ok_words := okf_words (P := l.prog) (w := w) (base := base) T B_check_pairs ok_check_pairs B_word_of ok_word_of B_parts ok_parts B_words
  have ok__law_other := okf__law_other (P := l.prog) (w := w) (base := base) T B__law_take ok__law_take B__law_other
  have ok_is_on_ring := okf_is_on_ring (P := l.prog) (w := w) (base := base) T B_joined_to ok_joined_to B_is_on_ring
  have ok_on_rings := okf_on_rings (P := l.prog) (w := w) (base := base) T B_check_pairs ok_check_pairs B_is_on_ring ok_is_on_ring B_on_rings
  have ok_ways_of := okf_ways_of (P := l.prog) (w := w) (base := base) T B_word_of ok_word_of B_ways_of
  have ok_ways := okf_ways (P := l.prog) (w := w) (base := base) T B_on_rings ok_on_rings B_parts ok_parts B_ways_of ok_ways_of B_ways
  have ok__law_refused := okf__law_refused (P := l.prog) (w := w) (base := base) T B_words ok_words B_on_rings ok_on_rings B_ways ok_ways B__law_refused
  exact okf_law T B__law_pen ok__law_pen B__law_pairs ok__law_pairs B__law_due ok__law_due B_words ok_words B__law_other ok__law_other B__law_refused ok__law_refused B_law
theorem walk {l : PySem.W.OpenLaw} {q : Program} {loose : List Str} {XP : (Str → Option Value) → Heap → Prop} {YP : World → Heap → Prop} {d : DefRec} {K : Params → PySem.W.Frag} (hn : l.most = some 63) (hdf : d.params.defaults = [])
    (hY : ∀ (w : World) (h : Heap), YP w h → (K w.params).In h)
    (F : ∀ (w : World) (mg : Str → Option Value) (fa : Addr) (h : Heap), (K w.params).In h → h.Ns mainGlobals mg → mg d.name = some (.ref fa) →
      ∃ fd : FuncData, (∀ (s : Shared) (u : Value), BindsTo s fd ⟨[u], []⟩ [("_law_script", u)]) ∧ ∀ base : Heap, (K w.params).In base → base.Ns mainGlobals mg → FnOk l.prog w (K w.params) mg base CX0 6 fa fd ["_law_script"] (spM (K w.params) 1 F_law)) :
    PySem.W.WalkO q loose XP YP l.row.toRowW d [] (fun f vs => PySem.call f vs) :=
  L2.walk_of (n := 63) (k := 6) (x := "_law_script") (CX := fun _ => CX0) (sp := fun w => spM (K w.params) 1 F_law) hn (by decide) hdf ⟨rfl, by decide, by decide⟩ hY F (fun _ _ a ns hl hO hS => law_sp (law_true ns hl) hO hS) fun _ _ _ _ _ z => z
end P
open PySem PySem.W PyProof.Rows
set_option maxRecDepth 100000 in
set_option maxHeartbeats 0 in
theorem PySem.Challenge.cw_keynests_k33_words_of_parts_holds : PySem.Challenge.rw_keynests_k33_words_of_parts.Holds := by
  w_on; o_law; k_head; (case hw => w_witness2)
  k_fill
  refine P.walk (l := PySem.Challenge.rw_keynests_k33_words_of_parts) rfl rfl (fun w h Y => PySem.W.kIn_of Y) ?F
  case F =>
    intro w mg fa h KX G hmg
    refine' P.all_mk KX G hmg ?a0 ?l0 ?c0 ?k0 ?a1 ?l1 ?c1 ?k1 ?a2 ?l2 ?c2 ?k2 ?a3 ?l3 ?c3 ?k3 ?a4 ?l4 ?c4 ?k4 ?a5 ?l5 ?c5 ?k5 ?a6 ?l6 ?c6 ?k6 ?a7 ?l7 ?c7 ?k7 ?a8 ?l8 ?c8 ?k8 ?a9 ?l9 ?c9 ?k9 ?a10 ?l10 ?c10 ?k10 ?a11 ?l11 ?c11 ?k11 ?a12 ?l12 ?c12 ?k12 ?a13 ?l13 ?c13 ?k13 ?a14 ?l14 ?c14 ?k14 ?a15 ?l15 ?c15 ?k15 ?a16 ?l16 ?c16 ?k16 ?a17 ?l17 ?c17 ?k17 ?a18 ?l18 ?c18 ?k18 ?z_ValueError ?z_all ?z_any ?z_enumerate ?z_int ?z_isinstance ?z_len ?z_list ?z_min ?z_range ?z_sorted ?z_str ?z_tuple ?xa_NoPairs ?xk_NoPairs ?xa_Twice ?xk_Twice ?xa_NoText ?xk_NoText ?xa_NoRule ?xk_NoRule ?xa_NoRow ?xk_NoRow ?xa_NoPush ?xk_NoPush ?xa_NoKey ?xk_NoKey ?xa_NoFit ?xk_NoFit ?xa_Full ?xk_Full ?xa_NestError ?xk_NestError ?xe_NoPairs ?xm_NoPairs_NestError ?q1_NoPairs ?q2_NoPairs ?q7_NoPairs ?q8_NoPairs ?q3_NoPairs ?q6_NoPairs ?q4 ?q5 ?kq_None_Full ?kq_None_NoFit ?kq_None_NoKey ?kq_None_NoPush ?kq_None_NoRow ?kq_None_NoRule ?kq_None_NoText ?kq_None_Twice ?kq_None_NoPairs ?kq_None_ValueError ?kq_NoPairs_Full ?kq_NoPairs_NoFit ?kq_NoPairs_NoKey ?kq_NoPairs_NoPush ?kq_NoPairs_NoRow ?kq_NoPairs_NoRule ?kq_NoPairs_NoText ?kq_NoPairs_Twice ?kq_NoPairs_NoPairs ?kq_NoPairs_ValueError
    (case a0 => k_is)
    (case l0 => k_is)
    (case c0 => k_is)
    (case k0 => k_is)
    (case a1 => k_is)
    (case l1 => k_is)
    (case c1 => k_is)
    (case k1 => k_is)
    (case a2 => k_is)
    (case l2 => k_is)
    (case c2 => k_is)
    (case k2 => k_is)
    (case a3 => k_is)
    (case l3 => k_is)
    (case c3 => k_is)
    (case k3 => k_is)
    (case a4 => k_is)
    (case l4 => k_is)
    (case c4 => k_is)
    (case k4 => k_is)
    (case a5 => k_is)
    (case l5 => k_is)
    (case c5 => k_is)
    (case k5 => k_is)
    (case a6 => k_is)
    (case l6 => k_is)
    (case c6 => k_is)
    (case k6 => k_is)
    (case a7 => k_is)
    (case l7 => k_is)
    (case c7 => k_is)
    (case k7 => k_is)
    (case a8 => k_is)
    (case l8 => k_is)
    (case c8 => k_is)
    (case k8 => k_is)
    (case a9 => k_is)
    (case l9 => k_is)
    (case c9 => k_is)
    (case k9 => k_is)
    (case a10 => k_is)
    (case l10 => k_is)
    (case c10 => k_is)
    (case k10 => k_is)
    (case a11 => k_is)
    (case l11 => k_is)
    (case c11 => k_is)
    (case k11 => k_is)
    (case a12 => k_is)
    (case l12 => k_is)
    (case c12 => k_is)
    (case k12 => k_is)
    (case a13 => k_is)
    (case l13 => k_is)
    (case c13 => k_is)
    (case k13 => k_is)
    (case a14 => k_is)
    (case l14 => k_is)
    (case c14 => k_is)
    (case k14 => k_is)
    (case a15 => k_is)
    (case l15 => k_is)
    (case c15 => k_is)
    (case k15 => k_is)
    (case a16 => k_is)
    (case l16 => k_is)
    (case c16 => k_is)
    (case k16 => k_is)
    (case a17 => k_is)
    (case l17 => k_is)
    (case c17 => k_is)
    (case k17 => k_is)
    (case a18 => k_is)
    (case l18 => k_is)
    (case c18 => k_is)
    (case k18 => k_is)
    (case z_ValueError => k_is)
    (case z_all => k_is)
    (case z_any => k_is)
    (case z_enumerate => k_is)
    (case z_int => k_is)
    (case z_isinstance => k_is)
    (case z_len => k_is)
    (case z_list => k_is)
    (case z_min => k_is)
    (case z_range => k_is)
    (case z_sorted => k_is)
    (case z_str => k_is)
    (case z_tuple => k_is)
    (case xa_NoPairs => k_is)
    (case xk_NoPairs => kts_isx)
    (case xa_Twice => k_is)
    (case xk_Twice => kts_isx)
    (case xa_NoText => k_is)
    (case xk_NoText => kts_isx)
    (case xa_NoRule => k_is)
    (case xk_NoRule => kts_isx)
    (case xa_NoRow => k_is)
    (case xk_NoRow => kts_isx)
    (case xa_NoPush => k_is)
    (case xk_NoPush => kts_isx)
    (case xa_NoKey => k_is)
    (case xk_NoKey => kts_isx)
    (case xa_NoFit => k_is)
    (case xk_NoFit => kts_isx)
    (case xa_Full => k_is)
    (case xk_Full => kts_isx)
    (case xa_NestError => k_is)
    (case xk_NestError => kts_isx)
    (case xe_NoPairs => k_exc)
    (case xm_NoPairs_NestError => k_is)
    (case q1_NoPairs => k_is)
    (case q2_NoPairs => k_is)
    (case q7_NoPairs => k_is)
    (case q8_NoPairs => k_is)
    (case q3_NoPairs => k_is)
    (case q6_NoPairs => k_is)
    (case q4 => k_is)
    (case q5 => k_is)
    (case kq_None_Full => kit_is)
    (case kq_None_NoFit => kit_is)
    (case kq_None_NoKey => kit_is)
    (case kq_None_NoPush => kit_is)
    (case kq_None_NoRow => kit_is)
    (case kq_None_NoRule => kit_is)
    (case kq_None_NoText => kit_is)
    (case kq_None_Twice => kit_is)
    (case kq_None_NoPairs => kit_is)
    (case kq_None_ValueError => kit_is)
    (case kq_NoPairs_Full => kit_is)
    (case kq_NoPairs_NoFit => kit_is)
    (case kq_NoPairs_NoKey => kit_is)
    (case kq_NoPairs_NoPush => kit_is)
    (case kq_NoPairs_NoRow => kit_is)
    (case kq_NoPairs_NoRule => kit_is)
    (case kq_NoPairs_NoText => kit_is)
    (case kq_NoPairs_Twice => kit_is)
    (case kq_NoPairs_NoPairs => kit_is)
    (case kq_NoPairs_ValueError => kit_is)
