import PyProof.Rows.All
import Wide.All
import OpenK.AllK
import Wide.FinOn
import Lean
import PyProof.EqAt
import PyProof.EqKinds
import PyProof.TupleCall
import OpenK.KRaise
import PySem.SetOps
import PyProof.SetKind
import PyProof.DictStraight
import PyProof.CollectWalk
import PyProof.Seq
import PyProof.Walks
import PyProof.FactsAll.set
import PyProof.Rows.SortShell
import PyProof.Rows.SortWalk
import PyProof.Rows.SetFrom
import PyProof.SumAny
import PyProof.InstSpecial
import PyProof.InstStoreFacts
import PyProof.ListRange
import PyProof.EnumMake
import KE.KDictList
import KE.KRevIter
import KE.BitLaws
import PyProof.Rows.MinMaxN
import PySem.Challenge.RW_keynests_k24_rows_pushed
set_option Elab.async false
set_option linter.all false
set_option maxRecDepth 100000
namespace L2
open PySem PySem.Spec PyProof.Rows
noncomputable abbrev Key := Sum Int Str
noncomputable def keyIs : Key → Value → Bool
  | .inl k, v => Value.isInt k v
  | .inr x, v => Value.isStrOf x v
noncomputable def keyH (w : World) : Key → Int
  | .inl k => hashInt k
  | .inr x => hashStr w x
theorem keyIs_shape : ∀ {k : Key} {v : Value}, keyIs k v = true → (∃ i t, k = Sum.inl i ∧ v = Value.int i t) ∨ (∃ x t, k = Sum.inr x ∧ v = Value.str x t)
  | .inl i, v, h => by
    obtain ⟨t, e⟩ := Value.isInt_shape (k := i) (v := v) h
    exact .inl ⟨i, t, rfl, e⟩
  | .inr x, v, h => by
    obtain ⟨t, e⟩ := Value.isStrOf_shape (x := x) (v := v) h
    exact .inr ⟨x, t, rfl, e⟩
theorem key_ll (a b : Int) : decide ((Sum.inl a : Key) = Sum.inl b) = (a == b) := by
  by_cases e : a = b
  · subst e; simp
  · have h : ¬ (Sum.inl a : Key) = Sum.inl b := fun q => e (Sum.inl.inj q)
    rw [decide_eq_false h]
    exact (beq_eq_false_iff_ne.mpr e).symm
theorem key_rr (a b : Str) : decide ((Sum.inr a : Key) = Sum.inr b) = decide (a = b) := by
  by_cases e : a = b
  · subst e; simp
  · have h : ¬ (Sum.inr a : Key) = Sum.inr b := fun q => e (Sum.inr.inj q)
    rw [decide_eq_false h, decide_eq_false e]
theorem key_lr (a : Int) (b : Str) : decide ((Sum.inl a : Key) = Sum.inr b) = false := decide_eq_false (fun q => nomatch q)
theorem key_rl (a : Str) (b : Int) : decide ((Sum.inr a : Key) = Sum.inl b) = false := decide_eq_false (fun q => nomatch q)
noncomputable def mixKind (prog : Program) (w : World) : PySem.KeyKind prog w Key where
  is := keyIs
  hash := keyH w
  inj := fun v a b ha hb => by
    rcases keyIs_shape ha with ⟨i, t, rfl, rfl⟩ | ⟨x, t, rfl, rfl⟩
    · rcases keyIs_shape hb with ⟨j, u, rfl, e⟩ | ⟨y, u, rfl, e⟩
      · injection e with e1 _; rw [e1]
      · exact nomatch e
    · rcases keyIs_shape hb with ⟨j, u, rfl, e⟩ | ⟨y, u, rfl, e⟩
      · exact nomatch e
      · injection e with e1 _; rw [e1]
  byValue := fun k v h => by
    rcases keyIs_shape h with ⟨i, t, rfl, rfl⟩ | ⟨x, t, rfl, rfl⟩ <;> rfl
  pyHash := fun hv h => by
    rcases keyIs_shape hv with ⟨i, t, rfl, rfl⟩ | ⟨x, t, rfl, rfl⟩
    · exact wpAny_pyHash_int h
    · exact wpAny_pyHash_str h
  eqBool := fun hu hv h => by
    rcases keyIs_shape hu with ⟨i, t, rfl, rfl⟩ | ⟨x, t, rfl, rfl⟩
    · rcases keyIs_shape hv with ⟨j, u, rfl, rfl⟩ | ⟨y, u, rfl, rfl⟩
      · rw [key_ll] at h; exact wpAny_eqBool_int h
      · rw [key_lr] at h; exact SeqAt.EqAt.int_str i t y u _ _ _ _ h
    · rcases keyIs_shape hv with ⟨j, u, rfl, rfl⟩ | ⟨y, u, rfl, rfl⟩
      · rw [key_rl] at h; exact SeqAt.EqAt.str_int x t j u _ _ _ _ h
      · rw [key_rr] at h; exact wpAny_eqBool_str h
  «strs» := fun k x t v h => by
    rcases keyIs_shape h with ⟨i, u, rfl, e⟩ | ⟨y, u, rfl, e⟩
    · exact nomatch e
    · injection e with e1 _
      subst e1
      cases v <;> rfl
end L2
namespace L2
open PySem PySem.Spec PyProof.Rows
inductive V where
  | non | bl (b : Bool) | int (i : Int) | str (x : Str) | byt (b : Array UInt8) | flt (b : UInt64) | ref (a : Addr) | ty (n : String)
  deriving DecidableEq
noncomputable def RelV : V → Value → Prop
  | .non, u => u = Value.none
  | .bl b, u => u = Value.bool b
  | .int i, u => ∃ t, u = Value.int i t
  | .str x, u => ∃ t, u = Value.str x t
  | .byt b, u => ∃ t, u = Value.bytes b t
  | .flt b, u => ∃ t, u = Value.float b t
  | .ref a, u => u = Value.ref a
  | .ty n, u => u = Value.type n
noncomputable abbrev Vals : List V → List Value → Prop := Paired RelV
theorem Vals.length {xs : List V} {us : List Value} (r : Vals xs us) : xs.length = us.length := Paired.length r
theorem Vals.get : ∀ {xs : List V} {us : List Value} {i : Nat} {x : V}, Vals xs us → xs[i]? = some x → ∃ u, us[i]? = some u ∧ RelV x u
  | _, _, _, _, .nil, e => by simp at e
  | _, _, 0, _, .cons r _, e => by simp at e; subst e; exact ⟨_, rfl, r⟩
  | _, _, i + 1, x, .cons _ t, e => by
    obtain ⟨u, h1, h2⟩ := Vals.get (i := i) (x := x) t (by simpa using e)
    exact ⟨u, by simpa using h1, h2⟩
theorem Vals.set {x : V} {u : Value} (r : RelV x u) : ∀ {xs : List V} {us : List Value} (i : Nat), Vals xs us → Vals (xs.set i x) (us.set i u)
  | _, _, _, .nil => .nil
  | _, _, 0, .cons _ t => .cons r t
  | _, _, i + 1, .cons q t => .cons q (Vals.set r i t)
theorem Vals.append : ∀ {xs ys : List V} {us ws : List Value}, Vals xs us → Vals ys ws → Vals (xs ++ ys) (us ++ ws)
  | _, _, _, _, .nil, s => s
  | _, _, _, _, .cons r t, s => .cons r (Vals.append t s)
theorem Vals.take : ∀ {xs : List V} {us : List Value} (n : Nat), Vals xs us → Vals (xs.take n) (us.take n)
  | _, _, 0, _ => .nil
  | _, _, _ + 1, .nil => .nil
  | _, _, n + 1, .cons r t => .cons r (Vals.take n t)
theorem Vals.drop : ∀ {xs : List V} {us : List Value} (n : Nat), Vals xs us → Vals (xs.drop n) (us.drop n)
  | _, _, 0, r => r
  | _, _, _ + 1, .nil => .nil
  | _, _, n + 1, .cons _ t => Vals.drop n t
noncomputable def RelO : Option V → Option Value → Prop
  | some v, some u => RelV v u
  | none, none => True
  | _, _ => False
noncomputable def KV {κ : Type} : List (κ × V) → List (κ × Value) → Prop := Paired fun (p : κ × V) (q : κ × Value) => p.1 = q.1 ∧ RelV p.2 q.2
noncomputable def kV : Key → V
  | .inl i => .int i
  | .inr x => .str x
inductive HO where
    | lst (xs : List V)
    | tup (xs : List V)
    | dK (kvs : List (Key × V)) | dT (kvs : List (List Key × V))
    | set (S : Int → Bool) (n : Nat)
    | ins (C dx : Addr) (fs : List (Str × V))
    | own (x : Addr)
    | xd (fs : List (Str × V))
    | met (f x : Addr)
    | rng (lo hi : Int)
    | frz (o : Obj) (u : HO)
    | tbl (ps : Array Value)
    | ext (φ : Heap → Prop)
noncomputable abbrev Hp := Addr → Option HO
noncomputable def upd (H : Hp) (a : Addr) (o : HO) : Hp := fun b => if b = a then some o else H b
theorem upd_same {H : Hp} {a : Addr} {o : HO} : upd H a o a = some o := by unfold upd; rw [if_pos rfl]
theorem upd_ne {H : Hp} {a b : Addr} {o : HO} (h : b ≠ a) : upd H a o b = H b := by unfold upd; rw [if_neg h]
theorem ne_of_none {H : Hp} {a b : Addr} {o : HO} (h : H a = some o) (h' : H b = none) : a ≠ b := by
  intro e; subst e; rw [h] at h'; cases h'
section
variable (P : Program) (w : World)
noncomputable def ObjOk (H : Hp) (h : Heap) (a : Addr) : HO → Prop
  | .lst xs => xs.length ≤ sizeLine ∧ ∃ (its : List Value) (n : Nat), Vals xs its ∧ h.get? a = some { cls := .type "list", data := .seq its.toArray n }
  | .tup xs => xs.length ≤ sizeLine ∧ ∃ its : List Value, Vals xs its ∧ IsTup h a its.toArray
  | .dK kvs => kvs.length ≤ sizeLine ∧ (a == sysModules) = false ∧ ∃ vs, KV kvs vs ∧ h.DictOf (mixKind P w) a vs
  | .dT kvs => kvs.length ≤ sizeLine ∧ (a == sysModules) = false ∧ ∃ xs : List (List Key × Addr × Value),
      Paired (fun (p : List Key × V) (q : List Key × Addr × Value) => p.1 = q.1 ∧ H q.2.1 = some (.tup (p.1.map kV)) ∧ RelV p.2 q.2.2) kvs xs ∧
      ∃ o es ep, h.get? a = some o ∧ o.ExactDict ∧ o.data = .dict es ep ∧ es.toList = xs.map (entryOfKey (tupleKind (mixKind P w))) ∧ (xs.map (·.1)).Nodup
  | .set S n => h.SetOf (intKind P w) a S n
  | .ins C dx fs => H dx = some (.own a) ∧ fs.length ≤ 1000 ∧ dx ≠ a ∧ h.get? a = some (PySem.W.instObj C dx) ∧
      ∃ mA, h.Ns1 dx mA ∧ (∀ f, RelO (fs.lookup f) (mA f)) ∧ PySem.Within mA (fs.map (·.1))
  | .own _ => ∃ o, h.get? a = some o
  | .xd fs => ∃ mA, h.Ns1 a mA ∧ ∀ f, RelO (fs.lookup f) (mA f)
  | .rng lo hi => ∃ t u v, h.get? a = some { cls := .type "range", data := .fields #[.int lo t, .int hi u, .int 1 v] }
  | .frz o u => h.get? a = some o ∧ ObjOk H h a u
  | .tbl ps => h.get? a = some { cls := .none, data := .fields ps }
  | .met f x => h.get? a = some (PySem.W.methodObj (.ref f) (.ref x))
  | .ext φ => φ h ∧ (∃ o, h.get? a = some o) ∧ ∀ h1 h2 : Heap, φ h1 → (∀ o, h1.get? a = some o → h2.get? a = some o) → φ h2
noncomputable def HOk (H : Hp) (h : Heap) : Prop := ∀ a o, H a = some o → ObjOk P w H h a o
end
section
variable {P : Program} {w : World} {H H' : Hp} {h h' : Heap} {a : Addr} {o : HO}
theorem ObjOk.lt (x : ObjOk P w H h a o) : a < h.objs.size := by
  cases o with
  | lst xs => obtain ⟨_, _, _, _, e⟩ := x; exact Heap.lt_size e
  | tup xs => obtain ⟨_, _, _, p⟩ := x; exact p.lt
  | dK kvs => obtain ⟨_, _, _, _, o, _, _, e, _⟩ := x; exact Heap.lt_size e
  | dT kvs => obtain ⟨_, _, _, _, o, _, _, e, _⟩ := x; exact Heap.lt_size e
  | set S n => obtain ⟨o, _, _, _, e, _⟩ := x; exact Heap.lt_size e
  | ins C dx fs => obtain ⟨_, _, _, e, _⟩ := x; exact Heap.lt_size e
  | own y => obtain ⟨_, e⟩ := x; exact Heap.lt_size e
  | xd fs => obtain ⟨_, ⟨_, _, _, e, _⟩, _⟩ := x; exact Heap.lt_size e
  | rng lo hi => obtain ⟨_, _, _, e⟩ := x; exact Heap.lt_size e
  | frz ob u => obtain ⟨e, _⟩ := x; exact Heap.lt_size e
  | tbl ps => exact Heap.lt_size (show h.get? a = some _ from x)
  | met f y => exact Heap.lt_size (show h.get? a = some _ from x)
  | ext φ => obtain ⟨_, ⟨_, e⟩, _⟩ := x; exact Heap.lt_size e
theorem Paired.mapP {α β : Type} {F G : α → β → Prop} : ∀ {l₁ : List α} {l₂ : List β}, Paired F l₁ l₂ → (∀ a b, F a b → G a b) → Paired G l₁ l₂
  | _, _, .nil, _ => .nil
  | _, _, .cons r t, f => .cons (f _ _ r) (Paired.mapP t f)
theorem ObjOk.stay (x : ObjOk P w H h a o) (k : ∀ b u, (b = a ∨ H b = some (.own a)) → h.get? b = some u → h'.get? b = some u)
    (ho : ∀ b, H b = some (.own a) → H' b = some (.own a)) (ht : ∀ b xs, H b = some (.tup xs) → H' b = some (.tup xs)) : ObjOk P w H' h' a o := by
  induction o with
  | lst xs => obtain ⟨z, its, n, r, e⟩ := x; exact ⟨z, its, n, r, k _ _ (.inl rfl) e⟩
  | tup xs => obtain ⟨z, its, r, ob, e, c⟩ := x; exact ⟨z, its, r, ob, k _ _ (.inl rfl) e, c⟩
  | dK kvs => obtain ⟨z, y, vs, r, ob, es, ep, e, c⟩ := x; exact ⟨z, y, vs, r, ob, es, ep, k _ _ (.inl rfl) e, c⟩
  | dT kvs =>
    obtain ⟨z, y, xs, r, ob, es, ep, e, c⟩ := x
    exact ⟨z, y, xs, Paired.mapP r fun p q z => ⟨z.1, ht _ _ z.2.1, z.2.2⟩, ob, es, ep, k _ _ (.inl rfl) e, c⟩
  | set S n => obtain ⟨ob, es, ep, t, e, c⟩ := x; exact ⟨ob, es, ep, t, k _ _ (.inl rfl) e, c⟩
  | ins C dx fs =>
    obtain ⟨d, z, ne, e, mA, ⟨od, es, ep, e2, c⟩, r⟩ := x
    exact ⟨ho _ d, z, ne, k _ _ (.inl rfl) e, mA, ⟨od, es, ep, k _ _ (.inr d) e2, c⟩, r⟩
  | own y => obtain ⟨ob, e⟩ := x; exact ⟨ob, k _ _ (.inl rfl) e⟩
  | xd fs => obtain ⟨mA, ⟨od, es, ep, e, c⟩, r⟩ := x; exact ⟨mA, ⟨od, es, ep, k _ _ (.inl rfl) e, c⟩, r⟩
  | rng lo hi => obtain ⟨t, u, v, e⟩ := x; exact ⟨t, u, v, k _ _ (.inl rfl) e⟩
  | frz ob u ih => obtain ⟨e, q⟩ := x; exact ⟨k _ _ (.inl rfl) e, ih q⟩
  | tbl ps =>
    have e : h.get? a = some { cls := .none, data := .fields ps } := x
    show h'.get? a = some { cls := .none, data := .fields ps }
    exact k a _ (.inl rfl) e
  | met f y =>
    have e : h.get? a = some (PySem.W.methodObj (.ref f) (.ref y)) := x
    show h'.get? a = some (PySem.W.methodObj (.ref f) (.ref y))
    exact k a _ (.inl rfl) e
  | ext φ => obtain ⟨p, ⟨o, e⟩, st⟩ := x; exact ⟨st _ _ p fun o q => k _ _ (.inl rfl) q, ⟨o, k _ _ (.inl rfl) e⟩, st⟩
theorem HOk.lt (x : HOk P w H h) (e : H a = some o) : a < h.objs.size := (x a o e).lt
theorem HOk.fresh (x : HOk P w H h) (e : h.objs.size ≤ a) : H a = none := by
  cases q : H a with
  | none => rfl
  | some u => exact absurd (Nat.lt_of_lt_of_le (x.lt q) e) (Nat.lt_irrefl _)
theorem HOk.kept (x : HOk P w H h) (k : ∀ b u, h.get? b = some u → h'.get? b = some u) : HOk P w H h' := fun a o e =>
  (x a o e).stay (fun b u _ q => k b u q) (fun _ q => q) fun _ _ q => q
theorem HOk.laid (x : HOk P w H h) (k : ∀ b u, h.get? b = some u → h'.get? b = some u) (hp : h.objs.size ≤ a) (new : ObjOk P w (upd H a o) h' a o) : HOk P w (upd H a o) h' := fun b u e => by
  have hn := x.fresh hp
  by_cases hb : b = a
  · subst hb; rw [upd_same] at e; cases e; exact new
  · rw [upd_ne hb] at e
    exact (x b u e).stay (fun c v _ q => k c v q) (fun c q => by rw [upd_ne (ne_of_none q hn)]; exact q) fun c xs q => by rw [upd_ne (ne_of_none q hn)]; exact q
end
noncomputable def Rd (H : Hp) (a : Addr) (u : HO) : Prop := H a = some u ∨ ∃ o, H a = some (.frz o u)
theorem Rd.ok {P : Program} {w : World} {H : Hp} {h : Heap} {a : Addr} {u : HO} (r : Rd H a u) (x : HOk P w H h) : ObjOk P w H h a u := by
  rcases r with r | ⟨o, r⟩
  · exact x a u r
  · obtain ⟨_, q⟩ := x a _ r
    exact q
noncomputable def Mut : Option HO → Prop
  | some (.lst _) => True
  | some (.dK _) => True
  | some (.dT _) => True
  | some (.set _ _) => True
  | some (.ins _ _ _) => True
  | some (.ext _) => True
  | _ => False
section
variable {P : Program} {w : World} {H : Hp} {h h' : Heap} {x e : Addr} {o' : HO}
theorem HOk.write (ok : HOk P w H h) (mu : Mut (H x)) (he : e = x ∨ H e = some (.own x)) (k : ∀ b u, b ≠ e → h.get? b = some u → h'.get? b = some u) (heo : ∃ u, h'.get? e = some u)
    (new : ObjOk P w (upd H x o') h' x o') : HOk P w (upd H x o') h' := fun b u q => by
  have nown : ∀ c y, H c = some (.own y) → c ≠ x := fun c y r z => by subst z; rw [r] at mu; exact mu
  have ntup : ∀ c xs, H c = some (.tup xs) → c ≠ x := fun c xs r z => by subst z; rw [r] at mu; exact mu
  by_cases hb : b = x
  · subst hb; rw [upd_same] at q; cases q; exact new
  · rw [upd_ne hb] at q
    by_cases hbe : b = e
    · have q' : H b = some (.own x) := by
        rcases he with z | z
        · exact absurd (hbe.trans z) hb
        · rw [hbe]; exact z
      rw [q] at q'; cases q'
      obtain ⟨v, hv⟩ := heo
      exact ⟨v, by rw [hbe]; exact hv⟩
    · refine (ok b u q).stay (fun c v hc r => k c v ?_ r) (fun c r => by rw [upd_ne (nown c b r)]; exact r) fun c xs r => by rw [upd_ne (ntup c xs r)]; exact r
      rcases hc with rfl | hc
      · exact hbe
      · rintro rfl
        rcases he with z | z
        · exact nown c b hc z
        · rw [hc] at z; cases z; exact hb rfl
end
structure Un (fs ex : List Addr) (H H' : Hp) (h h' : Heap) : Prop where
  keep : ∀ b o, h.get? b = some o → H b = none → b ∉ fs → b ∉ ex → h'.get? b = some o
  slot : ∀ b o, h.get? b = some o → H b = none → b ∈ fs → b ∉ ex → ∃ sl, h'.get? b = some { o with slots := sl }
  free : ∀ b o, h.get? b = some o → H b = none → b ∉ ex → H' b = none
  there : ∀ b o, h.get? b = some o → b ∉ ex → ∃ o', h'.get? b = some o'
  tups : ∀ b xs, H b = some (.tup xs) → H' b = some (.tup xs)
  frzs : ∀ b o u, H b = some (.frz o u) → H' b = some (.frz o u)
  tbls : ∀ b ps, H b = some (.tbl ps) → ∃ more, H' b = some (.tbl (ps ++ more))
section
variable {fs fs' ex ex' : List Addr} {H H1 H2 : Hp} {h h1 h2 h' : Heap} {a x e : Addr} {o : HO}
theorem Un.any (u : Un fs ex H H1 h h1) {b : Addr} {ob : Obj} (q : h.get? b = some ob) (n : H b = none) (hx : b ∉ ex) : ∃ sl, h1.get? b = some { ob with slots := sl } := by
  by_cases hb : b ∈ fs
  · exact u.slot b ob q n hb hx
  · exact ⟨ob.slots, u.keep b ob q n hb hx⟩
theorem Un.trans (a : Un fs ex H H1 h h1) (b : Un fs ex H1 H2 h1 h2) : Un fs ex H H2 h h2 where
  keep := fun c ob q n hc hx => b.keep c ob (a.keep c ob q n hc hx) (a.free c ob q n hx) hc hx
  slot := fun c ob q n hc hx => by
    obtain ⟨sl, e1⟩ := a.slot c ob q n hc hx
    obtain ⟨sl', e2⟩ := b.slot c _ e1 (a.free c ob q n hx) hc hx
    exact ⟨sl', e2⟩
  free := fun c ob q n hx => by
    obtain ⟨o', e1⟩ := a.there c ob q hx
    exact b.free c o' e1 (a.free c ob q n hx) hx
  there := fun c ob q hx => by
    obtain ⟨o', e1⟩ := a.there c ob q hx
    exact b.there c o' e1 hx
  tups := fun c xs q => b.tups c xs (a.tups c xs q)
  frzs := fun c ob xs q => b.frzs c ob xs (a.frzs c ob xs q)
  tbls := fun c ps q => by
    obtain ⟨m1, e1⟩ := a.tbls c ps q
    obtain ⟨m2, e2⟩ := b.tbls c _ e1
    exact ⟨m1 ++ m2, by rw [e2, Array.append_assoc]⟩
theorem Un.kept (k : ∀ b u, h.get? b = some u → h'.get? b = some u) : Un fs ex H H h h' :=
  ⟨fun b ob q _ _ _ => k b ob q, fun b ob q _ _ _ => ⟨ob.slots, k b ob q⟩, fun _ _ _ n _ => n, fun b ob q _ => ⟨ob, k b ob q⟩, fun _ _ q => q, fun _ _ _ q => q, fun _ ps q => ⟨#[], by rw [q]; simp⟩⟩
theorem Un.refl : Un fs ex H H h h := Un.kept fun _ _ q => q
theorem Un.laid (k : ∀ b u, h.get? b = some u → h'.get? b = some u) (hp : h.objs.size ≤ a) (hn : H a = none) : Un fs ex H (upd H a o) h h' where
  keep := fun b u q _ _ _ => k b u q
  slot := fun b u q _ _ _ => ⟨u.slots, k b u q⟩
  free := fun b u q n _ => by rw [upd_ne (Nat.ne_of_lt (Nat.lt_of_lt_of_le (Heap.lt_size q) hp))]; exact n
  there := fun b u q _ => ⟨u, k b u q⟩
  tups := fun b xs q => by rw [upd_ne (ne_of_none q hn)]; exact q
  frzs := fun b u xs q => by rw [upd_ne (ne_of_none q hn)]; exact q
  tbls := fun b ps q => ⟨#[], by rw [upd_ne (ne_of_none q hn), q]; simp⟩
theorem Un.write (mu : Mut (H x)) (he : e = x ∨ H e = some (.own x)) (k : ∀ b u, b ≠ e → h.get? b = some u → h'.get? b = some u) (heo : ∃ u, h'.get? e = some u) : Un fs ex H (upd H x o) h h' := by
  have hx : ∀ b, H b = none → b ≠ x := fun b n z => by subst z; rw [n] at mu; exact mu
  have hb : ∀ b, H b = none → b ≠ e := fun b n z => by
    subst z
    rcases he with r | r
    · exact hx b n r
    · rw [n] at r; cases r
  have hm : ∀ b u, H b = some u → ¬ Mut (some u) → b ≠ x := fun b u q nm z => by subst z; rw [q] at mu; exact nm mu
  refine ⟨fun b u q n _ _ => k b u (hb b n) q, fun b u q n _ _ => ⟨u.slots, k b u (hb b n) q⟩, fun b u q n _ => by rw [upd_ne (hx b n)]; exact n, fun b u q _ => ?_,
    fun b xs q => by rw [upd_ne (hm b _ q fun z => z)]; exact q, fun b u xs q => by rw [upd_ne (hm b _ q fun z => z)]; exact q, fun b ps q => ⟨#[], by rw [upd_ne (hm b _ q fun z => z), q]; simp⟩⟩
  by_cases hbe : b = e
  · subst hbe; exact heo
  · exact ⟨u, k b u hbe q⟩
end
noncomputable def trk (h : Heap) (H : Hp) : List Addr := (List.range h.objs.size).filter fun a => (H a).isSome
noncomputable def hidT (h : Heap) (H : Hp) : Heap := PySem.W.hideAll h (trk h H)
theorem hidT_size (h : Heap) (H : Hp) : (hidT h H).objs.size = h.objs.size := PySem.W.hideAll_size _ _
theorem hidT_get {h : Heap} {H : Hp} {b : Addr} {o : Obj} (e : h.get? b = some o) (n : H b = none) : (hidT h H).get? b = some o :=
  PySem.W.hideAll_get _ e fun hm => by
    have q : (H b).isSome = true := (List.mem_filter.mp hm).2
    rw [n] at q; simp at q
theorem of_hidT {h : Heap} {H : Hp} {b : Addr} {o : Obj} (e : (hidT h H).get? b = some o) : h.get? b = some o ∧ H b = none := by
  have e' : h.get? b = some o := PySem.W.of_hideAll (trk h H) e
  refine ⟨e', ?_⟩
  cases q : H b with
  | none => rfl
  | some x =>
    have hm : b ∈ trk h H := List.mem_filter.mpr ⟨List.mem_range.mpr (Heap.lt_size e'), by simp [q]⟩
    have z : (hidT h H).get? b = none := PySem.W.hideAll_none (trk h H) hm
    rw [z] at e; cases e
noncomputable def allNews (g h : Heap) (L : Addr) : List (Addr × Obj) := (List.range h.objs.size).filterMap fun a => if a = L ∨ (g.get? a).isSome = true then none else (h.get? a).map fun o => (a, o)
noncomputable def rest (g h : Heap) (L d : Addr) : List (Addr × Obj) := (allNews g h L).filter fun p => decide (p.1 ≠ d)
end L2
namespace L2
open PySem PySem.Spec PyProof.Rows
structure Mod (K : PySem.W.Frag) (mg : Str → Option Value) (base : Heap) : Prop where
  kin : K.In base
  glob : base.Ns mainGlobals mg
  blt : ∃ mb, base.Ns builtinsNs mb ∧ ∀ x : Str, x ≠ "__name__" → mb x = bootBuiltins x
  nolimit : base.NoLimit
structure Cx where
  prog : Program
  w : World
  K : PySem.W.Frag
  mg : Str → Option Value
  base : Heap
  A : Around
  N : List Str
  s₀ : Shared
  H₀ : Hp
  env : Env
  outer : List Env
  stack : List Env
  ex : List Addr
  fn : Str → Bool
  calm : Bool
  pn : List (Addr × Obj)
  xe : Value → Shared → Prop
noncomputable def frs (l : List Env) : List Addr := l.filterMap (·.frame)
noncomputable abbrev Cx.fs (X : Cx) : List Addr := frs X.outer
noncomputable def Vis (sc : Scope) (x : Str) : Prop := sc.names.lookup x = some .local ∨ sc.names.lookup x = some .cell ∨ sc.names.lookup x = some .free
noncomputable def Loc (sc : Scope) (x : Str) : Prop := sc.names.lookup x = some .local ∨ sc.names.lookup x = some .cell
noncomputable def Look (env : Env) (h : Heap) (m : Str → Option Value) (x : Str) (u : Value) : Prop :=
  (env.kindOf x = some .local ∧ m x = some u) ∨ ((env.kindOf x = some .cell ∨ env.kindOf x = some .free) ∧ ∃ c, env.cells.lookup x = some c ∧ h.IsCell c (some u))
structure Cx.Ok (X : Cx) : Prop where
  mod : Mod X.K X.mg X.base
  kind : X.env.scope.kind = .function
  glob : X.env.globals = mainGlobals
  blt : X.env.builtins = builtinsNs
  above : X.s₀.heap.objs.size ≤ X.env.locals
  inj : ∀ x y c, X.env.cells.lookup x = some c → X.env.cells.lookup y = some c → x = y
  has : ∀ x, (X.env.kindOf x = some .cell ∨ X.env.kindOf x = some .free) → ∃ c, X.env.cells.lookup x = some c
  cab : ∀ x c, X.fn x = true → X.env.cells.lookup x = some c → X.s₀.heap.objs.size ≤ c
  hd : X.calm = true → X.A.handled = none
  frames : X.A.frames = some X.stack
  stk : X.stack = X.outer ∨ (X.stack = X.env :: X.outer ∧ X.env.frame = some X.env.locals)
  exf : ∀ b ∈ X.ex, b ≠ X.env.locals ∧ ∀ x c, X.env.cells.lookup x = some c → c ≠ b
  bs : ∀ b o, X.base.get? b = some o → X.s₀.heap.get? b = some o ∧ X.H₀ b = none
  bsz : X.base.objs.size ≤ X.s₀.heap.objs.size
  noex : ∀ b o, X.base.get? b = some o → b ∉ X.ex
  exfs : ∀ b ∈ X.ex, b ∉ X.fs
  funs : X.s₀.heap.FunFrames X.base X.outer
  frf : ∀ b ∈ X.fs, X.H₀ b = none
structure Inv (X : Cx) (pins : List (Addr × Obj)) (σ : List (Option V)) (H : Hp) (s : Shared) : Prop where
  ok : X.Ok
  os : s.os = X.s₀.os
  bare : AllBare s.gens
  base : Un X.fs X.ex X.H₀ H X.s₀.heap s.heap
  loc : ∃ m, s.heap.Ns X.env.locals m ∧ ∀ (i : Nat) (x : Str) (v : V), X.N[i]? = some x → σ[i]? = some (some v) → Vis X.env.scope x → ∃ u, RelV v u ∧ Look X.env s.heap m x u
  cell : ∀ x c, X.env.cells.lookup x = some c → ∃ v, s.heap.IsCell c v
  free : H X.env.locals = none
  freeC : ∀ x c, X.env.cells.lookup x = some c → H c = none
  pin : ∀ p ∈ X.pn ++ pins, s.heap.get? p.1 = some p.2 ∧ H p.1 = none ∧ p.1 ≠ X.env.locals ∧ p.1 ∉ X.fs ∧ ∀ v, p.2.data ≠ .cell v
  hok : HOk X.prog X.w H s.heap
  len : σ.length = X.N.length
section
variable {X : Cx} {pins : List (Addr × Obj)} {σ : List (Option V)} {H H' : Hp} {s : Shared} {h' : Heap}
theorem Cx.Ok.nofr (ok : X.Ok) {b : Addr} {o : Obj} (e : X.base.get? b = some o) : b ∉ X.fs := fun hb => by
  have := (ok.funs.mem hb).1
  rw [e] at this; cases this
theorem Inv.bs (I : Inv X pins σ H s) : ∀ b o, X.base.get? b = some o → s.heap.get? b = some o ∧ H b = none := fun b o e =>
  ⟨I.base.keep b o (I.ok.bs b o e).1 (I.ok.bs b o e).2 (I.ok.nofr e) (I.ok.noex b o e), I.base.free b o (I.ok.bs b o e).1 (I.ok.bs b o e).2 (I.ok.noex b o e)⟩
theorem Inv.bk (I : Inv X pins σ H s) : ∀ b o, X.base.get? b = some o → s.heap.get? b = some o := fun b o e => (I.bs b o e).1
theorem Inv.mod (I : Inv X pins σ H s) : Mod X.K X.mg X.base := I.ok.mod
theorem Inv.kIn (I : Inv X pins σ H s) : X.K.In s.heap := I.ok.mod.kin.keeps I.bk
theorem Inv.fr (I : Inv X pins σ H s) : ∃ m, Fr X.base X.env.locals s.heap m :=
  let ⟨m, hn, _⟩ := I.loc
  ⟨m, hn, I.bk, Nat.le_trans I.ok.bsz I.ok.above⟩
theorem Inv.lt (I : Inv X pins σ H s) : X.env.locals < s.heap.objs.size := let ⟨_, hn, _⟩ := I.loc; hn.lt
theorem Inv.sz (I : Inv X pins σ H s) : X.s₀.heap.objs.size ≤ s.heap.objs.size := Nat.le_trans I.ok.above (Nat.le_of_lt I.lt)
theorem Inv.nofs (I : Inv X pins σ H s) {a : Addr} (h : s.heap.objs.size ≤ a) : a ∉ X.fs := fun hb => by
  obtain ⟨_, o, ho, _⟩ := I.ok.funs.mem hb
  exact absurd (Nat.lt_of_lt_of_le (Heap.lt_size ho) (Nat.le_trans I.sz h)) (Nat.lt_irrefl _)
theorem Inv.cne (I : Inv X pins σ H s) : ∀ x c, X.env.cells.lookup x = some c → c ≠ X.env.locals := fun x c e z => by
  obtain ⟨v, o, ho, hd⟩ := I.cell x c e
  obtain ⟨m, ⟨o', es, ep, ho', hd', _⟩, _⟩ := I.loc
  rw [z, ho'] at ho; cases ho; rw [hd'] at hd; cases hd
theorem Inv.funs (I : Inv X pins σ H s) : s.heap.FunFrames X.base X.outer := by
  have all : ∀ (l : List Env), (∀ b ∈ frs l, b ∈ X.fs) → X.s₀.heap.FunFrames X.base l → s.heap.FunFrames X.base l := by
    intro l
    induction l with
    | nil => intro _ _; trivial
    | cons env r ih =>
      intro hs hl
      obtain ⟨hk, ⟨L, o, hf, hn, ho, hd⟩, hr⟩ := hl
      have hL : L ∈ X.fs := hs L (by unfold frs; rw [List.filterMap_cons, hf]; exact List.mem_cons_self)
      obtain ⟨sl, e⟩ := I.base.slot L o ho (I.ok.frf L hL) hL fun z => I.ok.exfs L z hL
      exact ⟨hk, ⟨L, _, hf, hn, e, hd⟩, ih (fun b hb => hs b (by unfold frs; rw [List.filterMap_cons, hf]; exact List.mem_cons_of_mem _ hb)) hr⟩
  exact all X.outer (fun _ hb => hb) I.ok.funs
theorem Inv.stack (I : Inv X pins σ H s) : s.heap.FunFrames X.base X.stack := by
  rcases I.ok.stk with e | ⟨e, hf⟩
  · rw [e]; exact I.funs
  · rw [e]
    obtain ⟨m, hn, _⟩ := I.loc
    refine .cons (by rw [I.ok.kind]; decide) hf hn ?_ I.funs
    exact Heap.get?_none_of_le (Nat.le_trans I.ok.bsz I.ok.above)
theorem Inv.stkSub (I : Inv X pins σ H s) : ∀ b ∈ frs X.stack, b ∈ X.env.locals :: X.fs := fun b hb => by
  rcases I.ok.stk with e | ⟨e, hf⟩
  · rw [e] at hb; exact List.mem_cons_of_mem _ hb
  · rw [e] at hb
    unfold frs at hb
    rw [List.filterMap_cons, hf] at hb
    exact hb
theorem Inv.stkFree (I : Inv X pins σ H s) : ∀ b ∈ frs X.stack, H b = none := fun b hb => by
  rcases List.mem_cons.mp (I.stkSub b hb) with e | hb
  · rw [e]; exact I.free
  · obtain ⟨_, o, ho, _⟩ := I.ok.funs.mem hb
    exact I.base.free b o ho (I.ok.frf b hb) fun z => I.ok.exfs b z hb
theorem Inv.step {g' : Array GenState} {t' : Nat} {d' : Drawn} {ch : List Addr} (I : Inv X pins σ H s)
    (hch : ∀ b ∈ ch, (b ∈ X.ex ∨ X.s₀.heap.objs.size ≤ b) ∧ b ≠ X.env.locals ∧ (∀ x c, X.env.cells.lookup x = some c → c ≠ b) ∧ ∀ p ∈ X.pn ++ pins, p.1 ≠ b)
    (keep : ∀ b o, b ≠ X.env.locals → b ∉ X.fs → b ∉ ch → s.heap.get? b = some o → H b = none → h'.get? b = some o)
    (slot : ∀ b o, b ≠ X.env.locals → b ∈ X.fs → b ∉ ch → s.heap.get? b = some o → H b = none → ∃ sl, h'.get? b = some { o with slots := sl }) (free : ∀ b o, b ∉ ch → s.heap.get? b = some o → H b = none → H' b = none)
    (there : ∀ b o, b ∉ ch → s.heap.get? b = some o → ∃ o', h'.get? b = some o')
    (tups : ∀ b xs, H b = some (.tup xs) → H' b = some (.tup xs)) (frzs : ∀ b o u, H b = some (.frz o u) → H' b = some (.frz o u)) (tbls : ∀ b ps, H b = some (.tbl ps) → ∃ more, H' b = some (.tbl (ps ++ more)))
    (ns : ∀ m, s.heap.Ns X.env.locals m → h'.Ns X.env.locals m) (hok : HOk X.prog X.w H' h') (hg : AllBare g') :
    Inv X pins σ H' { s with heap := h', gens := g', drawn := d', toks := t' } := by
  have neL : ∀ b o, X.s₀.heap.get? b = some o → b ≠ X.env.locals := fun b o e => Nat.ne_of_lt (Nat.lt_of_lt_of_le (Heap.lt_size e) I.ok.above)
  have neC : ∀ b o, X.s₀.heap.get? b = some o → b ∉ X.ex → b ∉ ch := fun b o e hx hb => by
    rcases (hch b hb).1 with z | z
    · exact hx z
    · exact absurd (Nat.lt_of_lt_of_le (Heap.lt_size e) z) (Nat.lt_irrefl _)
  have cellK : ∀ x c, X.env.cells.lookup x = some c → ∀ v, s.heap.IsCell c v → h'.IsCell c v := fun x c e v ⟨o, ho, hd⟩ => by
    have nch : c ∉ ch := fun z => (hch c z).2.2.1 x c e rfl
    by_cases hc : c ∈ X.fs
    · obtain ⟨sl, q⟩ := slot c o (I.cne x c e) hc nch ho (I.freeC x c e)
      exact ⟨_, q, hd⟩
    · exact ⟨o, keep c o (I.cne x c e) hc nch ho (I.freeC x c e), hd⟩
  refine ⟨I.ok, I.os, hg, ⟨fun b o e n hb hx => ?_, fun b o e n hb hx => ?_, fun b o e n hx => ?_, fun b o e hx => ?_, fun b xs e => tups b xs (I.base.tups b xs e), fun b o xs e => frzs b o xs (I.base.frzs b o xs e), fun b ps e => ?_⟩, ?_, fun x c e => ?_, ?_, fun x c e => ?_, fun p hp => ?_, hok, I.len⟩
  · exact keep b o (neL b o e) hb (neC b o e hx) (I.base.keep b o e n hb hx) (I.base.free b o e n hx)
  · obtain ⟨sl, e1⟩ := I.base.slot b o e n hb hx
    obtain ⟨sl', e2⟩ := slot b _ (neL b o e) hb (neC b o e hx) e1 (I.base.free b o e n hx)
    exact ⟨sl', e2⟩
  · obtain ⟨o', e1⟩ := I.base.there b o e hx
    exact free b o' (neC b o e hx) e1 (I.base.free b o e n hx)
  · obtain ⟨o', e1⟩ := I.base.there b o e hx
    exact there b o' (neC b o e hx) e1
  · obtain ⟨m1, e1⟩ := I.base.tbls b ps e
    obtain ⟨m2, e2⟩ := tbls b _ e1
    exact ⟨m1 ++ m2, by rw [e2, Array.append_assoc]⟩
  · obtain ⟨m, hn, hl⟩ := I.loc
    refine ⟨m, ns m hn, fun i x v e1 e2 e3 => ?_⟩
    obtain ⟨u, r, l⟩ := hl i x v e1 e2 e3
    refine ⟨u, r, ?_⟩
    rcases l with l | ⟨k, c, e, z⟩
    · exact .inl l
    · exact .inr ⟨k, c, e, cellK x c e _ z⟩
  · obtain ⟨v, z⟩ := I.cell x c e
    exact ⟨v, cellK x c e v z⟩
  · obtain ⟨m, ⟨o, _, _, ho, _⟩, _⟩ := I.loc
    exact free _ o (fun z => (hch _ z).2.1 rfl) ho I.free
  · obtain ⟨v, o, ho, hd⟩ := I.cell x c e
    exact free c o (fun z => (hch c z).2.2.1 x c e rfl) ho (I.freeC x c e)
  · obtain ⟨e, n, ne, nf, d⟩ := I.pin p hp
    have nch : p.1 ∉ ch := fun z => (hch p.1 z).2.2.2 p hp rfl
    exact ⟨keep p.1 p.2 ne nf nch e n, free p.1 p.2 nch e n, ne, nf, d⟩
theorem Inv.un {t' : Nat} (I : Inv X pins σ H s) (u : Un X.fs [] H H' s.heap h') (hok : HOk X.prog X.w H' h') : Inv X pins σ H' { s with heap := h', toks := t' } := by
  obtain ⟨m, ⟨o, es, ep, ho, r⟩, _⟩ := id I.loc
  obtain ⟨sl, hL⟩ := u.any ho I.free (by simp)
  exact I.step (g' := s.gens) (d' := s.drawn) (ch := []) (fun _ z => nomatch z) (fun b o _ hb _ e n => u.keep b o e n hb (by simp)) (fun b o _ hb _ e n => u.slot b o e n hb (by simp)) (fun b o _ e n => u.free b o e n (by simp)) (fun b o _ e => u.there b o e (by simp)) u.tups u.frzs u.tbls (fun m' hm => by
    obtain ⟨o', es', ep', ho', r'⟩ := hm
    rw [ho] at ho'; cases ho'
    exact ⟨_, es', ep', hL, r'⟩) hok I.bare
theorem Inv.call {g' : Array GenState} {t' : Nat} {d' : Drawn} {ch : List Addr} (I : Inv X pins σ H s) (u : Un (frs X.stack) ch H H' s.heap h') (hok : HOk X.prog X.w H' h') (hg : AllBare g')
    (hch : ∀ b ∈ ch, (b ∈ X.ex ∨ X.s₀.heap.objs.size ≤ b) ∧ b ≠ X.env.locals ∧ (∀ x c, X.env.cells.lookup x = some c → c ≠ b) ∧ ∀ p ∈ X.pn ++ pins, p.1 ≠ b) :
    Inv X pins σ H' { s with heap := h', gens := g', drawn := d', toks := t' } := by
  obtain ⟨m, ⟨o, es, ep, ho, r⟩, _⟩ := id I.loc
  obtain ⟨sl, hL⟩ := u.any ho I.free fun z => (hch _ z).2.1 rfl
  exact I.step (ch := ch) hch (fun b o hL hb hc e n => u.keep b o e n (fun z => (List.mem_cons.mp (I.stkSub b z)).elim hL hb) hc) (fun b o _ _ hc e n => u.any e n hc) (fun b o hc e n => u.free b o e n hc) (fun b o hc e => u.there b o e hc) u.tups u.frzs u.tbls (fun m' hm => by
    obtain ⟨o', es', ep', ho', r'⟩ := hm
    rw [ho] at ho'; cases ho'
    exact ⟨_, es', ep', hL, r'⟩) hok hg
theorem Inv.turned {t' : Nat} {it : Addr} (I : Inv X pins σ H s) (k : ∀ b o, b ≠ it → s.heap.get? b = some o → h'.get? b = some o) (hn : H it = none) (hL : it ≠ X.env.locals)
    (h1 : it ∈ X.ex ∨ X.s₀.heap.objs.size ≤ it) (h2 : ∀ x c, X.env.cells.lookup x = some c → c ≠ it) (h3 : ∀ p ∈ X.pn ++ pins, p.1 ≠ it) : Inv X pins σ H { s with heap := h', toks := t' } := by
  have nit : ∀ b u, H b = some u → b ≠ it := fun b u e z => by rw [z, hn] at e; cases e
  refine I.step (g' := s.gens) (d' := s.drawn) (ch := [it]) (fun b hb => ?_) (fun b o _ _ hc e _ => k b o (fun z => hc (by simp [z])) e) (fun b o _ _ hc e _ => ⟨o.slots, k b o (fun z => hc (by simp [z])) e⟩) (fun _ _ _ _ n => n)
    (fun b o hc e => ⟨o, k b o (fun z => hc (by simp [z])) e⟩) (fun _ _ e => e) (fun _ _ _ e => e) (fun b ps e => ⟨#[], by rw [e]; simp⟩) (fun m hm => ?_) (fun b u e => ?_) I.bare
  · have e : b = it := by simpa using hb
    subst e
    exact ⟨h1, hL, h2, h3⟩
  · obtain ⟨o, es, ep, ho, r⟩ := hm
    exact ⟨o, es, ep, k _ o (Ne.symm hL) ho, r⟩
  · refine (I.hok b u e).stay (fun c v hc q => k c v ?_ q) (fun _ q => q) fun _ _ q => q
    rcases hc with z | z
    · rw [z]; exact nit b u e
    · exact nit c _ z
theorem Inv.tok (I : Inv X pins σ H s) (t : Nat) : Inv X pins σ H { s with toks := t } := I.un (h' := s.heap) (t' := t) Un.refl I.hok
theorem Inv.kept {t' : Nat} (I : Inv X pins σ H s) (k : ∀ b u, s.heap.get? b = some u → h'.get? b = some u) : Inv X pins σ H { s with heap := h', toks := t' } := I.un (Un.kept k) (I.hok.kept k)
theorem Inv.laid {a : Addr} {o : HO} {t' : Nat} (I : Inv X pins σ H s) (k : ∀ b u, s.heap.get? b = some u → h'.get? b = some u) (hp : s.heap.objs.size ≤ a) (new : ObjOk X.prog X.w (upd H a o) h' a o) :
    Inv X pins σ (upd H a o) { s with heap := h', toks := t' } := I.un (Un.laid k hp (I.hok.fresh hp)) (I.hok.laid k hp new)
theorem Inv.write {x e : Addr} {o : HO} {t' : Nat} (I : Inv X pins σ H s) (mu : Mut (H x)) (he : e = x ∨ H e = some (.own x)) (k : ∀ b u, b ≠ e → s.heap.get? b = some u → h'.get? b = some u) (heo : ∃ u, h'.get? e = some u)
    (new : ObjOk X.prog X.w (upd H x o) h' x o) : Inv X pins σ (upd H x o) { s with heap := h', toks := t' } := I.un (Un.write mu he k heo) (I.hok.write mu he k heo new)
theorem Inv.weak {σ' : List (Option V)} (I : Inv X pins σ H s) (hl : σ'.length = σ.length) (w : ∀ (i : Nat) v, σ'[i]? = some (some v) → σ[i]? = some (some v)) : Inv X pins σ' H s :=
  ⟨I.ok, I.os, I.bare, I.base, let ⟨m, hn, hl'⟩ := I.loc; ⟨m, hn, fun i x v e1 e2 e3 => hl' i x v e1 (w i v e2) e3⟩, I.cell, I.free, I.freeC, I.pin, I.hok, hl.trans I.len⟩
theorem Inv.pins_of {pins' : List (Addr × Obj)} (I : Inv X pins σ H s) (h : ∀ p ∈ pins', s.heap.get? p.1 = some p.2 ∧ H p.1 = none ∧ p.1 ≠ X.env.locals ∧ p.1 ∉ X.fs ∧ ∀ v, p.2.data ≠ .cell v) : Inv X pins' σ H s :=
  ⟨I.ok, I.os, I.bare, I.base, I.loc, I.cell, I.free, I.freeC, fun p hp => (List.mem_append.mp hp).elim (fun z => I.pin p (List.mem_append_left _ z)) (h p), I.hok, I.len⟩
theorem nodup_ix {N : List Str} (hN : N.Nodup) {i j : Nat} {x : Str} (a : N[i]? = some x) (b : N[j]? = some x) : i = j := by
  obtain ⟨h1, e1⟩ := List.getElem?_eq_some_iff.mp a
  obtain ⟨h2, e2⟩ := List.getElem?_eq_some_iff.mp b
  exact (List.getElem_inj hN).mp (e1.trans e2.symm)
theorem store_ok2 {M : Model} {A : Around} {E : Value → Shared → Prop} {i : Nat} {x : Str} {v : V} {u : Value} {Q : Unit → Shared → Prop} (I : Inv X pins σ H s) (hN : X.N.Nodup) (hi : X.N[i]? = some x) (hx : Loc X.env.scope x) (r : RelV v u)
    (h : ∀ s', Inv X pins (σ.set i (some v)) H s' → (∃ a, Heap.SameBut a s.heap s'.heap ∧ (a = X.env.locals ∨ X.env.cells.lookup x = some a)) → Q () s') (hf : X.fn x = true ∨ X.env.scope.names.lookup x = some .local := by first | exact .inl rfl | exact .inr rfl | assumption) : wpAny M A (storeName X.env x u) Q E s := by
  obtain ⟨m, hn, hl⟩ := id I.loc
  have hcls : (X.env.scope.kind == .class || (X.env.scope.kind == .module && X.env.locals != X.env.globals)) = false := by rw [I.ok.kind]; rfl
  have hiσ : i < σ.length := by rw [I.len]; exact (List.getElem?_eq_some_iff.mp hi).1
  have cne := I.cne
  have tracked : ∀ {a : Addr} {h' : Heap}, (∃ o, s.heap.get? a = some o ∧ H a = none) → Heap.SameBut a s.heap h' → HOk X.prog X.w H h' := fun {a h'} ha hs b ob e => by
    obtain ⟨_, _, hfree⟩ := ha
    refine (I.hok b ob e).stay (fun c w' hc q => (hs.2 c ?_).trans q) (fun _ q => q) fun _ _ q => q
    rintro rfl
    rcases hc with rfl | hc
    · rw [hfree] at e; cases e
    · rw [hfree] at hc; cases hc
  rcases hx with hk | hk
  · refine wpAny_storeName_local hk hn (fun h' hn' hs => ?_) hcls
    obtain ⟨oL, _, _, hoL, _⟩ := id hn
    refine h _ ⟨I.ok, I.os, I.bare, ⟨fun b o e n hb hx => ?_, fun b o e n hb hx => ?_, I.base.free, fun b o e hx => ?_, I.base.tups, I.base.frzs, I.base.tbls⟩, ⟨_, hn', fun j y v' e1 e2 e3 => ?_⟩, fun y c e => ?_, I.free, I.freeC, fun p hp => ?_, tracked ⟨oL, hoL, I.free⟩ hs, by simpa using I.len⟩ ⟨_, hs, .inl rfl⟩
    · exact (hs.2 b (Nat.ne_of_lt (Nat.lt_of_lt_of_le (Heap.lt_size e) I.ok.above))).trans (I.base.keep b o e n hb hx)
    · obtain ⟨sl, e1⟩ := I.base.slot b o e n hb hx
      exact ⟨sl, (hs.2 b (Nat.ne_of_lt (Nat.lt_of_lt_of_le (Heap.lt_size e) I.ok.above))).trans e1⟩
    · obtain ⟨o', e1⟩ := I.base.there b o e hx
      exact ⟨o', (hs.2 b (Nat.ne_of_lt (Nat.lt_of_lt_of_le (Heap.lt_size e) I.ok.above))).trans e1⟩
    · by_cases hj : j = i
      · subst hj
        rw [hi] at e1; cases e1
        rw [List.getElem?_set_self hiσ] at e2
        cases e2
        exact ⟨u, r, .inl ⟨hk, by simp⟩⟩
      · rw [List.getElem?_set_ne (Ne.symm hj)] at e2
        obtain ⟨u', r', q⟩ := hl j y v' e1 e2 e3
        refine ⟨u', r', ?_⟩
        rcases q with ⟨k, e⟩ | ⟨k, c, e, z⟩
        · refine .inl ⟨k, ?_⟩
          have : y ≠ x := fun e => hj (nodup_ix hN e1 (e ▸ hi))
          simp [this, e]
        · exact .inr ⟨k, c, e, z.sameBut hs (cne y c e)⟩
    · obtain ⟨w', z⟩ := I.cell y c e
      exact ⟨w', z.sameBut hs (cne y c e)⟩
    · obtain ⟨e, n, ne, nf, d⟩ := I.pin p hp
      exact ⟨(hs.2 p.1 ne).trans e, n, ne, nf, d⟩
  · have hfn : X.fn x = true := by
      rcases hf with z | z
      · exact z
      · rw [z] at hk; cases hk
    obtain ⟨c, hc⟩ := I.ok.has x (.inl hk)
    obtain ⟨w', z⟩ := I.cell x c hc
    refine wpAny_storeName_cell I.ok.kind hk hc z (fun h' hc' hs => ?_)
    obtain ⟨oc, hoc, hocd⟩ := id z
    refine h { s with heap := h' } ⟨I.ok, I.os, I.bare, ⟨fun b o e n hb hx => ?_, fun b o e n hb hx => ?_, I.base.free, fun b o e hx => ?_, I.base.tups, I.base.frzs, I.base.tbls⟩, ⟨m, hn.sameBut hs (Ne.symm (cne x c hc)), fun j y v' e1 e2 e3 => ?_⟩, fun y c' e => ?_, I.free, I.freeC, fun p hp => ?_, tracked ⟨oc, hoc, I.freeC x c hc⟩ hs, by simpa using I.len⟩ ⟨c, hs, .inr hc⟩
    · exact (hs.2 b (Nat.ne_of_lt (Nat.lt_of_lt_of_le (Heap.lt_size e) (I.ok.cab x c hfn hc)))).trans (I.base.keep b o e n hb hx)
    · obtain ⟨sl, e1⟩ := I.base.slot b o e n hb hx
      exact ⟨sl, (hs.2 b (Nat.ne_of_lt (Nat.lt_of_lt_of_le (Heap.lt_size e) (I.ok.cab x c hfn hc)))).trans e1⟩
    · obtain ⟨o', e1⟩ := I.base.there b o e hx
      exact ⟨o', (hs.2 b (Nat.ne_of_lt (Nat.lt_of_lt_of_le (Heap.lt_size e) (I.ok.cab x c hfn hc)))).trans e1⟩
    · by_cases hj : j = i
      · subst hj
        rw [hi] at e1; cases e1
        rw [List.getElem?_set_self hiσ] at e2
        cases e2
        exact ⟨u, r, .inr ⟨.inl hk, c, hc, hc'⟩⟩
      · rw [List.getElem?_set_ne (Ne.symm hj)] at e2
        obtain ⟨u', r', q⟩ := hl j y v' e1 e2 e3
        refine ⟨u', r', ?_⟩
        rcases q with q | ⟨k, c', e, z'⟩
        · exact .inl q
        · refine .inr ⟨k, c', e, z'.sameBut hs ?_⟩
          rintro rfl
          exact hj (nodup_ix hN e1 (I.ok.inj _ _ _ e hc ▸ hi))
    · by_cases hcc : c' = c
      · subst hcc; exact ⟨_, hc'⟩
      · obtain ⟨w2, z2⟩ := I.cell y c' e
        exact ⟨w2, z2.sameBut hs hcc⟩
    · obtain ⟨e, n, ne, nf, d⟩ := I.pin p hp
      refine ⟨(hs.2 p.1 ?_).trans e, n, ne, nf, d⟩
      intro q
      rw [q, hoc] at e
      have q' : oc = p.2 := Option.some.inj e
      exact d w' (by rw [← q']; exact hocd)
theorem store_ok {M : Model} {A : Around} {E : Value → Shared → Prop} {i : Nat} {x : Str} {v : V} {u : Value} {Q : Unit → Shared → Prop} (I : Inv X pins σ H s) (hN : X.N.Nodup) (hi : X.N[i]? = some x) (hx : Loc X.env.scope x) (r : RelV v u)
    (h : ∀ s', Inv X pins (σ.set i (some v)) H s' → Q () s') (hf : X.fn x = true ∨ X.env.scope.names.lookup x = some .local := by first | exact .inl rfl | exact .inr rfl | assumption) : wpAny M A (storeName X.env x u) Q E s :=
  store_ok2 I hN hi hx r (fun s' I' _ => h s' I') hf
theorem Inv.call' {s' : Shared} {ch : List Addr} (I : Inv X pins σ H s) (ho : s'.os = s.os) (u : Un (frs X.stack) ch H H' s.heap s'.heap) (hok : HOk X.prog X.w H' s'.heap) (hg : AllBare s'.gens)
    (hch : ∀ b ∈ ch, (b ∈ X.ex ∨ X.s₀.heap.objs.size ≤ b) ∧ b ≠ X.env.locals ∧ (∀ x c, X.env.cells.lookup x = some c → c ≠ b) ∧ ∀ p ∈ X.pn ++ pins, p.1 ≠ b) : Inv X pins σ H' s' := by
  obtain ⟨h', g', d', t', o'⟩ := s'
  have e : o' = s.os := ho
  subst e
  exact I.call (g' := g') (t' := t') (d' := d') u hok hg hch
end
noncomputable abbrev XK := Value → Option Addr → Hp → Prop
noncomputable abbrev St := List (Option V)
noncomputable abbrev VK := V → Hp → Prop
noncomputable abbrev TE := St → Hp → VK → Prop
noncomputable abbrev TT := St → Hp → (Bool → Hp → Prop) → Prop
noncomputable abbrev TA := St → Hp → (List V → Hp → Prop) → Prop
structure Ends where
  nx : St → Hp → Prop
  rt : VK
  bk : St → Hp → Prop := fun _ _ => False
  ct : St → Hp → Prop := fun _ _ => False
noncomputable abbrev TS := Ends → St → Hp → Prop
noncomputable def EP (X : Cx) (pins : List (Addr × Obj)) (σ : St) (Q : VK) (u : Value) (s' : Shared) : Prop := ∃ v H', Inv X pins σ H' s' ∧ RelV v u ∧ Q v H'
noncomputable def TP (X : Cx) (pins : List (Addr × Obj)) (σ : St) (Q : Bool → Hp → Prop) (b : Bool) (s' : Shared) : Prop := ∃ H', Inv X pins σ H' s' ∧ Q b H'
noncomputable def AP (X : Cx) (pins : List (Addr × Obj)) (σ : St) (Q : List V → Hp → Prop) (us : List Value) (s' : Shared) : Prop := ∃ vs H', Inv X pins σ H' s' ∧ Vals vs us ∧ Q vs H'
noncomputable def SP (X : Cx) (pins : List (Addr × Obj)) (D : Ends) (f : Flow) (s' : Shared) : Prop :=
  match f with
  | .next => ∃ σ' H', Inv X pins σ' H' s' ∧ D.nx σ' H'
  | .brk => ∃ σ' H', Inv X pins σ' H' s' ∧ D.bk σ' H'
  | .cont => ∃ σ' H', Inv X pins σ' H' s' ∧ D.ct σ' H'
  | .ret u => ∃ v σ' H', Inv X pins σ' H' s' ∧ RelV v u ∧ D.rt v H'
noncomputable def PE (X : Cx) (e : Expr) (t : TE) : Prop :=
  ∀ (pins : List (Addr × Obj)) (s : Shared) (σ : St) (H : Hp) (Q : VK), Inv X pins σ H s → t σ H Q → wpAny (model X.prog X.w) X.A (eval e X.env) (EP X pins σ Q) X.xe s
noncomputable def PT (X : Cx) (e : Expr) (t : TT) : Prop :=
  ∀ (pins : List (Addr × Obj)) (s : Shared) (σ : St) (H : Hp) (Q : Bool → Hp → Prop), Inv X pins σ H s → t σ H Q → wpAny (model X.prog X.w) X.A (isTrue e X.env (eval e X.env)) (TP X pins σ Q) X.xe s
noncomputable def PW (X : Cx) (e : Expr) (t : TT) : Prop :=
  ∀ (whole : Sem Value) (pins : List (Addr × Obj)) (s : Shared) (σ : St) (H : Hp) (Q : Bool → Hp → Prop), Inv X pins σ H s → t σ H Q → wpAny (model X.prog X.w) X.A (isTrue e X.env whole) (TP X pins σ Q) X.xe s
noncomputable def PA (X : Cx) (es : List Expr) (t : TA) : Prop :=
  ∀ (pos : Pos) (pins : List (Addr × Obj)) (s : Shared) (σ : St) (H : Hp) (Q : List V → Hp → Prop), Inv X pins σ H s → t σ H Q → wpAny (model X.prog X.w) X.A (spliced (backTo pos (starEach es X.env))) (AP X pins σ Q) X.xe s
noncomputable def PS (X : Cx) (st : Stmt) (t : TS) : Prop :=
  ∀ (pins : List (Addr × Obj)) (s : Shared) (σ : St) (H : Hp) (D : Ends), Inv X pins σ H s → t D σ H → wpAny (model X.prog X.w) X.A (exec st X.env) (SP X pins D) X.xe s
noncomputable def PSs (X : Cx) (st : List Stmt) (t : TS) : Prop :=
  ∀ (pins : List (Addr × Obj)) (s : Shared) (σ : St) (H : Hp) (D : Ends), Inv X pins σ H s → t D σ H → wpAny (model X.prog X.w) X.A (execs st X.env) (SP X pins D) X.xe s
theorem thn {α : Type} {t : Sem α} {Q Q' : α → Shared → Prop} {M : Model} {A : Around} {E : Value → Shared → Prop} {s : Shared} (h : wpAny M A t Q E s) (hQ : ∀ a s, Q a s → Q' a s) : wpAny M A t Q' E s := wpAny_mono h hQ fun _ _ x => x
end L2
namespace L2
open PySem PySem.Spec PyProof.Rows
section
variable {X : Cx}
theorem bin {a b : Expr} {ta tb : TE} (ha : PE X a ta) (hb : PE X b tb) {pins : List (Addr × Obj)} {s : Shared} {σ : St} {H : Hp} {R : V → V → Hp → Prop} (I : Inv X pins σ H s) (h : ta σ H fun x H1 => tb σ H1 fun y H2 => R x y H2)
    {α : Type} {Q : α → Shared → Prop} {f : Value → Value → Sem α}
    (hf : ∀ v u s2 x y H2, Inv X pins σ H2 s2 → RelV x v → RelV y u → R x y H2 → wpAny (model X.prog X.w) X.A (f v u) Q X.xe s2) :
    wpAny (model X.prog X.w) X.A (eval a X.env) (fun v s₁ => wpAny (model X.prog X.w) X.A (eval b X.env) (fun u s₂ => wpAny (model X.prog X.w) X.A (f v u) Q X.xe s₂) X.xe s₁) X.xe s := by
  refine thn (ha pins s σ H _ I h) fun v s1 ⟨x, H1, I1, r1, q1⟩ => ?_
  refine thn (hb pins s1 σ H1 _ I1 q1) fun u s2 ⟨y, H2, I2, r2, q2⟩ => ?_
  exact hf v u s2 x y H2 I2 r1 r2 q2
noncomputable def tVar (i : Nat) : TE := fun σ H Q => ∃ v, σ[i]? = some (some v) ∧ Q v H
noncomputable def tC (v : V) : TE := fun _ H Q => Q v H
theorem pe_var {i : Nat} {x : Str} {pos : Pos} (hN : X.N[i]? = some x) (hv : Vis X.env.scope x) (hd : (x == ("__debug__" : Str)) = false := by decide) (hcd : (x == ("__classdict__" : Str)) = false := by decide) : PE X (.Name x pos) (tVar i) := by
  intro pins s σ H Q I h
  obtain ⟨v, e, h⟩ := h
  obtain ⟨m, hn, hl⟩ := I.loc
  obtain ⟨u, r, l⟩ := hl i x v hN e hv
  have fin : EP X pins σ Q u s := ⟨v, H, I, r, h⟩
  rcases l with ⟨hk, hm⟩ | ⟨hk, c, hc, hcell⟩
  · exact wpAny_Name (wpAny_loadName_local I.ok.kind hk hn hm fin) hd
  · rcases hk with hk | hk
    · exact wpAny_Name (wpAny_loadName_cell I.ok.kind hk hc hcell fin) hd
    · exact wpAny_Name (wpAny_loadName_free I.ok.kind hk hc hcell fin hcd) hd
theorem pe_int {i j pos} : PE X (.Constant (.int i) j pos) (tC (.int i)) := fun _ _ _ H _ I h => wpAny_Constant_int ⟨.int i, H, I.tok _, ⟨_, rfl⟩, h⟩
theorem pe_bl {b j pos} : PE X (.Constant (.bool b) j pos) (tC (.bl b)) := fun _ _ _ H _ I h => Constant_bool ⟨.bl b, H, I, rfl, h⟩
theorem pe_non {j pos} : PE X (.Constant .none j pos) (tC .non) := fun _ _ _ H _ I h => Constant_none ⟨.non, H, I, rfl, h⟩
theorem pe_str {x j pos} : PE X (.Constant (.str x) j pos) (tC (.str x)) := fun _ _ _ H _ I h => Calls.Constant_str ⟨.str x, H, I.tok _, ⟨_, rfl⟩, h⟩
noncomputable def Gl (X : Cx) (x : Str) : Prop := X.env.kindOf x = some .globalImplicit
theorem ld_glob {E : Value → Shared → Prop} {pins : List (Addr × Obj)} {s : Shared} {σ : St} {H : Hp} {x : Str} {u : Value} {pos : Pos} {Q : Value → Shared → Prop} (I : Inv X pins σ H s) (hg : Gl X x) (hm : X.mg x = some u) (h : Q u s)
    (hd : (x == ("__debug__" : Str)) = false := by decide) : wpAny (model X.prog X.w) X.A (eval (.Name x pos) X.env) Q E s :=
  Calls.Name_function_global I.ok.kind hg (Calls.loadGlobal_global (by rw [I.ok.glob]; exact I.mod.glob.keeps I.bk) hm h) hd
theorem ld_blt {E : Value → Shared → Prop} {pins : List (Addr × Obj)} {s : Shared} {σ : St} {H : Hp} {x : Str} {u : Value} {pos : Pos} {Q : Value → Shared → Prop} (I : Inv X pins σ H s) (hg : Gl X x) (hm : X.mg x = none) (hv : bootBuiltins x = some u) (h : Q u s)
    (hn : x ≠ "__name__" := by decide) (hd : (x == ("__debug__" : Str)) = false := by decide) : wpAny (model X.prog X.w) X.A (eval (.Name x pos) X.env) Q E s := by
  obtain ⟨mb, h1, h2⟩ := I.mod.blt
  exact Calls.Name_function_global I.ok.kind hg (Calls.loadGlobal_builtin (by rw [I.ok.glob]; exact I.mod.glob.keeps I.bk) hm (by rw [I.ok.blt]; exact h1.keeps I.bk) ((h2 x hn).trans hv) h) hd
theorem pe_glob {x : Str} {v : V} {u : Value} {pos : Pos} (hg : Gl X x) (hm : X.mg x = some u) (r : RelV v u) (hd : (x == ("__debug__" : Str)) = false := by decide) : PE X (.Name x pos) (tC v) :=
  fun _ _ _ H _ I h => ld_glob I hg hm ⟨v, H, I, r, h⟩ hd
theorem pe_bltn {x : Str} {v : V} {u : Value} {pos : Pos} (hg : Gl X x) (hm : X.mg x = none) (hv : bootBuiltins x = some u) (r : RelV v u) (hn : x ≠ "__name__" := by decide) (hd : (x == ("__debug__" : Str)) = false := by decide) : PE X (.Name x pos) (tC v) :=
  fun _ _ _ H _ I h => ld_blt I hg hm hv ⟨v, H, I, r, h⟩ hn hd
variable {a b : Expr} {ta tb : TE} {pos : Pos}
noncomputable def PC (X : Cx) (op : CmpOp) (a b : Expr) (t : TE) : Prop :=
  ∀ (pins : List (Addr × Obj)) (s : Shared) (σ : St) (H : Hp) (Q : VK), Inv X pins σ H s → t σ H Q →
    wpAny (model X.prog X.w) X.A (eval a X.env) (fun v s₁ => wpAny (model X.prog X.w) X.A (eval b X.env) (fun u s₂ => wpAny (model X.prog X.w) X.A (compareOp op v u) (EP X pins σ Q) X.xe s₂) X.xe s₁) X.xe s
theorem nobehind (b : Expr) {op : CmpOp} (h : op ≠ .In) (h2 : op ≠ .NotIn) : behindInMarks op b = false := by
  have e1 : (op == CmpOp.In) = false := by cases op <;> first | rfl | exact absurd rfl h
  have e2 : (op == CmpOp.NotIn) = false := by cases op <;> first | rfl | exact absurd rfl h2
  cases b <;> simp [behindInMarks, e1, e2]
noncomputable def tB (t : TE) : TT := fun σ H Q => t σ H fun x H1 => ∃ c, x = .bl c ∧ Q c H1
theorem pt_cmp {op : CmpOp} {t : TE} (h : PC X op a b t) (h1 : behindInMarks op b = false := by first | exact nobehind _ (by decide) (by decide) | rfl) : PT X (.Compare a [op] [b] pos) (tB t) := by
  intro pins s σ H Q I hw
  refine wpAny_isTrue_Compare1 (thn (h pins s σ H _ I hw) fun v s1 h1 => thn h1 fun u s2 h2 => thn h2 fun c s3 ⟨x, H1, I1, r1, q1⟩ => ?_) h1
  obtain ⟨d, rfl, q⟩ := q1
  cases r1
  exact wpAny_truthy_bool ⟨H1, I1, q⟩
theorem pt_val {e : Expr} {t : TE} (h : PE X e t) (he : ∀ whole, isTrue e X.env whole = (do let v ← whole; standAt e.pos; holding [v] (truthy v)) := by intro _; rfl) : PT X e (tB t) := by
  intro pins s σ H Q I hw
  refine isTrue_plain (thn (h pins s σ H _ I hw) fun v s1 ⟨x, H1, I1, r1, q1⟩ => ?_) (he _)
  obtain ⟨d, rfl, q⟩ := q1
  cases r1
  exact wpAny_truthy_bool ⟨H1, I1, q⟩
variable {tA tB' : TT} {rest : List Expr}
noncomputable def tAnd (t u : TT) : TT := fun σ H Q => t σ H fun c H1 => if c = true then u σ H1 Q else Q false H1
noncomputable def tOr (t u : TT) : TT := fun σ H Q => t σ H fun c H1 => if c = true then Q true H1 else u σ H1 Q
noncomputable def tNot (t : TT) : TT := fun σ H Q => t σ H fun c H1 => Q (!c) H1
theorem pw_and1 (ha : PT X a tA) : PW X (.BoolOp .And [a] pos) tA := by
  intro wh pins s σ H Q I h
  refine isTrue_and (thn (ha pins s σ H Q I h) fun c s1 e => ?_)
  cases c with
  | true => exact isTrue_and_nil e
  | false => exact e
theorem pw_or1 (ha : PT X a tA) : PW X (.BoolOp .Or [a] pos) tA := by
  intro wh pins s σ H Q I h
  refine isTrue_or (thn (ha pins s σ H Q I h) fun c s1 e => ?_)
  cases c with
  | false => exact isTrue_or_nil e
  | true => exact e
theorem pw_and (ha : PT X a tA) (hb : PW X (.BoolOp .And (b :: rest) pos) tB') : PW X (.BoolOp .And (a :: b :: rest) pos) (tAnd tA tB') := by
  intro wh pins s σ H Q I h
  refine isTrue_and (thn (ha pins s σ H _ I h) fun c s1 ⟨H1, I1, q1⟩ => ?_)
  cases c with
  | true => exact hb wh pins s1 σ H1 Q I1 q1
  | false => exact ⟨H1, I1, q1⟩
theorem pw_or (ha : PT X a tA) (hb : PW X (.BoolOp .Or (b :: rest) pos) tB') : PW X (.BoolOp .Or (a :: b :: rest) pos) (tOr tA tB') := by
  intro wh pins s σ H Q I h
  refine isTrue_or (thn (ha pins s σ H _ I h) fun c s1 ⟨H1, I1, q1⟩ => ?_)
  cases c with
  | true => exact ⟨H1, I1, q1⟩
  | false => exact hb wh pins s1 σ H1 Q I1 q1
theorem pt_not (ha : PT X a tA) : PT X (.UnaryOp .Not a pos) (tNot tA) := by
  intro pins s σ H Q I h
  exact isTrue_not (ha pins s σ H (fun c H1 => Q (!c) H1) I h)
end
end L2
namespace L2
open PySem PySem.Spec PyProof.Rows
noncomputable def SqL (K : PySem.W.Frag) (H : Hp) (a : Addr) (xs : List V) : Prop :=
  Rd H a (.lst xs) ∨
    ∃ (o : Obj) (its : Array Value) (n : Nat), K.lookup a = some o ∧ o.cls = .type "list" ∧ o.dict = none ∧ o.data = .seq its n ∧ its.size ≤ sizeLine ∧ Vals xs its.toList
noncomputable def SqT (K : PySem.W.Frag) (H : Hp) (a : Addr) (xs : List V) : Prop :=
  Rd H a (.tup xs) ∨
    ∃ (o : Obj) (its : Array Value) (n : Nat), K.lookup a = some o ∧ o.cls = .type "tuple" ∧ o.data = .seq its n ∧ its.size ≤ sizeLine ∧ Vals xs its.toList
noncomputable def absV : Value → Option V
  | .none => some .non
  | .bool b => some (.bl b)
  | .int i _ => some (.int i)
  | .str x _ => some (.str x)
  | .bytes b _ => some (.byt b)
  | .float b _ => some (.flt b)
  | .ref a => some (.ref a)
  | .type n => some (.ty n)
  | _ => none
theorem RelV.abs {x : V} {u : Value} (r : RelV x u) : absV u = some x := by
  cases x with
  | non => cases r; rfl
  | bl _ => cases r; rfl
  | int _ => obtain ⟨t, rfl⟩ := r; rfl
  | str _ => obtain ⟨t, rfl⟩ := r; rfl
  | byt _ => obtain ⟨t, rfl⟩ := r; rfl
  | flt _ => obtain ⟨t, rfl⟩ := r; rfl
  | ref _ => cases r; rfl
  | ty _ => cases r; rfl
theorem RelV.inj {x y : V} {u : Value} (r : RelV x u) (q : RelV y u) : x = y := Option.some.inj (r.abs.symm.trans q.abs)
theorem Vals.inj {xs ys : List V} {us : List Value} (h : Vals xs us) : Vals ys us → xs = ys := by
  induction h generalizing ys with
  | nil => intro h; cases h; rfl
  | cons r _ ih =>
    intro h
    cases h with
    | cons r' t' => rw [r.inj r', ih t']
section
variable {X : Cx} {pins : List (Addr × Obj)} {σ : St} {H : Hp} {s : Shared} {a : Addr} {xs ys : List V}
theorem SqL.of {K : PySem.W.Frag} (h : H a = some (.lst xs)) : SqL K H a xs := .inl (.inl h)
theorem SqT.of {K : PySem.W.Frag} (h : H a = some (.tup xs)) : SqT K H a xs := .inl (.inl h)
theorem Inv.list (I : Inv X pins σ H s) (h : SqL X.K H a xs) : ∃ its : List Value, Vals xs its ∧ PlainL s.heap a its.toArray ∧ xs.length ≤ sizeLine := by
  rcases h with h | ⟨o, its, n, hk, hc, hd, hs, hz, r⟩
  · obtain ⟨z, its, n, r, e⟩ := h.ok I.hok
    exact ⟨its, r, ⟨_, n, e, rfl, rfl, rfl⟩, z⟩
  · refine ⟨its.toList, r, ⟨o, n, I.kIn a o hk, hc, hd, by simpa using hs⟩, ?_⟩
    have e := r.length
    simp only [Array.length_toList] at e
    omega
theorem Inv.tuple (I : Inv X pins σ H s) (h : SqT X.K H a xs) : ∃ its : List Value, Vals xs its ∧ IsTup s.heap a its.toArray ∧ xs.length ≤ sizeLine := by
  rcases h with h | ⟨o, its, n, hk, hc, hs, hz, r⟩
  · obtain ⟨z, its, r, p⟩ := h.ok I.hok
    exact ⟨its, r, p, z⟩
  · refine ⟨its.toList, r, ⟨o, I.kIn a o hk, hc, n, by simpa using hs⟩, ?_⟩
    have e := r.length
    simp only [Array.length_toList] at e
    omega
theorem Inv.list_inj (I : Inv X pins σ H s) (h : SqL X.K H a xs) (h' : SqL X.K H a ys) : xs = ys := by
  obtain ⟨its, r, ⟨o, n, e, _, _, d⟩, _⟩ := I.list h
  obtain ⟨its', r', ⟨o', n', e', _, _, d'⟩, _⟩ := I.list h'
  rw [e] at e'; cases e'
  rw [d] at d'
  injection d' with d1 _
  have : its = its' := by simpa using congrArg Array.toList d1
  subst this
  exact r.inj r'
theorem Inv.tuple_inj (I : Inv X pins σ H s) (h : SqT X.K H a xs) (h' : SqT X.K H a ys) : xs = ys := by
  obtain ⟨its, r, ⟨o, e, _, n, d⟩, _⟩ := I.tuple h
  obtain ⟨its', r', ⟨o', e', _, n', d'⟩, _⟩ := I.tuple h'
  rw [e] at e'; cases e'
  rw [d] at d'
  injection d' with d1 _
  have : its = its' := by simpa using congrArg Array.toList d1
  subst this
  exact r.inj r'
end
noncomputable abbrev Cx.wish (X : Cx) (E : Value → Shared → Prop) : Cx := { X with xe := E }
noncomputable abbrev Cx.nox (X : Cx) : Cx := X.wish fun _ _ => False
theorem Cx.Ok.wish {X : Cx} (ok : X.Ok) (E : Value → Shared → Prop) : (X.wish E).Ok :=
  ⟨ok.mod, ok.kind, ok.glob, ok.blt, ok.above, ok.inj, ok.has, ok.cab, ok.hd, ok.frames, ok.stk, ok.exf, ok.bs, ok.bsz, ok.noex, ok.exfs, ok.funs, ok.frf⟩
theorem Cx.Ok.unwish {X : Cx} {E : Value → Shared → Prop} (ok : (X.wish E).Ok) : X.Ok :=
  ⟨ok.mod, ok.kind, ok.glob, ok.blt, ok.above, ok.inj, ok.has, ok.cab, ok.hd, ok.frames, ok.stk, ok.exf, ok.bs, ok.bsz, ok.noex, ok.exfs, ok.funs, ok.frf⟩
section
variable {X : Cx} {pins : List (Addr × Obj)} {σ : St} {H : Hp} {s : Shared} {E : Value → Shared → Prop}
theorem Inv.wish (I : Inv X pins σ H s) (E : Value → Shared → Prop) : Inv (X.wish E) pins σ H s := ⟨I.ok.wish E, I.os, I.bare, I.base, I.loc, I.cell, I.free, I.freeC, I.pin, I.hok, I.len⟩
theorem Inv.unwish (I : Inv (X.wish E) pins σ H s) : Inv X pins σ H s := ⟨I.ok.unwish, I.os, I.bare, I.base, I.loc, I.cell, I.free, I.freeC, I.pin, I.hok, I.len⟩
theorem SP.unwish {D : Ends} {f : Flow} {s' : Shared} (h : SP (X.wish E) pins D f s') : SP X pins D f s' := by
  cases f with
  | next => obtain ⟨σ', H', I, q⟩ := h; exact ⟨σ', H', I.unwish, q⟩
  | brk => obtain ⟨σ', H', I, q⟩ := h; exact ⟨σ', H', I.unwish, q⟩
  | cont => obtain ⟨σ', H', I, q⟩ := h; exact ⟨σ', H', I.unwish, q⟩
  | ret u => obtain ⟨v, σ', H', I, r, q⟩ := h; exact ⟨v, σ', H', I.unwish, r, q⟩
theorem PSs.nox {st : List Stmt} {t : TS} (h : PSs X.nox st t) : PSs X st t := fun pins s σ H D I hw =>
  wpAny_mono (h pins s σ H D (I.wish _) hw) (fun _ _ q => q.unwish) fun _ _ z => False.elim z
end
section
variable {X : Cx} {st : Stmt} {rest : List Stmt} {t u : TS} {e : Expr} {te : TE} {pos : Pos}
noncomputable def tNext : TS := fun D σ H => D.nx σ H
noncomputable def tSeq (t u : TS) : TS := fun D σ H => t { D with nx := u D } σ H
theorem pss_nil : PSs X [] tNext := fun _ _ σ H _ I h => wpAny_execs_nil ⟨σ, H, I, h⟩
theorem pss_cons (h1 : PS X st t) (h2 : PSs X rest u) : PSs X (st :: rest) (tSeq t u) := by
  intro pins s σ H D I h
  refine wpAny_execs_cons (thn (h1 pins s σ H { D with nx := u D } I h) fun f s1 q => ?_)
  cases f with
  | next =>
    obtain ⟨σ', H', I', q⟩ := q
    exact h2 pins s1 σ' H' D I' q
  | ret v => exact q
  | brk => exact q
  | cont => exact q
theorem pss_one (h1 : PS X st t) : PSs X [st] t := by
  intro pins s σ H D I h
  refine wpAny_execs_cons (thn (h1 pins s σ H D I h) fun f s1 q => ?_)
  cases f with
  | next => exact wpAny_execs_nil q
  | ret v => exact q
  | brk => exact q
  | cont => exact q
theorem Inv.quiet {pins : List (Addr × Obj)} {σ : St} {H : Hp} {s : Shared} (I : Inv X pins σ H s) : interactive X.env = false := by simp [interactive, I.ok.kind]
noncomputable def tDrop (te : TE) : TS := fun D σ H => te σ H fun _ H1 => D.nx σ H1
theorem ps_expr (he : PE X e te) (hs : swapsWith e none pos.line X.env = pure false := by rfl) : PS X (.Expr e pos) (tDrop te) := by
  intro pins s σ H D I h
  exact wpAny_Expr_any (thn (he pins s σ H _ I h) fun v s1 ⟨x, H1, I1, r1, q1⟩ => ⟨σ, H1, I1, q1⟩) I.quiet hs
noncomputable def tRet (te : TE) : TS := fun D σ H => te σ H D.rt
theorem ps_ret (he : PE X e te) : PS X (.Return (some e) pos) (tRet te) := by
  intro pins s σ H D I h
  exact wpAny_Return_some (thn (he pins s σ H _ I h) fun v s1 ⟨x, H1, I1, r1, q1⟩ => ⟨x, σ, H1, I1, r1, q1⟩)
noncomputable def tIfS (c : TT) (t u : TS) : TS := fun D σ H => c σ H fun b H1 => if b = true then t D σ H1 else u D σ H1
theorem ps_if {c : Expr} {a b : List Stmt} {tc : TT} (hc : PT X c tc) (ha : PSs X a t) (hb : PSs X b u) : PS X (.If c a b pos) (tIfS tc t u) := by
  intro pins s σ H D I h
  refine wpAny_If (thn (hc pins s σ H _ I h) fun d s1 ⟨H1, I1, q1⟩ => ?_)
  cases d with
  | true => exact ha pins s1 σ H1 D I1 q1
  | false => exact hb pins s1 σ H1 D I1 q1
end
noncomputable abbrev TG := V → St → Hp → (St → Hp → Prop) → Prop
noncomputable abbrev TGs := List V → St → Hp → (St → Hp → Prop) → Prop
noncomputable def PG (X : Cx) (target : Expr) (t : TG) : Prop :=
  ∀ (pins : List (Addr × Obj)) (s : Shared) (σ : St) (H : Hp) (v : V) (u : Value) (Q : St → Hp → Prop), Inv X pins σ H s → RelV v u → t v σ H Q →
    wpAny (model X.prog X.w) X.A (assign target X.env u) (fun _ s' => ∃ σ' H', Inv X pins σ' H' s' ∧ Q σ' H') X.xe s
noncomputable def PGs (X : Cx) (ts : List Expr) (t : TGs) : Prop :=
  ∀ (pins : List (Addr × Obj)) (s : Shared) (σ : St) (H : Hp) (vs : List V) (us : List Value) (Q : St → Hp → Prop), Inv X pins σ H s → Vals vs us → t vs σ H Q →
    wpAny (model X.prog X.w) X.A (assignInOrder ((assignEach ts X.env).map (·.2)) us) (fun _ s' => ∃ σ' H', Inv X pins σ' H' s' ∧ Q σ' H') X.xe s
noncomputable abbrev TSet := V → V → V → Hp → (Hp → Prop) → Prop
noncomputable def PSet (X : Cx) (t : TSet) : Prop :=
  ∀ (pins : List (Addr × Obj)) (s : Shared) (σ : St) (H : Hp) (o i v : V) (ov iv u : Value) (Q : Hp → Prop), Inv X pins σ H s → RelV o ov → RelV i iv → RelV v u → t o i v H Q →
    wpAny (model X.prog X.w) X.A (setItem ov iv u) (fun _ s' => ∃ H', Inv X pins σ H' s' ∧ Q H') X.xe s
section
variable {X : Cx} {pos : Pos}
noncomputable def gName (i : Nat) : TG := fun v σ H Q => Q (σ.set i (some v)) H
theorem pg_name {i : Nat} {x : Str} (hN : X.N.Nodup) (hi : X.N[i]? = some x) (hx : Loc X.env.scope x) (hf : X.fn x = true ∨ X.env.scope.names.lookup x = some .local := by first | exact .inl rfl | exact .inr rfl | assumption) : PG X (.Name x pos) (gName i) := by
  intro pins s σ H v u Q I r h
  exact wpAny_assign_Name (store_ok I hN hi hx r (fun s' I' => ⟨_, H, I', h⟩) hf)
noncomputable def gNil : TGs := fun vs σ H Q => vs = [] ∧ Q σ H
noncomputable def gCons (t : TG) (u : TGs) : TGs := fun vs σ H Q => ∃ v r, vs = v :: r ∧ t v σ H fun σ' H' => u r σ' H' Q
theorem pgs_nil : PGs X [] gNil := by
  intro pins s σ H vs us Q I r h
  obtain ⟨e, h⟩ := h
  subst e
  cases r
  exact assignInOrder_nil ⟨σ, H, I, h⟩
theorem pgs_cons {e : Expr} {es : List Expr} {t : TG} {u : TGs} (h1 : PG X e t) (h2 : PGs X es u)
    (hs : (assignEach (e :: es) X.env).map (·.2) = assign e X.env :: (assignEach es X.env).map (·.2) := by rfl) : PGs X (e :: es) (gCons t u) := by
  intro pins s σ H vs us Q I r h
  obtain ⟨v, vr, e1, h⟩ := h
  subst e1
  cases r with
  | cons r rr =>
    rw [hs]
    refine assignInOrder_cons (thn (h1 pins s σ H _ _ _ I r h) fun _ s1 ⟨σ1, H1, I1, q1⟩ => ?_)
    exact h2 pins s1 σ1 H1 _ _ Q I1 rr q1
noncomputable def gTup (K : PySem.W.Frag) (n : Nat) (t : TGs) : TG := fun v σ H Q => ∃ a xs, v = .ref a ∧ SqT K H a xs ∧ xs.length = n ∧ t xs σ H Q
theorem pg_tup {es : List Expr} {k : Nat} {t : TGs} {n : Nat} (hc : X.calm = true) (h : PGs X es t)
    (hn : (assignEach es X.env).length = n := by rfl) (hst : (assignEach es X.env).findIdx? (·.1) = none := by rfl) : PG X (.Tuple es k pos) (gTup X.K n t) := by
  intro pins s σ H v u Q I r hw
  obtain ⟨a, xs, e1, hq, hl, hw⟩ := hw
  subst e1
  cases r
  obtain ⟨its, rv, ht, hz⟩ := I.tuple hq
  refine assign_Tuple_tuple (I.ok.hd hc) ht (by simp [hn, ← hl, rv.length]) hst fun h' hx => ?_
  have I1 : Inv X pins σ H { s with heap := h' } := I.kept (t' := s.toks) fun b o e => hx b o (Nat.ne_of_lt (Heap.lt_size e)) e
  exact h pins _ σ H xs _ Q I1 (by simpa using rv) hw
noncomputable def gSub (to ti : TE) (t : TSet) : TG := fun v σ H Q => to σ H fun o H1 => ti σ H1 fun i H2 => t o i v H2 fun H3 => Q σ H3
theorem pg_sub {o i : Expr} {to ti : TE} {t : TSet} (ho : PE X o to) (hi : PE X i ti) (hs : PSet X t)
    (ha : ∀ v, assign (.Subscript o i pos) X.env v = (do
      let ov ← holding [v] (eval o X.env)
      let iv ← holding [v, ov] (eval i X.env)
      standAt pos
      holding [v, ov, iv] (setItem ov iv v)
      release [v, ov, iv] []) := by intro _; rfl) : PG X (.Subscript o i pos) (gSub to ti t) := by
  intro pins s σ H v u Q I r h
  rw [ha]
  refine wpAny_bind (wpAny_holding (thn (ho pins s σ H _ I h) fun ov s1 ⟨x, H1, I1, r1, q1⟩ => ?_))
  refine wpAny_bind (wpAny_holding (thn (hi pins s1 σ H1 _ I1 q1) fun iv s2 ⟨y, H2, I2, r2, q2⟩ => ?_))
  refine wpAny_bind (wpAny_standAt (wpAny_bind (wpAny_holding (thn (hs pins s2 σ H2 x y v ov iv u _ I2 r1 r2 r q2) fun _ s3 ⟨H3, I3, q3⟩ => ?_))))
  exact wpAny_release ⟨σ, H3, I3, q3⟩
noncomputable def tAsg (te : TE) (g : TG) : TS := fun D σ H => te σ H fun x H1 => g x σ H1 D.nx
theorem ps_asg {tg e : Expr} {te : TE} {g : TG} (he : PE X e te) (hg : PG X tg g) (hs : swapsWithSole [tg] e pos.line X.env = pure false := by rfl) (hw : swappedStores [tg] e X.env = pure none := by rfl)
    (h1 : (assignEach [tg] X.env).map (·.2) = [assign tg X.env] := by rfl) : PS X (.Assign [tg] e pos) (tAsg te g) := by
  intro pins s σ H D I h
  refine wpAny_Assign_stores (thn (he pins s σ H _ I h) fun v s1 ⟨x, H1, I1, r1, q1⟩ => ?_) hs hw
  rw [h1]
  exact thn (hg pins s1 σ H1 x v _ I1 r1 q1) fun _ s2 q => q
theorem ps_set {i : Nat} {x : Str} {e : Expr} {te : TE} {pos' : Pos} (hN : X.N.Nodup) (hi : X.N[i]? = some x) (hx : Loc X.env.scope x) (he : PE X e te) (hs : swapsWith e (some (.Name x pos')) pos.line X.env = pure false := by rfl) (hf : X.fn x = true ∨ X.env.scope.names.lookup x = some .local := by first | exact .inl rfl | exact .inr rfl | assumption) :
    PS X (.Assign [.Name x pos'] e pos) (tAsg te (gName i)) := by
  intro pins s σ H D I h
  refine wpAny_Assign_Name (thn (he pins s σ H _ I h) fun v s1 ⟨y, H1, I1, r1, q1⟩ => ?_) hs
  exact store_ok I1 hN hi hx r1 (fun s2 I2 => ⟨_, H1, I2, q1⟩) hf
end
section
variable {X : Cx} {pos : Pos}
end
structure It where
  go : Nat → Hp → Prop
  yld : Nat → Hp → V → Hp → Prop
  stop : Nat → Hp → Prop
noncomputable def FpOk (X : Cx) (pins : List (Addr × Obj)) (H : Hp) (b : Addr) : Prop :=
  H b = none ∧ b ≠ X.env.locals ∧ b ∉ X.fs ∧ (b ∈ X.ex ∨ X.s₀.heap.objs.size ≤ b) ∧ (∀ x c, X.env.cells.lookup x = some c → c ≠ b) ∧ ∀ p ∈ X.pn ++ pins, p.1 ≠ b
theorem Inv.fpOk {X : Cx} {pins : List (Addr × Obj)} {σ : St} {H H' : Hp} {s : Shared} {b : Addr} (I : Inv X pins σ H s) (hb : s.heap.objs.size ≤ b) (hn : H' b = none) : FpOk X pins H' b := by
  refine ⟨hn, Nat.ne_of_gt (Nat.lt_of_lt_of_le I.lt hb), I.nofs hb, .inr (Nat.le_trans I.sz hb), fun x c e z => ?_, fun p hp z => ?_⟩
  · obtain ⟨v, q⟩ := I.cell x c e
    exact absurd (Nat.lt_of_lt_of_le q.lt (by rw [z]; exact hb)) (Nat.lt_irrefl _)
  · exact absurd (Nat.lt_of_lt_of_le (Heap.lt_size (I.pin p hp).1) (by rw [z]; exact hb)) (Nat.lt_irrefl _)
structure Turn (P : Program) (w : World) (K : PySem.W.Frag) (tg : Expr) (J : It) (fp : List Addr) (it : Addr) (tn : Nat → Heap → Prop) : Prop where
  mem : it ∈ fp
  obj : ∀ i h, tn i h → ∀ b ∈ fp, ∃ o, h.get? b = some o ∧ ∀ v, o.data ≠ .cell v
  keep : ∀ i h h', tn i h → (∀ b ∈ fp, ∀ o, h.get? b = some o → h'.get? b = some o) → tn i h'
  item : ∀ (X : Cx), X.prog = P → X.w = w → X.K = K → X.calm = true → ∀ (i : Nat) (pins : List (Addr × Obj)) (s : Shared) (σ : St) (H : Hp) (E : Value → Shared → Prop), Inv X pins σ H s → (∀ b ∈ fp, FpOk X pins H b) → tn i s.heap → J.go i H →
    wpAny (model P w) X.A (pyNext (.ref it)) (fun r s1 => ∃ u, r = some u ∧
      wpAny (model P w) X.A (letOwnedTupleGo tg (.ref it) u) (fun _ s2 => ∃ x H', Inv X pins σ H' s2 ∧ RelV x u ∧ J.yld i H x H' ∧ tn (i + 1) s2.heap ∧ ∀ b ∈ fp, H' b = none) E s1) E s
  done : ∀ (X : Cx), X.prog = P → X.w = w → X.K = K → X.calm = true → ∀ (i : Nat) (pins : List (Addr × Obj)) (s : Shared) (σ : St) (H : Hp) (E : Value → Shared → Prop), Inv X pins σ H s → (∀ b ∈ fp, FpOk X pins H b) → tn i s.heap → J.stop i H →
    wpAny (model P w) X.A (pyNext (.ref it)) (fun r s1 => r = none ∧ Inv X pins σ H s1) E s
  self : ∀ (A : Around) (i : Nat) (s : Shared) (Q : Value → Shared → Prop) (E : Value → Shared → Prop), tn i s.heap → Q (.ref it) s → wpAny (model P w) A (pyIter (.ref it)) Q E s
noncomputable abbrev TI := St → Hp → (It → Hp → Prop) → Prop
noncomputable def PIE (X : Cx) (pins : List (Addr × Obj)) (σ : St) (tg : Expr) (R : It → Hp → Prop) (itv : Value) (s2 : Shared) : Prop :=
  ∃ (it : Addr) (fp : List Addr) (tn : Nat → Heap → Prop) (J : It) (H' : Hp), itv = .ref it ∧ Inv X pins σ H' s2 ∧ Turn X.prog X.w X.K tg J fp it tn ∧ tn 0 s2.heap ∧ (∀ b ∈ fp, FpOk X pins H' b) ∧ R J H'
noncomputable def PI (X : Cx) (tg iter : Expr) (wi : TI) : Prop :=
  ∀ (pins : List (Addr × Obj)) (s : Shared) (σ : St) (H : Hp) (R : It → Hp → Prop), Inv X pins σ H s → wi σ H R →
    wpAny (model X.prog X.w) X.A (eval iter X.env) (fun v s1 => wpAny (model X.prog X.w) X.A (pyIter v) (PIE X pins σ tg R) X.xe s1) X.xe s
theorem go_of {M : Model} {A : Around} {E : Value → Shared → Prop} {s : Shared} {tg : Expr} {it : Addr} {u : Value} {o : Obj} {n : String} {vs : Array Value} {Q : Unit → Shared → Prop} (ho : s.heap.get? it = some o) (hc : o.cls = .type n) (hd : o.data = .fields vs)
    (hn : ["enumerate", "zip", "dict_itemiterator", "dict_reverseitemiterator", "odict_iterator", "itertools.zip_longest", "itertools.pairwise"].contains n = false) (hQ : Q () s) : wpAny M A (letOwnedTupleGo tg (.ref it) u) Q E s := by
  unfold letOwnedTupleGo
  cases tg <;> first
    | exact wpAny_pure hQ
    | (cases u <;> first
        | exact wpAny_pure hQ
        | (refine wpAny_bind (wpAny_load ho ?_)
           rw [hc, hd]
           show wpAny M A (if (["enumerate", "zip", "dict_itemiterator", "dict_reverseitemiterator", "odict_iterator", "itertools.zip_longest", "itertools.pairwise"].contains n && vs[0]? == some (rawInt _)) = true then _ else _) Q E s
           rw [if_neg (by intro h; rw [hn, Bool.false_and] at h; cases h)]
           exact wpAny_pure hQ))
noncomputable def Itl (K : PySem.W.Frag) (a : Addr) : It :=
  ⟨fun i H => ∃ xs x, SqL K H a xs ∧ xs[i]? = some x, fun i H x H' => H' = H ∧ ∀ xs, SqL K H a xs → xs[i]? = some x, fun i H => ∃ xs, SqL K H a xs ∧ xs.length ≤ i⟩
noncomputable def Itt (K : PySem.W.Frag) (a : Addr) : It :=
  ⟨fun i H => ∃ xs x, SqT K H a xs ∧ xs[i]? = some x, fun i H x H' => H' = H ∧ ∀ xs, SqT K H a xs → xs[i]? = some x, fun i H => ∃ xs, SqT K H a xs ∧ xs.length ≤ i⟩
noncomputable def Itr (lo : Int) (n : Nat) : It := ⟨fun i _ => i < n, fun i H x H' => H' = H ∧ x = .int (lo + i), fun i _ => n ≤ i⟩
theorem turn_list {P : Program} {w : World} {K : PySem.W.Frag} {tg : Expr} (a it : Addr) : Turn P w K tg (Itl K a) [it] it (fun i h => h.IsListIter it a i) where
  mem := by simp
  obj := fun i h st b hb => by
    have e : b = it := by simpa using hb
    subst e
    obtain ⟨o, e, c, d⟩ := st
    exact ⟨o, e, fun v z => by rw [d] at z; cases z⟩
  keep := fun i h h' st k => st.at fun o e => k it (by simp) o e
  item := by
    intro X hP hw hK hc i pins s σ H E I hf st hg
    subst hP hw hK
    obtain ⟨xs, x, hq, hx⟩ := hg
    obtain ⟨its, rv, p, hz⟩ := I.list hq
    obtain ⟨u, hu, ru⟩ := rv.get hx
    obtain ⟨f0, f1, f2, f3, f4, f5⟩ := hf it (by simp)
    refine wpAny_pyNext_list_item st p.isList (x := u) (by simpa using hu) fun h' st' sb => ?_
    have I1 : Inv X pins σ H { s with heap := h' } := I.turned (t' := s.toks) (fun b o hb e => (sb.2 b hb).trans e) f0 f1 f3 f4 f5
    obtain ⟨o, e, c, d⟩ := id st'
    exact ⟨u, rfl, go_of (s := { s with heap := h' }) e c d (by decide) ⟨x, H, I1, ru, ⟨rfl, fun ys hy => by rw [I.list_inj hy hq]; exact hx⟩, st', fun b hb => (hf b hb).1⟩⟩
  done := by
    intro X hP hw hK hc i pins s σ H E I hf st hg
    subst hP hw hK
    obtain ⟨xs, hq, hx⟩ := hg
    obtain ⟨its, rv, p, hz⟩ := I.list hq
    obtain ⟨f0, f1, f2, f3, f4, f5⟩ := hf it (by simp)
    have hl := rv.length
    exact wpAny_pyNext_list_end (I.ok.hd hc) st p.isList (by simp; omega) fun h' eb => ⟨rfl, I.turned (t' := s.toks) (fun b o hb e => eb b o hb e) f0 f1 f3 f4 f5⟩
  self := fun _ _ _ _ _ st h => wpAny_pyIter_listiter st h
theorem turn_tuple {P : Program} {w : World} {K : PySem.W.Frag} {tg : Expr} (a it : Addr) : Turn P w K tg (Itt K a) [it] it (fun i h => h.IsTupleIter it a i) where
  mem := by simp
  obj := fun i h st b hb => by
    have e : b = it := by simpa using hb
    subst e
    obtain ⟨o, e, c, d⟩ := st
    exact ⟨o, e, fun v z => by rw [d] at z; cases z⟩
  keep := fun i h h' st k => st.at fun o e => k it (by simp) o e
  item := by
    intro X hP hw hK hc i pins s σ H E I hf st hg
    subst hP hw hK
    obtain ⟨xs, x, hq, hx⟩ := hg
    obtain ⟨its, rv, p, hz⟩ := I.tuple hq
    obtain ⟨u, hu, ru⟩ := rv.get hx
    obtain ⟨f0, f1, f2, f3, f4, f5⟩ := hf it (by simp)
    refine wpAny_pyNext_tuple_item st (show s.heap.IsTuple a its.toArray from p) (x := u) (by simpa using hu) fun h' st' sb => ?_
    have I1 : Inv X pins σ H { s with heap := h' } := I.turned (t' := s.toks) (fun b o hb e => (sb.2 b hb).trans e) f0 f1 f3 f4 f5
    obtain ⟨o, e, c, d⟩ := id st'
    exact ⟨u, rfl, go_of (s := { s with heap := h' }) e c d (by decide) ⟨x, H, I1, ru, ⟨rfl, fun ys hy => by rw [I.tuple_inj hy hq]; exact hx⟩, st', fun b hb => (hf b hb).1⟩⟩
  done := by
    intro X hP hw hK hc i pins s σ H E I hf st hg
    subst hP hw hK
    obtain ⟨xs, hq, hx⟩ := hg
    obtain ⟨its, rv, p, hz⟩ := I.tuple hq
    obtain ⟨f0, f1, f2, f3, f4, f5⟩ := hf it (by simp)
    have hl := rv.length
    exact wpAny_pyNext_tuple_end (I.ok.hd hc) st (show s.heap.IsTuple a its.toArray from p) (by simp; omega) fun h' eb => ⟨rfl, I.turned (t' := s.toks) (fun b o hb e => eb b o hb e) f0 f1 f3 f4 f5⟩
  self := fun _ _ _ _ _ st h => wpAny_pyIter_tupleiter st h
theorem turn_range {P : Program} {w : World} {K : PySem.W.Frag} {tg : Expr} (it : Addr) (lo : Int) (n : Nat) : Turn P w K tg (Itr lo n) [it] it (fun i h => IsRangeIter h it (lo + (i : Nat) * 1) ((n : Int) - (i : Nat)) 1) where
  mem := by simp
  obj := fun i h st b hb => by
    have e : b = it := by simpa using hb
    subst e
    exact ⟨_, st, fun v z => by
      have z' : Data.fields _ = Data.cell v := z
      cases z'⟩
  keep := fun i h h' st k => k it (by simp) _ st
  item := by
    intro X hP hw hK hc i pins s σ H E I hf st hg
    subst hP hw hK
    obtain ⟨f0, f1, f2, f3, f4, f5⟩ := hf it (by simp)
    have W := Walks.range (prog := X.prog) (w := X.w) (I.ok.hd hc) it lo 1 n
    refine W.item i s _ _ hg st fun v h' tk hv st' kk => ?_
    obtain ⟨t, rfl⟩ := hv
    have I1 : Inv X pins σ H { s with heap := h', toks := tk } := I.turned (fun b o hb e => kk b o (by simpa using hb) e) f0 f1 f3 f4 f5
    refine ⟨_, rfl, go_of (s := { s with heap := h', toks := tk }) (n := "range_iterator") st' rfl rfl (by decide) ⟨.int (lo + i), H, I1, ⟨t, ?_⟩, ⟨rfl, rfl⟩, st', fun b hb => (hf b hb).1⟩⟩
    rw [Int.mul_one]
  done := by
    intro X hP hw hK hc i pins s σ H E I hf st hg
    subst hP hw hK
    obtain ⟨f0, f1, f2, f3, f4, f5⟩ := hf it (by simp)
    exact wpAny_pyNext_range_end (I.ok.hd hc) st (by have : n ≤ i := hg; omega) fun h' eb => ⟨rfl, I.turned (t' := s.toks) (fun b o hb e => eb b o hb e) f0 f1 f3 f4 f5⟩
  self := fun _ _ _ _ _ st h => wpAny_pyIter_rangeiter st h
end L2
namespace L2
open PySem PySem.Spec PyProof.Rows
section
variable {X : Cx} {tg : Expr}
noncomputable def iList (K : PySem.W.Frag) (tl : TE) : TI := fun σ H R => tl σ H fun x H1 => ∃ a, x = .ref a ∧ (∃ xs, SqL K H1 a xs) ∧ R (Itl K a) H1
noncomputable def iTup (K : PySem.W.Frag) (tl : TE) : TI := fun σ H R => tl σ H fun x H1 => ∃ a, x = .ref a ∧ (∃ xs, SqT K H1 a xs) ∧ R (Itt K a) H1
theorem pi_list {l : Expr} {tl : TE} (hl : PE X l tl) : PI X tg l (iList X.K tl) := by
  intro pins s σ H R I h
  refine thn (hl pins s σ H _ I h) fun v s1 ⟨x, H1, I1, r1, q1⟩ => ?_
  obtain ⟨a, e, ⟨xs, hq⟩, q⟩ := q1
  subst e
  cases r1
  obtain ⟨its, rv, p, hz⟩ := I1.list hq
  refine wpAny_pyIter_list p.isList ?_
  refine ⟨s1.heap.objs.size, [s1.heap.objs.size], _, _, H1, rfl, I1.kept (t' := s1.toks) fun b o e => Heap.get?_push_of_some _ e, turn_list a _, ⟨_, Heap.get?_push_size _ rfl, rfl, rfl⟩, fun b hb => ?_, q⟩
  have e : b = s1.heap.objs.size := by simpa using hb
  subst e
  exact I1.fpOk (Nat.le_refl _) (I1.hok.fresh (Nat.le_refl _))
theorem pi_tup {l : Expr} {tl : TE} (hl : PE X l tl) : PI X tg l (iTup X.K tl) := by
  intro pins s σ H R I h
  refine thn (hl pins s σ H _ I h) fun v s1 ⟨x, H1, I1, r1, q1⟩ => ?_
  obtain ⟨a, e, ⟨xs, hq⟩, q⟩ := q1
  subst e
  cases r1
  obtain ⟨its, rv, p, hz⟩ := I1.tuple hq
  refine wpAny_pyIter_tuple (show s1.heap.IsTuple a its.toArray from p) ?_
  refine ⟨s1.heap.objs.size, [s1.heap.objs.size], _, _, H1, rfl, I1.kept (t' := s1.toks) fun b o e => Heap.get?_push_of_some _ e, turn_tuple a _, ⟨_, Heap.get?_push_size _ rfl, rfl, rfl⟩, fun b hb => ?_, q⟩
  have e : b = s1.heap.objs.size := by simpa using hb
  subst e
  exact I1.fpOk (Nat.le_refl _) (I1.hok.fresh (Nat.le_refl _))
theorem range_it {pins : List (Addr × Obj)} {σ : St} {H : Hp} {s : Shared} {R : It → Hp → Prop} {E : Value → Shared → Prop} {lo hi : Int} {t u v : Tok} {tk : Nat} (I : Inv X pins σ H s) (h1 : -(2 ^ 62) ≤ lo) (h2 : lo < 2 ^ 62) (h3 : -(2 ^ 62) ≤ hi) (h4 : hi < 2 ^ 62)
    (q : R (Itr lo (hi - lo).toNat) H) : wpAny (model X.prog X.w) X.A (pyIter (.ref s.heap.objs.size)) (PIE X pins σ tg R) E { s with heap := s.heap.push { cls := .type "range", data := .fields #[.int lo t, .int hi u, .int 1 v] }, toks := tk } := by
  refine wpAny_pyIter_range (IsRange.new ..) (small_one h1 h2 h3 h4) ?_
  have I1 : Inv X pins σ H { s with heap := s.heap.push { cls := .type "range", data := .fields #[.int lo t, .int hi u, .int 1 v] }, toks := tk } := I.kept fun b o e => Heap.get?_push_of_some _ e
  refine ⟨(s.heap.push { cls := .type "range", data := .fields #[.int lo t, .int hi u, .int 1 v] }).objs.size, [(s.heap.push { cls := .type "range", data := .fields #[.int lo t, .int hi u, .int 1 v] }).objs.size], _, _, H, rfl,
    I1.kept (t' := tk) fun b o e => Heap.get?_push_of_some _ e, turn_range _ lo (hi - lo).toNat, ?_, fun b hb => ?_, q⟩
  · have e1 : lo + ((0 : Nat) : Int) * 1 = lo := by simp
    have e2 : (((hi - lo).toNat : Nat) : Int) - ((0 : Nat) : Int) = Builtin.Range.rangeSize lo hi 1 := by rw [rangeSize_one]; split <;> omega
    show IsRangeIter _ _ (lo + ((0 : Nat) : Int) * 1) ((((hi - lo).toNat : Nat) : Int) - ((0 : Nat) : Int)) 1
    rw [e1, e2]
    exact Heap.get?_push_size _ rfl
  · have e : b = (s.heap.push { cls := .type "range", data := .fields #[.int lo t, .int hi u, .int 1 v] }).objs.size := by simpa using hb
    subst e
    exact I1.fpOk (Nat.le_refl _) (I1.hok.fresh (Nat.le_refl _))
noncomputable def iRng1 (ta : TA) : TI := fun σ H R => ta σ H fun vs H1 => ∃ j : Int, vs = [.int j] ∧ -(2 ^ 62) ≤ j ∧ j < 2 ^ 62 ∧ R (Itr 0 j.toNat) H1
theorem pi_range1 {a : Expr} {ta : TA} {p pos : Pos} (hg : Gl X "range") (hm : X.mg "range" = none) (ha : PA X [a] ta) (hs : starEach [a] X.env = [(false, eval a X.env)] := by rfl) : PI X tg (.Call (.Name "range" p) [a] [] pos) (iRng1 ta) := by
  intro pins s σ H R I h
  refine Call_ (ld_blt I hg hm boot_range (PyProof.Rows.callWith_type1 (thn (ha pos pins s σ H _ I h) fun us s1 ⟨vs, H1, I1, r1, q1⟩ => ?_) hs rfl))
  obtain ⟨j, e, q1, q2, q⟩ := q1
  subst e
  cases r1 with
  | cons r rr =>
    cases rr
    obtain ⟨t, rfl⟩ := r
    exact call_range_1 (range_it I1 (by omega) (by omega) q1 q2 (by simpa using q))
noncomputable def tFor (wi : TI) (g : TG) (tb : TS) : TS := fun D σ H => wi σ H fun J H1 => ∃ W : Nat → Nat → St → Hp → Prop, (∃ m, W 0 m σ H1) ∧ ∀ i m σ H, W i m σ H →
  (J.stop i H ∧ D.nx σ H) ∨ (J.go i H ∧ ∃ N : St → Hp → Prop, (∀ σ' H', N σ' H' → ∃ m', m' < m ∧ W (i + 1) m' σ' H') ∧ ∀ x H', J.yld i H x H' → g x σ H' fun σ2 H2 => tb { D with nx := N, ct := N, bk := D.nx } σ2 H2)
noncomputable def pinsAt (fp : List Addr) (h : Heap) : List (Addr × Obj) := fp.filterMap fun b => (h.get? b).map fun o => (b, o)
theorem mem_pinsAt {fp : List Addr} {h : Heap} {b : Addr} {o : Obj} (hb : b ∈ fp) (e : h.get? b = some o) : (b, o) ∈ pinsAt fp h := List.mem_filterMap.mpr ⟨b, hb, by rw [e]; rfl⟩
theorem of_pinsAt {fp : List Addr} {h : Heap} {p : Addr × Obj} (hp : p ∈ pinsAt fp h) : p.1 ∈ fp ∧ h.get? p.1 = some p.2 := by
  obtain ⟨b, hb, e⟩ := List.mem_filterMap.mp hp
  cases q : h.get? b with
  | none => rw [q] at e; cases e
  | some o =>
    rw [q] at e
    have e' : (b, o) = p := Option.some.inj e
    subst e'
    exact ⟨hb, q⟩
theorem Inv.pinned {pins : List (Addr × Obj)} {σ : St} {H : Hp} {s : Shared} {fp : List Addr} (I : Inv X pins σ H s) (hf : ∀ b ∈ fp, FpOk X pins H b) (ho : ∀ b ∈ fp, ∃ o, s.heap.get? b = some o ∧ ∀ v, o.data ≠ .cell v) : Inv X (pins ++ pinsAt fp s.heap) σ H s :=
  I.pins_of fun p hp => (List.mem_append.mp hp).elim (fun z => I.pin p (List.mem_append_right _ z)) fun z => by
    obtain ⟨hb, e⟩ := of_pinsAt z
    obtain ⟨f0, f1, f2, _⟩ := hf p.1 hb
    obtain ⟨o, e', d⟩ := ho p.1 hb
    rw [e] at e'; cases e'
    exact ⟨e, f0, f1, f2, d⟩
theorem Inv.unpinned {pins pl : List (Addr × Obj)} {σ : St} {H : Hp} {s : Shared} (I : Inv X (pins ++ pl) σ H s) : Inv X pins σ H s := I.pins_of fun p hp => I.pin p (List.mem_append_right _ (List.mem_append_left _ hp))
theorem ps_for {iter : Expr} {body : List Stmt} {wi : TI} {g : TG} {tb : TS} {pos : Pos} (hp : PassesOwn (model X.prog X.w) X.A X.env X.xe) (hc : X.calm = true) (hi : PI X tg iter wi) (hg : PG X tg g) (hb : PSs X body tb)
    (hs : ∀ x, foldedSetIterable iter X.env x = pure x := by intro _; rfl) : PS X (.For tg iter body [] pos) (tFor wi g tb) := by
  intro pins s σ H D I h
  refine wpAny_For (thn (hi pins s σ H _ I h) fun v s1 h1 => thn h1 fun itv s2 h2 => ?_) hs
  obtain ⟨it, fp, tn, J, H2, e, I2, T, st2, f2, W, ⟨m0, w0⟩, turn⟩ := h2
  subst e
  have stat : ∀ {H' : Hp}, (∀ b ∈ fp, H' b = none) → ∀ b ∈ fp, FpOk X pins H' b := fun hn b hb => ⟨hn b hb, (f2 b hb).2⟩
  refine codeAny_forLoop_any (fun n s' => ∃ i σ' H', Inv X pins σ' H' s' ∧ tn i s'.heap ∧ (∀ b ∈ fp, H' b = none) ∧ W i n σ' H') ?_ m0 ⟨0, σ, H2, I2, st2, fun b hb => (f2 b hb).1, w0⟩
  rintro n s3 ⟨i, σ3, H3, I3, st3, fr3, w3⟩
  rcases turn i n σ3 H3 w3 with ⟨stop, qn⟩ | ⟨go, N, hN, step⟩
  · refine wpAny_passesOwn hp (thn (T.done X rfl rfl rfl hc i pins s3 σ3 H3 X.xe I3 (stat fr3) st3 stop) fun r s4 ⟨hr, I4⟩ => ?_)
    subst hr
    exact wpAny_execs_nil ⟨σ3, H3, I4, qn⟩
  · refine wpAny_passesOwn hp (thn (T.item X rfl rfl rfl hc i pins s3 σ3 H3 X.xe I3 (stat fr3) st3 go) fun r s4 ⟨u, hr, h4⟩ => ?_)
    subst hr
    refine wpAny_passesOwn hp (thn h4 fun _ s5 ⟨x, H5, I5, r5, y5, st5, fr5⟩ => ?_)
    have I5' := I5.pinned (stat fr5) (T.obj _ _ st5)
    refine wpAny_passesOwn hp (thn (hg _ s5 σ3 H5 x u _ I5' r5 (step x H5 y5)) fun _ s6 ⟨σ6, H6, I6, q6⟩ => ?_)
    refine wpAny_passesOwn hp (thn (hb _ s6 σ6 H6 _ I6 q6) fun f s7 q7 => ?_)
    have again : ∀ {σ7 : St} {H7 : Hp}, Inv X (pins ++ pinsAt fp s5.heap) σ7 H7 s7 → N σ7 H7 → ∃ m, m < n ∧ ∃ i σ' H', Inv X pins σ' H' s7 ∧ tn i s7.heap ∧ (∀ b ∈ fp, H' b = none) ∧ W i m σ' H' := fun {σ7 H7} I7 n7 => by
      obtain ⟨m', hm, w7⟩ := hN σ7 H7 n7
      refine ⟨m', hm, i + 1, σ7, H7, I7.unpinned, T.keep _ _ _ st5 fun b hb o e => (I7.pin (b, o) (List.mem_append_right _ (List.mem_append_right _ (mem_pinsAt hb e)))).1, fun b hb => ?_, w7⟩
      obtain ⟨o, e, d⟩ := T.obj _ _ st5 b hb
      exact (I7.pin (b, o) (List.mem_append_right _ (List.mem_append_right _ (mem_pinsAt hb e)))).2.1
    cases f with
    | next => obtain ⟨σ7, H7, I7, n7⟩ := q7; exact again I7 n7
    | cont => obtain ⟨σ7, H7, I7, n7⟩ := q7; exact again I7 n7
    | brk => obtain ⟨σ7, H7, I7, q7⟩ := q7; exact ⟨σ7, H7, I7.unpinned, q7⟩
    | ret v => obtain ⟨x7, σ7, H7, I7, r7, q7⟩ := q7; exact ⟨x7, σ7, H7, I7.unpinned, r7, q7⟩
end
end L2
namespace L2
open PySem PySem.Spec PyProof.Rows
noncomputable abbrev R2 := V → V → Hp → VK → Prop
noncomputable def OpR (X : Cx) (f : Value → Value → Sem Value) (r : R2) : Prop :=
  ∀ (pins : List (Addr × Obj)) (s : Shared) (σ : St) (H : Hp) (x y : V) (v u : Value) (Q : VK), Inv X pins σ H s → RelV x v → RelV y u → r x y H Q →
    wpAny (model X.prog X.w) X.A (f v u) (EP X pins σ Q) X.xe s
noncomputable def UnR (X : Cx) (f : Value → Sem Value) (r : V → Hp → VK → Prop) : Prop :=
  ∀ (pins : List (Addr × Obj)) (s : Shared) (σ : St) (H : Hp) (x : V) (v : Value) (Q : VK), Inv X pins σ H s → RelV x v → r x H Q →
    wpAny (model X.prog X.w) X.A (f v) (EP X pins σ Q) X.xe s
noncomputable def CallR (X : Cx) (f : Value) (r : List V → Hp → VK → Prop) : Prop :=
  ∀ (pins : List (Addr × Obj)) (s : Shared) (σ : St) (H : Hp) (xs : List V) (us : List Value) (Q : VK), Inv X pins σ H s → Vals xs us → r xs H Q →
    wpAny (model X.prog X.w) X.A (call f us) (EP X pins σ Q) X.xe s
noncomputable def tOp (r : R2) (ta tb : TE) : TE := fun σ H Q => ta σ H fun x H1 => tb σ H1 fun y H2 => r x y H2 Q
noncomputable def tUn (r : V → Hp → VK → Prop) (ta : TE) : TE := fun σ H Q => ta σ H fun x H1 => r x H1 Q
noncomputable def rI (C : Int → Int → Prop) (g : Int → Int → V) : R2 := fun x y H Q => ∃ i j, x = .int i ∧ y = .int j ∧ C i j ∧ Q (g i j) H
noncomputable def rI0 (g : Int → Int → V) : R2 := fun x y H Q => ∃ i j, x = .int i ∧ y = .int j ∧ Q (g i j) H
noncomputable def rU (g : Int → V) : V → Hp → VK → Prop := fun x H Q => ∃ i, x = .int i ∧ Q (g i) H
section
variable {X : Cx} {a b c : Expr} {ta tb tc : TE} {pos : Pos}
theorem binT (ha : PE X a ta) (hb : PE X b tb) {pins : List (Addr × Obj)} {s : Shared} {σ : St} {H : Hp} {R : V → V → Hp → Prop} (I : Inv X pins σ H s)
    (h : ta σ H fun x H1 => tb σ H1 fun y H2 => R x y H2) {Q : Value → Shared → Prop} {f : Value → Value → Sem Value}
    (hf : ∀ v u s2 x y H2, Inv X pins σ H2 s2 → RelV x v → RelV y u → R x y H2 → wpAny (model X.prog X.w) X.A (f v u) Q X.xe s2) :
    wpAny (model X.prog X.w) X.A (eval a X.env) (fun v s₁ => wpAny (model X.prog X.w) X.A (eval b X.env) (fun u s₂ => wpAny (model X.prog X.w) X.A (f v u) Q X.xe s₂) X.xe s₁) X.xe s := by
  refine thn (ha pins s σ H _ I h) fun v s1 ⟨x, H1, I1, r1, q1⟩ => ?_
  refine thn (hb pins s1 σ H1 _ I1 q1) fun u s2 ⟨y, H2, I2, r2, q2⟩ => ?_
  exact hf v u s2 x y H2 I2 r1 r2 q2
theorem pe_op {op : Operator} {r : R2} (ho : OpR X (binaryOp op) r) (ha : PE X a ta) (hb : PE X b tb) : PE X (.BinOp a op b pos) (tOp r ta tb) := by
  intro pins s σ H Q I h
  exact wpAny_BinOp (binT ha hb I h fun v u s2 x y H2 I2 rx ry q => ho pins s2 σ H2 x y v u Q I2 rx ry q)
theorem pe_un {op : UnaryOp} {r : V → Hp → VK → Prop} (ho : UnR X (unaryOp op) r) (ha : PE X a ta) : PE X (.UnaryOp op a pos) (tUn r ta) := by
  intro pins s σ H Q I h
  exact UnaryOp_ (thn (ha pins s σ H _ I h) fun v s1 ⟨x, H1, I1, r1, q1⟩ => ho pins s1 σ H1 x v Q I1 r1 q1)
theorem opI {f : Value → Value → Sem Value} {C : Int → Int → Prop} {g : Int → Int → Int}
    (rule : ∀ (i j : Int) (t u : Tok) (s : Shared) (Q : Value → Shared → Prop) (E : Value → Shared → Prop), C i j → Q (.int (g i j) s.toks) { s with toks := s.toks + 1 } → wpAny (model X.prog X.w) X.A (f (.int i t) (.int j u)) Q E s) :
    OpR X f (rI C fun i j => .int (g i j)) := by
  intro pins s σ H x y v u Q I rx ry h
  obtain ⟨i, j, rfl, rfl, hc, q⟩ := h
  obtain ⟨t, rfl⟩ := rx
  obtain ⟨t', rfl⟩ := ry
  exact rule i j t t' s _ _ hc ⟨.int (g i j), H, I.tok _, ⟨_, rfl⟩, q⟩
theorem opB0 {f : Value → Value → Sem Value} {g : Int → Int → Bool}
    (rule : ∀ (i j : Int) (t u : Tok) (s : Shared) (Q : Value → Shared → Prop) (E : Value → Shared → Prop), Q (.bool (g i j)) s → wpAny (model X.prog X.w) X.A (f (.int i t) (.int j u)) Q E s) :
    OpR X f (rI0 fun i j => .bl (g i j)) := by
  intro pins s σ H x y v u Q I rx ry h
  obtain ⟨i, j, rfl, rfl, q⟩ := h
  obtain ⟨t, rfl⟩ := rx
  obtain ⟨t', rfl⟩ := ry
  exact rule i j t t' s _ _ ⟨.bl (g i j), H, I, rfl, q⟩
theorem op_mod : OpR X (binaryOp .Mod) (rI (fun _ j => 0 < j) fun i j => .int (i % j)) := opI fun i j _ _ _ _ _ hc q => by
  have h1 : (0 : Int) < j := hc
  exact mod_int' (by omega) (by rw [Int.fmod_eq_emod_of_nonneg i (by omega)]; exact q)
theorem unI {f : Value → Sem Value} {g : Int → Int}
    (rule : ∀ (i : Int) (t : Tok) (s : Shared) (Q : Value → Shared → Prop) (E : Value → Shared → Prop), Q (.int (g i) s.toks) { s with toks := s.toks + 1 } → wpAny (model X.prog X.w) X.A (f (.int i t)) Q E s) :
    UnR X f (rU fun i => .int (g i)) := by
  intro pins s σ H x v Q I rx h
  obtain ⟨i, rfl, q⟩ := h
  obtain ⟨t, rfl⟩ := rx
  exact rule i t s _ _ ⟨.int (g i), H, I.tok _, ⟨_, rfl⟩, q⟩
theorem un_neg : UnR X (unaryOp .USub) (rU fun i => .int (-i)) := unI fun _ _ _ _ _ q => neg_int q
end
section
variable {X : Cx} {a b c : Expr} {ta tb tc : TE} {pos : Pos}
theorem fin_bl {pins : List (Addr × Obj)} {σ : St} {H : Hp} {s : Shared} {Q : VK} {k k' : Bool} (I : Inv X pins σ H s) (q : Q (.bl k) H) (e : k = k') : EP X pins σ Q (.bool k') s := by
  subst e
  exact ⟨.bl k, H, I, rfl, q⟩
theorem op_lt : OpR X (compareOp .Lt) (rI0 fun i j => .bl (decide (i < j))) := opB0 fun _ _ _ _ _ _ _ q => lt_int q
theorem op_gt : OpR X (compareOp .Gt) (rI0 fun i j => .bl (decide (j < i))) := opB0 fun _ _ _ _ _ _ _ q => gt_int q
theorem op_ge : OpR X (compareOp .GtE) (rI0 fun i j => .bl (decide (j ≤ i))) := opB0 fun _ _ _ _ _ _ _ q => ge_int q
theorem op_isN : OpR X (compareOp .Is) (fun x y H Q => y = .non ∧ Q (.bl (decide (x = .non))) H) := by
  intro pins s σ H x y v u Q I rx ry h
  obtain ⟨rfl, q⟩ := h
  cases ry
  refine is_none_gen (fin_bl I q ?_)
  cases x <;> first
    | (cases rx; rfl)
    | (obtain ⟨t, rfl⟩ := rx; rfl)
theorem op_notN : OpR X (compareOp .IsNot) (fun x y H Q => y = .non ∧ Q (.bl (!decide (x = .non))) H) := by
  intro pins s σ H x y v u Q I rx ry h
  obtain ⟨rfl, q⟩ := h
  cases ry
  refine isnot_none_gen (fin_bl I q ?_)
  cases x <;> first
    | (cases rx; rfl)
    | (obtain ⟨t, rfl⟩ := rx; rfl)
theorem pe_cmpR {op : CmpOp} {r : R2} (ho : OpR X (compareOp op) r) (ha : PE X a ta) (hb : PE X b tb) (hm : behindInMarks op b = false) : PE X (.Compare a [op] [b] pos) (tOp r ta tb) := by
  intro pins s σ H Q I h
  exact wpAny_Compare1 (binT ha hb I h fun v u s2 x y H2 I2 rx ry q => ho pins s2 σ H2 x y v u Q I2 rx ry q) hm
noncomputable def tTest (t : TE) : TT := fun σ H Q => t σ H fun x H' => ∃ k, x = .bl k ∧ Q k H'
theorem pt_cmpR {op : CmpOp} {r : R2} (ho : OpR X (compareOp op) r) (ha : PE X a ta) (hb : PE X b tb) (hm : behindInMarks op b = false) : PT X (.Compare a [op] [b] pos) (tTest (tOp r ta tb)) := by
  intro pins s σ H Q I h
  refine wpAny_isTrue_Compare1 (thn (ha pins s σ H _ I h) fun v s1 ⟨x, H1, I1, r1, q1⟩ => thn (hb pins s1 σ H1 _ I1 q1) fun u s2 ⟨y, H2, I2, r2, q2⟩ =>
    thn (ho pins s2 σ H2 x y v u _ I2 r1 r2 q2) fun c s3 ⟨z, H3, I3, r3, k, e, q3⟩ => ?_) hm
  subst e
  cases r3
  exact wpAny_truthy_bool ⟨H3, I3, q3⟩
theorem line63 : (sizeLine : Nat) < 2 ^ 63 := by rw [sizeLine_eq]; decide
theorem vals1 {x : V} {us : List Value} (r : Vals [x] us) : ∃ u, us = [u] ∧ RelV x u := by
  cases r with
  | cons r1 r2 => cases r2; exact ⟨_, rfl, r1⟩
theorem vals2 {x y : V} {us : List Value} (r : Vals [x, y] us) : ∃ u w', us = [u, w'] ∧ RelV x u ∧ RelV y w' := by
  cases r with
  | cons r1 r2 =>
    cases r2 with
    | cons r3 r4 => cases r4; exact ⟨_, _, rfl, r1, r3⟩
theorem call_int1 : CallR X (.type "int") (fun xs H Q => (∃ i, xs = [.int i] ∧ Q (.int i) H) ∨ ∃ k, xs = [.bl k] ∧ Q (.int (if k then 1 else 0)) H) := by
  intro pins s σ H xs us Q I r h
  rcases h with ⟨i, rfl, q⟩ | ⟨k, rfl, q⟩
  · obtain ⟨u, rfl, t, rfl⟩ := vals1 r
    exact call_int_int ⟨.int i, H, I, ⟨_, rfl⟩, q⟩
  · obtain ⟨u, rfl, r1⟩ := vals1 r
    cases r1
    exact call_int_bool ⟨.int (if k then 1 else 0), H, I.tok _, ⟨_, rfl⟩, q⟩
end
end L2
namespace L2
open PySem PySem.Spec PyProof.Rows
structure ObjM (h : Heap) (x dx C : Addr) (mA : Str → Option Value) : Prop where
  obj : h.get? x = some (PySem.W.instObj C dx)
  ns : h.Ns1 dx mA
  ne : dx ≠ x
theorem lookIn_ns {h : Heap} {dx : Addr} {mA : Str → Option Value} (n : h.Ns1 dx mA) : ∃ od, h.get? dx = some od ∧ ∀ name, PySem.W.lookIn name od = some (mA name) := by
  obtain ⟨o, es, ep, ho, hd, hk, _, hm⟩ := n
  refine ⟨o, ho, fun name => ?_⟩
  have e := hm name
  unfold nsFind findBy at e
  rw [← Array.find?_toList] at e
  unfold PySem.W.lookIn
  rw [hd]
  dsimp only
  split
  · rename_i y q
    rw [q] at e
    exact congrArg some e
  · rename_i q
    rw [q] at e
    have a : es.toList.any (·.refKey) = false := by
      rw [List.any_eq_false]
      intro y hy
      obtain ⟨z, t, hkey⟩ := hk y (Array.mem_toList_iff.mp hy)
      simp [DictEntry.refKey, hkey]
    have a' : ¬ es.toList.any (·.refKey) = true := by rw [a]; exact Bool.false_ne_true
    rw [if_neg a']
    exact congrArg some e
theorem ObjM.look {h : Heap} {x dx C : Addr} {mA : Str → Option Value} (I : ObjM h x dx C mA) : ∃ od, PySem.W.InstAt h x (PySem.W.instObj C dx) C (some od) ∧ ∀ name, PySem.W.lookIn name od = some (mA name) :=
  let ⟨od, ho, hl⟩ := lookIn_ns I.ns
  ⟨od, ⟨I.obj, rfl, rfl, ho⟩, hl⟩
section
variable {prog : Program} {w : World} {A : Around} {E : Value → Shared → Prop} {s : Shared} {K : PySem.W.Frag} {x dx C f : Addr} {mA : Str → Option Value} {name : Str} {v : Value}
end
theorem RelO.some_of {v : V} {o : Option Value} (r : RelO (some v) o) : ∃ u, o = some u ∧ RelV v u := by
  cases o with
  | none => exact (show False from r).elim
  | some u => exact ⟨u, rfl, r⟩
theorem handed_of {v : V} {u : Value} (r : RelV v u) : PySem.W.handedIn u = true := by
  cases v with
  | non => cases (show u = Value.none from r); rfl
  | bl b => cases (show u = Value.bool b from r); rfl
  | int i => obtain ⟨t, e⟩ := (show ∃ t, u = Value.int i t from r); cases e; rfl
  | str x => obtain ⟨t, e⟩ := (show ∃ t, u = Value.str x t from r); cases e; rfl
  | byt b => obtain ⟨t, e⟩ := (show ∃ t, u = Value.bytes b t from r); cases e; rfl
  | flt b => obtain ⟨t, e⟩ := (show ∃ t, u = Value.float b t from r); cases e; rfl
  | ref a => cases (show u = Value.ref a from r); rfl
  | ty n => cases (show u = Value.type n from r); rfl
section
variable {P : Program} {w : World} {H H' : Hp} {h h' : Heap} {a C dx : Addr} {fs fs' : List (Str × V)}
theorem ins_get (hok : HOk P w H h) (e : H a = some (.ins C dx fs)) : ∃ mA, ObjM h a dx C mA ∧ (∀ f, RelO (fs.lookup f) (mA f)) ∧ PySem.Within mA (fs.map (·.1)) ∧ fs.length ≤ 1000 ∧ H dx = some (.own a) := by
  obtain ⟨d, z, ne, ob, mA, n, r, q⟩ := (show ObjOk P w H h a (.ins C dx fs) from hok a _ e)
  exact ⟨mA, ⟨ob, n, ne⟩, r, q, z, d⟩
end
structure Cls (K : PySem.W.Frag) (C : Addr) : Prop where
  pg : PySem.W.plainGet K C Str.empty = true
  hd : PySem.W.hasDictIn K C = true
  po : PySem.W.plainOver K C = true
  sa : PySem.W.findIn K (.ref C) "__setattr__" = some (some (.builtin "object.__setattr__"))
theorem Cls.get {K : PySem.W.Frag} {C : Addr} (c : Cls K C) (f : Str) : PySem.W.plainGet K C f = true := c.pg
structure Con (K : PySem.W.Frag) (C : Addr) (f : Str) (v : V) (u : Value) : Prop where
  at_ : PySem.W.findIn K (.ref C) f = some (some u)
  rel : RelV v u
  get : PySem.W.specialIn K u "__get__" = some none
  cp : PySem.W.copiedNames.contains f = false
structure Meth (K : PySem.W.Frag) (C : Addr) (m : Str) (f : Addr) : Prop where
  at_ : PySem.W.findIn K (.ref C) m = some (some (.ref f))
  fn : PySem.W.isFn K (.ref f) = true
  kp : PySem.W.keepIn K (.ref f) = true
section
variable {X : Cx} {pins : List (Addr × Obj)} {σ : St} {H : Hp} {s : Shared} {a C dx : Addr} {fs : List (Str × V)} {f : Str} {v : V} {A : Around} {E : Value → Shared → Prop}
theorem attr_of {prog : Program} {w : World} {env : Env} {e : Expr} {f : Str} {pos : Pos} {s : Shared} {Q : Value → Shared → Prop} (hb : attributeBase e f env (eval e env) = eval e env)
    (h : wpAny (model prog w) A (eval e env) (fun o s₁ => wpAny (model prog w) A (getAttr o f true) Q E s₁) E s) : wpAny (model prog w) A (eval (.Attribute e f pos) env) Q E s :=
  Attribute_any_ h (by rw [arm_eval_Attribute, hb])
end
section
variable {X : Cx} {o e value : Expr} {f : Str} {pos pos' tpos : Pos} {ta tv : TE}
end
section
variable {X : Cx} {pins : List (Addr × Obj)} {σ : St} {H : Hp} {s : Shared} {A : Around} {E : Value → Shared → Prop} {Q : Value → Shared → Prop} {c : Value} {b : Bool}
inductive TyOf (K : PySem.W.Frag) (H : Hp) : V → Value → Prop where
  | non : TyOf K H .non (.type "NoneType")
  | bl (x : Bool) : TyOf K H (.bl x) (.type "bool")
  | int (i : Int) : TyOf K H (.int i) (.type "int")
  | str (x : Str) : TyOf K H (.str x) (.type "str")
  | flt (x : UInt64) : TyOf K H (.flt x) (.type "float")
  | lst {a : Addr} {xs : List V} (e : H a = some (.lst xs)) : TyOf K H (.ref a) (.type "list")
  | frz {a : Addr} {o : Obj} {xs : List V} (e : H a = some (.frz o (.lst xs))) : TyOf K H (.ref a) (.type "list")
  | tup {a : Addr} {xs : List V} (e : H a = some (.tup xs)) : TyOf K H (.ref a) (.type "tuple")
  | dK {a : Addr} {kvs : List (Key × V)} (e : H a = some (.dK kvs)) : TyOf K H (.ref a) (.type "dict")
  | dT {a : Addr} {kvs : List (List Key × V)} (e : H a = some (.dT kvs)) : TyOf K H (.ref a) (.type "dict")
  | ins {a C dx : Addr} {fs : List (Str × V)} (e : H a = some (.ins C dx fs)) (cl : Cls K C) (ha : PySem.W.findIn K (.ref C) "__class__" = some (some (.builtin "object.__class__")))
      (hn : PySem.W.specialIn K (.builtin "object.__class__") "__get__" = some (some (.builtin "getset_descriptor.__get__"))) (htk : PySem.W.takesIn K (.builtin "object.__class__") = some true)
      (hm : PySem.W.mroIn K C (.type "object") = some true) : TyOf K H (.ref a) (.ref C)
theorem isinst_ok {x : V} {u t : Value} (I : Inv X pins σ H s) (rx : RelV x u) (ty : TyOf X.K H x t) (e : PySem.W.kitOne X.K t c = some b) (h : ∀ tk, Q (.bool b) { s with toks := tk }) :
    wpAny (model X.prog X.w) A (call (.builtin "isinstance") [u, c]) Q E s := by
  cases ty with
  | non => cases (show u = Value.none from rx); exact PySem.W.kia_one PySem.W.kitx_none I.kIn True.intro e (fun z => nomatch z) h
  | bl y => cases (show u = Value.bool y from rx); exact PySem.W.kia_one PySem.W.kitx_bool I.kIn True.intro e (fun z => nomatch z) h
  | int i => obtain ⟨t, q⟩ := (show ∃ t, u = Value.int i t from rx); cases q; exact PySem.W.kia_one PySem.W.kitx_int I.kIn True.intro e (fun z => nomatch z) h
  | str y => obtain ⟨t, q⟩ := (show ∃ t, u = Value.str y t from rx); cases q; exact PySem.W.kia_one PySem.W.kitx_str I.kIn True.intro e (fun z => nomatch z) h
  | flt y => obtain ⟨t, q⟩ := (show ∃ t, u = Value.float y t from rx); cases q; exact PySem.W.kia_one PySem.W.kitx_float I.kIn True.intro e (fun z => nomatch z) h
  | @lst a xs ea =>
    cases (show u = Value.ref a from rx)
    obtain ⟨_, _, n, _, h1⟩ := (show ObjOk X.prog X.w H s.heap a (.lst xs) from I.hok a _ ea)
    exact PySem.W.kia_one PySem.W.kitx_list I.kIn ⟨_, h1, rfl⟩ e (fun z => nomatch z) h
  | @frz a ob xs ea =>
    cases (show u = Value.ref a from rx)
    obtain ⟨_, _, _, n, _, h1⟩ := (show ObjOk X.prog X.w H s.heap a (.frz ob (.lst xs)) from I.hok a _ ea)
    exact PySem.W.kia_one PySem.W.kitx_list I.kIn ⟨_, h1, rfl⟩ e (fun z => nomatch z) h
  | @tup a xs ea =>
    cases (show u = Value.ref a from rx)
    obtain ⟨_, _, _, p⟩ := (show ObjOk X.prog X.w H s.heap a (.tup xs) from I.hok a _ ea)
    obtain ⟨o, h1, h2, _⟩ := p
    exact PySem.W.kia_one PySem.W.kitx_tuple I.kIn ⟨o, h1, h2⟩ e (fun z => nomatch z) h
  | @dK a kvs ea =>
    cases (show u = Value.ref a from rx)
    obtain ⟨_, _, vs, _, p⟩ := (show ObjOk X.prog X.w H s.heap a (.dK kvs) from I.hok a _ ea)
    obtain ⟨o, es, ep, h1, h2, _⟩ := p
    exact PySem.W.kia_one PySem.W.kitx_dict I.kIn ⟨o, h1, h2.1⟩ e (fun z => nomatch z) h
  | @dT a kvs ea =>
    cases (show u = Value.ref a from rx)
    obtain ⟨_, _, xs, _, o, es, ep, h1, h2, _⟩ := (show ObjOk X.prog X.w H s.heap a (.dT kvs) from I.hok a _ ea)
    exact PySem.W.kia_one PySem.W.kitx_dict I.kIn ⟨o, h1, h2.1⟩ e (fun z => nomatch z) h
  | @ins a C dx fs ea cl ha hn htk hm =>
    cases (show u = Value.ref a from rx)
    obtain ⟨mA, O, _⟩ := ins_get I.hok ea
    obtain ⟨od, J, _⟩ := O.look
    exact PySem.W.kia_one (PySem.W.kitx_own (cl.get _) cl.hd ha hn htk hm) I.kIn J e (fun z => nomatch z) h
end
end L2
namespace L2
open PySem PySem.Spec PyProof.Rows
structure Room (k : Nat) (A : Around) : Prop where
  hd : A.handled = none
  dp : A.depth + 3 * k + 5 < recursionLimit
  un : A.units + 16 * k + 200 < cLine
theorem Room.mono {j k : Nat} {A : Around} (r : Room k A) (h : j ≤ k) : Room j A := ⟨r.hd, by have := r.dp; omega, by have := r.un; omega⟩
theorem Room.deeper {k : Nat} {A : Around} (r : Room (k + 1) A) (env : Env) : Room k (A.deeper env) :=
  ⟨r.hd, by have := r.dp; show A.depth + 1 + 3 * k + 5 < _; omega, by have := r.un; show A.units + 3 + 16 * k + 200 < _; omega⟩
theorem make_depth {A : Around} {C : Addr} {us : List Value} {kw : List (Str × Value)} : (A.under (.builtin "type.__call__" ⟨.ref C :: us, kw⟩)).depth = A.depth + 1 := by
  first | rfl | simp [Around.under, Code.weight, Code.isCreation, Code.isGuard, Code.isCaller, Code.frames, Code.isFrame, guardIds]
theorem make_units {A : Around} {C : Addr} {us : List Value} {kw : List (Str × Value)} : (A.under (.builtin "type.__call__" ⟨.ref C :: us, kw⟩)).units = A.units + 1 := by
  first | rfl | simp [Around.under, Code.cUnits, Code.frames, Code.isFrame]
theorem Room.make {k : Nat} {A : Around} (r : Room (k + 1) A) (C : Addr) (us : List Value) (kw : List (Str × Value)) : Room k (A.under (.builtin "type.__call__" ⟨.ref C :: us, kw⟩)) :=
  ⟨r.hd, by have := r.dp; rw [make_depth]; omega, by have := r.un; rw [make_units]; omega⟩
theorem Room.depth {k : Nat} {A : Around} (r : Room k A) : A.depth < recursionLimit := by have := r.dp; omega
theorem Room.units {k : Nat} {A : Around} (r : Room k A) : A.units + 64 < cLine := by have := r.un; omega
noncomputable def tNil : TA := fun _ H Q => Q [] H
noncomputable def tCons (ta : TE) (tr : TA) : TA := fun σ H Q => ta σ H fun x H1 => tr σ H1 fun xs H2 => Q (x :: xs) H2
section
variable {X : Cx} {e : Expr} {es : List Expr} {te : TE} {t : TA} {pos : Pos}
theorem pa_nil : PA X [] tNil := fun _ _ _ _ H Q I h => Calls.spliced_nil ⟨[], H, I, .nil, h⟩
theorem pa_cons (ha : PE X e te) (hr : PA X es t) (hs : starEach (e :: es) X.env = (false, eval e X.env) :: starEach es X.env := by rfl) : PA X (e :: es) (tCons te t) := by
  intro pos pins s σ H Q I h
  rw [hs]
  show wpAny _ _ (spliced ((false, eval e X.env) :: backTo pos (starEach es X.env))) _ _ s
  refine Calls.spliced_cons (thn (ha pins s σ H _ I h) fun u s1 ⟨x, H1, I1, r1, q1⟩ => ?_)
  exact thn (hr pos pins s1 σ H1 _ I1 q1) fun us s2 ⟨xs, H2, I2, r2, q2⟩ => ⟨x :: xs, H2, I2, .cons r1 r2, q2⟩
noncomputable def tTup (t : TA) : TE := fun σ H Q => t σ H fun xs H1 => xs.length ≤ sizeLine ∧ ∀ p, H1 p = none → Q (.ref p) (upd H1 p (.tup xs))
noncomputable def tLst (t : TA) : TE := fun σ H Q => t σ H fun xs H1 => xs.length ≤ sizeLine ∧ ∀ p, H1 p = none → Q (.ref p) (upd H1 p (.lst xs))
theorem pe_tup {x1} (h : PA X es t) : PE X (.Tuple es x1 pos) (tTup t) := by
  intro pins s σ H Q I hq
  refine wpAny_Tuple_spliced (thn (h pos pins s σ H _ I hq) fun us s1 ⟨xs, H1, I1, r, z, q⟩ => ⟨by rw [← r.length]; exact z, ?_⟩)
  have hf : H1 s1.heap.objs.size = none := I1.hok.fresh (Nat.le_refl _)
  refine ⟨.ref s1.heap.objs.size, upd H1 s1.heap.objs.size (.tup xs), I1.laid (t' := s1.toks) (fun b u e => Heap.get?_push_of_some _ e) (Nat.le_refl _) ?_, rfl, q _ hf⟩
  exact ⟨z, us, r, ⟨_, Heap.get?_push_size _ rfl, rfl, _, rfl⟩⟩
theorem pe_lst (h : PA X es t) : PE X (.List es pos) (tLst t) := by
  intro pins s σ H Q I hq
  refine wpAny_List_spliced (thn (h pos pins s σ H _ I hq) fun us s1 ⟨xs, H1, I1, r, z, q⟩ => ⟨by rw [← r.length]; exact z, ?_⟩)
  have hf : H1 s1.heap.objs.size = none := I1.hok.fresh (Nat.le_refl _)
  refine ⟨.ref s1.heap.objs.size, upd H1 s1.heap.objs.size (.lst xs), I1.laid (t' := s1.toks) (fun b u e => Heap.get?_push_of_some _ e) (Nat.le_refl _) ?_, rfl, q _ hf⟩
  exact ⟨z, us, 0, r, Heap.get?_push_size _ rfl⟩
end
noncomputable abbrev Sp := List V → Hp → VK → XK → Prop
noncomputable abbrev CXT := List Env → Hp → Shared → XK → Value → Shared → Prop
structure Env0 (P : Program) (w : World) (K : PySem.W.Frag) (mg : Str → Option Value) (base : Heap) (A : Around) (outer : List Env) (s : Shared) (H : Hp) : Prop where
  frames : A.frames = some outer
  mod : Mod K mg base
  bs : ∀ b o, base.get? b = some o → s.heap.get? b = some o ∧ H b = none
  bsz : base.objs.size ≤ s.heap.objs.size
  funs : s.heap.FunFrames base outer
  frf : ∀ b ∈ frs outer, H b = none
  hok : HOk P w H s.heap
  bare : AllBare s.gens
noncomputable def CE (outer : List Env) (P : Program) (w : World) (H : Hp) (s : Shared) (Q : VK) (u : Value) (s' : Shared) : Prop :=
  ∃ v H', s'.os = s.os ∧ AllBare s'.gens ∧ Un (frs outer) [] H H' s.heap s'.heap ∧ HOk P w H' s'.heap ∧ RelV v u ∧ Q v H'
noncomputable def CR (CX : CXT) (outer : List Env) (P : Program) (w : World) (H : Hp) (s : Shared) (Q : VK) (E : XK) (r : Result) (s' : Shared) : Prop :=
  match r with
  | .ok (.ret u) => CE outer P w H s Q u s'
  | .ok _ => False
  | .error e => CX outer H s E e s'
structure FnOk (P : Program) (w : World) (K : PySem.W.Frag) (mg : Str → Option Value) (base : Heap) (CX : CXT) (k : Nat) (f : Addr) (fd : FuncData) (ps : List Str) (sp : Sp) : Prop where
  len : ∀ vs H Q E, sp vs H Q E → vs.length = ps.length
  run : ∀ (A : Around) (outer : List Env) (s : Shared) (H : Hp) (args : Args) (us : List Value) (vs : List V) (Q : VK) (E : XK), Room k A → Env0 P w K mg base A outer s H → BindsTo s fd args (ps.zip us) → Vals vs us → sp vs H Q E →
    codeAny (model P w) A (.call (.ref f) args) (CR CX outer P w H s Q E) s
theorem Env0.make {P : Program} {w : World} {K : PySem.W.Frag} {mg : Str → Option Value} {base : Heap} {A : Around} {outer : List Env} {s : Shared} {H : Hp} (e : Env0 P w K mg base A outer s H) (C : Addr) (us : List Value) (kw : List (Str × Value)) :
    Env0 P w K mg base (A.under (.builtin "type.__call__" ⟨.ref C :: us, kw⟩)) outer s H := ⟨by first | exact e.frames | (simpa [Around.under, Code.envs, Code.isFrame, pushEnvs] using e.frames), e.mod, e.bs, e.bsz, e.funs, e.frf, e.hok, e.bare⟩
section
variable {X : Cx} {pins : List (Addr × Obj)} {σ : St} {H : Hp} {s s' : Shared}
theorem Inv.env0 (I : Inv X pins σ H s) : Env0 X.prog X.w X.K X.mg X.base X.A X.stack s H :=
  ⟨I.ok.frames, I.ok.mod, I.bs, Nat.le_trans I.ok.bsz I.sz, I.stack, I.stkFree, I.hok, I.bare⟩
theorem Inv.after {Q : VK} {u : Value} (I : Inv X pins σ H s) (h : CE X.stack X.prog X.w H s Q u s') : EP X pins σ Q u s' := by
  obtain ⟨v, H', os, bare, un, hok, r, q⟩ := h
  obtain ⟨hh, g, d, t, os'⟩ := s'
  obtain rfl : os' = s.os := os
  exact ⟨v, H', I.call (h' := hh) (g' := g) (d' := d) (t' := t) (ch := []) un hok bare (fun b z => absurd z (by simp)), r, q⟩
end
noncomputable def tCall (sp : Sp) (dvs : List V) (E : XK) (t : TA) : TE := fun σ H Q => t σ H fun vs H1 => sp (vs ++ dvs) H1 Q E
noncomputable def Binds (K : PySem.W.Frag) (fd : FuncData) (ps : List Str) (ds : List Value) : Prop :=
  ∀ (s : Shared) (us : List Value), K.In s.heap → (us ++ ds).length = ps.length → BindsTo s fd ⟨us, []⟩ (ps.zip (us ++ ds))
theorem Binds.all {K : PySem.W.Frag} {fd : FuncData} {ps : List Str} (h : ∀ us : List Value, us.length = ps.length → bindArgs fd ⟨us, []⟩ = pure (ps.zip us)) : Binds K fd ps [] := fun s us _ hl => by
  rw [List.append_nil] at hl ⊢
  exact .of_eq (h us hl)
noncomputable def Passes (CX : CXT) (X : Cx) (E : XK) : Prop := ∀ (pins : List (Addr × Obj)) (σ : St) (H : Hp) (s : Shared) (e : Value) (s' : Shared), Inv X pins σ H s → CX X.stack H s E e s' → X.xe e s'
section
variable {X : Cx} {CX : CXT} {k : Nat} {f C : Addr} {fd : FuncData} {ps : List Str} {sp : Sp} {dvs : List V} {ds : List Value} {E : XK} {x m : Str} {p pos apos : Pos} {e o : Expr} {es : List Expr} {ta : TE} {t : TA}
theorem run_fn {pins : List (Addr × Obj)} {σ : St} {H : Hp} {s : Shared} {Q : VK} {us : List Value} {vs : List V} (F : FnOk X.prog X.w X.K X.mg X.base CX k f fd ps sp) (hr : Room k X.A) (hb : Binds X.K fd ps ds) (hd : Vals dvs ds) (hx : Passes CX X E)
    (I : Inv X pins σ H s) (r : Vals vs us) (h : sp (vs ++ dvs) H Q E) : wpAny (model X.prog X.w) X.A (call (.ref f) us) (EP X pins σ Q) X.xe s := by
  have r2 : Vals (vs ++ dvs) (us ++ ds) := r.append hd
  have hl : (us ++ ds).length = ps.length := by rw [← r2.length]; exact F.len _ _ _ _ h
  refine wpAny_call (codeAny_mono (F.run X.A X.stack s H ⟨us, []⟩ (us ++ ds) (vs ++ dvs) Q E hr I.env0 (hb s us I.kIn hl) r2 h) fun r s' hq => ?_)
  cases r with
  | error e => exact hx pins σ H s e s' I hq
  | ok fl =>
    cases fl with
    | ret u => exact I.after hq
    | next => exact False.elim hq
    | brk => exact False.elim hq
    | cont => exact False.elim hq
theorem pe_call (F : FnOk X.prog X.w X.K X.mg X.base CX k f fd ps sp) (hr : Room k X.A) (hg : Gl X x) (hm : X.mg x = some (.ref f)) (hk : PySem.W.keepIn X.K (.ref f) = true) (hb : Binds X.K fd ps ds) (hd : Vals dvs ds) (hx : Passes CX X E)
    (ha : PA X (e :: es) t) (hdb : (x == ("__debug__" : Str)) = false := by decide) (he : starEach (e :: es) X.env = (false, eval e X.env) :: starEach es X.env := by rfl) (hpl : (backTo pos (starEach es X.env)).any (·.1) = false := by rfl) :
    PE X (.Call (.Name x p) (e :: es) [] pos) (tCall sp dvs E t) := by
  intro pins s σ H Q I h
  refine wpAny_Call_Name_kw (ld_glob I hg hm ?_ hdb)
  refine PySem.W.callWith_K (h₀ := X.base) I.ok.mod.kin hk (thn (ha pos pins s σ H _ I h) fun us s1 ⟨vs, H1, I1, r, q⟩ => ⟨I1.kIn, ?_⟩) he hpl
  exact run_fn F hr hb hd hx I1 r q
structure Mk (K : PySem.W.Frag) (C f : Addr) : Prop where
  makes : PySem.W.makesIn K C = true
  init : PySem.W.findIn K (.ref C) "__init__" = some (some (.ref f))
  fn : PySem.W.isFn K (.ref f) = true
  kp : PySem.W.keepIn K (.ref C) = true
end
section
variable {X : Cx} {CX : CXT} {k : Nat} {f C : Addr} {fd : FuncData} {ps ks : List Str} {sp : Sp} {E : XK} {x m : Str} {p pos apos kpos : Pos} {e o : Expr} {es : List Expr} {kws : List Keyword} {te ta : TE} {t tk : TA} {nm : Option Str}
structure KBinds (K : PySem.W.Frag) (fd : FuncData) (ps ks : List Str) (g : List Value → List Value → List Value) (gV : List V → List V → List V) : Prop where
  to : ∀ (s : Shared) (us ws : List Value), K.In s.heap → (g us ws).length = ps.length → BindsTo s fd ⟨us, ks.zip ws⟩ (ps.zip (g us ws))
  rel : ∀ {vs : List V} {us : List Value} {zs : List V} {ws : List Value}, Vals vs us → Vals zs ws → Vals (gV vs zs) (g us ws)
variable {g : List Value → List Value → List Value} {gV : List V → List V → List V}
end
structure FnScope (N P : List Str) (sc : Scope) : Prop where
  kind : sc.kind = .function
  co : sc.isCoroutine = false
  gen : sc.isGenerator = false
  nd : N.Nodup
  pre : N.take P.length = P
  par : ∀ x ∈ P, sc.names.lookup x = some .local ∨ sc.names.lookup x = some .cell
  nofree : ∀ y ∈ sc.names, y.2 ≠ .free
theorem bindL_out {kindOf : Str → Option NameKind} {x : Str} : ∀ {binds : List (Str × Value)} {m : Str → Option Value}, (∀ v, (x, v) ∉ binds) → bindL kindOf binds m x = m x
  | [], _, _ => rfl
  | (n, v) :: r, m, h => by
    unfold bindL
    rw [bindL_out fun w hw => h w (List.mem_cons_of_mem _ hw)]
    split
    · have : x ≠ n := by rintro rfl; exact h v List.mem_cons_self
      simp [this]
    · rfl
theorem bindC_out {kindOf : Str → Option NameKind} {x : Str} : ∀ {binds : List (Str × Value)} {m : Str → Option Value}, (∀ v, (x, v) ∉ binds) → bindC kindOf binds m x = m x
  | [], _, _ => rfl
  | (n, v) :: r, m, h => by
    unfold bindC
    rw [bindC_out fun w hw => h w (List.mem_cons_of_mem _ hw)]
    split
    · rfl
    · have : x ≠ n := by rintro rfl; exact h v List.mem_cons_self
      simp [this]
theorem bindL_get {kindOf : Str → Option NameKind} {x : Str} {v : Value} : ∀ {P : List Str} {vs : List Value} {i : Nat} {m : Str → Option Value}, P.Nodup → P[i]? = some x → vs[i]? = some v → kindOf x = some .local →
    bindL kindOf (P.zip vs) m x = some v
  | [], _, _, _, _, h, _, _ => by simp at h
  | _ :: _, [], _, _, _, _, h, _ => by simp at h
  | p :: P, w :: vs, 0, m, nd, h1, h2, hk => by
    simp at h1 h2; subst h1; subst h2
    show bindL kindOf ((p, w) :: P.zip vs) m p = _
    unfold bindL
    rw [bindL_out fun v hv => (List.nodup_cons.mp nd).1 (List.of_mem_zip hv).1, if_pos hk]
    simp
  | p :: P, w :: vs, i + 1, m, nd, h1, h2, hk => by
    show bindL kindOf ((p, w) :: P.zip vs) m x = _
    unfold bindL
    exact bindL_get (i := i) (List.nodup_cons.mp nd).2 (by simpa using h1) (by simpa using h2) hk
theorem bindC_get {kindOf : Str → Option NameKind} {x : Str} {v : Value} : ∀ {P : List Str} {vs : List Value} {i : Nat} {m : Str → Option Value}, P.Nodup → P[i]? = some x → vs[i]? = some v → kindOf x ≠ some .local →
    bindC kindOf (P.zip vs) m x = some v
  | [], _, _, _, _, h, _, _ => by simp at h
  | _ :: _, [], _, _, _, _, h, _ => by simp at h
  | p :: P, w :: vs, 0, m, nd, h1, h2, hk => by
    simp at h1 h2; subst h1; subst h2
    show bindC kindOf ((p, w) :: P.zip vs) m p = _
    unfold bindC
    rw [bindC_out fun v hv => (List.nodup_cons.mp nd).1 (List.of_mem_zip hv).1, if_neg hk]
    simp
  | p :: P, w :: vs, i + 1, m, nd, h1, h2, hk => by
    show bindC kindOf ((p, w) :: P.zip vs) m x = _
    unfold bindC
    exact bindC_get (i := i) (List.nodup_cons.mp nd).2 (by simpa using h1) (by simpa using h2) hk
noncomputable def start (N : List Str) (vs : List V) : St := vs.map some ++ List.replicate (N.length - vs.length) none
noncomputable def cxOf (CX : CXT) (P : Program) (w : World) (K : PySem.W.Frag) (mg : Str → Option Value) (base : Heap) (N : List Str) (qual : Str) (scope : Scope) (f : Addr) (cd : Value) (A : Around) (outer : List Env) (s : Shared) (H : Hp) (E : XK) : Cx where
  prog := P
  w := w
  K := K
  mg := mg
  base := base
  A := A.deeper (envOfC qual scope s.heap.objs.size f cd)
  N := N
  s₀ := s
  H₀ := H
  env := envOfC qual scope s.heap.objs.size f cd
  outer := outer
  stack := envOfC qual scope s.heap.objs.size f cd :: outer
  ex := []
  calm := true
  fn := fun _ => true
  pn := []
  xe := fun e s' => wpAny (model P w) (A.deeper (envOfC qual scope s.heap.objs.size f cd)) (leaving (envOfC qual scope s.heap.objs.size f cd) e) (fun _ s'' => CX outer H s E e s'') (fun e' s'' => CX outer H s E e' s'') s'
theorem cell_has {sc : Scope} {n : Nat} {x : Str} (h : sc.names.lookup x = some .cell) : ∃ c, (cellsFrom n sc.names []).lookup x = some c := by
  have q := PySem.W.cellsFrom_some sc.names n [] (.inl h)
  exact Option.isSome_iff_exists.mp q
theorem inv_start {CX : CXT} {P : Program} {w : World} {K : PySem.W.Frag} {mg : Str → Option Value} {base : Heap} {N ps : List Str} {qual : Str} {scope : Scope} {f : Addr} {cd : Value} {A : Around} {outer : List Env} {s s1 : Shared} {H : Hp} {E : XK} {us : List Value} {vs : List V}
    (S : FnScope N ps scope) (hd : A.handled = none) (e0 : Env0 P w K mg base A outer s H) (hl : vs.length = ps.length) (r : Vals vs us)
    (x : InCallC s s.heap.objs.size (bindL (envOfC qual scope s.heap.objs.size f cd).kindOf (ps.zip us) fun _ => none) (cellsFrom (s.heap.objs.size + 1) scope.names []) (bindC (envOfC qual scope s.heap.objs.size f cd).kindOf (ps.zip us) fun _ => none) s1) :
    Inv (cxOf CX P w K mg base N qual scope f cd A outer s H E) [] (start N vs) H s1 := by
  have hpl : ps.length ≤ N.length := by have := congrArg List.length S.pre; rw [List.length_take] at this; omega
  obtain ⟨h1, tk, rfl, hk⟩ := x.done
  have noA : ∀ b : Addr, b ∉ (cxOf CX P w K mg base N qual scope f cd A outer s H E).ex := fun b z => absurd (show b ∈ ([] : List Addr) from z) (by simp)
  refine ⟨⟨e0.mod, S.kind, rfl, rfl, Nat.le_refl _, fun y z c h1 h2 => ?_, fun y hy => ?_, fun y c _ h => ?_, fun _ => hd, Around.frames_deeper e0.frames, .inr ⟨rfl, rfl⟩, fun b z => absurd z (noA b), e0.bs, e0.bsz, fun b _ _ => noA b, fun b z => absurd z (noA b), e0.funs, e0.frf⟩,
    rfl, e0.bare, Un.kept hk, ⟨_, x.toInCall.ns, fun i y v h1 h2 h3 => ?_⟩, fun y c h => ⟨_, x.cell y c h⟩, e0.hok.fresh (Nat.le_refl _), fun y c h => ?_, fun p hp => absurd (show p ∈ ([] : List (Addr × Obj)) from hp) (by simp), e0.hok.kept hk, ?_⟩
  · exact name_of_addr x.apart (PySem.mem_of_lookup h1) (PySem.mem_of_lookup h2)
  · have hy : scope.names.lookup y = some .cell ∨ scope.names.lookup y = some .free := hy
    rcases hy with hy | hy
    · exact cell_has hy
    · exact absurd rfl (S.nofree _ (PySem.mem_of_lookup hy))
  · exact Nat.le_of_lt (x.above y c (PySem.mem_of_lookup h))
  · have hi : i < vs.length := by
      unfold start at h2
      by_cases hi : i < vs.length
      · exact hi
      · rw [List.getElem?_append_right (by simpa using hi)] at h2
        rw [List.getElem?_replicate] at h2
        split at h2 <;> cases h2
    have ha : vs[i]? = some v := by
      unfold start at h2
      rw [List.getElem?_append_left (by simpa using hi), List.getElem?_map] at h2
      cases e : vs[i]? with
      | none => rw [e] at h2; cases h2
      | some a => rw [e] at h2; cases h2; rfl
    obtain ⟨u, hu, rv⟩ := r.get ha
    have hp : ps[i]? = some y := by
      rw [← S.pre, List.getElem?_take_of_lt (by omega)]; exact h1
    have ndP : ps.Nodup := by rw [← S.pre]; exact S.nd.sublist (List.take_sublist _ _)
    refine ⟨u, rv, ?_⟩
    rcases S.par y (List.mem_of_getElem? hp) with k | k
    · exact .inl ⟨k, bindL_get ndP hp hu k⟩
    · obtain ⟨c, e⟩ := cell_has (n := s.heap.objs.size + 1) k
      refine .inr ⟨.inl k, c, e, ?_⟩
      have q := x.cell y c e
      rw [bindC_get ndP hp hu (by show scope.names.lookup y ≠ _; rw [k]; decide)] at q
      exact q
  · exact e0.hok.fresh (Nat.le_of_lt (x.above y c (PySem.mem_of_lookup h)))
  · unfold start
    show _ = N.length
    rw [List.length_append, List.length_map, List.length_replicate]
    omega
theorem fn_of {CX : CXT} {P : Program} {w : World} {K : PySem.W.Frag} {mg : Str → Option Value} {base : Heap} {k : Nat} {f : Addr} {name qual : Str} {params : Arguments} {body : List Stmt} {scope : Scope} {dV kV doc pm cdv ct oc : Value} {an od : Option Addr}
    {osl : Array (Option Value)} {N ps : List Str} {sp : Sp} (lk : K.lookup f = some ⟨oc, od, .func (PySem.W.fnOf name qual params body scope dV kV doc pm an cdv ct), osl⟩) (hcd : PySem.W.codeIn K cdv qual = true) (S : FnScope N ps scope)
    (len : ∀ vs H Q E, sp vs H Q E → vs.length = ps.length)
    (hbody : ∀ (A : Around) (outer : List Env) (s : Shared) (H : Hp) (vs : List V) (Q : VK) (E : XK), Room k (A.deeper (envOfC qual scope s.heap.objs.size f cdv)) → sp vs H Q E →
      ∃ t, PSs (cxOf CX P w K mg base N qual scope f cdv A outer s H E) body t ∧ t { nx := fun _ H' => Q .non H', rt := Q } (start N vs) H) :
    FnOk P w K mg base CX (k + 1) f (PySem.W.fnOf name qual params body scope dV kV doc pm an cdv ct) ps sp := by
  refine ⟨len, fun A outer s H args us vs Q E hr e0 hb r hsp => ?_⟩
  have hl := len _ _ _ _ hsp
  have KX : K.In s.heap := e0.mod.kin.keeps fun b o e => (e0.bs b o e).1
  have lim : s.heap.NoLimit := e0.mod.nolimit.keeps fun b o e => (e0.bs b o e).1
  have hkind : ∀ y ∈ ps.zip us, scope.names.lookup y.1 = some .local ∨ (scope.names.lookup y.1 = some .cell ∧ ((cellsFrom (s.heap.objs.size + 1) scope.names []).lookup y.1).isSome = true) := fun ⟨n, v⟩ hy => by
    rcases S.par n (List.of_mem_zip hy).1 with q | q
    · exact .inl q
    · exact .inr ⟨q, PySem.W.cellsFrom_some _ _ _ (.inl q)⟩
  refine codeAny_call_function hr.depth (KX _ _ lk) rfl S.co S.gen rfl (PySem.W.codeRec_of KX hcd) (hb _ _ _ _ ?_)
  refine wpAny_newFunctionEnv_cells S.kind hkind fun env he s1 x => ?_
  subst he
  refine ⟨lim.keeps x.toInCall.keep, codeAny_func ?_⟩
  obtain ⟨t, ht, hq⟩ := hbody A outer s H vs Q E (hr.deeper _) hsp
  have I : Inv (cxOf CX P w K mg base N qual scope f cdv A outer s H E) [] (start N vs) H s1 := inv_start S hr.hd e0 hl r x
  refine wpAny_mono (ht [] s1 (start N vs) H _ I hq) (fun fl s' hs => ?_) fun e s' hs => hs
  have fin : ∀ {σ' : St} {H' : Hp} {v : V} {u : Value}, Inv (cxOf CX P w K mg base N qual scope f cdv A outer s H E) [] σ' H' s' → RelV v u → Q v H' → CE outer P w H s Q u s' :=
    fun {σ' H' v u} J rv q => ⟨v, H', J.os, J.bare, J.base, J.hok, rv, q⟩
  cases fl with
  | ret u =>
    obtain ⟨v, σ', H', J, rv, q⟩ := hs
    exact fin J rv q
  | next =>
    obtain ⟨σ', H', J, q⟩ := hs
    exact fin (v := V.non) (u := Value.none) J rfl q
  | brk =>
    obtain ⟨_, _, _, q⟩ := hs
    exact False.elim q
  | cont =>
    obtain ⟨_, _, _, q⟩ := hs
    exact False.elim q
end L2
namespace L2
open PySem PySem.Spec PyProof.Rows
section
variable {X : Cx} {x : Str} {p pos : Pos} {e : Expr} {es : List Expr} {t : TA} {id T : String} {r : List V → Hp → VK → Prop}
noncomputable def tCB (r : List V → Hp → VK → Prop) (t : TA) : TE := fun σ H Q => t σ H fun vs H1 => r vs H1 Q
theorem pe_callB (hc : CallR X (.builtin id) r) (hg : Gl X x) (hm : X.mg x = none) (hv : bootBuiltins x = some (.builtin id)) (ha : PA X (e :: es) t) (hn : x ≠ "__name__" := by decide) (hdb : (x == ("__debug__" : Str)) = false := by decide)
    (he : starEach (e :: es) X.env = (false, eval e X.env) :: starEach es X.env := by rfl) (hpl : (backTo pos (starEach es X.env)).any (·.1) = false := by rfl) : PE X (.Call (.Name x p) (e :: es) [] pos) (tCB r t) := by
  intro pins s σ H Q I h
  refine wpAny_Call_Name_kw (ld_blt I hg hm hv ?_ hn hdb)
  exact PyProof.Rows.callWith_builtin1 (thn (ha pos pins s σ H _ I h) fun us s1 ⟨vs, H1, I1, r1, q1⟩ => hc pins s1 σ H1 vs us Q I1 r1 q1) he hpl
theorem pe_callTy (hc : CallR X (.type T) r) (hg : Gl X x) (hm : X.mg x = none) (hv : bootBuiltins x = some (.type T)) (ha : PA X (e :: es) t) (hn : x ≠ "__name__" := by decide) (hdb : (x == ("__debug__" : Str)) = false := by decide)
    (he : starEach (e :: es) X.env = (false, eval e X.env) :: starEach es X.env := by rfl) (hpl : (backTo pos (starEach es X.env)).any (·.1) = false := by rfl) : PE X (.Call (.Name x p) (e :: es) [] pos) (tCB r t) := by
  intro pins s σ H Q I h
  refine wpAny_Call_Name_kw (ld_blt I hg hm hv ?_ hn hdb)
  exact PyProof.Rows.callWith_type1 (thn (ha pos pins s σ H _ I h) fun us s1 ⟨vs, H1, I1, r1, q1⟩ => hc pins s1 σ H1 vs us Q I1 r1 q1) he hpl
end
end L2
namespace HT
open PySem PyProof.Rows
section
open PySem.SeqAt
open PySem.AutoSeq1 (wpAny_loadPart')
open PySem.MeetsSeq PySem.MeetsSeq2 PySem.MeetsSeq3
end
section
variable {prog : Program} {w : World} {A : Around} {E : Value → Shared → Prop} {s : Shared}
theorem cat_tup {t b : Addr} {vs ws : List Value} {Q : Value → Shared → Prop} (ht : IsTup s.heap t vs.toArray) (hb : IsTup s.heap b ws.toArray) (hv : vs ≠ [])
    (h1 : ws = [] → Q (.ref t) s) (h2 : ws ≠ [] → Q (.ref s.heap.objs.size) { s with heap := s.heap.push { cls := .type "tuple", data := .seq (vs ++ ws).toArray } })
    (hsz : vs.length + ws.length ≤ sizeLine) : wpAny (model prog w) A (binaryOp .Add (.ref t) (.ref b)) Q E s := by
  obtain ⟨⟨cls, dd, data, sl⟩, ho, hc, n, hd⟩ := id ht
  obtain ⟨⟨cls2, dd2, data2, sl2⟩, ho2, hc2, n2, hd2⟩ := id hb
  simp only at hc hd hc2 hd2
  subst hc hd hc2 hd2
  have e : vs.toArray ++ ws.toArray = (vs ++ ws).toArray := by simp
  by_cases hw : ws = []
  · exact concat_meets ⟨_, ho, rfl⟩ ⟨_, ho2, rfl⟩ noFill_tuple_add seq_tuple_add PySem.F.slot_tuple_add PySem.F.entry_tuple_add (PySem.F.args_tuple_add_2 _ _)
      (tuple_addW1 t b vs.toArray ws.toArray n n2 dd dd2 sl sl2 (by simpa using hv) (by simp [hw])) ⟨ho, ho2, h1 hw⟩
  · refine concat_meets ⟨_, ho, rfl⟩ ⟨_, ho2, rfl⟩ noFill_tuple_add seq_tuple_add PySem.F.slot_tuple_add PySem.F.entry_tuple_add (PySem.F.args_tuple_add_2 _ _)
      (tuple_addW2 t b vs.toArray ws.toArray n n2 dd dd2 sl sl2 (by simpa using hv) (by simpa using hw) (by rw [List.size_toArray, List.size_toArray]; exact hsz)) ⟨ho, ho2, ?_⟩
    rw [e]
    exact h2 hw
noncomputable def sIx (n d : Nat) : Option Int → Nat
  | none => d
  | some v => if v < 0 then (v + (n : Int)).toNat else min v.toNat n
theorem sIx_none (n d : Nat) : sIx n d none = d := rfl
theorem sIx_nat (n d k : Nat) : sIx n d (some (k : Int)) = min k n := by
  show (if (k : Int) < 0 then ((k : Int) + (n : Int)).toNat else min (k : Int).toNat n) = min k n
  rw [if_neg (by omega), Int.toNat_natCast]
theorem sIx_le (n d : Nat) (hd : d ≤ n) (o : Option Int) : sIx n d o ≤ n := by
  cases o with
  | none => exact hd
  | some v =>
    show (if v < 0 then (v + (n : Int)).toNat else min v.toNat n) ≤ n
    by_cases hv : v < 0
    · rw [if_pos hv]; omega
    · rw [if_neg hv]; exact Nat.min_le_right _ _
theorem clip_eq (v : Int) (n d : Nat) : (if v < 0 then max (v + (n : Int)) 0 else min v (n : Int)) = ((sIx n d (some v) : Nat) : Int) := by
  show (if v < 0 then max (v + (n : Int)) 0 else min v (n : Int)) = (((if v < 0 then (v + (n : Int)).toNat else min v.toNat n) : Nat) : Int)
  by_cases hv : v < 0
  · simp only [if_pos hv]; omega
  · simp only [if_neg hv]; omega
theorem adjust_gen (lo hi : Option Int) (n : Nat) : Builtin.Slice.sliceAdjust lo hi 1 (n : Int) = (((sIx n 0 lo : Nat) : Int), ((sIx n n hi : Nat) : Int)) := by
  have h1 : ¬ ((1 : Int) < 0) := by omega
  unfold Builtin.Slice.sliceAdjust
  simp only [h1, if_false]
  refine Prod.ext ?_ ?_
  · cases lo with
    | none => rfl
    | some v => exact clip_eq v n 0
  · cases hi with
    | none => rfl
    | some v => exact clip_eq v n n
theorem places_gen (i j : Nat) : Builtin.Slice.slicePlaces (i : Int) (j : Int) 1 = j - i := by
  unfold Builtin.Slice.slicePlaces
  have h1 : (1 : Int) > 0 := by omega
  simp only [h1, if_true, Int.ediv_one]
  split <;> omega
theorem slicePart_ {v : Value} {o : Option Int} {Q : Option Int → Shared → Prop} (p : IsPart v o) (h : Q o s) : wpAny (model prog w) A (Builtin.Slice.slicePartIndex v) Q E s := by
  cases p with
  | none => exact slicePart_none h
  | int i t => exact slicePart_int h
theorem sliceApplied_gen {sl : Addr} {vl vu : Value} {lo hi : Option Int} {n : Nat} {Q : Int × Int × Nat → Shared → Prop} (hs : s.heap.IsSliceOf sl vl vu .none) (pl : IsPart vl lo) (pu : IsPart vu hi)
    (h : Q (((sIx n 0 lo : Nat) : Int), 1, sIx n n hi - sIx n 0 lo) s) : wpAny (model prog w) A (Builtin.Slice.sliceApplied (.ref sl) (pure (n : Int))) Q E s := by
  obtain ⟨os, hos, hcs, hds⟩ := id hs
  unfold Builtin.Slice.sliceApplied Builtin.Slice.sliceFields
  refine wpAny_bind (wpAny_bind (wpAny_field hos hds (x := vl) rfl (wpAny_bind (wpAny_field hos hds (x := vu) rfl (wpAny_bind (wpAny_field hos hds (x := .none) rfl (wpAny_pure ?_)))))))
  refine wpAny_bind (slicePart_none ?_)
  show wpAny _ _ (if ((1 : Int) == 0) = true then _ else _) _ _ s
  rw [if_neg (by decide)]
  refine wpAny_bind (slicePart_ pl (wpAny_bind (slicePart_ pu (wpAny_bind (wpAny_pure ?_)))))
  show wpAny _ _ (match Builtin.Slice.sliceAdjust lo hi 1 (n : Int) with | (lo, hi) => pure (lo, (1 : Int), Builtin.Slice.slicePlaces lo hi 1)) _ _ s
  rw [adjust_gen lo hi n]
  show wpAny _ _ (pure (((sIx n 0 lo : Nat) : Int), (1 : Int), Builtin.Slice.slicePlaces ((sIx n 0 lo : Nat) : Int) ((sIx n n hi : Nat) : Int) 1)) _ _ s
  rw [places_gen]
  exact wpAny_pure h
theorem pick_gen (xs : Array Value) (i k : Nat) : ((List.range k).filterMap fun (m : Nat) => xs[((i : Int) + (m : Int) * 1).toNat]?).toArray = ((xs.toList.drop i).take k).toArray := by
  have e : (fun (m : Nat) => xs[((i : Int) + (m : Int) * 1).toNat]?) = fun m => xs[i + m]? := by
    funext m
    have : ((i : Int) + (m : Int) * 1).toNat = i + m := by omega
    rw [this]
  rw [e]
  have := pick_run xs i k
  rw [List.filterMap_map] at this
  have e2 : ((fun x => xs[x]?) ∘ fun x => i + x) = fun m => xs[i + m]? := rfl
  rw [e2] at this
  rw [this]
theorem getItem_tuple_cut {t sl : Addr} {items : Array Value} {vl vu : Value} {lo hi : Option Int} {Q : Value → Shared → Prop} (ht : IsTup s.heap t items) (hs : s.heap.IsSliceOf sl vl vu .none) (pl : IsPart vl lo) (pu : IsPart vu hi)
    (hw : ¬ (sIx items.size 0 lo = 0 ∧ sIx items.size items.size hi = items.size))
    (h : Q (.ref s.heap.objs.size) { s with heap := s.heap.push { cls := .type "tuple", data := .seq ((items.toList.drop (sIx items.size 0 lo)).take (sIx items.size items.size hi - sIx items.size 0 lo)).toArray } })
    (hsz : items.size ≤ sizeLine) : wpAny (model prog w) A (getItem (.ref t) (.ref sl)) Q E s := by
  have htake : sizeOk (.seq ((items.toList.drop (sIx items.size 0 lo)).take (sIx items.size items.size hi - sIx items.size 0 lo)).toArray) := by
    show ((items.toList.drop (sIx items.size 0 lo)).take (sIx items.size items.size hi - sIx items.size 0 lo)).toArray.size ≤ sizeLine
    rw [List.size_toArray, List.length_take, List.length_drop, Array.length_toList]
    omega
  have hj : sIx items.size items.size hi ≤ items.size := sIx_le _ _ (Nat.le_refl _) hi
  obtain ⟨os, hos, hcs, hds⟩ := id hs
  have hTs : s.TypeIs (.ref sl) "slice" := ⟨os, hos, hcs⟩
  unfold getItem
  try with_reducible refine wpAny_holding ?_
  first | refine wpAny_bind (wpAny_pure ?_) | skip
  refine wpAny_bind (wpAny_sequenceKey ht.typeIs (by decide) ?_)
  refine wpAny_bind (wpAny_callSpecial?_slot (name := Str.ofString "__getitem__") ht.typeIs PyProof.Rows.slot_tuple_getitem
    (wpAny_call_entry PyProof.Rows.slot_tuple_getitem ht.typeIs entry_tuple_getitem ?_ (args_tuple_getitem _ _)))
  show wpAny _ _ (Builtin.Tuple.tupleItemsOf (.ref t) >>= _) _ _ s
  refine wpAny_bind (tupleItemsOf_ ht ?_)
  refine wpAny_bind (wpAny_typeOf hTs ?_)
  rw [if_pos (by decide)]
  refine wpAny_bind (sliceApplied_gen hs pl pu ?_)
  have hno : ¬ ((((sIx items.size 0 lo : Nat) : Int) == 0 && (1 : Int) == 1 && (sIx items.size items.size hi - sIx items.size 0 lo) == items.size) = true) := by
    intro q
    rw [Bool.and_eq_true, Bool.and_eq_true] at q
    have q1 : ((sIx items.size 0 lo : Nat) : Int) = 0 := eq_of_beq q.1.1
    have q2 : sIx items.size items.size hi - sIx items.size 0 lo = items.size := eq_of_beq q.2
    exact hw ⟨by omega, by omega⟩
  show wpAny _ _ (if (((sIx items.size 0 lo : Nat) : Int) == 0 && (1 : Int) == 1 && (sIx items.size items.size hi - sIx items.size 0 lo) == items.size) = true then _ else _) _ _ s
  rw [if_neg hno, pick_gen]
  first
    | exact wpAny_bind (m := Builtin.Tuple.tupleExact _) (wpAny_newObj_type (wpAny_pure ⟨_, rfl, wpAny_pure h⟩) htake)
    | exact wpAny_bind (m := Builtin.Tuple.tupleExact _) (wpAny_newObj_type (wpAny_bind (wpAny_pure (wpAny_pure ⟨_, rfl, wpAny_pure h⟩))) htake)
    | exact wpAny_bind (wpAny_bind (m := Builtin.Tuple.tupleExact _) (wpAny_newObj_type (wpAny_pure (wpAny_pure ⟨_, rfl, wpAny_pure h⟩)) htake))
    | exact wpAny_bind (wpAny_bind (m := Builtin.Tuple.tupleExact _) (wpAny_newObj_type (wpAny_pure ⟨_, rfl, wpAny_pure h⟩) htake))
end
end HT
namespace L2
open PySem PySem.Spec PyProof.Rows
noncomputable abbrev TO := St → Hp → (Option Int → Hp → Prop) → Prop
noncomputable def PO (X : Cx) (e : Option Expr) (t : TO) : Prop :=
  ∀ (pins : List (Addr × Obj)) (s : Shared) (σ : St) (H : Hp) (Q : Option Int → Hp → Prop), Inv X pins σ H s → t σ H Q →
    wpAny (model X.prog X.w) X.A (evalPart e X.env) (fun u s' => ∃ o H', Inv X pins σ H' s' ∧ IsPart u o ∧ Q o H') X.xe s
noncomputable def tNoPart : TO := fun _ H Q => Q none H
noncomputable def tPart (t : TE) : TO := fun σ H Q => t σ H fun x H1 => ∃ i, x = .int i ∧ Q (some i) H1
theorem intsAre_of {ns : List Int} : ∀ {us : List Value}, Vals (ns.map V.int) us → IntsAre us ns := by
  induction ns with
  | nil => intro us r; rw [List.map_nil] at r; cases r; exact .nil
  | cons n ns ih =>
    intro us r
    rw [List.map_cons] at r
    cases r with
    | cons r1 r2 =>
      obtain ⟨t, e⟩ := r1
      subst e
      exact .cons n t (ih r2)
section
variable {X : Cx} {e : Expr} {te : TE} {lo hi : Option Expr} {tl th : TO} {pos p2 : Pos}
theorem po_none : PO X none tNoPart := by
  intro pins s σ H Q I h
  rw [evalPart_none]
  exact wpAny_pure ⟨none, H, I, .none, h⟩
theorem po_some (h : PE X e te) : PO X (some e) (tPart te) := by
  intro pins s σ H Q I hw
  rw [evalPart_some]
  refine thn (h pins s σ H _ I hw) fun u s1 ⟨x, H1, I1, r1, q1⟩ => ?_
  obtain ⟨i, rfl, q⟩ := q1
  obtain ⟨t, rfl⟩ := r1
  exact ⟨some i, H1, I1, .int i t, q⟩
noncomputable def SlR (X : Cx) (r : V → Option Int → Option Int → Hp → VK → Prop) : Prop :=
  ∀ (pins : List (Addr × Obj)) (s : Shared) (σ : St) (H : Hp) (x : V) (v vl vu : Value) (lo hi : Option Int) (sl : Addr) (Q : VK), Inv X pins σ H s → RelV x v → s.heap.IsSliceOf sl vl vu .none → IsPart vl lo → IsPart vu hi → r x lo hi H Q →
    ∃ T id, typeLookup (.type T) "__getitem__" = pure (some (.builtin id)) ∧ s.TypeIs v T ∧ wpAny (model X.prog X.w) X.A (getItem v (.ref sl)) (EP X pins σ Q) X.xe s
theorem SlR.or {r r' : V → Option Int → Option Int → Hp → VK → Prop} (h : SlR X r) (h' : SlR X r') : SlR X (fun x lo hi H Q => r x lo hi H Q ∨ r' x lo hi H Q) := by
  intro pins s σ H x v vl vu lo hi sl Q I rx hs pl pu q
  rcases q with q | q
  · exact h pins s σ H x v vl vu lo hi sl Q I rx hs pl pu q
  · exact h' pins s σ H x v vl vu lo hi sl Q I rx hs pl pu q
noncomputable def tSl (r : V → Option Int → Option Int → Hp → VK → Prop) (te : TE) (tl th : TO) : TE := fun σ H Q => te σ H fun x H1 => tl σ H1 fun l H2 => th σ H2 fun u H3 => r x l u H3 Q
theorem pe_slice {r : V → Option Int → Option Int → Hp → VK → Prop} (hr : SlR X r) (he : PE X e te) (hl : PO X lo tl) (hu : PO X hi th) : PE X (.Subscript e (.Slice lo hi none p2) pos) (tSl r te tl th) := by
  intro pins s σ H Q I h
  refine Subscript_ (thn (he pins s σ H _ I h) fun v s1 ⟨x, H1, I1, r1, q1⟩ => ?_)
  refine wpAny_Slice (thn (hl pins s1 σ H1 _ I1 q1) fun vl s2 ⟨l, H2, I2, pl, q2⟩ => thn (hu pins s2 σ H2 _ I2 q2) fun vu s3 ⟨u, H3, I3, pu, q3⟩ => ?_)
  rw [evalPart_none]
  refine wpAny_pure ?_
  have I4 : Inv X pins σ H3 { s3 with heap := s3.heap.push { cls := .type "slice", data := .fields #[vl, vu, .none] } } := I3.kept (t' := s3.toks) fun b ob q => Heap.get?_push_of_some _ q
  obtain ⟨T, id, hT, ht, hg⟩ := hr pins { s3 with heap := s3.heap.push { cls := .type "slice", data := .fields #[vl, vu, .none] } } σ H3 x v vl vu l u s3.heap.objs.size Q I4 r1 (Heap.IsSliceOf.new ..) pl pu q3
  show wpAny (model X.prog X.w) X.A (subscriptTail e (.Slice lo hi none p2) v (.ref s3.heap.objs.size)) (EP X pins σ Q) X.xe { s3 with heap := s3.heap.push { cls := .type "slice", data := .fields #[vl, vu, .none] } }
  exact tail_any (ops := [.ref s3.heap.objs.size, v]) ht hT hg (by with_unfolding_all rfl)
noncomputable def cutV (xs : List V) (lo hi : Option Int) : List V := (xs.drop (HT.sIx xs.length 0 lo)).take (HT.sIx xs.length xs.length hi - HT.sIx xs.length 0 lo)
theorem cutV_length (xs : List V) (lo hi : Option Int) : (cutV xs lo hi).length ≤ xs.length := by
  unfold cutV
  rw [List.length_take, List.length_drop]
  omega
noncomputable def rSlT (K : PySem.W.Frag) : V → Option Int → Option Int → Hp → VK → Prop := fun x lo hi H Q => ∃ a xs, x = .ref a ∧ SqT K H a xs ∧
  ¬ (HT.sIx xs.length 0 lo = 0 ∧ HT.sIx xs.length xs.length hi = xs.length) ∧ ∀ p, H p = none → Q (.ref p) (upd H p (.tup (cutV xs lo hi)))
theorem sl_tup : SlR X (rSlT X.K) := by
  intro pins s σ H x v vl vu lo hi sl Q I rx hs pl pu h
  obtain ⟨a, xs, rfl, hx, hw, q⟩ := h
  cases rx
  obtain ⟨its, r, ht, hz⟩ := I.tuple hx
  have hlen : its.toArray.size = xs.length := by rw [List.size_toArray]; exact r.length.symm
  refine ⟨"tuple", _, PyProof.Rows.slot_tuple_getitem.lookup, ht.typeIs, ?_⟩
  refine HT.getItem_tuple_cut ht hs pl pu (by rw [hlen]; exact hw) ?_ (by rw [hlen]; exact hz)
  rw [hlen]
  refine ⟨.ref s.heap.objs.size, _, I.laid (t' := s.toks) (o := .tup (cutV xs lo hi)) (fun b ob q => Heap.get?_push_of_some _ q) (Nat.le_refl _) ?_, rfl, q _ (I.hok.fresh (Nat.le_refl _))⟩
  exact ⟨Nat.le_trans (cutV_length xs lo hi) hz, _, (r.drop (HT.sIx xs.length 0 lo)).take (HT.sIx xs.length xs.length hi - HT.sIx xs.length 0 lo), IsTup.new _ _⟩
noncomputable def rCatT (K : PySem.W.Frag) : R2 := fun x y H Q => ∃ a b xs ys, x = .ref a ∧ y = .ref b ∧ SqT K H a xs ∧ SqT K H b ys ∧ xs ≠ [] ∧ xs.length + ys.length ≤ sizeLine ∧
  (ys = [] → Q (.ref a) H) ∧ (ys ≠ [] → ∀ p, H p = none → Q (.ref p) (upd H p (.tup (xs ++ ys))))
theorem Vals.nil_iff {xs : List V} {us : List Value} (r : Vals xs us) : us = [] ↔ xs = [] := by
  cases r with
  | nil => simp
  | cons _ _ => simp
theorem op_catT : OpR X (binaryOp .Add) (rCatT X.K) := by
  intro pins s σ H x y v u Q I rx ry h
  obtain ⟨a, b, xs, ys, rfl, rfl, ha, hb, hx, hz, q1, q2⟩ := h
  cases rx
  cases ry
  obtain ⟨its, r1, p1, _⟩ := I.tuple ha
  obtain ⟨its2, r2, p2, _⟩ := I.tuple hb
  refine HT.cat_tup p1 p2 (fun z => hx (r1.nil_iff.mp z)) (fun z => ⟨.ref a, H, I, rfl, q1 (r2.nil_iff.mp z)⟩) (fun z => ?_) (by rw [← r1.length, ← r2.length]; exact hz)
  refine ⟨.ref s.heap.objs.size, _, I.laid (t' := s.toks) (o := .tup (xs ++ ys)) (fun b ob q => Heap.get?_push_of_some _ q) (Nat.le_refl _) ?_, rfl, q2 (fun w => z (r2.nil_iff.mpr w)) _ (I.hok.fresh (Nat.le_refl _))⟩
  exact ⟨by rw [List.length_append]; exact hz, _, r1.append r2, IsTup.new _ _⟩
end
end L2
namespace L2
open PySem PySem.Spec PyProof.Rows
noncomputable def ixN (n : Nat) (i : Int) : Option Nat := if 0 ≤ i then (if i < n then some i.toNat else none) else if -(n : Int) ≤ i then some (i + n).toNat else none
noncomputable def atI {α : Type} (xs : List α) (i : Int) : Option α := (ixN xs.length i).bind fun j => xs[j]?
theorem ixN_seq {n : Nat} {i : Int} {j : Nat} (h : ixN n i = some j) : seqIndex? i n = some j ∧ j < n ∧ -(n : Int) ≤ i ∧ i < n := by
  unfold ixN at h
  by_cases h0 : 0 ≤ i
  · rw [if_pos h0] at h
    by_cases h1 : i < n
    · rw [if_pos h1] at h
      have e : i.toNat = j := Option.some.inj h
      exact ⟨by rw [seqIndex_of h0 h1, e], by omega, by omega, h1⟩
    · rw [if_neg h1] at h; cases h
  · rw [if_neg h0] at h
    by_cases h1 : -(n : Int) ≤ i
    · rw [if_pos h1] at h
      have e : (i + n).toNat = j := Option.some.inj h
      exact ⟨by rw [seqIndex_neg (by omega) h1, e], by omega, h1, by omega⟩
    · rw [if_neg h1] at h; cases h
theorem atI_get {α : Type} {xs : List α} {i : Int} {v : α} (h : atI xs i = some v) : ∃ j, seqIndex? i xs.length = some j ∧ xs[j]? = some v ∧ j < xs.length ∧ -(xs.length : Int) ≤ i ∧ i < xs.length := by
  unfold atI at h
  cases e : ixN xs.length i with
  | none => rw [e] at h; cases h
  | some j =>
    rw [e] at h
    obtain ⟨h1, h2, h3, h4⟩ := ixN_seq e
    exact ⟨j, h1, h, h2, h3, h4⟩
theorem atI_nat {α : Type} {xs : List α} {j : Nat} {v : α} (h : xs[j]? = some v) : atI xs (j : Int) = some v := by
  have hj : j < xs.length := (List.getElem?_eq_some_iff.mp h).1
  have e : ixN xs.length (j : Int) = some j := by
    unfold ixN
    rw [if_pos (by omega), if_pos (by omega)]; simp
  unfold atI; rw [e]; exact h
noncomputable def PlainIx (b : Expr) : Prop := ∀ o i, subscripted b false o i = operate [o, i] (getItem o i)
noncomputable def IxR (X : Cx) (r : R2) : Prop :=
  ∀ (value slice : Expr) (pins : List (Addr × Obj)) (s : Shared) (σ : St) (H : Hp) (x y : V) (v u : Value) (Q : VK), Inv X pins σ H s → RelV x v → RelV y u → r x y H Q →
    subscripted slice false v u = operate [v, u] (getItem v u) → wpAny (model X.prog X.w) X.A (subscriptTail value slice v u) (EP X pins σ Q) X.xe s
noncomputable def MtR (X : Cx) (id : String) (r : V → List V → Hp → VK → Prop) : Prop :=
  ∀ (pins : List (Addr × Obj)) (s : Shared) (σ : St) (H : Hp) (x : V) (xs : List V) (v : Value) (us : List Value) (Q : VK), Inv X pins σ H s → RelV x v → Vals xs us → r x xs H Q →
    wpAny (model X.prog X.w) X.A (call (.builtin id) (v :: us)) (EP X pins σ Q) X.xe s
section
variable {X : Cx} {a b : Expr} {ta tb : TE} {pos : Pos}
theorem IxR.or {r r' : R2} (h : IxR X r) (h' : IxR X r') : IxR X (fun x y H Q => r x y H Q ∨ r' x y H Q) := by
  intro value slice pins s σ H x y v u Q I rx ry q hs
  rcases q with q | q
  · exact h value slice pins s σ H x y v u Q I rx ry q hs
  · exact h' value slice pins s σ H x y v u Q I rx ry q hs
theorem pe_ix {r : R2} (hr : IxR X r) (ha : PE X a ta) (hb : PE X b tb) (hs : PlainIx b) : PE X (.Subscript a b pos) (tOp r ta tb) := by
  intro pins s σ H Q I h
  exact Subscript_ (binT ha hb I h fun v u s2 x y H2 I2 rx ry q => hr a b pins s2 σ H2 x y v u Q I2 rx ry q (hs _ _))
noncomputable def rIxL (K : PySem.W.Frag) : R2 := fun x y H Q => ∃ p xs i v, x = .ref p ∧ y = .int i ∧ SqL K H p xs ∧ atI xs i = some v ∧ Q v H
noncomputable def rIxT (K : PySem.W.Frag) : R2 := fun x y H Q => ∃ p xs i v, x = .ref p ∧ y = .int i ∧ SqT K H p xs ∧ atI xs i = some v ∧ Q v H
noncomputable def rIxS : R2 := fun x y H Q => ∃ z i c, x = .str z ∧ y = .int i ∧ z.length ≤ sizeLine ∧ atI z.cps.toList i = some c ∧ Q (.str ⟨#[c]⟩) H
theorem ix_list : IxR X (rIxL X.K) := by
  intro value slice pins s σ H x y v u Q I rx ry h hs
  obtain ⟨p, xs, i, z, rfl, rfl, hq, he, q⟩ := h
  cases rx
  obtain ⟨t, rfl⟩ := ry
  obtain ⟨its, r, pl, hz⟩ := I.list hq
  obtain ⟨j, h1, h2, h3, h4, h5⟩ := atI_get he
  obtain ⟨w, ew, rw'⟩ := r.get h2
  have hl := r.length
  have hn := line63
  have fin : EP X pins σ Q w s := ⟨z, H, I, rw', q⟩
  by_cases h0 : 0 ≤ i
  · have hj : i.toNat = j := by
      rw [seqIndex_of h0 h5] at h1
      exact Option.some.inj h1
    exact item_listR pl.isList h0 (by omega) (by rw [hj]; simpa using ew) fin hs
  · have hj : (i + (its.toArray.size : Int)).toNat = j := by
      rw [seqIndex_neg (by omega) h4] at h1
      rw [List.size_toArray, ← hl]
      exact Option.some.inj h1
    exact subscriptTail_builtinR (x := w) pl.isList.typeIs slot_list_getitem.lookup
      (wpAny_getItem_list_neg (Q := fun r s' => r = w ∧ EP X pins σ Q r s') pl.isList (by omega) (by rw [List.size_toArray] <;> omega) (by omega) (by rw [hj]; simpa using ew) ⟨rfl, fin⟩) hs
theorem ix_tup : IxR X (rIxT X.K) := by
  intro value slice pins s σ H x y v u Q I rx ry h hs
  obtain ⟨p, xs, i, z, rfl, rfl, hq, he, q⟩ := h
  cases rx
  obtain ⟨t, rfl⟩ := ry
  obtain ⟨its, r, pl, hz⟩ := I.tuple hq
  obtain ⟨j, h1, h2, h3, h4, h5⟩ := atI_get he
  obtain ⟨w, ew, rw'⟩ := r.get h2
  have hl := r.length
  have hn := line63
  have fin : EP X pins σ Q w s := ⟨z, H, I, rw', q⟩
  exact subscriptTail_builtinR (x := w) pl.typeIs slot_tuple_getitem.lookup
    (getItem_tuple (j := j) (Q := fun r s' => r = w ∧ EP X pins σ Q r s') pl (by omega) (by omega) (by rw [List.size_toArray, ← hl]; exact h1) (by simpa using ew) ⟨rfl, fin⟩) hs
theorem ix_str : IxR X rIxS := by
  intro value slice pins s σ H x y v u Q I rx ry h hs
  obtain ⟨z, i, c, rfl, rfl, hz, he, q⟩ := h
  obtain ⟨t, rfl⟩ := rx
  obtain ⟨t', rfl⟩ := ry
  obtain ⟨j, h1, h2, h3, h4, h5⟩ := atI_get he
  have hl : z.cps.toList.length = z.length := by simp [Str.length]
  rw [hl] at h1 h4 h5
  have hn := line63
  exact tail_any (typeIs_str s z t) slot_str_getitem.lookup (getItem_str (c := c) (by
    have e1 : decide (i < -(2 ^ 63 : Int)) = false := decide_eq_false (by omega)
    have e2 : decide (i ≥ 2 ^ 63) = false := decide_eq_false (by omega)
    rw [e1, e2, Bool.or_false]) (by rw [h1]; simpa using h2) ⟨.str ⟨#[c]⟩, H, I.tok _, ⟨_, rfl⟩, q⟩) hs
noncomputable def rIx (K : PySem.W.Frag) : R2 := fun x y H Q => rIxL K x y H Q ∨ rIxT K x y H Q ∨ rIxS x y H Q
theorem ix_seq : IxR X (rIx X.K) := ix_list.or (ix_tup.or ix_str)
theorem mapSeq_set (its : List Value) (n j : Nat) (u : Value) : Obj.mapSeq (·.setIfInBounds j u) { cls := .type "list", data := .seq its.toArray n } = { cls := .type "list", data := .seq (its.set j u).toArray n } := by
  simp [Obj.mapSeq]
theorem Inv.lst {pins : List (Addr × Obj)} {σ : St} {H : Hp} {s : Shared} {p : Addr} {xs : List V} (I : Inv X pins σ H s) (h : H p = some (.lst xs)) :
    ∃ (its : List Value) (n : Nat), Vals xs its ∧ s.heap.get? p = some { cls := .type "list", data := .seq its.toArray n } ∧ xs.length ≤ sizeLine := by
  obtain ⟨z, its, n, r, e⟩ := I.hok p _ h
  exact ⟨its, n, r, e, z⟩
theorem Inv.lstUpd {pins : List (Addr × Obj)} {σ : St} {H : Hp} {s : Shared} {p : Addr} {xs ys : List V} {its its' : List Value} {n n' : Nat} {f : Obj → Obj} (I : Inv X pins σ H s) (h : H p = some (.lst xs))
    (ho : s.heap.get? p = some { cls := .type "list", data := .seq its.toArray n }) (hf : f { cls := .type "list", data := .seq its.toArray n } = { cls := .type "list", data := .seq its'.toArray n' }) (r : Vals ys its') (hz : ys.length ≤ sizeLine) (t : Nat) :
    Inv X pins σ (upd H p (.lst ys)) { s with heap := s.heap.update p f, toks := t } := by
  have e : (s.heap.update p f).get? p = some { cls := .type "list", data := .seq its'.toArray n' } := by
    rw [Heap.get?_update_self f ho (by rw [hf] <;> rfl), hf]
  refine I.write (x := p) (e := p) (by rw [h]; trivial) (.inl rfl) (fun b u hb q => (Heap.get?_update_other _ _ (Ne.symm hb)).trans q) ⟨_, e⟩ ?_
  exact ⟨hz, its', n', r, e⟩
noncomputable def rSetL : V → V → V → Hp → (Hp → Prop) → Prop := fun o i v H Q => ∃ p xs k j, o = .ref p ∧ i = .int k ∧ H p = some (.lst xs) ∧ ixN xs.length k = some j ∧ Q (upd H p (.lst (xs.set j v)))
theorem set_list : PSet X rSetL := by
  intro pins s σ H o i v ov iv u Q I ro ri rv h
  obtain ⟨p, xs, k, j, rfl, rfl, hp, hj, q⟩ := h
  cases ro
  obtain ⟨t, rfl⟩ := ri
  obtain ⟨its, n, r, ho, hz⟩ := I.lst hp
  obtain ⟨h1, h2, h3, h4⟩ := ixN_seq hj
  have hl := r.length
  have hn := line63
  have I' : Inv X pins σ (upd H p (.lst (xs.set j v))) { s with heap := s.heap.update p (Obj.mapSeq (·.setIfInBounds j u)) } :=
    I.lstUpd hp ho (mapSeq_set its n j u) (r.set rv j) (by rw [List.length_set]; exact hz) s.toks
  by_cases h0 : 0 ≤ k
  · have hk : k.toNat = j := by
      rw [seqIndex_of h0 h4] at h1
      exact Option.some.inj h1
    exact PySem.W.ki_setAt ho h0 (by omega) (by rw [List.size_toArray, ← hl]; exact h4) (by rw [hk]; exact ⟨_, I', q⟩)
  · have hk : (k + (its.toArray.size : Int)).toNat = j := by
      rw [seqIndex_neg (by omega) h3] at h1
      rw [List.size_toArray, ← hl]
      exact Option.some.inj h1
    exact PySem.W.ki_setBack ho (by omega) (by rw [List.size_toArray, ← hl]; exact h3) (by omega) (by rw [hk]; exact ⟨_, I', q⟩)
theorem slice_bounds (lo hi : Option Int) (n : Nat) : (sliceBounds lo hi none n).1 = ((HT.sIx n 0 lo : Nat) : Int) ∧ (sliceBounds lo hi none n).2.1 = ((HT.sIx n n hi : Nat) : Int) ∧ (sliceBounds lo hi none n).2.2 = 1 := by
  refine ⟨?_, ?_, rfl⟩
  · cases lo with
    | none => simp [sliceBounds, HT.sIx]
    | some i =>
      simp only [sliceBounds, HT.sIx, Option.getD_none, show (1 : Int) > 0 by decide, if_true]
      by_cases h : i < 0
      · simp only [h, if_true] <;> omega
      · simp only [h, if_false] <;> omega
  · cases hi with
    | none => simp [sliceBounds, HT.sIx]
    | some i =>
      simp only [sliceBounds, HT.sIx, Option.getD_none, show (1 : Int) > 0 by decide, if_true]
      by_cases h : i < 0
      · simp only [h, if_true] <;> omega
      · simp only [h, if_false] <;> omega
theorem slicePick_cut (its : List Value) (lo hi : Option Int) : slicePick its.toArray lo hi none = ((its.drop (HT.sIx its.length 0 lo)).take (HT.sIx its.length its.length hi - HT.sIx its.length 0 lo)).toArray := by
  obtain ⟨h1, h2, h3⟩ := slice_bounds lo hi its.toArray.size
  unfold slicePick
  rw [h1, h2, h3]
  simp only [sliceRange_one, pick_run, List.size_toArray] <;> rfl
noncomputable def rSlL (K : PySem.W.Frag) : V → Option Int → Option Int → Hp → VK → Prop := fun x lo hi H Q => ∃ a xs, x = .ref a ∧ SqL K H a xs ∧ ∀ p, H p = none → Q (.ref p) (upd H p (.lst (cutV xs lo hi)))
theorem sl_list : SlR X (rSlL X.K) := by
  intro pins s σ H x v vl vu lo hi sl Q I rx hs pl pu h
  obtain ⟨a, xs, rfl, hx, q⟩ := h
  cases rx
  obtain ⟨its, r, ht, hz⟩ := I.list hx
  have hlen := r.length
  refine ⟨"list", _, slot_list_getitem.lookup, ht.isList.typeIs, ?_⟩
  refine wpAny_getItem_list_slice ht.isList hs pl pu .none (by simp) ?_ (by rw [List.size_toArray] <;> omega)
  rw [slicePick_cut, ← hlen]
  refine ⟨.ref s.heap.objs.size, _, I.laid (t' := s.toks) (o := .lst (cutV xs lo hi)) (fun b ob q => Heap.get?_push_of_some _ q) (Nat.le_refl _) ?_, rfl, q _ (I.hok.fresh (Nat.le_refl _))⟩
  exact ⟨Nat.le_trans (cutV_length xs lo hi) hz, _, 0, (r.drop (HT.sIx xs.length 0 lo)).take (HT.sIx xs.length xs.length hi - HT.sIx xs.length 0 lo), Heap.get?_push_size _ rfl⟩
noncomputable def flatV : V → Bool
  | .non => true
  | .bl _ => true
  | .int _ => true
  | .str _ => true
  | _ => false
noncomputable def eqV : V → V → Bool
  | .non, .non => true
  | .bl a, .bl b => a == b
  | .bl a, .int b => (if a then 1 else 0) == b
  | .int a, .bl b => a == (if b then 1 else 0)
  | .int a, .int b => a == b
  | .str a, .str b => a == b
  | _, _ => false
theorem eqAt_V {A : Around} {s : Shared} {y x : V} {u v : Value} (ry : RelV y u) (rx : RelV x v) (fy : flatV y = true) (fx : flatV x = true) : SeqAt.EqAt A s u v (eqV y x) := by
  cases y with
  | non =>
    cases ry
    cases x with
    | non => cases rx; exact SeqAt.EqAt.same _
    | bl b => cases rx; exact SeqAt.EqAt.none_bool b
    | int b => obtain ⟨t, rfl⟩ := rx; exact SeqAt.EqAt.none_int b t
    | str b => obtain ⟨t, rfl⟩ := rx; exact SeqAt.EqAt.none_str b t
    | _ => exact absurd (show false = true from fx) Bool.false_ne_true
  | bl a =>
    cases ry
    cases x with
    | non => cases rx; exact SeqAt.EqAt.bool_none a
    | bl b => cases rx; exact SeqAt.EqAt.bool_bool a b
    | int b => obtain ⟨t, rfl⟩ := rx; exact SeqAt.EqAt.bool_int a b t
    | str b => obtain ⟨t, rfl⟩ := rx; exact SeqAt.EqAt.bool_str a b t
    | _ => exact absurd (show false = true from fx) Bool.false_ne_true
  | int a =>
    obtain ⟨t', rfl⟩ := ry
    cases x with
    | non => cases rx; exact SeqAt.EqAt.int_none a t'
    | bl b => cases rx; exact SeqAt.EqAt.int_bool a t' b
    | int b => obtain ⟨t, rfl⟩ := rx; exact SeqAt.EqAt.int_int a t' b t
    | str b => obtain ⟨t, rfl⟩ := rx; exact SeqAt.EqAt.int_str a t' b t
    | _ => exact absurd (show false = true from fx) Bool.false_ne_true
  | str a =>
    obtain ⟨t', rfl⟩ := ry
    cases x with
    | non => cases rx; exact SeqAt.EqAt.str_none a t'
    | bl b => cases rx; exact SeqAt.EqAt.str_bool a t' b
    | int b => obtain ⟨t, rfl⟩ := rx; exact SeqAt.EqAt.str_int a t' b t
    | str b => obtain ⟨t, rfl⟩ := rx; exact SeqAt.EqAt.str_str a t' b t
    | _ => exact absurd (show false = true from fx) Bool.false_ne_true
  | _ => exact absurd (show false = true from fy) Bool.false_ne_true
noncomputable def eqU (x : V) (u : Value) : Bool := match u with
  | .none => eqV .non x
  | .bool b => eqV (.bl b) x
  | .int i _ => eqV (.int i) x
  | .str z _ => eqV (.str z) x
  | _ => false
theorem eqU_of {x y : V} {u : Value} (r : RelV y u) (f : flatV y = true) : eqU x u = eqV y x := by
  cases y with
  | non => cases r; rfl
  | bl b => cases r; rfl
  | int i => obtain ⟨t, rfl⟩ := r; rfl
  | str z => obtain ⟨t, rfl⟩ := r; rfl
  | _ => exact absurd (show false = true from f) Bool.false_ne_true
theorem any_eqU {x : V} : ∀ {xs : List V} {us : List Value}, Vals xs us → xs.all flatV = true → us.any (eqU x) = xs.any fun y => eqV y x
  | _, _, .nil, _ => rfl
  | y :: xs, u :: us, .cons r t, f => by
    rw [List.all_cons, Bool.and_eq_true] at f
    rw [List.any_cons, List.any_cons, eqU_of r f.1, any_eqU t f.2]
theorem mem_eqAt {A : Around} {s : Shared} {x : V} {v : Value} (rx : RelV x v) (fx : flatV x = true) : ∀ {xs : List V} {us : List Value}, Vals xs us → xs.all flatV = true → ∀ u ∈ us, SeqAt.EqAt A s u v (eqU x u)
  | _, _, .nil, _ => fun u hu => by cases hu
  | y :: xs, u :: us, .cons r t, f => fun u' hu => by
    rw [List.all_cons, Bool.and_eq_true] at f
    rcases List.mem_cons.mp hu with rfl | hu
    · rw [eqU_of r f.1]; exact eqAt_V r rx f.1 fx
    · exact mem_eqAt rx fx t f.2 u' hu
noncomputable def inV (x : V) (xs : List V) : Bool := xs.any fun y => eqV y x
noncomputable def rIn (K : PySem.W.Frag) (neg : Bool) : R2 := fun x y H Q => ∃ p xs, y = .ref p ∧ (SqL K H p xs ∨ SqT K H p xs) ∧ flatV x = true ∧ xs.all flatV = true ∧ Q (.bl (if neg then !inV x xs else inV x xs)) H
theorem op_in_seq : OpR X (compareOp .In) (rIn X.K false) := by
  intro pins s σ H x y v u Q I rx ry h
  obtain ⟨p, xs, rfl, hq, fx, fs, q⟩ := h
  cases ry
  rcases hq with hq | hq
  · obtain ⟨its, r, pl, hz⟩ := I.list hq
    refine SeqAt.in_listAt (eqU x) pl.isList (fun w hw => mem_eqAt rx fx r fs w (by simpa using hw)) ⟨.bl _, H, I, rfl, ?_⟩
    rw [show its.toArray.any (eqU x) = its.any (eqU x) by simp, any_eqU r fs]
    exact q
  · obtain ⟨its, r, pl, hz⟩ := I.tuple hq
    refine SeqAt.in_tupleAt (eqU x) pl (fun w hw => mem_eqAt rx fx r fs w (by simpa using hw)) ⟨.bl _, H, I, rfl, ?_⟩
    rw [show its.toArray.any (eqU x) = its.any (eqU x) by simp, any_eqU r fs]
    exact q
theorem op_notIn_seq : OpR X (compareOp .NotIn) (rIn X.K true) := by
  intro pins s σ H x y v u Q I rx ry h
  obtain ⟨p, xs, rfl, hq, fx, fs, q⟩ := h
  cases ry
  rcases hq with hq | hq
  · obtain ⟨its, r, pl, hz⟩ := I.list hq
    refine SeqAt.notIn_listAt (eqU x) pl.isList (fun w hw => mem_eqAt rx fx r fs w (by simpa using hw)) ⟨.bl _, H, I, rfl, ?_⟩
    rw [show its.toArray.any (eqU x) = its.any (eqU x) by simp, any_eqU r fs]
    exact q
  · obtain ⟨its, r, pl, hz⟩ := I.tuple hq
    refine SeqAt.notIn_tupleAt (eqU x) pl (fun w hw => mem_eqAt rx fx r fs w (by simpa using hw)) ⟨.bl _, H, I, rfl, ?_⟩
    rw [show its.toArray.any (eqU x) = its.any (eqU x) by simp, any_eqU r fs]
    exact q
theorem call_len_seq : CallR X (.builtin "len") (fun xs H Q => ∃ p ys, xs = [.ref p] ∧ (SqL X.K H p ys ∨ SqT X.K H p ys) ∧ Q (.int ys.length) H) := by
  intro pins s σ H xs us Q I r h
  obtain ⟨p, ys, rfl, hq, q⟩ := h
  obtain ⟨u, rfl, rx⟩ := vals1 r
  cases rx
  have hn := line63
  rcases hq with hq | hq
  · obtain ⟨its, r', pl, hz⟩ := I.list hq
    have hlen := r'.length
    exact Calls.call_len_list pl.isList (by simp only [List.size_toArray] <;> omega) ⟨.int ys.length, H, I.tok _, ⟨s.toks + 1, by rw [List.size_toArray, hlen]⟩, q⟩
  · obtain ⟨its, r', pl, hz⟩ := I.tuple hq
    have hlen := r'.length
    exact len_tuple pl (by simp only [List.size_toArray] <;> omega) ⟨.int ys.length, H, I.tok _, ⟨s.toks + 1, by rw [List.size_toArray, hlen]⟩, q⟩
theorem call_list_of : CallR X (.type "list") (fun xs H Q => ∃ p ys, xs = [.ref p] ∧ (SqL X.K H p ys ∨ SqT X.K H p ys) ∧ ∀ l, H l = none → Q (.ref l) (upd H l (.lst ys))) := by
  intro pins s σ H xs us Q I r h
  obtain ⟨p, ys, rfl, hq, q⟩ := h
  obtain ⟨u, rfl, rx⟩ := vals1 r
  cases rx
  have fin : ∀ (its : List Value), Vals ys its → ys.length ≤ sizeLine → ∀ (h' : Heap) (c' : Nat), (∀ b o', s.heap.get? b = some o' → h'.get? b = some o') →
      h'.get? s.heap.objs.size = some { cls := .type "list", dict := none, data := .seq its.toArray c', slots := #[] } → EP X pins σ Q (.ref s.heap.objs.size) { s with heap := h' } := fun its r' hz h' c' kp e =>
    ⟨.ref s.heap.objs.size, _, I.laid (t' := s.toks) kp (Nat.le_refl _) (show ObjOk X.prog X.w _ h' _ (.lst ys) from ⟨hz, its, c', r', e⟩), rfl, q _ (I.hok.fresh (Nat.le_refl _))⟩
  rcases hq with hq | hq
  · obtain ⟨its, r', pl, hz⟩ := I.list hq
    have hlen := r'.length
    obtain ⟨o, ho, hc, n, hd⟩ := pl.isList
    exact call_list_seq p (.inl rfl) ho hc hd (fun h' c' kp e => fin its r' hz h' c' kp e) (by simp only [List.size_toArray] <;> omega)
  · obtain ⟨its, r', pl, hz⟩ := I.tuple hq
    have hlen := r'.length
    obtain ⟨o, ho, hc, n, hd⟩ := pl
    exact call_list_seq p (.inr rfl) ho hc hd (fun h' c' kp e => fin its r' hz h' c' kp e) (by simp only [List.size_toArray] <;> omega)
theorem call_tuple_of : CallR X (.type "tuple") (fun xs H Q => ∃ p ys, xs = [.ref p] ∧ ((SqL X.K H p ys ∧ ∀ l, H l = none → Q (.ref l) (upd H l (.tup ys))) ∨ (SqT X.K H p ys ∧ Q (.ref p) H))) := by
  intro pins s σ H xs us Q I r h
  obtain ⟨p, ys, rfl, h⟩ := h
  obtain ⟨u, rfl, rx⟩ := vals1 r
  cases rx
  rcases h with ⟨hq, q⟩ | ⟨hq, q⟩
  · obtain ⟨its, r', pl, hz⟩ := I.list hq
    have hlen := r'.length
    refine call_tuple_list pl.isList (fun h' kp => ?_) (by simp only [List.size_toArray] <;> omega)
    have I1 : Inv X pins σ H { s with heap := h' } := I.kept (t' := s.toks) kp
    have I2 : Inv X pins σ (upd H h'.objs.size (.tup ys)) { s with heap := h'.push { cls := .type "tuple", data := .seq its.toArray } } :=
      I1.laid (t' := s.toks) (fun b o e => Heap.get?_push_of_some _ e) (Nat.le_refl _) (show ObjOk X.prog X.w _ _ _ (.tup ys) from ⟨hz, its, r', IsTup.new _ _⟩)
    exact ⟨.ref h'.objs.size, _, I2, rfl, q _ (I1.hok.fresh (Nat.le_refl _))⟩
  · obtain ⟨its, r', pl, hz⟩ := I.tuple hq
    exact call_tuple_same pl ⟨.ref p, H, I, rfl, q⟩
noncomputable def tyV (K : PySem.W.Frag) (T : String) (x : V) (H : Hp) : Prop := match x with
  | .str _ => T = "str"
  | .int _ => T = "int"
  | .ref p => (T = "list" ∧ ∃ xs, SqL K H p xs) ∨ (T = "tuple" ∧ ∃ o, K.lookup p = some o ∧ o.cls = .type "tuple" ∧ o.dict = none) ∨
      (T = "dict" ∧ ((∃ kvs, H p = some (.dK kvs)) ∨ ∃ kvs, H p = some (.dT kvs))) ∨ (T = "set" ∧ ∃ S n, H p = some (.set S n))
  | _ => False
theorem tyV_is {pins : List (Addr × Obj)} {σ : St} {H : Hp} {s : Shared} {T : String} {x : V} {v : Value} (I : Inv X pins σ H s) (r : RelV x v) (ty : tyV X.K T x H) :
    s.TypeIs v T ∧ ∀ a, v = .ref a → ∃ ob, s.heap.get? a = some ob ∧ ob.dict = none := by
  cases x with
  | str z =>
    obtain ⟨t, rfl⟩ := r
    cases (show T = "str" from ty)
    exact ⟨typeIs_str s z t, fun _ e => nomatch e⟩
  | int i =>
    obtain ⟨t, rfl⟩ := r
    cases (show T = "int" from ty)
    exact ⟨typeIs_int s i t, fun _ e => nomatch e⟩
  | ref p =>
    cases r
    rcases ty with ⟨rfl, xs, hq⟩ | ⟨rfl, o, hk, hc, hd⟩ | ⟨rfl, hk⟩ | ⟨rfl, S, n, hk⟩
    · obtain ⟨its, _, pl, _⟩ := I.list hq
      refine ⟨pl.isList.typeIs, fun a e => ?_⟩
      cases e
      obtain ⟨o, n, e, c, hd, _⟩ := pl
      exact ⟨o, e, hd⟩
    · refine ⟨⟨o, I.kIn p o hk, hc⟩, fun a e => ?_⟩
      cases e
      exact ⟨o, I.kIn _ o hk, hd⟩
    · have z : ∃ o, s.heap.get? p = some o ∧ o.ExactDict := by
        rcases hk with ⟨kvs, hk⟩ | ⟨kvs, hk⟩
        · obtain ⟨_, _, _, _, o, _, _, e, ex, _⟩ := I.hok p _ hk
          exact ⟨o, e, ex⟩
        · obtain ⟨_, _, _, _, o, _, _, e, ex, _⟩ := I.hok p _ hk
          exact ⟨o, e, ex⟩
      obtain ⟨o, e, ex⟩ := z
      refine ⟨⟨o, e, ex.1⟩, fun a e2 => ?_⟩
      cases e2
      exact ⟨o, e, ex.2.1⟩
    · obtain ⟨o, _, _, _, e, ex, _⟩ := I.hok p _ hk
      refine ⟨⟨o, e, ex.1⟩, fun a e2 => ?_⟩
      cases e2
      exact ⟨o, e, ex.2.1⟩
  | _ => exact False.elim ty
noncomputable def tBM0 (K : PySem.W.Frag) (T : String) (r : V → List V → Hp → VK → Prop) (to : TE) : TE := fun σ H Q => to σ H fun x H1 => tyV K T x H1 ∧ r x [] H1 Q
noncomputable def tBM (K : PySem.W.Frag) (T : String) (r : V → List V → Hp → VK → Prop) (to : TE) (t : TA) : TE := fun σ H Q => to σ H fun x H1 => tyV K T x H1 ∧ t σ H1 fun xs H2 => r x xs H2 Q
variable {o e : Expr} {es : List Expr} {to : TE} {t : TA} {name : Str} {apos cpos : Pos} {T id : String} {r : V → List V → Hp → VK → Prop}
theorem pe_bm0 (pa : PlainAttrs T) (slot : Slot T name id) (hty : typeOf (.builtin id) = pure (.type "method_descriptor")) (hm : MtR X id r) (ho : PE X o to)
    (hbase : attributeBase o name X.env (eval o X.env) = eval o X.env := by rfl) (hline : (apos.endLine == cpos.line) = true := by rfl) : PE X (.Call (.Attribute o name apos) [] [] cpos) (tBM0 X.K T r to) := by
  intro pins s σ H Q I h
  refine wpAny_Call_method0_late hbase hline (thn (ho pins s σ H _ I h) fun v s1 ⟨x, H1, I1, r1, ty, q1⟩ => ?_)
  obtain ⟨h1, h2⟩ := tyV_is I1 r1 ty
  exact ⟨T, id, pa, slot, hty, h1, h2, Calls.callWith_builtin rfl (PySem.evalArgs_none (hm pins s1 σ H1 x [] v [] Q I1 r1 .nil q1))⟩
theorem pe_bm (pa : PlainAttrs T) (slot : Slot T name id) (hty : typeOf (.builtin id) = pure (.type "method_descriptor")) (hm : MtR X id r) (ho : PE X o to) (ha : PA X (e :: es) t)
    (hbase : attributeBase o name X.env (eval o X.env) = eval o X.env := by rfl)
    (hfew : ((backTo cpos (starEach (e :: es) X.env)).all (fun x => !x.1) && (backToKw cpos (keywordEach [] X.env)).all (fun x => x.1.isSome)
      && decide ((e :: es).length + ([] : List Keyword).length + (if ([] : List Keyword).isEmpty then 0 else 1) < 30)) = true := by rfl)
    (hline : (apos.endLine == cpos.line) = true := by rfl) (hs : starEach (e :: es) X.env = (false, eval e X.env) :: starEach es X.env := by rfl) (hplain : (backTo cpos (starEach es X.env)).any (·.1) = false := by rfl) :
    PE X (.Call (.Attribute o name apos) (e :: es) [] cpos) (tBM X.K T r to t) := by
  intro pins s σ H Q I h
  refine wpAny_Call_method_late hbase hfew hline rfl (thn (ho pins s σ H _ I h) fun v s1 ⟨x, H1, I1, r1, ty, q1⟩ => ?_)
  obtain ⟨h1, h2⟩ := tyV_is I1 r1 ty
  refine ⟨T, id, pa, slot, hty, h1, h2, ?_⟩
  have hA := ha cpos pins s1 σ H1 _ I1 q1
  rw [hs] at hA ⊢
  refine Calls.callWith_builtin (by show (false || (backTo cpos (starEach es X.env)).any (·.1)) = false; rw [hplain] <;> rfl) (Calls.evalArgs_plain ?_)
  exact thn hA fun us s2 ⟨vs, H2, I2, r2, q2⟩ => hm pins s2 σ H2 x vs v us Q I2 r1 r2 q2
end
end L2
namespace L2
open PySem PySem.Spec PyProof.Rows
noncomputable def MtM (X : Cx) (id : String) (r : V → List V → Hp → VK → Prop) : Prop :=
  ∀ (pins : List (Addr × Obj)) (s : Shared) (σ : St) (H : Hp) (x : V) (xs : List V) (v : Value) (us : List Value) (Q : VK), Inv X pins σ H s → RelV x v → Vals xs us → r x xs H Q →
    wpAny (model X.prog X.w) X.A (call (.builtin id) (v :: us)) (EP X pins σ Q) X.xe s
theorem Vals.uncons {x : V} {xs : List V} {us : List Value} (h : Vals (x :: xs) us) : ∃ u ws, us = u :: ws ∧ RelV x u ∧ Vals xs ws := by
  cases h with
  | cons r t => exact ⟨_, _, rfl, r, t⟩
theorem Vals.unnil {us : List Value} (h : Vals [] us) : us = [] := by
  cases h
  rfl
theorem Vals.one {x : V} {us : List Value} (h : Vals [x] us) : ∃ u, us = [u] ∧ RelV x u := by
  obtain ⟨u, ws, e, r, t⟩ := h.uncons
  exact ⟨u, by rw [e, t.unnil], r⟩
theorem Vals.zero : ∀ {us : List Value}, Vals [] us → us = []
  | _, .nil => rfl
theorem Vals.dropLast {xs : List V} {us : List Value} (h : Vals xs us) : Vals xs.dropLast us.dropLast := by
  induction h with
  | nil => exact .nil
  | cons r t ih =>
    cases t with
    | nil => exact .nil
    | cons q t' => exact .cons r ih
theorem Vals.rep {xs : List V} {us : List Value} (h : Vals xs us) : ∀ k : Nat, Vals (List.replicate k xs).flatten (List.replicate k us).flatten
  | 0 => .nil
  | k + 1 => by
    rw [List.replicate_succ, List.replicate_succ, List.flatten_cons, List.flatten_cons]
    exact Vals.append h (Vals.rep h k)
theorem erase_last {α : Type} (l : List α) : l.eraseIdx (l.length - 1) = l.dropLast := by
  induction l with
  | nil => rfl
  | cons a r ih =>
    cases r with
    | nil => rfl
    | cons b r =>
      have e : (a :: b :: r).length - 1 = ((b :: r).length - 1) + 1 := by
        have h1 : (a :: b :: r).length = r.length + 2 := rfl
        have h2 : (b :: r).length = r.length + 1 := rfl
        omega
      rw [e, List.eraseIdx_cons_succ, ih]
      all_goals rfl
theorem foldl_rep (its : List Value) : ∀ (k : Nat) (acc : List Value),
    List.foldl (fun x1 x2 => x1 ++ x2) acc.toArray (List.replicate k its.toArray) = (acc ++ (List.replicate k its).flatten).toArray
  | 0, acc => by simp
  | k + 1, acc => by
    have e : acc.toArray ++ its.toArray = (acc ++ its).toArray := by simp
    have e2 : (acc ++ its) ++ (List.replicate k its).flatten = acc ++ (List.replicate (k + 1) its).flatten := by
      rw [List.replicate_succ, List.flatten_cons, List.append_assoc]
    rw [← e2, ← foldl_rep its k (acc ++ its), ← e, List.replicate_succ, List.foldl_cons]
section
variable {X : Cx} {pins : List (Addr × Obj)} {σ : St} {H : Hp} {s : Shared} {l b : Addr} {xs ys zs : List V}
theorem Inv.lset {its its' : List Value} {n : Nat} {f : Array Value → Array Value} {t' : Nat} (I : Inv X pins σ H s) (hH : H l = some (.lst xs))
    (e : s.heap.get? l = some { cls := .type "list", data := .seq its.toArray n }) (hf : f its.toArray = its'.toArray) (hv : Vals ys its') (hz : ys.length ≤ sizeLine) :
    Inv X pins σ (upd H l (.lst ys)) { s with heap := s.heap.update l (Obj.mapSeq f), toks := t' } := by
  have q := PySem.IsL.update e f
  rw [hf] at q
  refine I.write (x := l) (e := l) (by rw [hH]; exact trivial) (.inl rfl) (fun b' u hb hu => (Heap.get?_update_other s.heap (Obj.mapSeq f) (Ne.symm hb)).trans hu) ⟨_, q⟩ ?_
  exact ⟨hz, its', _, hv, q⟩
theorem Inv.lnew {its : List Value} {t' : Nat} (I : Inv X pins σ H s) (hv : Vals ys its) (hz : ys.length ≤ sizeLine) :
    Inv X pins σ (upd H s.heap.objs.size (.lst ys)) { s with heap := s.heap.push { cls := .type "list", data := .seq its.toArray }, toks := t' } :=
  I.laid (fun _ _ q => Heap.get?_push_of_some _ q) (Nat.le_refl _) ⟨hz, its, 0, hv, Heap.get?_push_size _ rfl⟩
theorem Inv.fresh (I : Inv X pins σ H s) : H s.heap.objs.size = none := I.hok.fresh (Nat.le_refl _)
theorem Inv.lstM (I : Inv X pins σ H s) (hH : H l = some (.lst xs)) : xs.length ≤ sizeLine ∧ ∃ (its : List Value) (n : Nat), Vals xs its ∧ xs.length = its.length ∧ s.heap.get? l = some { cls := .type "list", data := .seq its.toArray n } := by
  obtain ⟨z, its, n, r, e⟩ := I.hok l _ hH
  exact ⟨z, its, n, r, r.length, e⟩
theorem notLongL {n : Nat} (h : n ≤ sizeLine) : Builtin.List.listTooLong n = false := by
  unfold Builtin.List.listTooLong
  exact decide_eq_false (by omega)
end
section
variable {X : Cx}
noncomputable def rAppend : V → List V → Hp → VK → Prop := fun x vs H Q => ∃ l xs y, x = .ref l ∧ vs = [y] ∧ H l = some (.lst xs) ∧ xs.length < sizeLine ∧ Q .non (upd H l (.lst (xs ++ [y])))
theorem mt_append : MtM X "list.append" rAppend := by
  intro pins s σ H x vs v us Q I rx rv h
  obtain ⟨l, xs, y, rfl, rfl, hH, hz, q⟩ := h
  cases rx
  obtain ⟨u, rfl, ru⟩ := rv.one
  obtain ⟨z, its, n, r, hl, e⟩ := I.lstM hH
  refine call_meets F.slot_list_append ⟨_, e, rfl⟩ F.entry_list_append (F.args_list_append_2 _ _) (PySem.list_append l its.toArray n u (by rw [List.size_toArray]; omega)) ⟨e, ?_⟩
  refine ⟨.non, _, I.lset (its' := its ++ [u]) hH e (by simp) (r.append (.cons ru .nil)) ?_, rfl, q⟩
  rw [List.length_append, List.length_singleton]
  omega
noncomputable def rExtend : V → List V → Hp → VK → Prop := fun x vs H Q => ∃ l b xs zs, x = .ref l ∧ vs = [.ref b] ∧ H l = some (.lst xs) ∧ H b = some (.lst zs) ∧ xs.length + zs.length ≤ sizeLine ∧ Q .non (upd H l (.lst (xs ++ zs)))
theorem mt_extend : MtM X "list.extend" rExtend := by
  intro pins s σ H x vs v us Q I rx rv h
  obtain ⟨l, b, xs, zs, rfl, rfl, hH, hB, hz, q⟩ := h
  cases rx
  obtain ⟨u, rfl, ru⟩ := rv.one
  cases ru
  obtain ⟨z, its, n, r, hl, e⟩ := I.lstM hH
  obtain ⟨z2, its2, n2, r2, hl2, e2⟩ := I.lstM hB
  have hsz : its.toArray.size + its2.toArray.size ≤ sizeLine := by rw [List.size_toArray, List.size_toArray]; omega
  have hlong : ¬ (!its.toArray.isEmpty && Builtin.List.listTooLong (its.toArray.size + its2.toArray.size)) = true := by
    rw [notLongL hsz, Bool.and_false]
    exact Bool.false_ne_true
  refine call_meets F.slot_list_extend ⟨_, e, rfl⟩ F.entry_list_extend (F.args_list_extend_2 _ _)
    (AutoSeq1.list_extend_list_list_0 l its.toArray n b its2.toArray n2 hlong (by rw [List.size_toArray]; omega) (by omega)) ⟨e, e2, ?_⟩
  refine ⟨.non, _, I.lset (its' := its ++ its2) hH e (by simp) (r.append r2) ?_, rfl, q⟩
  rw [List.length_append]
  omega
noncomputable def rPop : V → List V → Hp → VK → Prop := fun x vs H Q => ∃ l xs y, x = .ref l ∧ vs = [] ∧ H l = some (.lst xs) ∧ xs[xs.length - 1]? = some y ∧ Q y (upd H l (.lst xs.dropLast))
theorem mt_pop : MtM X "list.pop" rPop := by
  intro pins s σ H x vs v us Q I rx rv h
  obtain ⟨l, xs, y, rfl, rfl, hH, hy, q⟩ := h
  cases rx
  have hus := rv.zero
  subst hus
  obtain ⟨z, its, n, r, hl, e⟩ := I.lstM hH
  obtain ⟨u, hu, ru⟩ := r.get hy
  have hy' : its.toArray[its.toArray.size - 1]? = some u := by
    show its.toArray[its.length - 1]? = some u
    rw [← Array.getElem?_toList, ← hl]
    exact hu
  refine call_meets F.slot_list_pop ⟨_, e, rfl⟩ F.entry_list_pop (F.args_list_pop_1 _) (MeetsSeq.list_pop_last l its.toArray n u hy' (by rw [List.size_toArray]; omega)) ⟨e, ?_⟩
  refine ⟨y, _, I.lset (its' := its.dropLast) hH e ?_ r.dropLast ?_, ru, q⟩
  · show its.toArray.eraseIdxIfInBounds (its.toArray.size - 1) = its.dropLast.toArray
    rw [List.size_toArray, List.eraseIdxIfInBounds_toArray, erase_last]
  · rw [List.length_dropLast]
    omega
noncomputable def rClear : V → List V → Hp → VK → Prop := fun x vs H Q => ∃ l xs, x = .ref l ∧ vs = [] ∧ H l = some (.lst xs) ∧ Q .non (upd H l (.lst []))
theorem mt_clear : MtM X "list.clear" rClear := by
  intro pins s σ H x vs v us Q I rx rv h
  obtain ⟨l, xs, rfl, rfl, hH, q⟩ := h
  cases rx
  have hus := rv.zero
  subst hus
  obtain ⟨z, its, n, r, hl, e⟩ := I.lstM hH
  refine call_meets F.slot_list_clear ⟨_, e, rfl⟩ F.entry_list_clear (F.args_list_clear_1 _) (AutoSeq1.list_clear_list_0 l its.toArray n (by rw [List.size_toArray]; omega)) ⟨e, ?_⟩
  exact ⟨.non, _, I.lset (its' := []) (ys := []) hH e rfl .nil (Nat.zero_le _), rfl, q⟩
noncomputable def rCat : R2 := fun x y H Q => ∃ l b xs zs, x = .ref l ∧ y = .ref b ∧ H l = some (.lst xs) ∧ H b = some (.lst zs) ∧ xs.length + zs.length ≤ sizeLine ∧ ∀ p, H p = none → Q (.ref p) (upd H p (.lst (xs ++ zs)))
theorem op_cat : OpR X (binaryOp .Add) rCat := by
  intro pins s σ H x y v u Q I rx ry h
  obtain ⟨l, b, xs, zs, rfl, rfl, hH, hB, hz, q⟩ := h
  cases rx
  cases ry
  obtain ⟨z, its, n, r, hl, e⟩ := I.lstM hH
  obtain ⟨z2, its2, n2, r2, hl2, e2⟩ := I.lstM hB
  refine PySem.P.add_list e e2 ?_ (by rw [List.size_toArray, List.size_toArray]; omega)
  have ea : its.toArray ++ its2.toArray = (its ++ its2).toArray := by simp
  rw [ea]
  exact ⟨.ref _, _, I.lnew (t' := s.toks) (r.append r2) (by rw [List.length_append]; omega), rfl, q _ I.fresh⟩
noncomputable def rRep : R2 := fun x y H Q => ∃ l k xs, x = .ref l ∧ y = .int k ∧ H l = some (.lst xs) ∧ -(2 ^ 63) ≤ k ∧ k < 2 ^ 63 ∧ xs.length * k.toNat ≤ sizeLine ∧
  ∀ p, H p = none → Q (.ref p) (upd H p (.lst (List.replicate k.toNat xs).flatten))
theorem len_rep {α : Type} (xs : List α) (k : Nat) : (List.replicate k xs).flatten.length = k * xs.length := by
  induction k with
  | zero => simp
  | succ k ih => rw [List.replicate_succ, List.flatten_cons, List.length_append, ih, Nat.succ_mul, Nat.add_comm]
theorem op_rep : OpR X (binaryOp .Mult) rRep := by
  intro pins s σ H x y v u Q I rx ry h
  obtain ⟨l, k, xs, rfl, rfl, hH, h1, h2, hz, q⟩ := h
  cases rx
  obtain ⟨t, rfl⟩ := ry
  obtain ⟨z, its, n, r, hl, e⟩ := I.lstM hH
  have hlen : its.toArray.size * k.toNat ≤ sizeLine := by rw [List.size_toArray, ← hl]; exact hz
  have hcap : ¬ its.toArray.size * k.toNat > (2 ^ 63 - 1) / 8 := by
    have : (sizeLine : Nat) ≤ (2 ^ 63 - 1) / 8 := by decide
    omega
  have hfit : ¬ (!Builtin.List.listFitsIndex k) = true := by
    rw [fitsIndex_both h1 h2]
    exact Bool.false_ne_true
  have hlong : ¬ Builtin.List.listTooLong (its.toArray.size * k.toNat) = true := by
    rw [notLongL hlen]
    exact Bool.false_ne_true
  have hnew : List.foldl (fun x1 x2 => x1 ++ x2) #[] (List.replicate (if its.toArray.isEmpty = true then 0 else k.toNat) its.toArray) = (List.replicate k.toNat its).flatten.toArray := by
    have f0 : ∀ m : Nat, List.foldl (fun x1 x2 => x1 ++ x2) #[] (List.replicate m its.toArray) = (List.replicate m its).flatten.toArray := fun m => by
      have := foldl_rep its m []
      rw [List.nil_append] at this
      exact this
    rw [f0]
    cases its with
    | nil => simp
    | cons a r' => rw [if_neg (by simp)]
  refine wpAny_binaryOp_repeat_ref (T := "list") (U := "int") (by decide) ⟨_, e, rfl⟩ (fun s' => typeIs_int s' k t) noFill_list_mul F.fills_int_mul F.slot_int_rmul repeat_list F.slot_int_index.lookup
    (call_meets F.slot_int_rmul (typeIs_int s k t) F.entry_int_rmul (F.args_int_rmul_2 _ _) (int___rmul___int_list k t l its.toArray n)
      ⟨e, rfl, ⟨_, e, rfl⟩, call_meets F.slot_list_mul ⟨_, e, rfl⟩ F.entry_list_mul (F.args_list_mul_2 _ _) (AutoListH.list___mul___list_int_3 l its.toArray n k t hfit hcap hlong) ⟨e, ?_⟩⟩)
  rw [hnew]
  exact ⟨.ref _, _, I.lnew (t' := s.toks) (r.rep k.toNat) (by rw [len_rep, Nat.mul_comm]; exact hz), rfl, q _ I.fresh⟩
end
section
variable {prog : Program} {w : World} {A : Around} {E : Value → Shared → Prop} {s : Shared}
end
section
variable {X : Cx}
end
end L2
namespace Att
open PySem PySem.W PySem.Calls PyProof.Rows
theorem ints_of_wellAll {P : Params} {h : Heap} : ∀ (ns : List Int) (vs : List Value), WellAll P h vs (ns.map WData.int) → IntsAre vs ns := by
  intro ns
  induction ns with
  | nil =>
    intro vs w
    rw [List.map_nil] at w
    cases w
    exact .nil
  | cons n ns ih =>
    intro vs w
    rw [List.map_cons] at w
    cases w with
    | cons a b =>
      cases a
      exact .cons _ _ (ih _ b)
theorem script_of {l : OpenLaw} {n : Nat} (hn : l.most = some n) {P : Params} {h : Heap} {args : List WData} {vals : List Value}
    (hpre : l.row.toRowW.claim.pre args = true) (hwl : WellAll P h vals args) :
    ∃ a vs ns, vals = [Value.ref a] ∧ args = [WData.list (ns.map WData.int)] ∧ h.get? a = some { cls := .type "list", data := .seq vs.toArray } ∧ IntsAre vs ns ∧ ns.length ≤ n := by
  have hsh : WShape.hasAll [] args [.list .int] = true := (pre_splitW hpre).1
  have hc : l.pre.holds [] { args := args } = true := (pre_splitW hpre).2
  obtain ⟨d, r, rfl, h1, h2⟩ := hasAllW_cons hsh
  obtain rfl := hasAllW_nil h2
  obtain ⟨xs, rfl, h3⟩ := hasW_list h1
  obtain ⟨ns, rfl⟩ := items_int h3
  have hlen : ns.length ≤ n := by
    unfold OpenLaw.pre at hc
    have h4 : (WTm.not (.lt (.lit (.int (n : Int))) (.len (.arg 0)))).holds [] { args := [.list (ns.map .int)] } = true := by
      have h4 := (holds_andW hc).1
      rw [hn] at h4
      exact h4
    have h5 := condW_of h4 (w_not (w_lt w_lit (w_len_list (w_arg rfl))))
    rw [List.length_map] at h5
    refine Nat.le_of_not_lt fun q => ?_
    have q' : (n : Int) < ((ns.length : Nat) : Int) := by omega
    first
      | (rw [decide_eq_true q'] at h5; exact absurd h5 (by decide))
      | (simp at h5; omega)
  cases hwl with
  | cons w1 w2 =>
    cases w2
    cases w1 with
    | list ho hall => exact ⟨_, _, ns, rfl, rfl, ho, ints_of_wellAll ns _ hall, hlen⟩
theorem post_true (l : OpenLaw) (args : List WData) : l.row.toRowW.claim.post args (.bool true) args = true :=
  postW_of (r := l.row.toRowW) (X := (true == true))
    (show WShape.has [] (.bool true) .bool = true by first | rfl | decide | simp [WShape.has, WShape.arms, WShape.armsAll])
    (show (WTm.eq .res (.lit (.bool true))).value [] { args := args, res := some (.bool true), after := args } = some (.bool (true == true)) from w_eq_bool (w_res rfl) w_lit) rfl
theorem attach_call {l : OpenLaw} {n : Nat} {q : Program} {loose : List Str} {XP : (Str → Option Value) → Heap → Prop} {YP : World → Heap → Prop} {d : DefRec}
    (hn : l.most = some n) (hdf : d.params.defaults = [])
    (call : ∀ (w : World) (s₀ s₁ : Shared) (mg mb : Str → Option Value) (fa : Addr) (o : Obj) (pm cd doc : Value) (a : Addr) (vs : List Value) (ns : List Int),
      Ground q loose [] XP w s₀ mg mb s₁.heap → YP w s₁.heap →
      s₁.heap.get? fa = some o → o.data = .func (docDef d.name d.params d.body d.scope pm cd doc) → s₁.heap.CodeRec cd d.name → mg d.name = some (.ref fa) →
      s₁.heap.get? a = some { cls := .type "list", data := .seq vs.toArray } → IntsAre vs ns → ns.length ≤ n → s₁.gens = #[] →
      codeAny (model l.prog w) callerA (.call (.ref fa) ⟨[.ref a], []⟩) (fun r s' => r = .ok (.ret (.bool true)) ∧ OldK s₁.heap s'.heap ∧ s'.os = s₁.os ∧ AllBare s'.gens) s₁) :
    WalkO q loose XP YP l.row.toRowW d [] (fun f vs => PySem.call f vs) := by
  intro w s₀ s₁ mg mb G Y fa o pm cd doc dV kV ho hd hcd hD hmg hg args vals as hpre hlay hrd hwl hlo
  obtain rfl : dV = .none := Dflts.none hD hdf
  obtain rfl : kV = .none := Dflts.noKw hD
  obtain ⟨a, vs, ns, rfl, rfl, hobj, hints, hlen⟩ := script_of hn hpre hwl
  refine enter_call (codeAny_mono (call w s₀ s₁ mg mb fa o pm cd doc a vs ns G Y ho (fd_plain hd) hcd hmg hobj hints hlen hg) fun r s' hq => ?_)
  obtain ⟨rfl, h2, h3, h4⟩ := hq
  exact ⟨.inl ⟨.bool true, .bool true, [], rfl, fun _ => rfl, .bool true, post_true l _, fun _ => ⟨List.Pairwise.nil, fun _ hm => (nomatch hm)⟩⟩, h2, h3, h4⟩
section
variable {prog : Program} {w : World} {A : Around} {E : Value → Shared → Prop} {s : Shared} {K : Frag}
end
end Att
namespace L2
open PySem PySem.Spec PyProof.Rows
theorem vals_ints : ∀ {vs : List Value} {ns : List Int}, IntsAre vs ns → Vals (ns.map V.int) vs
  | _, _, .nil => .nil
  | _, _, .cons n t h => .cons ⟨t, rfl⟩ (vals_ints h)
noncomputable def Only (H : Hp) : Prop := ∀ b, H b = none ∨ ∃ o xs, H b = some (.frz o (.lst xs))
theorem law_call {P : Program} {w : World} {K : PySem.W.Frag} {mg mb : Str → Option Value} {CX : CXT} {k : Nat} {fa a : Addr} {fd : FuncData} {x : Str} {sp : Sp} {s₁ : Shared} {vs : List Value} {ns : List Int}
    (KX : K.In s₁.heap) (hns : s₁.heap.Ns mainGlobals mg) (hb : s₁.heap.Ns builtinsNs mb) (hbb : ∀ x : Str, x ≠ "__name__" → mb x = bootBuiltins x) (hlim : s₁.heap.NoLimit) (hg : s₁.gens = #[])
    (ha : s₁.heap.get? a = some { cls := .type "list", data := .seq vs.toArray }) (hi : IntsAre vs ns) (hl : ns.length ≤ sizeLine) (hr : Room k callerA)
    (F : ∀ base : Heap, K.In base → base.Ns mainGlobals mg → FnOk P w K mg base CX k fa fd [x] sp) (hbind : ∀ (s : Shared) (u : Value), BindsTo s fd ⟨[u], []⟩ [(x, u)])
    (hsp : ∀ H : Hp, Only H → SqL K H a (ns.map V.int) → sp [.ref a] H (fun v _ => v = .bl true) fun _ _ _ => False)
    (hCX : ∀ H e s', CX [] H s₁ (fun _ _ _ => False) e s' → False) :
    codeAny (model P w) callerA (.call (.ref fa) ⟨[.ref a], []⟩) (fun r s' => r = .ok (.ret (.bool true)) ∧ OldK s₁.heap s'.heap ∧ s'.os = s₁.os ∧ AllBare s'.gens) s₁ := by
  have rv := vals_ints hi
  have lenV := hi.length
  have core : ∀ H : Hp, Only H → SqL K H a (ns.map V.int) → HOk P w H s₁.heap → (∀ b, H b ≠ none → b = a) → (H a ≠ none → K.lookup a = none) →
      codeAny (model P w) callerA (.call (.ref fa) ⟨[.ref a], []⟩) (fun r s' => r = .ok (.ret (.bool true)) ∧ OldK s₁.heap s'.heap ∧ s'.os = s₁.os ∧ AllBare s'.gens) s₁ := by
    intro H hO hS hok hA hK
    have base_of : ∀ {b : Addr} {o : Obj}, s₁.heap.get? b = some o → H b = none → (hidT s₁.heap H).get? b = some o := fun e n => hidT_get e n
    have noA : ∀ {b : Addr} {o : Obj} {es : Array DictEntry} {ep : Nat}, s₁.heap.get? b = some o → o.data = .dict es ep → H b = none := fun {b o es ep} e d => by
      cases q : H b with
      | none => rfl
      | some u =>
        have e' : b = a := hA b (by rw [q]; simp)
        subst e'
        rw [ha] at e; cases e
        have d' : Data.seq vs.toArray _ = Data.dict es ep := d
        cases d'
    have nsK : ∀ {b : Addr} {m : Str → Option Value}, s₁.heap.Ns b m → (hidT s₁.heap H).Ns b m := fun {b m} ⟨o, es, ep, e, d, r⟩ => ⟨o, es, ep, base_of e (noA e d), d, r⟩
    have hKb : K.In (hidT s₁.heap H) := fun b o e => base_of (KX b o e) (by
      cases q : H b with
      | none => rfl
      | some u =>
        have e' : b = a := hA b (by rw [q]; simp)
        subst e'
        rw [hK (by rw [q]; simp)] at e; cases e)
    have hM : Mod K mg (hidT s₁.heap H) := ⟨hKb, nsK hns, ⟨mb, nsK hb, hbb⟩, let ⟨mc, h1, h2⟩ := hlim; ⟨mc, nsK h1, h2⟩⟩
    have e0 : Env0 P w K mg (hidT s₁.heap H) callerA [] s₁ H := ⟨rfl, hM, fun b o e => of_hidT e, Nat.le_of_eq (hidT_size _ _), trivial, fun b hb => absurd (show b ∈ ([] : List Addr) from hb) (by simp), hok, .of_eq hg⟩
    refine codeAny_mono ((F _ hKb (nsK hns)).run callerA [] s₁ H ⟨[.ref a], []⟩ [.ref a] [.ref a] _ _ hr e0 (hbind s₁ (.ref a)) (.cons rfl .nil) (hsp H hO hS)) fun r s' h => ?_
    cases r with
    | error e => exact (hCX H e s' h).elim
    | ok fl =>
      cases fl with
      | next => exact False.elim h
      | brk => exact False.elim h
      | cont => exact False.elim h
      | ret u =>
        obtain ⟨v, H', os, bare, un, hok', r', q⟩ := h
        have q' : v = .bl true := q
        subst q'
        obtain rfl : u = Value.bool true := r'
        refine ⟨rfl, OldK.of_keep fun b o e => ?_, os, bare⟩
        cases q : H b with
        | none => exact un.keep b o e q (by intro z; exact absurd (show b ∈ ([] : List Addr) from z) (by simp)) (by simp)
        | some u =>
          rcases hO b with z | ⟨ob, xs, z⟩
          · rw [q] at z; cases z
          · have z2 := un.frzs b ob _ z
            obtain ⟨e1, _⟩ := hok b _ z
            obtain ⟨e2, _⟩ := hok' b _ z2
            rw [e] at e1; cases e1
            exact e2
  cases hk : K.lookup a with
  | some o =>
    have e := KX a o hk
    rw [ha] at e
    cases e
    refine core (fun _ => none) (fun _ => .inl rfl) (.inr ⟨_, vs.toArray, _, hk, rfl, rfl, rfl, by rw [List.size_toArray, lenV]; exact hl, by simpa using rv⟩) (fun b u z => by have z' : (none : Option HO) = some u := z; cases z') (fun b z => absurd rfl z) fun z => absurd rfl z
  | none =>
    refine core (fun b => if b = a then some (.frz { cls := .type "list", data := .seq vs.toArray } (.lst (ns.map V.int))) else none) (fun b => ?_) (.inl (.inr ⟨{ cls := .type "list", data := .seq vs.toArray }, if_pos rfl⟩)) (fun b u z => ?_) (fun b z => ?_) fun _ => hk
    · by_cases hb : b = a
      · exact .inr ⟨_, _, if_pos hb⟩
      · exact .inl (if_neg hb)
    · by_cases hb : b = a
      · have z' := (if_pos hb).symm.trans z
        cases z'
        subst hb
        exact ⟨ha, by rw [List.length_map]; exact hl, vs, _, rv, ha⟩
      · have z' := (if_neg hb).symm.trans z
        cases z'
    · by_cases hb : b = a
      · exact hb
      · exact absurd (if_neg hb) z
end L2
namespace L2
open PySem PySem.Spec PyProof.Rows
noncomputable abbrev KOf {K : PySem.W.Frag} {h : Heap} (_ : K.In h) : PySem.W.Frag := K
theorem walk_of {l : PySem.W.OpenLaw} {n k : Nat} {q : Program} {loose : List Str} {XP : (Str → Option Value) → Heap → Prop} {YP : World → Heap → Prop} {d : DefRec} {K : Params → PySem.W.Frag} {CX : World → CXT} {sp : World → Sp} {x : Str}
    (hn : l.most = some n) (hn2 : n ≤ sizeLine) (hdf : d.params.defaults = []) (hr : Room k callerA)
    (hY : ∀ (w : World) (h : Heap), YP w h → (K w.params).In h)
    (F : ∀ (w : World) (mg : Str → Option Value) (fa : Addr) (h : Heap), (K w.params).In h → h.Ns mainGlobals mg → mg d.name = some (.ref fa) →
      ∃ fd : FuncData, (∀ (s : Shared) (u : Value), BindsTo s fd ⟨[u], []⟩ [(x, u)]) ∧
        ∀ base : Heap, (K w.params).In base → base.Ns mainGlobals mg → FnOk l.prog w (K w.params) mg base (CX w) k fa fd [x] (sp w))
    (hsp : ∀ (w : World) (H : Hp) (a : Addr) (ns : List Int), ns.length ≤ n → Only H → SqL (K w.params) H a (ns.map V.int) → sp w [.ref a] H (fun v _ => v = .bl true) fun _ _ _ => False)
    (hCX : ∀ (w : World) (H : Hp) (s : Shared) (e : Value) (s' : Shared), CX w [] H s (fun _ _ _ => False) e s' → False) :
    PySem.W.WalkO q loose XP YP l.row.toRowW d [] (fun f vs => PySem.call f vs) := by
  refine Att.attach_call hn hdf fun w s₀ s₁ mg mb fa o pm cd doc a vs ns G Y ho hd hcd hmg hobj hints hlen hg => ?_
  have KX := hY w _ Y
  obtain ⟨fd, hb, hF⟩ := F w mg fa _ KX G.T.g hmg
  exact law_call KX G.T.g G.T.b G.T.builtins G.T.nolimit hg hobj hints (Nat.le_trans hlen hn2) hr hF hb (fun H hO hS => hsp w H a ns hlen hO hS) fun H e s' => hCX w H s₁ e s'
end L2
namespace L2
open PySem PySem.Spec PyProof.Rows
noncomputable def defArgs (s : Stmt) : Arguments := match s with
  | .FunctionDef _ a _ _ _ _ _ _ _ _ => a
  | _ => { posonlyargs := [], args := [], vararg := none, kwonlyargs := [], kw_defaults := [], kwarg := none, defaults := [] }
noncomputable def defBody (s : Stmt) : List Stmt := match s with
  | .FunctionDef _ _ b _ _ _ _ _ _ _ => b
  | _ => []
noncomputable def defScope (s : Stmt) : Scope := match s with
  | .FunctionDef _ _ _ _ _ _ sc _ _ _ => sc
  | _ => { kind := .function, names := [], isGenerator := false, isCoroutine := false }
noncomputable abbrev CX0 : CXT := fun _ _ _ _ _ _ => False
noncomputable abbrev E0 : XK := fun _ _ _ => False
theorem pass0 {X : Cx} : Passes CX0 X E0 := fun _ _ _ _ _ _ _ h => h.elim
structure Fun (K : PySem.W.Frag) (x qual : Str) (st : Stmt) (f : Addr) (fd : FuncData) : Prop where
  ex : ∃ (oc : Value) (od : Option Addr) (kV doc pm : Value) (an : Option Addr) (cdv ct : Value) (osl : Array (Option Value)),
    fd = PySem.W.fnOf x qual (defArgs st) (defBody st) (defScope st) .none kV doc pm an cdv ct ∧ K.lookup f = some ⟨oc, od, .func fd, osl⟩ ∧ PySem.W.codeIn K cdv qual = true
  kp : PySem.W.keepIn K (.ref f) = true
section
variable {P : Program} {w : World} {K : PySem.W.Frag} {mg : Str → Option Value} {base : Heap}
theorem Fun.ok {x qual : Str} {st : Stmt} {f : Addr} {fd : FuncData} {N ps : List Str} {k : Nat} {sp : Sp} (F : Fun K x qual st f fd) (S : FnScope N ps (defScope st)) (len : ∀ vs H Q E, sp vs H Q E → vs.length = ps.length)
    (hbody : ∀ (cdv : Value) (A : Around) (outer : List Env) (s : Shared) (H : Hp) (vs : List V) (Q : VK) (E : XK), Room k (A.deeper (envOfC qual (defScope st) s.heap.objs.size f cdv)) → sp vs H Q E →
      ∃ t, PSs (cxOf CX0 P w K mg base N qual (defScope st) f cdv A outer s H E).nox (defBody st) t ∧ t { nx := fun _ H' => Q .non H', rt := Q } (start N vs) H) : FnOk P w K mg base CX0 (k + 1) f fd ps sp := by
  obtain ⟨oc, od, kV, doc, pm, an, cdv, ct, osl, rfl, lk, hcd⟩ := F.ex
  refine fn_of lk hcd S len fun A outer s H vs Q E hr hsp => ?_
  obtain ⟨t, h, q⟩ := hbody cdv A outer s H vs Q E hr hsp
  exact ⟨t, h.nox, q⟩
theorem Fun.binds {x qual : Str} {st : Stmt} {f : Addr} {fd : FuncData} {ps : List Str} (F : Fun K x qual st f fd)
    (h : ∀ (kV doc pm : Value) (an : Option Addr) (cdv ct : Value) (us : List Value), us.length = ps.length → bindArgs (PySem.W.fnOf x qual (defArgs st) (defBody st) (defScope st) .none kV doc pm an cdv ct) ⟨us, []⟩ = pure (ps.zip us)) : Binds K fd ps [] := by
  obtain ⟨oc, od, kV, doc, pm, an, cdv, ct, osl, rfl, lk, hcd⟩ := F.ex
  exact .all (h kV doc pm an cdv ct)
theorem fun_mk {x qual : Str} {st : Stmt} {f : Addr} {oc : Value} {od an : Option Addr} {osl : Array (Option Value)} {kV doc pm cdv ct : Value} (l : K.lookup f = some ⟨oc, od, .func (PySem.W.fnOf x qual (defArgs st) (defBody st) (defScope st) .none kV doc pm an cdv ct), osl⟩)
    (c : PySem.W.codeIn K cdv qual = true) (k : PySem.W.keepIn K (.ref f) = true) : Fun K x qual st f (PySem.W.fnOf x qual (defArgs st) (defBody st) (defScope st) .none kV doc pm an cdv ct) := ⟨⟨oc, od, kV, doc, pm, an, cdv, ct, osl, rfl, l, c⟩, k⟩
end
theorem small1000 {n : Nat} (h : n ≤ 1000) : n < sizeLine := Nat.lt_of_le_of_lt h (by decide)
section
variable {X : Cx}
theorem pv (i : Nat) {x : Str} {pos : Pos} (hN : X.N[i]? = some x := by rfl) (hv : Vis X.env.scope x := by first | exact Or.inl rfl | exact Or.inr (Or.inl rfl) | exact Or.inr (Or.inr rfl)) (hd : (x == ("__debug__" : Str)) = false := by decide)
    (hcd : (x == ("__classdict__" : Str)) = false := by decide) : PE X (.Name x pos) (tVar i) := pe_var hN hv hd hcd
end
theorem iteF {A B : Prop} (h : B) : if false = true then A else B := by
  rw [if_neg Bool.false_ne_true]
  exact h
theorem iteT {A B : Prop} (h : A) : if true = true then A else B := by
  rw [if_pos rfl]
  exact h
end L2
set_option Elab.async false
set_option linter.all false
set_option maxRecDepth 100000
set_option autoImplicit false
namespace L2
open PySem PySem.Spec PyProof.Rows
theorem dict_mapFields (f : Array Value → Array Value) (o : Obj) : (Obj.mapFields f o).dict = o.dict := by
  unfold Obj.mapFields
  split <;> rfl
noncomputable def Trc (B h : Heap) (e : Addr) (x : Value) : Prop := x = .none ∨ ∃ T oT ts y, x = .ref T ∧ B.get? T = none ∧ T ≠ e ∧ h.get? T = some oT ∧ oT.data = .fields ts ∧ ts[3]? = some y
structure Fly (B : Heap) (l : List Env) (e : Addr) (cls : Value) (dx : Option Addr) (h : Heap) : Prop where
  st : B.StaysIn h
  new : B.get? e = none
  ff : h.FunFrames B l
  ob : ∃ oe vs x, h.get? e = some oe ∧ oe.cls = cls ∧ oe.dict = dx ∧ oe.data = .fields vs ∧ vs[1]? = some x ∧ Trc B h e x
section
variable {M : Model} {A : Around} {E : Value → Shared → Prop} {s : Shared} {B : Heap} {l outer : List Env} {env : Env} {e L : Addr} {cls : Value} {dx : Option Addr} {Q : Unit → Shared → Prop}
theorem Fly.recW {h : Heap} {T : Addr} {oT : Obj} {ts : Array Value} (F : Fly B l e cls dx h) (hb : B.get? T = none) (hT : h.get? T = some oT) (hd : oT.data = .fields ts) (g : Array Value → Array Value)
    (hob : ∃ oe vs x, (h.update T (Obj.mapFields g)).get? e = some oe ∧ oe.cls = cls ∧ oe.dict = dx ∧ oe.data = .fields vs ∧ vs[1]? = some x ∧ Trc B (h.update T (Obj.mapFields g)) e x) :
    Fly B l e cls dx (h.update T (Obj.mapFields g)) ∧ h.UpToSlots (h.update T (Obj.mapFields g)) := by
  have other : ∀ b, b ≠ T → (h.update T (Obj.mapFields g)).get? b = h.get? b := fun b hb => Heap.get?_update_other _ _ (Ne.symm hb)
  have noR : ∀ b o, h.get? b = some o → (∀ vs, o.data ≠ .fields vs) → b ≠ T := fun b o q hn z => by
    rw [z, hT] at q; cases q; exact hn ts hd
  exact ⟨⟨fun b o q => (other b fun z => by rw [z, hb] at q; cases q).trans (F.st b o q), F.new, F.ff.of_keeps fun b o q hn => ⟨o, (other b (noR b o q hn)).trans q, rfl⟩, hob⟩, fun b o q hn => ⟨o.slots, (other b (noR b o q hn)).trans q⟩⟩
theorem setFlight_f (F : Fly B l e cls dx s.heap) (h : ∀ h', Fly B l e cls dx h' → s.heap.UpToSlots h' → Q () { s with heap := h' }) : wpAny M A (setFlight (.ref e) none) Q E s := by
  obtain ⟨oe, vs, x, he, hc, hx, hd, h1, tr⟩ := F.ob
  unfold setFlight
  refine wpAny_bind (wpAny_field he hd h1 ?_)
  rcases tr with rfl | ⟨T, oT, ts, y, rfl, hb, hne, hT, hdT, h3⟩
  · rw [if_neg (by decide)]
    exact wpAny_pure (h _ F (.refl _))
  · rw [if_pos (show (Value.ref T != Value.none) = true from by simp)]
    have h3' := (Array.getElem?_eq_some_iff.mp h3).1
    refine wpAny_setField hT hdT h3' ?_
    obtain ⟨F', u⟩ := F.recW hb hT hdT (·.setIfInBounds 3 ((none : Option Addr).elim Value.none fun f => rawInt f))
      ⟨oe, vs, _, (Heap.get?_update_other _ _ hne).trans he, hc, hx, hd, h1, .inr ⟨T, _, _, .none, rfl, hb, hne, Heap.get?_update_self _ hT (Obj.isFreed_of_fields (Obj.data_mapFields hdT _)), Obj.data_mapFields hdT _, by simp [h3']⟩⟩
    exact h _ F' u
theorem entry_f {head : Value} {hadNext : Bool} (hfr : A.frames = some (env :: outer)) (hf : env.frame = some L) (F : Fly B (env :: outer) e cls dx s.heap) (h : ∀ h', Fly B (env :: outer) e cls dx h' → s.heap.UpToSlots h' → Q () { s with heap := h' }) :
    wpAny M A (do let a ← frameOf env; let pl ← entryPlaceOf L hadNext; let b ← EntryCells.newEntry head a .none (rawInt L) .none pl; setField (.ref e) 1 b) Q E s := by
  obtain ⟨oe, vs, x, he, hc, hx, hd, h1, tr⟩ := F.ob
  have hl := F.ff
  have hene : e ∉ (env :: outer).filterMap (·.frame) := fun hm => by
    obtain ⟨_, o, ho, hnf⟩ := hl.mem hm
    rw [he] at ho; cases ho; exact hnf vs hd
  refine wpAny_bind (wpAny_frameOf_fun hfr hl hf fun h₁ hs => ?_)
  refine wpAny_bind (wpAny_entryPlaceOf fun pl hpl => ?_)
  unfold EntryCells.newEntry newFields
  refine wpAny_bind (wpAny_newObj_type ?_ (hpl.sizeOk5 _ _ _ _ _))
  generalize hts : ([head, Value.ref L, Value.none, rawInt L, Value.none] ++ (if pl.isEmpty = true then List.replicate 6 Value.none else pl)) = ts
  have hts3 : ts.toArray[3]? = some (rawInt L) := by rw [← hts]; simp
  have he₁ : h₁.get? e = some oe := (hs.2.1 e hene).trans he
  have hn : h₁.objs.size ≠ e := Nat.ne_of_gt (Heap.lt_size he₁)
  have kb : B.StaysIn h₁ := fun b o q => (hs.2.1 b fun hm => by rw [(hl.mem hm).1] at q; cases q).trans (F.st b o q)
  have he₂ := Heap.get?_push_of_some (h := h₁) { cls := .type "traceback", dict := none, data := .fields ts.toArray } he₁
  refine wpAny_setField he₂ hd (Array.getElem?_eq_some_iff.mp h1).1 (h _ ?_ ?_)
  all_goals
    have keep : ∀ b o, b ≠ e → h₁.get? b = some o → ((h₁.push { cls := .type "traceback", dict := none, data := .fields ts.toArray }).update e (Obj.mapFields (·.setIfInBounds 1 (Value.ref h₁.objs.size)))).get? b = some o := fun b o hbe hb => by
      rw [Heap.get?_update_other _ _ (Ne.symm hbe)]
      exact Heap.get?_push_of_some _ hb
    have noR : ∀ b o, s.heap.get? b = some o → (∀ vs, o.data ≠ .fields vs) → b ≠ e := fun b o q hn z => by
      rw [z, he] at q; cases q; exact hn vs hd
  · refine ⟨fun b o q => keep b o (fun z => by rw [z, F.new] at q; cases q) (kb b o q), F.new, hl.of_keeps fun b o q hn => ?_, ?_⟩
    · obtain ⟨sl, z⟩ := hs.2.2 b o q
      exact ⟨_, keep b _ (noR b o q hn) z, rfl⟩
    · have hd₃ := Obj.data_mapFields hd (·.setIfInBounds 1 (Value.ref h₁.objs.size))
      refine ⟨_, _, _, Heap.get?_update_self _ he₂ (Obj.isFreed_of_fields hd₃), (Obj.cls_mapFields _ _).trans hc, (dict_mapFields _ _).trans hx, hd₃, by simp [(Array.getElem?_eq_some_iff.mp h1).1], .inr ⟨h₁.objs.size, { cls := .type "traceback", dict := none, data := .fields ts.toArray }, ts.toArray, rawInt L, rfl, kb.fresh, hn, ?_, rfl, hts3⟩⟩
      exact (Heap.get?_update_other _ _ (Ne.symm hn)).trans (Heap.get?_push_size h₁ rfl)
  · intro b o q hn
    obtain ⟨sl, z⟩ := hs.2.2 b o q
    exact ⟨sl, keep b _ (noR b o q hn) z⟩
theorem noteFrame_f (hfr : A.frames = some (env :: outer)) (hf : env.frame = some L) (F : Fly B (env :: outer) e cls dx s.heap) (h : ∀ h', Fly B (env :: outer) e cls dx h' → s.heap.UpToSlots h' → Q () { s with heap := h' }) :
    wpAny M A (noteFrame (.ref e) env) Q E s := by
  obtain ⟨oe, vs, x, he, hc, hx, hd, h1, tr⟩ := F.ob
  unfold noteFrame
  simp only [hf]
  refine wpAny_bind (wpAny_field he hd h1 ?_)
  rcases tr with rfl | ⟨T, oT, ts, y, rfl, hb, hne, hT, hdT, h3⟩
  · rw [if_neg (by decide)]
    exact entry_f hfr hf F h
  · rw [if_pos (show (Value.ref T != Value.none) = true from by simp)]
    refine wpAny_bind (wpAny_field hT hdT h3 ?_)
    by_cases hy : (y == rawInt L) = true
    · rw [if_pos hy]
      exact wpAny_pure (h _ F (.refl _))
    · rw [if_neg hy]
      have h3' := (Array.getElem?_eq_some_iff.mp h3).1
      refine wpAny_bind (wpAny_setField hT hdT h3' ?_)
      obtain ⟨F', u⟩ := F.recW hb hT hdT (·.setIfInBounds 3 Value.none)
        ⟨oe, vs, _, (Heap.get?_update_other _ _ hne).trans he, hc, hx, hd, h1, .inr ⟨T, _, _, .none, rfl, hb, hne, Heap.get?_update_self _ hT (Obj.isFreed_of_fields (Obj.data_mapFields hdT _)), Obj.data_mapFields hdT _, by simp [h3']⟩⟩
      exact entry_f hfr hf F' fun h' F'' u' => h h' F'' (u.trans u')
theorem leaving_f (hfr : A.frames = some (env :: outer)) (hf : env.frame = some L) (F : Fly B (env :: outer) e cls dx s.heap) (h : ∀ h', Fly B outer e cls dx h' → s.heap.UpToSlots h' → Q () { s with heap := h' }) :
    wpAny M A (leaving env (.ref e)) Q E s := by
  unfold leaving
  refine wpAny_bind (noteFrame_f hfr hf F fun h1 F1 u1 => ?_)
  refine setFlight_f (s := { s with heap := h1 }) F1 fun h2 F2 u2 => ?_
  exact h h2 ⟨F2.st, F2.new, F2.ff.2.2, F2.ob⟩ (u1.trans u2)
end
end L2
set_option Elab.async false
set_option linter.all false
set_option maxRecDepth 100000
set_option autoImplicit false
namespace L2
open PySem PySem.Spec PyProof.Rows
theorem ObjOk.there {P : Program} {w : World} {H : Hp} {h : Heap} {a : Addr} {o : HO} (x : ObjOk P w H h a o) : ∃ u, h.get? a = some u := by
  cases o with
  | lst xs => obtain ⟨_, _, _, _, e⟩ := x; exact ⟨_, e⟩
  | tup xs => obtain ⟨_, _, _, o, e, _⟩ := x; exact ⟨_, e⟩
  | dK kvs => obtain ⟨_, _, _, _, o, _, _, e, _⟩ := x; exact ⟨_, e⟩
  | dT kvs => obtain ⟨_, _, _, _, o, _, _, e, _⟩ := x; exact ⟨_, e⟩
  | set S n => obtain ⟨o, _, _, _, e, _⟩ := x; exact ⟨_, e⟩
  | ins C dx fs => obtain ⟨_, _, _, e, _⟩ := x; exact ⟨_, e⟩
  | own y => obtain ⟨_, e⟩ := x; exact ⟨_, e⟩
  | xd fs => obtain ⟨_, ⟨_, _, _, e, _⟩, _⟩ := x; exact ⟨_, e⟩
  | rng lo hi => obtain ⟨_, _, _, e⟩ := x; exact ⟨_, e⟩
  | frz ob u => obtain ⟨e, _⟩ := x; exact ⟨_, e⟩
  | tbl ps => exact ⟨_, (show h.get? a = some _ from x)⟩
  | met f y => exact ⟨_, (show h.get? a = some _ from x)⟩
  | ext φ => obtain ⟨_, ⟨_, e⟩, _⟩ := x; exact ⟨_, e⟩
structure Cov (outer : List Env) (H' : Hp) (h B : Heap) : Prop where
  tr : ∀ b o, H' b = some o → ∃ u, B.get? b = some u
  old : ∀ b o, h.get? b = some o → b ∉ frs outer → ∃ u, B.get? b = some u
structure FlyX (P : Program) (w : World) (outer : List Env) (H : Hp) (s : Shared) (C : Value) (dx : Option Addr) (H' : Hp) (e : Value) (s' : Shared) : Prop where
  os : s'.os = s.os
  bare : AllBare s'.gens
  un : Un (frs outer) [] H H' s.heap s'.heap
  hok : HOk P w H' s'.heap
  fly : ∃ a B, e = .ref a ∧ Fly B outer a C dx s'.heap ∧ Cov outer H' s.heap B
noncomputable def CXq (P : Program) (w : World) : CXT := fun outer H s E e s' => ∃ C dx H', FlyX P w outer H s C dx H' e s' ∧ E C dx H'
section
variable {P : Program} {w : World} {outer : List Env} {H H' : Hp} {h0 h h' B base : Heap}
theorem turn_un (u : Un (frs outer) [] H H' h0 h) (c : Cov outer H' h0 B) (st : B.StaysIn h) (st' : B.StaysIn h') (sm : h.UpToSlots h') (ff : h0.FunFrames base outer) (frf : ∀ b ∈ frs outer, H b = none) : Un (frs outer) [] H H' h0 h' where
  keep := fun b o q n hb hx => by
    obtain ⟨v, hv⟩ := c.old b o q hb
    have e1 := u.keep b o q n hb hx
    have e2 := st b v hv
    rw [e1] at e2
    cases e2
    exact st' b o hv
  slot := fun b o q n hb hx => by
    obtain ⟨sl, e1⟩ := u.slot b o q n hb hx
    obtain ⟨_, o', ho', hd⟩ := ff.mem hb
    rw [q] at ho'
    cases ho'
    obtain ⟨sl', e2⟩ := sm b _ e1 hd
    exact ⟨sl', e2⟩
  free := u.free
  there := fun b o q hx => by
    by_cases hb : b ∈ frs outer
    · obtain ⟨sl, e1⟩ := u.slot b o q (frf b hb) hb hx
      obtain ⟨_, o', ho', hd⟩ := ff.mem hb
      rw [q] at ho'
      cases ho'
      obtain ⟨sl', e2⟩ := sm b _ e1 hd
      exact ⟨_, e2⟩
    · obtain ⟨v, hv⟩ := c.old b o q hb
      exact ⟨v, st' b v hv⟩
  tups := u.tups
  frzs := u.frzs
  tbls := u.tbls
theorem turn_hok (x : HOk P w H' h) (c : Cov outer H' h0 B) (st : B.StaysIn h) (st' : B.StaysIn h') : HOk P w H' h' := fun a o e => by
  refine (x a o e).stay (fun b u hb q => ?_) (fun _ q => q) fun _ _ q => q
  have hb : ∃ o', H' b = some o' := by
    rcases hb with rfl | hb
    · exact ⟨_, e⟩
    · exact ⟨_, hb⟩
  obtain ⟨o', hb⟩ := hb
  obtain ⟨v, hv⟩ := c.tr b o' hb
  have e2 := st b v hv
  rw [q] at e2
  cases e2
  exact st' b u hv
end
section
variable {X : Cx} {pins : List (Addr × Obj)} {σ : St} {H H' : Hp} {s s' : Shared} {C : Value} {a : Addr} {dx : Option Addr}
theorem Inv.fly {B h' : Heap} (I : Inv X pins σ H s) (F : FlyX X.prog X.w X.stack H s C dx H' (.ref a) s') (c : Cov X.stack H' s.heap B) (st : B.StaysIn s'.heap) (st' : B.StaysIn h') (sm : s'.heap.UpToSlots h') {t' : Nat} {d' : Drawn} :
    Inv X pins σ H' { s' with heap := h', toks := t', drawn := d' } :=
  I.call' F.os (turn_un F.un c st st' sm I.stack I.stkFree) (turn_hok F.hok c st st') F.bare fun b z => absurd z (by simp)
end
noncomputable def wishX (X : Cx) (C : Value) (dx : Option Addr) (H' : Hp) : Prop := ∀ pins σ H s e s', Inv X pins σ H s → FlyX X.prog X.w X.stack H s C dx H' e s' → X.xe e s'
section
variable {P : Program} {w : World} {K : PySem.W.Frag} {mg : Str → Option Value} {base : Heap} {N : List Str} {qual : Str} {scope : Scope} {f : Addr} {cd : Value} {A : Around} {outer : List Env} {s : Shared} {H H' : Hp} {E : XK} {C : Value} {dx : Option Addr}
theorem cov_out {X : Cx} {pins : List (Addr × Obj)} {σ : St} {H1 : Hp} {s1 : Shared} {B : Heap} (I : Inv X pins σ H1 s1) (hs : X.stack = X.env :: X.outer) (hf : X.env.frame = some X.env.locals) (hex : X.ex = []) (c : Cov X.stack H' s1.heap B) : Cov X.outer H' X.s₀.heap B where
  tr := c.tr
  old := fun b o q hb => by
    obtain ⟨o1, e1⟩ := I.base.there b o q (by rw [hex]; simp)
    refine c.old b o1 e1 ?_
    rw [hs]
    unfold frs
    rw [List.filterMap_cons, hf]
    intro hm
    rcases List.mem_cons.mp hm with rfl | hm
    · exact absurd (Nat.lt_of_lt_of_le (Heap.lt_size q) I.ok.above) (Nat.lt_irrefl _)
    · exact hb hm
theorem wish_leave (hE : E C dx H') : wishX (cxOf (CXq P w) P w K mg base N qual scope f cd A outer s H E) C dx H' := by
  intro pins σ H1 s1 e s' I F
  have hf : (envOfC qual scope s.heap.objs.size f cd).frame = some (envOfC qual scope s.heap.objs.size f cd).locals := rfl
  obtain ⟨a, B, rfl, fl, c⟩ := F.fly
  refine leaving_f I.ok.frames hf fl fun h'' fl' sm => ?_
  have J : Inv (cxOf (CXq P w) P w K mg base N qual scope f cd A outer s H E) pins σ H' { s' with heap := h'' } := I.fly F c fl.st fl'.st sm
  exact ⟨C, dx, H', ⟨J.os, J.bare, J.base, J.hok, a, B, rfl, fl', cov_out (X := cxOf (CXq P w) P w K mg base N qual scope f cd A outer s H E) I rfl rfl rfl c⟩, hE⟩
end
end L2
set_option Elab.async false
set_option linter.all false
set_option maxRecDepth 100000
set_option autoImplicit false
namespace M
open PySem PySem.Spec PyProof.Rows L2
inductive D where
  | non | bl (b : Bool) | int (i : Int) | str (x : Str) | ty (n : String)
    | tup (ds : List D)
    | fz (ds : List D)
    | loc (n : Nat)
    | own (c : Str)
inductive LObj where
  | lst (ds : List D)
    | dct (kvs : List (Int × D))
    | dcf (kvs : List (Int × D))
    | exc (c : Str) (fs : List (Str × D))
noncomputable abbrev Mem := List LObj
noncomputable def ExcAt (a C : Addr) (dx : Option Addr) : Heap → Prop := fun h => ∃ o vs, h.get? a = some o ∧ o.cls = .ref C ∧ o.dict = dx ∧ o.data = .fields vs
noncomputable abbrev Loc := List (Option D)
section
variable (K : PySem.W.Frag)
noncomputable def FzL (H : Hp) (a : Addr) (vs : List V) : Prop :=
  (∃ o, H a = some (.frz o (.lst vs))) ∨ ∃ (o : Obj) (its : Array Value) (n : Nat), K.lookup a = some o ∧ o.cls = .type "list" ∧ o.dict = none ∧ o.data = .seq its n ∧ its.size ≤ sizeLine ∧ Vals vs its.toList
mutual
noncomputable def RepV (ρ : List Addr) (H : Hp) : D → V → Prop
  | .non, v => v = .non
  | .bl b, v => v = .bl b
  | .int i, v => v = .int i
  | .str x, v => v = .str x
  | .ty n, v => v = .ty n
  | .tup ds, v => ∃ a vs, v = .ref a ∧ H a = some (.tup vs) ∧ RepVs ρ H ds vs
  | .fz ds, v => ∃ a vs, v = .ref a ∧ FzL K H a vs ∧ RepVs ρ H ds vs
  | .loc n, v => ∃ a, v = .ref a ∧ ρ[n]? = some a
  | .own c, v => ∃ a, v = .ref a ∧ PySem.W.nsIn K mainGlobals c = some (some (.ref a))
noncomputable def RepVs (ρ : List Addr) (H : Hp) : List D → List V → Prop
  | [], vs => vs = []
  | d :: ds, vs => ∃ v r, vs = v :: r ∧ RepV ρ H d v ∧ RepVs ρ H ds r
end
noncomputable def RepX (ρ : List Addr) (H : Hp) (fs : List (Str × D)) (dx : Option Addr) : Prop := (fs = [] ∧ dx = none) ∨ ∃ p vs, dx = some p ∧ H p = some (.xd vs) ∧ vs.map (·.1) = fs.map (·.1) ∧ RepVs K ρ H (fs.map (·.2)) (vs.map (·.2))
noncomputable def RepO (ρ : List Addr) (H : Hp) (a : Addr) : LObj → Prop
  | .lst ds => ∃ vs, H a = some (.lst vs) ∧ RepVs K ρ H ds vs
  | .dct kvs => ∃ vs, H a = some (.dK vs) ∧ vs.map (·.1) = kvs.map (fun p => Sum.inl p.1) ∧ RepVs K ρ H (kvs.map (·.2)) (vs.map (·.2))
  | .dcf kvs => ∃ o vs, H a = some (.frz o (.dK vs)) ∧ vs.map (·.1) = kvs.map (fun p => Sum.inl p.1) ∧ RepVs K ρ H (kvs.map (·.2)) (vs.map (·.2))
  | .exc c fs => ∃ C dx, PySem.W.nsIn K mainGlobals c = some (some (.ref C)) ∧ H a = some (.ext (ExcAt a C dx)) ∧ RepX K ρ H fs dx
structure RepH (ρ : List Addr) (H : Hp) (μ : Mem) : Prop where
  nd : ρ.Nodup
  len : ρ.length = μ.length
  at_ : ∀ (n : Nat) a o, ρ[n]? = some a → μ[n]? = some o → RepO K ρ H a o
structure Ext (ρ : List Addr) (H : Hp) (ρ' : List Addr) (H' : Hp) : Prop where
  pre : ∃ more, ρ' = ρ ++ more
  tup : ∀ a vs, H a = some (.tup vs) → H' a = some (.tup vs)
  frz : ∀ a o u, H a = some (.frz o u) → H' a = some (.frz o u)
  xd : ∀ a fs, H a = some (.xd fs) → H' a = some (.xd fs)
noncomputable def RepSt (ρ : List Addr) (H : Hp) (σ : L2.St) (δ : Loc) : Prop := ∀ (i : Nat) d, δ[i]? = some (some d) → ∃ v, σ[i]? = some (some v) ∧ RepV K ρ H d v
end
section
variable {K : PySem.W.Frag} {ρ ρ' ρ'' : List Addr} {H H' H'' : Hp} {μ : Mem} {σ : L2.St} {δ : Loc}
theorem Ext.refl : Ext ρ H ρ H := ⟨⟨[], by simp⟩, fun _ _ h => h, fun _ _ _ h => h, fun _ _ h => h⟩
theorem Ext.trans (a : Ext ρ H ρ' H') (b : Ext ρ' H' ρ'' H'') : Ext ρ H ρ'' H'' := by
  obtain ⟨m, e⟩ := a.pre
  obtain ⟨m', e'⟩ := b.pre
  exact ⟨⟨m ++ m', by rw [e', e, List.append_assoc]⟩, fun _ _ h => b.tup _ _ (a.tup _ _ h), fun _ _ _ h => b.frz _ _ _ (a.frz _ _ _ h), fun _ _ h => b.xd _ _ (a.xd _ _ h)⟩
theorem Ext.get (e : Ext ρ H ρ' H') {n : Nat} {a : Addr} (h : ρ[n]? = some a) : ρ'[n]? = some a := by
  obtain ⟨m, e⟩ := e.pre
  rw [e, List.getElem?_append_left (List.getElem?_eq_some_iff.mp h).1]
  exact h
theorem Ext.fz (e : Ext ρ H ρ' H') {a : Addr} {vs : List V} (h : FzL K H a vs) : FzL K H' a vs := by
  rcases h with ⟨o, h⟩ | h
  · exact .inl ⟨o, e.frz _ _ _ h⟩
  · exact .inr h
mutual
theorem RepV.ext (e : Ext ρ H ρ' H') : ∀ {d : D} {v : V}, RepV K ρ H d v → RepV K ρ' H' d v
  | .non, _, h => by unfold RepV at h ⊢; exact h
  | .bl _, _, h => by unfold RepV at h ⊢; exact h
  | .int _, _, h => by unfold RepV at h ⊢; exact h
  | .str _, _, h => by unfold RepV at h ⊢; exact h
  | .ty _, _, h => by unfold RepV at h ⊢; exact h
  | .tup ds, _, h => by
    unfold RepV at h ⊢
    obtain ⟨a, vs, e1, e2, r⟩ := h
    exact ⟨a, vs, e1, e.tup _ _ e2, RepVs.ext e r⟩
  | .fz ds, _, h => by
    unfold RepV at h ⊢
    obtain ⟨a, vs, e1, e2, r⟩ := h
    exact ⟨a, vs, e1, e.fz e2, RepVs.ext e r⟩
  | .loc n, _, h => by
    unfold RepV at h ⊢
    obtain ⟨a, e1, e2⟩ := h
    exact ⟨a, e1, e.get e2⟩
  | .own c, _, h => by unfold RepV at h ⊢; exact h
theorem RepVs.ext (e : Ext ρ H ρ' H') : ∀ {ds : List D} {vs : List V}, RepVs K ρ H ds vs → RepVs K ρ' H' ds vs
  | [], _, h => by unfold RepVs at h ⊢; exact h
  | d :: ds, _, h => by
    unfold RepVs at h ⊢
    obtain ⟨v, r, e1, h1, h2⟩ := h
    exact ⟨v, r, e1, RepV.ext e h1, RepVs.ext e h2⟩
end
theorem RepSt.ext (e : Ext ρ H ρ' H') (h : RepSt K ρ H σ δ) : RepSt K ρ' H' σ δ := fun i d q =>
  let ⟨v, e1, r⟩ := h i d q
  ⟨v, e1, r.ext e⟩
theorem RepVs.length : ∀ {ds : List D} {vs : List V}, RepVs K ρ H ds vs → ds.length = vs.length
  | [], _, h => by unfold RepVs at h; subst h; rfl
  | d :: ds, _, h => by
    unfold RepVs at h
    obtain ⟨v, r, e1, _, h2⟩ := h
    subst e1
    have := RepVs.length h2
    simp [this]
theorem RepVs.get : ∀ {ds : List D} {vs : List V} {i : Nat} {d : D}, RepVs K ρ H ds vs → ds[i]? = some d → ∃ v, vs[i]? = some v ∧ RepV K ρ H d v
  | [], _, _, _, _, q => by simp at q
  | d :: ds, _, 0, d', h, q => by
    unfold RepVs at h
    obtain ⟨v, r, e1, h1, _⟩ := h
    subst e1
    simp at q
    subst q
    exact ⟨v, by simp, h1⟩
  | d :: ds, _, i + 1, d', h, q => by
    unfold RepVs at h
    obtain ⟨v, r, e1, _, h2⟩ := h
    subst e1
    obtain ⟨w, e2, h3⟩ := RepVs.get (i := i) h2 (by simpa using q)
    exact ⟨w, by simpa using e2, h3⟩
theorem RepVs.cons {d : D} {v : V} {ds : List D} {vs : List V} (h1 : RepV K ρ H d v) (h2 : RepVs K ρ H ds vs) : RepVs K ρ H (d :: ds) (v :: vs) := by
  unfold RepVs
  exact ⟨v, vs, rfl, h1, h2⟩
theorem RepVs.nil : RepVs K ρ H [] [] := by unfold RepVs; rfl
theorem RepVs.cons_inv {d : D} {ds : List D} {vs : List V} (h : RepVs K ρ H (d :: ds) vs) : ∃ v r, vs = v :: r ∧ RepV K ρ H d v ∧ RepVs K ρ H ds r := by
  unfold RepVs at h
  exact h
theorem RepVs.nil_inv {vs : List V} (h : RepVs K ρ H [] vs) : vs = [] := by unfold RepVs at h; exact h
theorem RepVs.append : ∀ {ds es : List D} {vs us : List V}, RepVs K ρ H ds vs → RepVs K ρ H es us → RepVs K ρ H (ds ++ es) (vs ++ us)
  | [], _, _, _, h, q => by rw [h.nil_inv]; exact q
  | d :: ds, _, _, _, h, q => by
    obtain ⟨v, r, rfl, h1, h2⟩ := h.cons_inv
    exact .cons h1 (RepVs.append h2 q)
theorem RepVs.take : ∀ {ds : List D} {vs : List V} (n : Nat), RepVs K ρ H ds vs → RepVs K ρ H (ds.take n) (vs.take n)
  | [], _, n, h => by rw [h.nil_inv]; simp [RepVs.nil]
  | d :: ds, _, 0, h => by simp [RepVs.nil]
  | d :: ds, _, n + 1, h => by
    obtain ⟨v, r, rfl, h1, h2⟩ := h.cons_inv
    simpa using RepVs.cons h1 (RepVs.take n h2)
theorem RepVs.drop : ∀ {ds : List D} {vs : List V} (n : Nat), RepVs K ρ H ds vs → RepVs K ρ H (ds.drop n) (vs.drop n)
  | [], _, n, h => by rw [h.nil_inv]; simp [RepVs.nil]
  | d :: ds, _, 0, h => by simpa using h
  | d :: ds, _, n + 1, h => by
    obtain ⟨v, r, rfl, h1, h2⟩ := h.cons_inv
    simpa using RepVs.drop n h2
theorem RepVs.set : ∀ {ds : List D} {vs : List V} {d : D} {v : V} (n : Nat), RepV K ρ H d v → RepVs K ρ H ds vs → RepVs K ρ H (ds.set n d) (vs.set n v)
  | [], _, _, _, n, _, h => by rw [h.nil_inv]; simp [RepVs.nil]
  | d :: ds, _, _, _, 0, q, h => by
    obtain ⟨v, r, rfl, h1, h2⟩ := h.cons_inv
    simpa using RepVs.cons q h2
  | d :: ds, _, _, _, n + 1, q, h => by
    obtain ⟨v, r, rfl, h1, h2⟩ := h.cons_inv
    simpa using RepVs.cons h1 (RepVs.set n q h2)
theorem RepV.int_inv {i : Int} {v : V} (h : RepV K ρ H (.int i) v) : v = .int i := by unfold RepV at h; exact h
theorem RepV.bl_inv {i : Bool} {v : V} (h : RepV K ρ H (.bl i) v) : v = .bl i := by unfold RepV at h; exact h
theorem RepV.non_inv {v : V} (h : RepV K ρ H .non v) : v = .non := by unfold RepV at h; exact h
theorem RepV.str_inv {x : Str} {v : V} (h : RepV K ρ H (.str x) v) : v = .str x := by unfold RepV at h; exact h
theorem RepV.ty_inv {x : String} {v : V} (h : RepV K ρ H (.ty x) v) : v = .ty x := by unfold RepV at h; exact h
theorem RepV.tup_inv {ds : List D} {v : V} (h : RepV K ρ H (.tup ds) v) : ∃ a vs, v = .ref a ∧ H a = some (.tup vs) ∧ RepVs K ρ H ds vs := by unfold RepV at h; exact h
theorem RepV.fz_inv {ds : List D} {v : V} (h : RepV K ρ H (.fz ds) v) : ∃ a vs, v = .ref a ∧ FzL K H a vs ∧ RepVs K ρ H ds vs := by unfold RepV at h; exact h
theorem RepV.loc_inv {n : Nat} {v : V} (h : RepV K ρ H (.loc n) v) : ∃ a, v = .ref a ∧ ρ[n]? = some a := by unfold RepV at h; exact h
theorem RepV.own_inv {c : Str} {v : V} (h : RepV K ρ H (.own c) v) : ∃ a, v = .ref a ∧ PySem.W.nsIn K mainGlobals c = some (some (.ref a)) := by unfold RepV at h; exact h
theorem RepV.own {c : Str} {a : Addr} (h : PySem.W.nsIn K mainGlobals c = some (some (.ref a))) : RepV K ρ H (.own c) (.ref a) := by unfold RepV; exact ⟨a, rfl, h⟩
theorem RepV.int {i : Int} : RepV K ρ H (.int i) (.int i) := by unfold RepV; rfl
theorem RepV.bl {i : Bool} : RepV K ρ H (.bl i) (.bl i) := by unfold RepV; rfl
theorem RepV.non : RepV K ρ H .non .non := by unfold RepV; rfl
theorem RepV.str {x : Str} : RepV K ρ H (.str x) (.str x) := by unfold RepV; rfl
theorem RepV.ty {x : String} : RepV K ρ H (.ty x) (.ty x) := by unfold RepV; rfl
theorem RepV.tup {ds : List D} {a : Addr} {vs : List V} (e : H a = some (.tup vs)) (h : RepVs K ρ H ds vs) : RepV K ρ H (.tup ds) (.ref a) := by unfold RepV; exact ⟨a, vs, rfl, e, h⟩
theorem RepV.fz {ds : List D} {a : Addr} {vs : List V} (e : FzL K H a vs) (h : RepVs K ρ H ds vs) : RepV K ρ H (.fz ds) (.ref a) := by unfold RepV; exact ⟨a, vs, rfl, e, h⟩
theorem RepV.loc {n : Nat} {a : Addr} (e : ρ[n]? = some a) : RepV K ρ H (.loc n) (.ref a) := by unfold RepV; exact ⟨a, rfl, e⟩
theorem FzL.sq {a : Addr} {vs : List V} (h : FzL K H a vs) : SqL K H a vs := by
  rcases h with h | h
  · exact .inl (.inr h)
  · exact .inr h
theorem RepO.some {a : Addr} {o : LObj} (h : RepO K ρ H a o) : ∃ u, H a = some u := by
  cases o with
  | lst ds => obtain ⟨vs, e, _⟩ := h; exact ⟨_, e⟩
  | dct kvs => obtain ⟨vs, e, _⟩ := h; exact ⟨_, e⟩
  | dcf kvs => obtain ⟨o, vs, e, _⟩ := h; exact ⟨_, e⟩
  | exc c fs => obtain ⟨C, dx, _, e, _⟩ := h; exact ⟨_, e⟩
theorem RepH.mem_some (R : RepH K ρ H μ) {a : Addr} (h : a ∈ ρ) : ∃ u, H a = some u := by
  obtain ⟨n, h1, e⟩ := List.mem_iff_getElem.mp h
  have h2 : n < μ.length := by rw [← R.len]; exact h1
  exact (R.at_ n a μ[n] (by rw [List.getElem?_eq_getElem h1, e]) (by simp [h2])).some
theorem RepX.ext {fs : List (Str × D)} {dx : Option Addr} (e : Ext ρ H ρ' H') (h : RepX K ρ H fs dx) : RepX K ρ' H' fs dx := by
  rcases h with h | ⟨p, vs, e1, e2, e3, r⟩
  · exact .inl h
  · exact .inr ⟨p, vs, e1, e.xd _ _ e2, e3, r.ext e⟩
theorem RepO.ext {a : Addr} {o : LObj} (e : Ext ρ H ρ' H') (h : RepO K ρ H a o) (s : H' a = H a) : RepO K ρ' H' a o := by
  cases o with
  | lst ds => obtain ⟨vs, q, r⟩ := h; exact ⟨vs, s.trans q, r.ext e⟩
  | dct kvs => obtain ⟨vs, q, q2, r⟩ := h; exact ⟨vs, s.trans q, q2, r.ext e⟩
  | dcf kvs => obtain ⟨o, vs, q, q2, r⟩ := h; exact ⟨o, vs, s.trans q, q2, r.ext e⟩
  | exc c fs => obtain ⟨C, dx, n, q, r⟩ := h; exact ⟨C, dx, n, s.trans q, r.ext e⟩
theorem Ext.new {p : Addr} {o : HO} (hp : H p = none) : Ext ρ H ρ (upd H p o) :=
  ⟨⟨[], by simp⟩, fun a vs e => by rw [upd_ne (ne_of_none e hp)]; exact e, fun a o u e => by rw [upd_ne (ne_of_none e hp)]; exact e, fun a fs e => by rw [upd_ne (ne_of_none e hp)]; exact e⟩
theorem RepH.other (R : RepH K ρ H μ) (e : Ext ρ H ρ H') (s : ∀ a ∈ ρ, H' a = H a) : RepH K ρ H' μ :=
  ⟨R.nd, R.len, fun n a o h1 h2 => (R.at_ n a o h1 h2).ext e (s a (List.mem_of_getElem? h1))⟩
theorem RepH.newTup (R : RepH K ρ H μ) {p : Addr} {o : HO} (hp : H p = none) : RepH K ρ (upd H p o) μ :=
  R.other (Ext.new hp) fun a ha => by
    obtain ⟨u, e⟩ := R.mem_some ha
    exact upd_ne (ne_of_none e hp)
theorem Ext.push {p : Addr} {o : HO} (hp : H p = none) : Ext ρ H (ρ ++ [p]) (upd H p o) :=
  ⟨⟨[p], rfl⟩, (Ext.new (ρ := ρ) hp).tup, (Ext.new (ρ := ρ) hp).frz, (Ext.new (ρ := ρ) hp).xd⟩
theorem RepH.push (R : RepH K ρ H μ) {p : Addr} {o : HO} {lo : LObj} (hp : H p = none) (h : RepO K (ρ ++ [p]) (upd H p o) p lo) : RepH K (ρ ++ [p]) (upd H p o) (μ ++ [lo]) := by
  refine ⟨?_, by simp [R.len], fun n a u h1 h2 => ?_⟩
  · rw [List.nodup_append]
    refine ⟨R.nd, by simp, fun a ha b hb => ?_⟩
    simp at hb
    subst hb
    obtain ⟨u, e⟩ := R.mem_some ha
    exact ne_of_none e hp
  · by_cases hn : n < ρ.length
    · rw [List.getElem?_append_left hn] at h1
      rw [List.getElem?_append_left (by rw [← R.len]; exact hn)] at h2
      have q := R.at_ n a u h1 h2
      obtain ⟨z, e⟩ := q.some
      exact q.ext (Ext.push hp) (upd_ne (ne_of_none e hp))
    · have hl : n < (ρ ++ [p]).length := (List.getElem?_eq_some_iff.mp h1).1
      have e : n = ρ.length := by simp at hl; omega
      subst e
      rw [List.getElem?_append_right (Nat.le_refl _)] at h1
      rw [R.len, List.getElem?_append_right (Nat.le_refl _)] at h2
      simp at h1 h2
      subst h1 h2
      exact h
theorem push_get {p : Addr} (R : RepH K ρ H μ) : (ρ ++ [p])[μ.length]? = some p := by
  rw [← R.len]; simp
theorem Ext.wr {p : Addr} {o : HO} (hm : Mut (H p)) : Ext ρ H ρ (upd H p o) :=
  ⟨⟨[], by simp⟩, fun a vs e => by rw [upd_ne (by rintro rfl; rw [e] at hm; exact hm)]; exact e, fun a o u e => by rw [upd_ne (by rintro rfl; rw [e] at hm; exact hm)]; exact e, fun a fs e => by rw [upd_ne (by rintro rfl; rw [e] at hm; exact hm)]; exact e⟩
theorem RepH.wr (R : RepH K ρ H μ) {n : Nat} {p : Addr} {o : HO} {lo : LObj} (hm : Mut (H p)) (hn : ρ[n]? = some p) (h : RepO K ρ (upd H p o) p lo) : RepH K ρ (upd H p o) (μ.set n lo) := by
  have hlt := (List.getElem?_eq_some_iff.mp hn).1
  refine ⟨R.nd, by simp [R.len], fun m a u h1 h2 => ?_⟩
  by_cases hmn : m = n
  · subst hmn
    rw [hn] at h1
    cases h1
    rw [List.getElem?_set_self (by rw [← R.len]; exact hlt)] at h2
    cases h2
    exact h
  · rw [List.getElem?_set_ne (Ne.symm hmn)] at h2
    have hap : a ≠ p := by
      rintro rfl
      obtain ⟨x1, y1⟩ := List.getElem?_eq_some_iff.mp h1
      obtain ⟨x2, y2⟩ := List.getElem?_eq_some_iff.mp hn
      exact hmn ((List.getElem_inj R.nd).mp (y1.trans y2.symm))
    exact (R.at_ m a u h1 h2).ext (Ext.wr hm) (upd_ne hap)
end
noncomputable abbrev FE := Loc → Mem → Option (D × Mem)
noncomputable abbrev FT := Loc → Mem → Option (Bool × Mem)
noncomputable abbrev FA := Loc → Mem → Option (List D × Mem)
inductive Out where
  | next (δ : Loc) (μ : Mem) | ret (d : D) (μ : Mem) | brk (δ : Loc) (μ : Mem) | cont (δ : Loc) (μ : Mem)
    | exc (c : Str) (fs : List (Str × D)) (μ : Mem)
noncomputable abbrev FS := Loc → Mem → Option Out
section
variable (K : PySem.W.Frag)
structure At (ρ : List Addr) (H : Hp) (σ : L2.St) (δ : Loc) (μ : Mem) : Prop where
  st : RepSt K ρ H σ δ
  hp : RepH K ρ H μ
  len : σ.length = δ.length
noncomputable def tM (φ : FE) : TE := fun σ H Q => ∃ ρ δ μ d μ', At K ρ H σ δ μ ∧ φ δ μ = some (d, μ') ∧ ∀ ρ' H' v, Ext ρ H ρ' H' → RepH K ρ' H' μ' → RepV K ρ' H' d v → Q v H'
noncomputable def tMT (φ : FT) : TT := fun σ H Q => ∃ ρ δ μ b μ', At K ρ H σ δ μ ∧ φ δ μ = some (b, μ') ∧ ∀ ρ' H', Ext ρ H ρ' H' → RepH K ρ' H' μ' → Q b H'
noncomputable def tMA (φ : FA) : TA := fun σ H Q => ∃ ρ δ μ ds μ', At K ρ H σ δ μ ∧ φ δ μ = some (ds, μ') ∧ ∀ ρ' H' vs, Ext ρ H ρ' H' → RepH K ρ' H' μ' → RepVs K ρ' H' ds vs → Q vs H'
noncomputable def OutOk (W : XK) (ρ : List Addr) (H : Hp) (E : Ends) : Out → Prop
  | .next δ' μ' => ∀ ρ' σ' H', Ext ρ H ρ' H' → At K ρ' H' σ' δ' μ' → E.nx σ' H'
  | .brk δ' μ' => ∀ ρ' σ' H', Ext ρ H ρ' H' → At K ρ' H' σ' δ' μ' → E.bk σ' H'
  | .cont δ' μ' => ∀ ρ' σ' H', Ext ρ H ρ' H' → At K ρ' H' σ' δ' μ' → E.ct σ' H'
  | .ret d μ' => ∀ ρ' v H', Ext ρ H ρ' H' → RepH K ρ' H' μ' → RepV K ρ' H' d v → E.rt v H'
  | .exc c fs μ' => ∀ ρ' H' C dx, PySem.W.nsIn K mainGlobals c = some (some (.ref C)) → Ext ρ H ρ' H' → RepH K ρ' H' μ' → RepX K ρ' H' fs dx → W (.ref C) dx H'
noncomputable def tMS (W : XK) (ψ : FS) : TS := fun E σ H => ∃ ρ δ μ o, At K ρ H σ δ μ ∧ ψ δ μ = some o ∧ OutOk K W ρ H E o
end
noncomputable def ME (X : Cx) (e : Expr) (φ : FE) : Prop := PE X e (tM X.K φ)
noncomputable def MT (X : Cx) (e : Expr) (φ : FT) : Prop := PT X e (tMT X.K φ)
noncomputable def MW (X : Cx) (e : Expr) (φ : FT) : Prop := PW X e (tMT X.K φ)
noncomputable def MA (X : Cx) (es : List Expr) (φ : FA) : Prop := PA X es (tMA X.K φ)
noncomputable def MS (X : Cx) (st : Stmt) (ψ : FS) : Prop := PS X st (tMS X.K (wishX X) ψ)
noncomputable def MSs (X : Cx) (st : List Stmt) (ψ : FS) : Prop := PSs X st (tMS X.K (wishX X) ψ)
noncomputable abbrev FF := List D → Mem → Option (D × Mem)
noncomputable def spM (K : PySem.W.Frag) (n : Nat) (F : FF) : Sp := fun vs H Q _ => vs.length = n ∧ ∃ ρ ds μ d μ', RepVs K ρ H ds vs ∧ RepH K ρ H μ ∧ F ds μ = some (d, μ') ∧ ∀ ρ' H' v, Ext ρ H ρ' H' → RepH K ρ' H' μ' → RepV K ρ' H' d v → Q v H'
theorem At.ext {K : PySem.W.Frag} {ρ ρ' : List Addr} {H H' : Hp} {σ : L2.St} {δ : Loc} {μ μ' : Mem} (a : At K ρ H σ δ μ) (e : Ext ρ H ρ' H') (R : RepH K ρ' H' μ') : At K ρ' H' σ δ μ' := ⟨a.st.ext e, R, a.len⟩
theorem me_of {X : Cx} {e : Expr} {t : TE} {φ : FE} (h : PE X e t) (w : ∀ ρ δ μ σ H d μ' Q, At X.K ρ H σ δ μ → φ δ μ = some (d, μ') → (∀ ρ' H' v, Ext ρ H ρ' H' → RepH X.K ρ' H' μ' → RepV X.K ρ' H' d v → Q v H') → t σ H Q) : ME X e φ :=
  by intro pins s σ H Q I hh; obtain ⟨ρ, δ, μ, d, μ', a, e, k⟩ := hh; exact h pins s σ H Q I (w ρ δ μ σ H d μ' Q a e k)
theorem mt_of {X : Cx} {e : Expr} {t : TT} {φ : FT} (h : PT X e t) (w : ∀ ρ δ μ σ H b μ' Q, At X.K ρ H σ δ μ → φ δ μ = some (b, μ') → (∀ ρ' H', Ext ρ H ρ' H' → RepH X.K ρ' H' μ' → Q b H') → t σ H Q) : MT X e φ :=
  by intro pins s σ H Q I hh; obtain ⟨ρ, δ, μ, d, μ', a, e, k⟩ := hh; exact h pins s σ H Q I (w ρ δ μ σ H d μ' Q a e k)
theorem mw_of {X : Cx} {e : Expr} {t : TT} {φ : FT} (h : PW X e t) (w : ∀ ρ δ μ σ H b μ' Q, At X.K ρ H σ δ μ → φ δ μ = some (b, μ') → (∀ ρ' H', Ext ρ H ρ' H' → RepH X.K ρ' H' μ' → Q b H') → t σ H Q) : MW X e φ :=
  fun wh pins s σ H Q I ⟨ρ, δ, μ, d, μ', a, e, k⟩ => h wh pins s σ H Q I (w ρ δ μ σ H d μ' Q a e k)
theorem ma_of {X : Cx} {e : List Expr} {t : TA} {φ : FA} (h : PA X e t) (w : ∀ ρ δ μ σ H ds μ' Q, At X.K ρ H σ δ μ → φ δ μ = some (ds, μ') → (∀ ρ' H' vs, Ext ρ H ρ' H' → RepH X.K ρ' H' μ' → RepVs X.K ρ' H' ds vs → Q vs H') → t σ H Q) : MA X e φ :=
  fun pos pins s σ H Q I ⟨ρ, δ, μ, d, μ', a, e, k⟩ => h pos pins s σ H Q I (w ρ δ μ σ H d μ' Q a e k)
theorem ms_of {X : Cx} {e : Stmt} {t : TS} {ψ : FS} (h : PS X e t) (w : ∀ ρ δ μ σ H o E, At X.K ρ H σ δ μ → ψ δ μ = some o → OutOk X.K (wishX X) ρ H E o → t E σ H) : MS X e ψ :=
  by intro pins s σ H E I hh; obtain ⟨ρ, δ, μ, o, a, e, k⟩ := hh; exact h pins s σ H E I (w ρ δ μ σ H o E a e k)
theorem mss_of {X : Cx} {e : List Stmt} {t : TS} {ψ : FS} (h : PSs X e t) (w : ∀ ρ δ μ σ H o E, At X.K ρ H σ δ μ → ψ δ μ = some o → OutOk X.K (wishX X) ρ H E o → t E σ H) : MSs X e ψ :=
  by intro pins s σ H E I hh; obtain ⟨ρ, δ, μ, o, a, e, k⟩ := hh; exact h pins s σ H E I (w ρ δ μ σ H o E a e k)
end M
set_option Elab.async false
set_option linter.all false
set_option maxRecDepth 100000
set_option autoImplicit false
namespace M
open PySem PySem.Spec PyProof.Rows L2
theorem bind_inv {α β : Type} {o : Option α} {f : α → Option β} {b : β} (h : o.bind f = some b) : ∃ a, o = some a ∧ f a = some b := by
  cases o with
  | none => cases h
  | some a => exact ⟨a, rfl, h⟩
section
variable {X : Cx} {a b c e : Expr} {es : List Expr} {φ ψ χ : FE} {pos : Pos}
@[simp] noncomputable def fVar (i : Nat) : FE := fun δ μ => match δ[i]? with
  | some (some d) => some (d, μ)
  | _ => none
@[simp] noncomputable def fC (d : D) : FE := fun _ μ => some (d, μ)
theorem me_var {i : Nat} {x : Str} (h : PE X (.Name x pos) (tVar i)) : ME X (.Name x pos) (fVar i) :=
  me_of h fun ρ δ μ σ H d μ' Q A e k => by
    unfold fVar at e
    split at e
    · rename_i d' hd
      cases e
      obtain ⟨v, hv, r⟩ := A.st i _ hd
      exact ⟨v, hv, k ρ H v Ext.refl A.hp r⟩
    · cases e
theorem me_c {v : V} {d : D} (h : PE X e (tC v)) (r : ∀ ρ H, RepV X.K ρ H d v) : ME X e (fC d) :=
  me_of h fun ρ δ μ σ H d' μ' Q A e k => by
    cases e
    exact k ρ H v Ext.refl A.hp (r ρ H)
theorem me_int {i j} : ME X (.Constant (.int i) j pos) (fC (.int i)) := me_c pe_int fun _ _ => .int
theorem me_bl {i j} : ME X (.Constant (.bool i) j pos) (fC (.bl i)) := me_c pe_bl fun _ _ => .bl
theorem me_non {j} : ME X (.Constant .none j pos) (fC .non) := me_c pe_non fun _ _ => .non
theorem me_str {x j} : ME X (.Constant (.str x) j pos) (fC (.str x)) := me_c pe_str fun _ _ => .str
theorem mv (i : Nat) {x : Str} (hN : X.N[i]? = some x := by rfl) (hv : Vis X.env.scope x := by first | exact Or.inl rfl | exact Or.inr (Or.inl rfl) | exact Or.inr (Or.inr rfl)) (hd : (x == ("__debug__" : Str)) = false := by decide)
    (hcd : (x == ("__classdict__" : Str)) = false := by decide) : ME X (.Name x pos) (fVar i) := me_var (pe_var hN hv hd hcd)
theorem me_gty {x : Str} {T : String} (hm : X.mg x = none) (hb : bootBuiltins x = some (.type T)) (hg : Gl X x := by rfl) (hn : x ≠ "__name__" := by decide) (hd : (x == ("__debug__" : Str)) = false := by decide) : ME X (.Name x pos) (fC (.ty T)) :=
  me_c (pe_bltn (v := V.ty T) hg hm hb (show L2.RelV (V.ty T) (Value.type T) from rfl) hn hd) fun _ _ => .ty
noncomputable abbrev G2 := D → D → Mem → Option (D × Mem)
noncomputable def rM (K : PySem.W.Frag) (g : G2) : R2 := fun x y H Q => ∃ ρ dx dy μ d μ', RepV K ρ H dx x ∧ RepV K ρ H dy y ∧ RepH K ρ H μ ∧ g dx dy μ = some (d, μ') ∧ ∀ ρ' H' v, Ext ρ H ρ' H' → RepH K ρ' H' μ' → RepV K ρ' H' d v → Q v H'
noncomputable def OpM (X : Cx) (f : Value → Value → Sem Value) (g : G2) : Prop := OpR X f (rM X.K g)
theorem OpM.of {X : Cx} {f : Value → Value → Sem Value} {g : G2} (h : ∀ (pins : List (Addr × Obj)) (s : Shared) (σ : L2.St) (H : Hp) (x y : V) (v u : Value) (Q : VK), Inv X pins σ H s → RelV x v → RelV y u → ∀ (ρ : List Addr) (dx dy : D) (μ : Mem) (d : D) (μ' : Mem), RepV X.K ρ H dx x → RepV X.K ρ H dy y → RepH X.K ρ H μ → g dx dy μ = some (d, μ') → (∀ ρ' H' v, Ext ρ H ρ' H' → RepH X.K ρ' H' μ' → RepV X.K ρ' H' d v → Q v H') → wpAny (model X.prog X.w) X.A (f v u) (EP X pins σ Q) X.xe s) : OpM X f g := by
  intro pins s σ H x y v u Q I rx ry hh
  obtain ⟨ρ, dx, dy, μ, d, μ', r1, r2, R, e, k⟩ := hh
  exact h pins s σ H x y v u Q I rx ry ρ dx dy μ d μ' r1 r2 R e k
@[simp] noncomputable def fBin (g : G2) (φ ψ : FE) : FE := fun δ μ => (φ δ μ).bind fun p => (ψ δ p.2).bind fun q => g p.1 q.1 q.2
theorem bin_w {g : G2} {ρ : List Addr} {δ : Loc} {μ : Mem} {σ : L2.St} {H : Hp} {d : D} {μ' : Mem} {Q : VK} (A : At X.K ρ H σ δ μ) (e : fBin g φ ψ δ μ = some (d, μ'))
    (k : ∀ ρ' H' v, Ext ρ H ρ' H' → RepH X.K ρ' H' μ' → RepV X.K ρ' H' d v → Q v H') : tOp (rM X.K g) (tM X.K φ) (tM X.K ψ) σ H Q := by
  obtain ⟨⟨x, μ1⟩, e1, e⟩ := bind_inv e
  obtain ⟨⟨y, μ2⟩, e2, e⟩ := bind_inv e
  refine ⟨ρ, δ, μ, x, μ1, A, e1, fun ρ1 H1 v x1 R1 r1 => ?_⟩
  refine ⟨ρ1, δ, μ1, y, μ2, A.ext x1 R1, e2, fun ρ2 H2 u x2 R2 r2 => ?_⟩
  exact ⟨ρ2, x, y, μ2, d, μ', r1.ext x2, r2, R2, e, fun ρ3 H3 w x3 R3 r3 => k ρ3 H3 w (x1.trans (x2.trans x3)) R3 r3⟩
theorem me_op {op : Operator} {g : G2} (ho : OpM X (binaryOp op) g) (ha : ME X a φ) (hb : ME X b ψ) : ME X (.BinOp a op b pos) (fBin g φ ψ) :=
  me_of (pe_op ho ha hb) fun _ _ _ _ _ _ _ _ A e k => bin_w A e k
theorem me_cmp {op : CmpOp} {g : G2} (ho : OpM X (compareOp op) g) (ha : ME X a φ) (hb : ME X b ψ) (hm : behindInMarks op b = false := by first | exact nobehind _ (by decide) (by decide) | rfl | with_unfolding_all rfl) : ME X (.Compare a [op] [b] pos) (fBin g φ ψ) :=
  me_of (pe_cmpR ho ha hb hm) fun _ _ _ _ _ _ _ _ A e k => bin_w A e k
@[simp] noncomputable def fTest (φ : FE) : FT := fun δ μ => (φ δ μ).bind fun p => match p.1 with
  | .bl b => some (b, p.2)
  | _ => none
theorem test_inv {δ : Loc} {μ μ' : Mem} {b : Bool} (h : fTest φ δ μ = some (b, μ')) : φ δ μ = some (.bl b, μ') := by
  obtain ⟨⟨x, μ1⟩, e1, e⟩ := bind_inv h
  dsimp only at e
  split at e
  · cases e
    exact e1
  · cases e
theorem mt_cmp {op : CmpOp} {g : G2} (ho : OpM X (compareOp op) g) (ha : ME X a φ) (hb : ME X b ψ) (hm : behindInMarks op b = false := by first | exact nobehind _ (by decide) (by decide) | rfl | with_unfolding_all rfl) : MT X (.Compare a [op] [b] pos) (fTest (fBin g φ ψ)) :=
  mt_of (pt_cmpR ho ha hb hm) fun ρ δ μ σ H b μ' Q A e k => bin_w (Q := fun x H' => ∃ k, x = .bl k ∧ Q k H') A (test_inv e) fun ρ' H' v x R r => ⟨b, r.bl_inv, k ρ' H' x R⟩
@[simp] noncomputable def gAdd : G2 := fun x y μ => match x, y with
  | .int i, .int j => some (.int (i + j), μ)
  | .tup as, .tup bs => bif decide (as.length + bs.length ≤ 1000000) then some (.tup (as ++ bs), μ) else none
  | .loc l, .loc m => match μ[l]?, μ[m]? with
    | some (.lst as), some (.lst bs) => bif decide (as.length + bs.length ≤ 1000000) then some (.loc μ.length, μ ++ [.lst (as ++ bs)]) else none
    | _, _ => none
  | _, _ => none
@[simp] noncomputable def gSub : G2 := fun x y μ => match x, y with
  | .int i, .int j => some (.int (i - j), μ)
  | _, _ => none
noncomputable def mulOk (i j : Int) : Bool := decide (-(2 ^ 64) < i ∧ i < 2 ^ 64) || decide (-(2 ^ 64) < j ∧ j < 2 ^ 64) || (decide (i.natAbs < 2 ^ 1000) && decide (j.natAbs < 2 ^ 1000))
theorem mulOk_ok {i j : Int} (h : mulOk i j = true) : IntMulOk i j := by
  unfold mulOk at h
  rw [Bool.or_eq_true, Bool.or_eq_true, Bool.and_eq_true] at h
  rcases h with (h | h) | ⟨h1, h2⟩
  · have h := of_decide_eq_true h
    exact .of_left (intBits_le_64 h.1 h.2)
  · have h := of_decide_eq_true h
    exact .of_right (intBits_le_64 h.1 h.2)
  · exact .of_le (m := 1000) (n := 1000) (intBits_le (of_decide_eq_true h1)) (intBits_le (of_decide_eq_true h2)) (by decide)
noncomputable def gMul : G2 := fun x y μ => match x, y with
  | .int i, .int j => bif mulOk i j then some (.int (i * j), μ) else none
  | .tup ds, .int n => bif decide (2 ≤ n ∧ n ≤ 1000 ∧ 0 < ds.length ∧ ds.length ≤ 1000) then some (.tup (List.replicate n.toNat ds).flatten, μ) else none
  | .loc l, .int n => match μ[l]? with
    | some (.lst ds) => bif decide (n ≤ 1000 ∧ -(2 ^ 62) ≤ n ∧ ds.length ≤ 1000) then some (.loc μ.length, μ ++ [.lst (List.replicate n.toNat ds).flatten]) else none
    | _ => none
  | _, _ => none
@[simp] noncomputable def gMod : G2 := fun x y μ => match x, y with
  | .int i, .int j => bif decide (0 < j) then some (.int (i % j), μ) else none
  | _, _ => none
@[simp] noncomputable def gDiv : G2 := fun x y μ => match x, y with
  | .int i, .int j => bif decide (0 < j ∧ j < 1606938044258990275541962092341162602522202993782792835301376) then some (.int (i / j), μ) else none
  | _, _ => none
noncomputable def gPow : G2 := fun x y μ => match x, y with
  | .int i, .int j => bif decide (0 ≤ j ∧ j ≤ 100000 ∧ i.natAbs < 1606938044258990275541962092341162602522202993782792835301376) then some (.int (i ^ j.toNat), μ) else none
  | _, _ => none
theorem bif_inv {α : Type} {c : Bool} {o : Option α} {x : α} (h : (bif c then o else none) = some x) : c = true ∧ o = some x := by
  cases c with
  | true => exact ⟨rfl, h⟩
  | false => cases h
theorem opM_int {f : Value → Value → Sem Value} {g : G2} {C : Int → Int → Prop} {h : Int → Int → Int} (o : OpR X f (rI C fun i j => .int (h i j)))
    (w : ∀ x y μ d μ', g x y μ = some (d, μ') → ∃ i j, x = .int i ∧ y = .int j ∧ C i j ∧ d = .int (h i j) ∧ μ' = μ) : OpM X f g := by
  refine OpM.of fun pins s σ H x y v u Q I rx ry ρ dx dy μ d μ' r1 r2 R e k => ?_
  obtain ⟨i, j, rfl, rfl, hc, rfl, rfl⟩ := w _ _ _ _ _ e
  refine o pins s σ H x y v u Q I rx ry ⟨i, j, r1.int_inv, r2.int_inv, hc, ?_⟩
  exact k ρ H _ Ext.refl R .int
theorem opM_sub : OpM X (binaryOp .Sub) gSub := opM_int (C := fun _ _ => True) (h := fun i j => i - j) (opI fun _ _ _ _ _ _ _ _ q => sub_int q) fun x y μ d μ' e => by
  unfold gSub at e
  split at e
  · cases e; exact ⟨_, _, rfl, rfl, trivial, rfl, rfl⟩
  · cases e
theorem opM_mod : OpM X (binaryOp .Mod) gMod := opM_int (h := fun i j => i % j) op_mod fun x y μ d μ' e => by
  unfold gMod at e
  split at e
  · obtain ⟨h1, e⟩ := bif_inv e
    cases e; have h2 := of_decide_eq_true h1; exact ⟨_, _, rfl, rfl, h2, rfl, rfl⟩
  · cases e
noncomputable def CDivB (i j : Int) : Prop := 0 < j ∧ j < 1606938044258990275541962092341162602522202993782792835301376
theorem op_fdivB : OpR X (binaryOp .FloorDiv) (rI CDivB fun i j => .int (i / j)) := opI fun i j _ _ _ _ _ hc q => by
  have h1 : (0 : Int) < j := hc.1
  have h2 : j < 1606938044258990275541962092341162602522202993782792835301376 := hc.2
  refine floordiv_int (by omega) (by rw [Int.fdiv_eq_ediv_of_nonneg i (by omega)]; exact q) (.inl (PyProof.noPylong_of_log2 ?_))
  have : j.natAbs.log2 < 200 := (Nat.log2_lt (by omega)).mpr (by rw [show 2 ^ 200 = 1606938044258990275541962092341162602522202993782792835301376 from rfl]; omega)
  omega
theorem opM_div : OpM X (binaryOp .FloorDiv) gDiv := opM_int (C := CDivB) (h := fun i j => i / j) op_fdivB fun x y μ d μ' e => by
  unfold gDiv at e
  split at e
  · obtain ⟨h1, e⟩ := bif_inv e
    cases e; have h2 := of_decide_eq_true h1; exact ⟨_, _, rfl, rfl, h2, rfl, rfl⟩
  · cases e
noncomputable def CPowB (i j : Int) : Prop := 0 ≤ j ∧ j ≤ 100000 ∧ i.natAbs < 1606938044258990275541962092341162602522202993782792835301376
theorem op_powB : OpR X (binaryOp .Pow) (rI CPowB fun i j => .int (i ^ j.toNat)) := opI fun i j _ _ _ _ _ hc q => by
  refine pow_int hc.1 ?_ q
  have hb : Builtin.Int.intBits i ≤ 200 := intBits_le (by rw [show 2 ^ 200 = 1606938044258990275541962092341162602522202993782792835301376 from rfl]; exact hc.2.2)
  have h2 := hc.2.1
  have h1 := hc.1
  calc (Builtin.Int.intBits i : Int) * j ≤ 200 * 100000 := Int.mul_le_mul (by omega) h2 h1 (by omega)
    _ ≤ 2 ^ 27 := by decide
theorem opM_pow : OpM X (binaryOp .Pow) gPow := opM_int (C := CPowB) (h := fun i j => i ^ j.toNat) op_powB fun x y μ d μ' e => by
  unfold gPow at e
  split at e
  · obtain ⟨h1, e⟩ := bif_inv e
    cases e; have h2 := of_decide_eq_true h1; exact ⟨_, _, rfl, rfl, h2, rfl, rfl⟩
  · cases e
@[simp] noncomputable def gCmp (p : Int → Int → Bool) : G2 := fun x y μ => match x, y with
  | .int i, .int j => some (.bl (p i j), μ)
  | _, _ => none
theorem opM_cmp {f : Value → Value → Sem Value} {p : Int → Int → Bool} (o : OpR X f (rI0 fun i j => .bl (p i j))) : OpM X f (gCmp p) := by
  refine OpM.of fun pins s σ H x y v u Q I rx ry ρ dx dy μ d μ' r1 r2 R e k => ?_
  unfold gCmp at e
  split at e
  · cases e
    exact o pins s σ H x y v u Q I rx ry ⟨_, _, r1.int_inv, r2.int_inv, k ρ H _ Ext.refl R .bl⟩
  · cases e
theorem opM_lt : OpM X (compareOp .Lt) (gCmp fun i j => decide (i < j)) := opM_cmp op_lt
theorem opM_gt : OpM X (compareOp .Gt) (gCmp fun i j => decide (j < i)) := opM_cmp op_gt
theorem opM_ge : OpM X (compareOp .GtE) (gCmp fun i j => decide (j ≤ i)) := opM_cmp op_ge
@[simp] noncomputable def fAnd (φ ψ : FE) : FE := fun δ μ => (φ δ μ).bind fun p => match p.1 with
  | .bl true => ψ δ p.2
  | .bl false => some (.bl false, p.2)
  | _ => none
@[simp] noncomputable def fOr (φ ψ : FE) : FE := fun δ μ => (φ δ μ).bind fun p => match p.1 with
  | .bl false => ψ δ p.2
  | .bl true => some (.bl true, p.2)
  | _ => none
@[simp] noncomputable def fNot (φ : FE) : FE := fun δ μ => (φ δ μ).bind fun p => match p.1 with
  | .bl b => some (.bl (!b), p.2)
  | _ => none
@[simp] noncomputable def tAndT (φ ψ : FT) : FT := fun δ μ => (φ δ μ).bind fun p => bif p.1 then ψ δ p.2 else some (false, p.2)
@[simp] noncomputable def tOrT (φ ψ : FT) : FT := fun δ μ => (φ δ μ).bind fun p => bif p.1 then some (true, p.2) else ψ δ p.2
@[simp] noncomputable def tNotT (φ : FT) : FT := fun δ μ => (φ δ μ).bind fun p => some (!p.1, p.2)
theorem mt_val {φ : FE} (h : ME X a φ) (he : ∀ whole, isTrue a X.env whole = (do let v ← whole; standAt a.pos; holding [v] (truthy v)) := by intro _; rfl) : MT X a (fTest φ) :=
  mt_of (pt_val h he) fun ρ δ μ σ H b μ' Q A e k => ⟨ρ, δ, μ, .bl b, μ', A, test_inv e, fun ρ' H' v x R r => ⟨b, r.bl_inv, k ρ' H' x R⟩⟩
theorem MW.mt {φ : FT} (h : MW X a φ) : MT X a φ := h _
theorem mw_and1 {φ : FT} (h : MT X a φ) : MW X (.BoolOp .And [a] pos) φ := pw_and1 h
theorem mw_or1 {φ : FT} (h : MT X a φ) : MW X (.BoolOp .Or [a] pos) φ := pw_or1 h
theorem mw_and {φ ψ : FT} {rest : List Expr} (ha : MT X a φ) (hb : MW X (.BoolOp .And (b :: rest) pos) ψ) : MW X (.BoolOp .And (a :: b :: rest) pos) (tAndT φ ψ) :=
  mw_of (pw_and ha hb) fun ρ δ μ σ H b μ' Q A e k => by
    obtain ⟨⟨x, μ1⟩, e1, e⟩ := bind_inv e
    refine ⟨ρ, δ, μ, x, μ1, A, e1, fun ρ1 H1 x1 R1 => ?_⟩
    cases x with
    | true => exact iteT ⟨ρ1, δ, μ1, b, μ', A.ext x1 R1, e, fun ρ2 H2 x2 R2 => k ρ2 H2 (x1.trans x2) R2⟩
    | false =>
      cases e
      exact iteF (k ρ1 H1 x1 R1)
theorem mw_or {φ ψ : FT} {rest : List Expr} (ha : MT X a φ) (hb : MW X (.BoolOp .Or (b :: rest) pos) ψ) : MW X (.BoolOp .Or (a :: b :: rest) pos) (tOrT φ ψ) :=
  mw_of (pw_or ha hb) fun ρ δ μ σ H b μ' Q A e k => by
    obtain ⟨⟨x, μ1⟩, e1, e⟩ := bind_inv e
    refine ⟨ρ, δ, μ, x, μ1, A, e1, fun ρ1 H1 x1 R1 => ?_⟩
    cases x with
    | false => exact iteF ⟨ρ1, δ, μ1, b, μ', A.ext x1 R1, e, fun ρ2 H2 x2 R2 => k ρ2 H2 (x1.trans x2) R2⟩
    | true =>
      cases e
      exact iteT (k ρ1 H1 x1 R1)
theorem mt_not {φ : FT} (ha : MT X a φ) : MT X (.UnaryOp .Not a pos) (tNotT φ) :=
  mt_of (pt_not ha) fun ρ δ μ σ H b μ' Q A e k => by
    obtain ⟨⟨x, μ1⟩, e1, e⟩ := bind_inv e
    cases e
    exact ⟨ρ, δ, μ, x, μ1, A, e1, fun ρ1 H1 x1 R1 => k ρ1 H1 x1 R1⟩
structure MAn (X : Cx) (es : List Expr) (φ : FA) : Prop where
  ma : MA X es φ
  len : ∀ δ μ ds μ', φ δ μ = some (ds, μ') → ds.length = es.length
@[simp] noncomputable def aNil : FA := fun _ μ => some ([], μ)
@[simp] noncomputable def aCons (φ : FE) (ψ : FA) : FA := fun δ μ => (φ δ μ).bind fun p => (ψ δ p.2).bind fun q => some (p.1 :: q.1, q.2)
theorem man_nil : MAn X [] aNil := ⟨ma_of pa_nil fun ρ δ μ σ H ds μ' Q A e k => by
    cases e
    exact k ρ H [] Ext.refl A.hp .nil, fun _ _ _ _ e => by cases e; rfl⟩
noncomputable def noStar : Expr → Bool
  | .Starred .. => false
  | _ => true
theorem star_ok {e : Expr} {es : List Expr} {env : Env} (h : noStar e = true) : starEach (e :: es) env = (false, eval e env) :: starEach es env := by
  cases e <;> first | rfl | cases h
theorem man_cons {φ : FE} {ψ : FA} (ha : ME X e φ) (hr : MAn X es ψ) (hs : starEach (e :: es) X.env = (false, eval e X.env) :: starEach es X.env := by exact star_ok rfl) : MAn X (e :: es) (aCons φ ψ) :=
  ⟨ma_of (pa_cons ha hr.ma hs) fun ρ δ μ σ H ds μ' Q A e k => by
    obtain ⟨⟨x, μ1⟩, e1, e⟩ := bind_inv e
    obtain ⟨⟨y, μ2⟩, e2, e⟩ := bind_inv e
    cases e
    refine ⟨ρ, δ, μ, x, μ1, A, e1, fun ρ1 H1 v x1 R1 r1 => ?_⟩
    refine ⟨ρ1, δ, μ1, y, μ2, A.ext x1 R1, e2, fun ρ2 H2 u x2 R2 r2 => ?_⟩
    exact k ρ2 H2 _ (x1.trans x2) R2 (.cons (r1.ext x2) r2), fun δ μ ds μ' e => by
    obtain ⟨⟨x, μ1⟩, e1, e⟩ := bind_inv e
    obtain ⟨⟨y, μ2⟩, e2, e⟩ := bind_inv e
    cases e
    have := hr.len _ _ _ _ e2
    simp [this]⟩
@[simp] noncomputable def fTup (φ : FA) : FE := fun δ μ => (φ δ μ).bind fun p => some (.tup p.1, p.2)
@[simp] noncomputable def fLst (φ : FA) : FE := fun δ μ => (φ δ μ).bind fun p => some (.loc p.2.length, p.2 ++ [.lst p.1])
theorem me_tup {x1} {φ : FA} (h : MAn X es φ) (hn : es.length ≤ 1000 := by decide) : ME X (.Tuple es x1 pos) (fTup φ) :=
  me_of (pe_tup h.ma) fun ρ δ μ σ H d μ' Q A e k => by
    obtain ⟨⟨x, μ1⟩, e1, e⟩ := bind_inv e
    cases e
    refine ⟨ρ, δ, μ, x, μ1, A, e1, fun ρ1 H1 vs x1 R1 r1 => ⟨?_, fun p hp => ?_⟩⟩
    · rw [← r1.length, h.len _ _ _ _ e1]
      exact Nat.le_of_lt (small1000 hn)
    · exact k ρ1 _ _ (x1.trans (Ext.new hp)) (R1.newTup hp) (.tup upd_same (r1.ext (Ext.new hp)))
theorem me_lst {φ : FA} (h : MAn X es φ) (hn : es.length ≤ 1000 := by decide) : ME X (.List es pos) (fLst φ) :=
  me_of (pe_lst h.ma) fun ρ δ μ σ H d μ' Q A e k => by
    obtain ⟨⟨x, μ1⟩, e1, e⟩ := bind_inv e
    cases e
    refine ⟨ρ, δ, μ, x, μ1, A, e1, fun ρ1 H1 vs x1 R1 r1 => ⟨?_, fun p hp => ?_⟩⟩
    · rw [← r1.length, h.len _ _ _ _ e1]
      exact Nat.le_of_lt (small1000 hn)
    · exact k _ _ _ (x1.trans (Ext.push hp)) (R1.push hp ⟨vs, upd_same, r1.ext (Ext.push hp)⟩) (.loc (push_get R1))
@[simp] noncomputable def fCall (F : FF) (φ : FA) : FE := fun δ μ => (φ δ μ).bind fun p => F p.1 p.2
theorem me_call {k n : Nat} {f : Addr} {fd : FuncData} {ps : List Str} {F : FF} {x : Str} {p : Pos} {φ : FA} (G : FnOk X.prog X.w X.K X.mg X.base CX0 k f fd ps (spM X.K n F)) (hr : Room k X.A) (hm : X.mg x = some (.ref f)) (hk : PySem.W.keepIn X.K (.ref f) = true) (hb : Binds X.K fd ps [])
    (ha : MAn X (e :: es) φ) (hn : (e :: es).length = n := by rfl) (hg : Gl X x := by rfl) (hdb : (x == ("__debug__" : Str)) = false := by decide) (he : starEach (e :: es) X.env = (false, eval e X.env) :: starEach es X.env := by exact star_ok rfl) (hpl : (backTo pos (starEach es X.env)).any (·.1) = false := by rfl) :
    ME X (.Call (.Name x p) (e :: es) [] pos) (fCall F φ) :=
  me_of (pe_call G hr hg hm hk hb .nil pass0 ha.ma hdb he hpl) fun ρ δ μ σ H d μ' Q A e k => by
    obtain ⟨⟨x, μ1⟩, e1, e⟩ := bind_inv e
    refine ⟨ρ, δ, μ, x, μ1, A, e1, fun ρ1 H1 vs x1 R1 r1 => ?_⟩
    show spM X.K n F (vs ++ []) H1 Q E0
    rw [List.append_nil]
    exact ⟨by rw [← r1.length, ha.len _ _ _ _ e1]; exact hn, ρ1, x, μ1, d, μ', r1, R1, e, fun ρ2 H2 v x2 R2 r2 => k ρ2 H2 v (x1.trans x2) R2 r2⟩
noncomputable abbrev GL := List D → Mem → Option (D × Mem)
noncomputable def rCM (K : PySem.W.Frag) (g : GL) : List V → Hp → VK → Prop := fun vs H Q => ∃ ρ ds μ d μ', RepVs K ρ H ds vs ∧ RepH K ρ H μ ∧ g ds μ = some (d, μ') ∧ ∀ ρ' H' v, Ext ρ H ρ' H' → RepH K ρ' H' μ' → RepV K ρ' H' d v → Q v H'
noncomputable def CallM (X : Cx) (f : Value) (g : GL) : Prop := CallR X f (rCM X.K g)
theorem CallM.of {X : Cx} {f : Value} {g : GL} (h : ∀ (pins : List (Addr × Obj)) (s : Shared) (σ : L2.St) (H : Hp) (xs : List V) (us : List Value) (Q : VK), Inv X pins σ H s → Vals xs us → ∀ (ρ : List Addr) (ds : List D) (μ : Mem) (d : D) (μ' : Mem), RepVs X.K ρ H ds xs → RepH X.K ρ H μ → g ds μ = some (d, μ') → (∀ ρ' H' v, Ext ρ H ρ' H' → RepH X.K ρ' H' μ' → RepV X.K ρ' H' d v → Q v H') → wpAny (model X.prog X.w) X.A (call f us) (EP X pins σ Q) X.xe s) : CallM X f g := by
  intro pins s σ H xs us Q I r hh
  obtain ⟨ρ, ds, μ, d, μ', r1, R, e, k⟩ := hh
  exact h pins s σ H xs us Q I r ρ ds μ d μ' r1 R e k
theorem cb_w {g : GL} {φ : FA} {ρ : List Addr} {δ : Loc} {μ : Mem} {σ : L2.St} {H : Hp} {d : D} {μ' : Mem} {Q : VK} (A : At X.K ρ H σ δ μ) (e : fCall g φ δ μ = some (d, μ'))
    (k : ∀ ρ' H' v, Ext ρ H ρ' H' → RepH X.K ρ' H' μ' → RepV X.K ρ' H' d v → Q v H') : tCB (rCM X.K g) (tMA X.K φ) σ H Q := by
  obtain ⟨⟨x, μ1⟩, e1, e⟩ := bind_inv e
  exact ⟨ρ, δ, μ, x, μ1, A, e1, fun ρ1 H1 vs x1 R1 r1 => ⟨ρ1, x, μ1, d, μ', r1, R1, e, fun ρ2 H2 v x2 R2 r2 => k ρ2 H2 v (x1.trans x2) R2 r2⟩⟩
theorem me_callB {g : GL} {id : String} {x : Str} {p : Pos} {φ : FA} (hc : CallM X (.builtin id) g) (hm : X.mg x = none) (hv : bootBuiltins x = some (.builtin id)) (ha : MAn X (e :: es) φ) (hg : Gl X x := by rfl) (hn : x ≠ "__name__" := by decide) (hdb : (x == ("__debug__" : Str)) = false := by decide)
    (he : starEach (e :: es) X.env = (false, eval e X.env) :: starEach es X.env := by exact star_ok rfl) (hpl : (backTo pos (starEach es X.env)).any (·.1) = false := by rfl) : ME X (.Call (.Name x p) (e :: es) [] pos) (fCall g φ) :=
  me_of (pe_callB hc hg hm hv ha.ma hn hdb he hpl) fun _ _ _ _ _ _ _ _ A e k => cb_w A e k
theorem me_callT {g : GL} {T : String} {x : Str} {p : Pos} {φ : FA} (hc : CallM X (.type T) g) (hm : X.mg x = none) (hv : bootBuiltins x = some (.type T)) (ha : MAn X (e :: es) φ) (hg : Gl X x := by rfl) (hn : x ≠ "__name__" := by decide) (hdb : (x == ("__debug__" : Str)) = false := by decide)
    (he : starEach (e :: es) X.env = (false, eval e X.env) :: starEach es X.env := by exact star_ok rfl) (hpl : (backTo pos (starEach es X.env)).any (·.1) = false := by rfl) : ME X (.Call (.Name x p) (e :: es) [] pos) (fCall g φ) :=
  me_of (pe_callTy hc hg hm hv ha.ma hn hdb he hpl) fun _ _ _ _ _ _ _ _ A e k => cb_w A e k
end
section
variable {K : PySem.W.Frag} {ρ : List Addr} {H : Hp} {μ : Mem}
@[simp] noncomputable def items (μ : Mem) : D → Option (List D)
  | .tup ds => some ds
  | .fz ds => some ds
  | .loc n => match μ[n]? with
    | some (.lst ds) => some ds
    | _ => none
  | _ => none
theorem items_seq {d : D} {v : V} {ds : List D} (R : RepH K ρ H μ) (r : RepV K ρ H d v) (e : items μ d = some ds) : ∃ p vs, v = .ref p ∧ (SqL K H p vs ∨ SqT K H p vs) ∧ RepVs K ρ H ds vs := by
  unfold items at e
  split at e
  · cases e
    obtain ⟨a, vs, e1, e2, q⟩ := r.tup_inv
    exact ⟨a, vs, e1, .inr (SqT.of e2), q⟩
  · cases e
    obtain ⟨a, vs, e1, e2, q⟩ := r.fz_inv
    exact ⟨a, vs, e1, .inl e2.sq, q⟩
  · split at e
    · rename_i h
      cases e
      obtain ⟨a, e1, e2⟩ := r.loc_inv
      obtain ⟨vs, e3, q⟩ := R.at_ _ _ _ e2 h
      exact ⟨a, vs, e1, .inl (SqL.of e3), q⟩
    · cases e
  · cases e
end
section
variable {X : Cx} {a b c e : Expr} {es : List Expr} {φ ψ χ : FE} {pos : Pos}
@[simp] noncomputable def gIx : G2 := fun x y μ => match y with
  | .int i => (items μ x).bind fun ds => (atI ds i).bind fun d => some (d, μ)
  | _ => none
theorem atI_rep {K : PySem.W.Frag} {ρ : List Addr} {H : Hp} {ds : List D} {vs : List V} {i : Int} {d : D} (r : RepVs K ρ H ds vs) (e : atI ds i = some d) : ∃ v, atI vs i = some v ∧ RepV K ρ H d v := by
  unfold atI at e ⊢
  rw [r.length] at e
  obtain ⟨j, e1, e2⟩ := bind_inv e
  obtain ⟨v, e3, q⟩ := r.get e2
  exact ⟨v, by rw [e1]; exact e3, q⟩
theorem ixM : IxR X (rM X.K gIx) := by
  intro value slice pins s σ H x y v u Q I rx ry ⟨ρ, dx, dy, μ, d, μ', r1, r2, R, e, k⟩ hs
  unfold gIx at e
  split at e
  · obtain ⟨ds, e1, e⟩ := bind_inv e
    obtain ⟨d', e2, e⟩ := bind_inv e
    cases e
    obtain ⟨p, vs, rfl, hq, rr⟩ := items_seq R r1 e1
    obtain ⟨w, e3, q⟩ := atI_rep rr e2
    rcases hq with hq | hq
    · exact ix_seq value slice pins s σ H _ y v u Q I rx ry (.inl ⟨p, vs, _, w, rfl, r2.int_inv, hq, e3, k ρ H w Ext.refl R q⟩) hs
    · exact ix_seq value slice pins s σ H _ y v u Q I rx ry (.inr (.inl ⟨p, vs, _, w, rfl, r2.int_inv, hq, e3, k ρ H w Ext.refl R q⟩)) hs
  · cases e
theorem me_ix (ha : ME X a φ) (hb : ME X b ψ) (hs : PlainIx b := by exact fun _ _ => rfl) : ME X (.Subscript a b pos) (fBin gIx φ ψ) :=
  me_of (pe_ix ixM ha hb hs) fun _ _ _ _ _ _ _ _ A e k => bin_w A e k
@[simp] noncomputable def gLen : GL := fun ds μ => match ds with
  | [d] => (items μ d).bind fun xs => some (.int xs.length, μ)
  | _ => none
theorem callM_len : CallM X (.builtin "len") gLen := by
  refine CallM.of fun pins s σ H xs us Q I r ρ ds μ d μ' r1 R e k => ?_
  unfold gLen at e
  split at e
  · obtain ⟨ds, e1, e⟩ := bind_inv e
    cases e
    obtain ⟨v, rr, rfl, q1, q2⟩ := r1.cons_inv
    have q2 := q2.nil_inv
    subst q2
    obtain ⟨p, vs, rfl, hq, rr⟩ := items_seq R q1 e1
    exact call_len_seq pins s σ H _ us Q I r ⟨p, vs, rfl, hq, k ρ H _ Ext.refl R (by rw [rr.length]; exact .int)⟩
  · cases e
@[simp] noncomputable def gList : GL := fun ds μ => match ds with
  | [d] => (items μ d).bind fun xs => some (.loc μ.length, μ ++ [.lst xs])
  | _ => none
theorem callM_list : CallM X (.type "list") gList := by
  refine CallM.of fun pins s σ H xs us Q I r ρ ds μ d μ' r1 R e k => ?_
  unfold gList at e
  split at e
  · obtain ⟨ds, e1, e⟩ := bind_inv e
    cases e
    obtain ⟨v, rr, rfl, q1, q2⟩ := r1.cons_inv
    have q2 := q2.nil_inv
    subst q2
    obtain ⟨p, vs, rfl, hq, rr⟩ := items_seq R q1 e1
    exact call_list_of pins s σ H _ us Q I r ⟨p, vs, rfl, hq, fun l hl => k _ _ _ (Ext.push hl) (R.push hl ⟨vs, upd_same, rr.ext (Ext.push hl)⟩) (.loc (push_get R))⟩
  · cases e
@[simp] noncomputable def gTuple : GL := fun ds μ => match ds with
  | [.tup xs] => some (.tup xs, μ)
  | [d] => (items μ d).bind fun xs => some (.tup xs, μ)
  | _ => none
theorem callM_tuple : CallM X (.type "tuple") gTuple := by
  refine CallM.of fun pins s σ H xs us Q I r ρ ds μ d μ' r1 R e k => ?_
  have key : ∃ x ys, ds = [x] ∧ items μ x = some ys ∧ d = .tup ys ∧ μ' = μ := by
    unfold gTuple at e
    split at e
    · cases e; exact ⟨_, _, rfl, rfl, rfl, rfl⟩
    · obtain ⟨ds, e1, e⟩ := bind_inv e
      cases e
      exact ⟨_, _, rfl, e1, rfl, rfl⟩
    · cases e
  obtain ⟨x, ys, rfl, e1, rfl, rfl⟩ := key
  obtain ⟨v, rr, rfl, q1, q2⟩ := r1.cons_inv
  have q2 := q2.nil_inv
  subst q2
  cases x with
  | tup zs =>
    cases e1
    obtain ⟨a, vs, rfl, e2, q⟩ := q1.tup_inv
    exact call_tuple_of pins s σ H _ us Q I r ⟨a, vs, rfl, .inr ⟨SqT.of e2, k ρ H _ Ext.refl R q1⟩⟩
  | fz zs =>
    cases e1
    obtain ⟨a, vs, rfl, e2, q⟩ := q1.fz_inv
    exact call_tuple_of pins s σ H _ us Q I r ⟨a, vs, rfl, .inl ⟨e2.sq, fun l hl => k ρ _ _ (Ext.new hl) (R.newTup hl) (.tup upd_same (q.ext (Ext.new hl)))⟩⟩
  | loc n =>
    unfold items at e1
    dsimp only at e1
    split at e1
    · rename_i h
      cases e1
      obtain ⟨a, rfl, e2⟩ := q1.loc_inv
      obtain ⟨vs, e3, q⟩ := R.at_ _ _ _ e2 h
      exact call_tuple_of pins s σ H _ us Q I r ⟨a, vs, rfl, .inl ⟨SqL.of e3, fun l hl => k ρ _ _ (Ext.new hl) (R.newTup hl) (.tup upd_same (q.ext (Ext.new hl)))⟩⟩
    · cases e1
  | _ => cases e1
end
end M
set_option Elab.async false
set_option linter.all false
set_option maxRecDepth 100000
set_option autoImplicit false
namespace M
open PySem PySem.Spec PyProof.Rows L2
theorem compLoop_own {prog : Program} {w : World} {A : Around} {R : Result → Shared → Prop} {s : Shared} {elt target iter : Expr} {ifs : List Expr} {scope : Scope} {pos : Pos} {it acc : Value} {env : Env} (I : Nat → Shared → Prop)
    (turn : ∀ n s, I n s → wpAny (model prog w) A (pyNext it) (fun r s₁ => match r with
      | none => R (.ok .next) s₁
      | some v => wpAny (model prog w) A (letOwnedTupleGo target it v) (fun _ s₁' => wpAny (model prog w) A (assign target env v) (fun _ s₂ =>
          wpAny (model prog w) A (forIn ifs true fun c r => if r = true then do let ok ← isTrue c env (eval c env); pure (ForInStep.yield ok) else pure (ForInStep.yield r)) (fun ok s₃ =>
            if ok = true then wpAny (model prog w) A (eval elt env) (fun x s₄ =>
              wpAny (model prog w) A (call (.builtin "list.append") [acc, x]) (fun _ s₅ => ∃ m, m < n ∧ I m s₅) (fun _ _ => False) s₄) (fun _ _ => False) s₃
            else ∃ m, m < n ∧ I m s₃) (fun _ _ => False) s₂) (fun _ _ => False) s₁') (fun _ _ => False) s₁) (fun _ _ => False) s)
    (n : Nat) (h : I n s) :
    codeAny (model prog w) A (.compLoop (.ListComp elt [⟨target, iter, ifs, 0⟩] scope pos) 0 it acc env) R s := by
  refine codeAny_loop rfl I (fun n s hI => ?_) n h
  show wpAny _ A ((compTurn (.ListComp elt [⟨target, iter, ifs, 0⟩] scope pos) 0 it acc env).onRaise (fun x => do noteFrame x env; theTreesLotGoes x)) _ _ s
  refine wpAny_noted ?_
  rw [compTurn_list]
  refine wpAny_bind (wpAny_standAt (wpAny_bind (wpAny_mono (turn n s hI) (fun r s₁ h₁ => ?_) fun _ _ h' => h'.elim)))
  cases r with
  | none => exact wpAny_pure h₁
  | some v =>
    refine wpAny_bind (wpAny_mono h₁ (fun _ s₁' h₁ => ?_) fun _ _ h' => h'.elim)
    refine wpAny_bind (wpAny_mono h₁ (fun _ s₂ h₂ => wpAny_bind (wpAny_mono h₂ (fun ok s₃ h₃ => ?_) fun _ _ h' => h'.elim)) fun _ _ h' => h'.elim)
    cases ok with
    | false => exact wpAny_pure ⟨rfl, h₃⟩
    | true =>
      exact wpAny_bind (wpAny_bind (wpAny_mono h₃ (fun x s₄ h₄ => wpAny_bind (wpAny_mono h₄ (fun _ s₅ h₅ => wpAny_pure (wpAny_pure ⟨rfl, h₅⟩)) fun _ _ h' => h'.elim)) fun _ _ h' => h'.elim))
noncomputable def clFrom (cells : List (Str × Addr)) : List (Str × NameKind) → List (Str × Addr) → List (Str × Addr)
  | [], acc => acc
  | (n, k) :: r, acc => clFrom cells r (if k == .free then (match cells.lookup n with | some c => (n, c) :: acc | none => acc) else acc)
theorem closure_loop {env : Env} : ∀ (names : List (Str × NameKind)) (acc : List (Str × Addr)), (∀ x ∈ names, x.2 = .free → ∃ c, env.cells.lookup x.1 = some c) →
    (forIn names acc fun (x : Str × NameKind) (cs : List (Str × Addr)) => (match x with | (name, kind) => if kind == .free then do let c ← cellOf env name; pure (ForInStep.yield ((name, c) :: cs)) else pure (ForInStep.yield cs) : Sem (ForInStep (List (Str × Addr))))) = (pure (clFrom env.cells names acc) : Sem (List (Str × Addr)))
  | [], acc, _ => rfl
  | (n, k) :: r, acc, h => by
    have ih := fun acc' => closure_loop r acc' fun x hx => h x (List.mem_cons_of_mem _ hx)
    rw [List.forIn_cons]
    by_cases hk : k = .free
    · subst hk
      obtain ⟨c, hc⟩ := h (n, .free) List.mem_cons_self rfl
      have e : cellOf env n = pure c := by unfold cellOf; rw [hc]
      have : clFrom env.cells ((n, NameKind.free) :: r) acc = clFrom env.cells r ((n, c) :: acc) := by
        show clFrom env.cells r (if (NameKind.free == NameKind.free) = true then (match env.cells.lookup n with | some c => (n, c) :: acc | none => acc) else acc) = _
        rw [hc]; rfl
      rw [this, ← ih]
      show ((do let c ← cellOf env n; pure (ForInStep.yield ((n, c) :: acc))) >>= _ : Sem _) = _
      rw [e]
      rfl
    · have hb : (k == NameKind.free) = false := by simpa using hk
      have : clFrom env.cells ((n, k) :: r) acc = clFrom env.cells r acc := by
        show clFrom env.cells r (if (k == NameKind.free) = true then _ else acc) = _
        rw [hb]; rfl
      rw [this, ← ih]
      simp only [hb, Bool.false_eq_true, if_false]
      rfl
theorem closure_eq {scope : Scope} {env : Env} (h : ∀ x ∈ scope.names, x.2 = .free → ∃ c, env.cells.lookup x.1 = some c) : closureFor scope env = pure (clFrom env.cells scope.names []) := by
  have e := closure_loop (env := env) scope.names [] h
  unfold closureFor
  show (forIn scope.names [] _ >>= fun r => pure r : Sem _) = _
  rw [show (forIn scope.names ([] : List (Str × Addr)) fun (x : Str × NameKind) (r : List (Str × Addr)) => (match x with | (name, kind) => if kind == .free then do let c ← cellOf env name; pure (ForInStep.yield ((name, c) :: r)) else pure (ForInStep.yield r) : Sem (ForInStep (List (Str × Addr))))) = pure (clFrom env.cells scope.names []) from e]
  rfl
end M
set_option Elab.async false
set_option linter.all false
set_option maxRecDepth 100000
set_option autoImplicit false
namespace M
open PySem PySem.Spec PyProof.Rows L2
theorem cl_sound {cells : List (Str × Addr)} {x : Str} {c : Addr} : ∀ (names : List (Str × NameKind)) (acc : List (Str × Addr)), (clFrom cells names acc).lookup x = some c → acc.lookup x = some c ∨ cells.lookup x = some c
  | [], _, h => .inl h
  | (n, k) :: r, acc, h => by
    rcases cl_sound r _ h with q | q
    · by_cases hk : (k == NameKind.free) = true
      · rw [if_pos hk] at q
        cases e : cells.lookup n with
        | none => rw [e] at q; exact .inl q
        | some a =>
          rw [e] at q
          simp only [List.lookup_cons] at q
          by_cases hx : (x == n) = true
          · rw [hx] at q
            have hx' : x = n := by simpa using hx
            subst hx'
            cases q
            exact .inr e
          · have hx' : (x == n) = false := by simpa using hx
            rw [hx'] at q
            exact .inl q
      · rw [if_neg hk] at q
        exact .inl q
    · exact .inr q
theorem cl_some {cells : List (Str × Addr)} {x : Str} : ∀ (names : List (Str × NameKind)) (acc : List (Str × Addr)), (acc.lookup x).isSome = true → ((clFrom cells names acc).lookup x).isSome = true
  | [], _, h => h
  | (n, k) :: r, acc, h => by
    refine cl_some r _ ?_
    by_cases hk : (k == NameKind.free) = true
    · rw [if_pos hk]
      cases e : cells.lookup n with
      | none => exact h
      | some a =>
        simp only [List.lookup_cons]
        by_cases hx : (x == n) = true
        · rw [hx]; rfl
        · have hx' : (x == n) = false := by simpa using hx
          rw [hx']; exact h
    · rw [if_neg hk]; exact h
theorem cl_has {cells : List (Str × Addr)} {x : Str} {c : Addr} (hc : cells.lookup x = some c) : ∀ (names : List (Str × NameKind)) (acc : List (Str × Addr)), (x, NameKind.free) ∈ names → ((clFrom cells names acc).lookup x).isSome = true
  | [], _, h => by cases h
  | (n, k) :: r, acc, h => by
    rcases List.mem_cons.mp h with h | h
    · cases h
      refine cl_some r _ ?_
      rw [if_pos (by rfl), hc]
      simp [List.lookup_cons]
    · exact cl_has hc r _ h
noncomputable def cxC (X : Cx) (own : List Str) (fr : List Nat) (scope : Scope) (cl : List (Str × Addr)) (C : Addr) (s₀ : Shared) (H₀ : Hp) (fp : List Addr) : Cx :=
  { X with N := own ++ fr.map fun i => X.N.getD i Str.empty, s₀ := s₀, H₀ := H₀, env := compEnvC scope cl C X.env, outer := X.stack, ex := fp, fn := fun x => scope.names.lookup x == some .cell, xe := fun _ _ => False }
noncomputable def σC (n : Nat) (fr : List Nat) (σ : L2.St) : L2.St := List.replicate n none ++ fr.map fun i => (σ[i]?).getD none
noncomputable def SubSt (σ σ' : L2.St) : Prop := σ'.length = σ.length ∧ ∀ (i : Nat) v, σ[i]? = some (some v) → σ'[i]? = some (some v)
noncomputable def PF (X : Cx) (ifs : List Expr) (t : TT) : Prop := ∀ (pins : List (Addr × Obj)) (s : Shared) (σ : L2.St) (H : Hp) (Q : Bool → Hp → Prop), Inv X pins σ H s → t σ H Q →
  wpAny (model X.prog X.w) X.A (forIn ifs true fun c r => if r = true then do let ok ← isTrue c X.env (eval c X.env); pure (ForInStep.yield ok) else pure (ForInStep.yield r)) (TP X pins σ Q) X.xe s
theorem pf_nil {X : Cx} : PF X [] (fun σ H Q => Q true H) := fun pins s σ H Q I h => wpAny_tests_nil ⟨H, I, h⟩
theorem pf_one {X : Cx} {c : Expr} {t : TT} (h : PT X c t) : PF X [c] t := fun pins s σ H Q I hw => wpAny_tests_one (h pins s σ H Q I hw)
noncomputable def tLC (n : Nat) (fr : List Nat) (wi : TI) (g : TG) (tc : TT) (te : TE) : TE := fun σ H Q => wi σ H fun J H1 => ∃ W : Nat → Nat → List V → Hp → Prop, (∃ m, W 0 m [] H1) ∧ ∀ i m ys H, W i m ys H →
  (J.stop i H ∧ ∀ p, H p = none → Q (.ref p) (upd H p (.lst ys))) ∨
  (J.go i H ∧ ys.length < sizeLine ∧ ∀ x H', J.yld i H x H' → g x (σC n fr σ) H' fun σ2 H2 => SubSt (σC n fr σ) σ2 ∧ tc σ2 H2 fun b H3 =>
    if b = true then te σ2 H3 fun y H4 => ∃ m', m' < m ∧ W (i + 1) m' (ys ++ [y]) H4 else ∃ m', m' < m ∧ W (i + 1) m' ys H3)
section
variable {X : Cx} {own : List Str} {fr : List Nat} {scope : Scope} {pins : List (Addr × Obj)} {σ : L2.St} {H : Hp} {s : Shared}
theorem lookup_relabel {env : Env} {x : Str} {k : NameKind} : ∀ {names : List (Str × NameKind)}, (names.map fun (n, k) => if (k == NameKind.free && env.scope.kind == .function && env.kindOf n == some .cell) then (n, NameKind.cell) else (n, k)).lookup x = some k →
    (k = .cell ∨ k = .free) → (x, NameKind.free) ∈ names ∨ (x, NameKind.cell) ∈ names
  | [], h, _ => by simp at h
  | (n, k') :: r, h, hk => by
    rw [List.map_cons] at h
    by_cases hx : x = n
    · subst hx
      by_cases hb : (k' == NameKind.free && env.scope.kind == .function && env.kindOf x == some .cell) = true
      · have : k' = .free := by
          simp only [Bool.and_eq_true, beq_iff_eq] at hb
          exact hb.1.1
        subst this
        exact .inl List.mem_cons_self
      · have h2 : ((x, k') :: r.map fun (n, k) => if (k == NameKind.free && env.scope.kind == .function && env.kindOf n == some .cell) then (n, NameKind.cell) else (n, k)).lookup x = some k := by
          have e : (if (k' == NameKind.free && env.scope.kind == .function && env.kindOf x == some .cell) = true then (x, NameKind.cell) else (x, k')) = (x, k') := if_neg hb
          rw [← e]; exact h
        simp only [List.lookup_cons, beq_self_eq_true] at h2
        cases h2
        rcases hk with rfl | rfl
        · exact .inr List.mem_cons_self
        · exact .inl List.mem_cons_self
    · have hx' : (x == n) = false := by simpa using hx
      have h2 : (r.map fun (n, k) => if (k == NameKind.free && env.scope.kind == .function && env.kindOf n == some .cell) then (n, NameKind.cell) else (n, k)).lookup x = some k := by
        by_cases hb : (k' == NameKind.free && env.scope.kind == .function && env.kindOf n == some .cell) = true
        · have e : (if (k' == NameKind.free && env.scope.kind == .function && env.kindOf n == some .cell) = true then (n, NameKind.cell) else (n, k')) = (n, NameKind.cell) := if_pos hb
          have h3 : ((n, NameKind.cell) :: r.map fun (n, k) => if (k == NameKind.free && env.scope.kind == .function && env.kindOf n == some .cell) then (n, NameKind.cell) else (n, k)).lookup x = some k := by rw [← e]; exact h
          simpa only [List.lookup_cons, hx'] using h3
        · have e : (if (k' == NameKind.free && env.scope.kind == .function && env.kindOf n == some .cell) = true then (n, NameKind.cell) else (n, k')) = (n, k') := if_neg hb
          have h3 : ((n, k') :: r.map fun (n, k) => if (k == NameKind.free && env.scope.kind == .function && env.kindOf n == some .cell) then (n, NameKind.cell) else (n, k)).lookup x = some k := by rw [← e]; exact h
          simpa only [List.lookup_cons, hx'] using h3
      rcases lookup_relabel h2 hk with q | q
      · exact .inl (List.mem_cons_of_mem _ q)
      · exact .inr (List.mem_cons_of_mem _ q)
theorem relabel_free {env : Env} {x : Str} : ∀ {names : List (Str × NameKind)}, names.lookup x = some .free →
    (names.map fun (n, k) => if (k == NameKind.free && env.scope.kind == .function && env.kindOf n == some .cell) then (n, NameKind.cell) else (n, k)).lookup x = some .cell ∨
    (names.map fun (n, k) => if (k == NameKind.free && env.scope.kind == .function && env.kindOf n == some .cell) then (n, NameKind.cell) else (n, k)).lookup x = some .free
  | [], h => by simp at h
  | (n, k') :: r, h => by
    rw [List.map_cons]
    by_cases hx : x = n
    · subst hx
      simp only [List.lookup_cons, beq_self_eq_true] at h
      cases h
      by_cases hb : (NameKind.free == NameKind.free && env.scope.kind == .function && env.kindOf x == some .cell) = true
      · have e : (if (NameKind.free == NameKind.free && env.scope.kind == .function && env.kindOf x == some .cell) = true then (x, NameKind.cell) else (x, NameKind.free)) = (x, NameKind.cell) := if_pos hb
        left
        show List.lookup x ((if (NameKind.free == NameKind.free && env.scope.kind == .function && env.kindOf x == some .cell) = true then (x, NameKind.cell) else (x, NameKind.free)) :: _) = _
        rw [e]; simp [List.lookup_cons]
      · have e : (if (NameKind.free == NameKind.free && env.scope.kind == .function && env.kindOf x == some .cell) = true then (x, NameKind.cell) else (x, NameKind.free)) = (x, NameKind.free) := if_neg hb
        right
        show List.lookup x ((if (NameKind.free == NameKind.free && env.scope.kind == .function && env.kindOf x == some .cell) = true then (x, NameKind.cell) else (x, NameKind.free)) :: _) = _
        rw [e]; simp [List.lookup_cons]
    · have hx' : (x == n) = false := by simpa using hx
      simp only [List.lookup_cons, hx'] at h
      have ih := relabel_free (env := env) h
      have step : ∀ k, (r.map fun (n, k) => if (k == NameKind.free && env.scope.kind == .function && env.kindOf n == some .cell) then (n, NameKind.cell) else (n, k)).lookup x = some k →
        List.lookup x ((if (k' == NameKind.free && env.scope.kind == .function && env.kindOf n == some .cell) = true then (n, NameKind.cell) else (n, k')) :: (r.map fun (n, k) => if (k == NameKind.free && env.scope.kind == .function && env.kindOf n == some .cell) then (n, NameKind.cell) else (n, k))) = some k := fun k hk => by
          by_cases hb : (k' == NameKind.free && env.scope.kind == .function && env.kindOf n == some .cell) = true
          · rw [if_pos hb]; simpa only [List.lookup_cons, hx'] using hk
          · rw [if_neg hb]; simpa only [List.lookup_cons, hx'] using hk
      rcases ih with ih | ih
      · exact .inl (step _ ih)
      · exact .inr (step _ ih)
theorem stk_not {b : Addr} (I : Inv X pins σ H s) (h1 : b ≠ X.env.locals) (h2 : b ∉ X.fs) : b ∉ frs X.stack := fun z =>
  (List.mem_cons.mp (I.stkSub b z)).elim h1 h2
theorem σC_get {n : Nat} {i : Nat} {v : V} (h : (σC n fr σ)[i]? = some (some v)) : n ≤ i ∧ ∃ j, fr[i - n]? = some j ∧ σ[j]? = some (some v) := by
  unfold σC at h
  by_cases hi : i < n
  · rw [List.getElem?_append_left (by simpa using hi), List.getElem?_replicate] at h
    split at h <;> cases h
  · have hi : n ≤ i := Nat.le_of_not_lt hi
    rw [List.getElem?_append_right (by simpa using hi), List.length_replicate, List.getElem?_map] at h
    cases e : fr[i - n]? with
    | none => rw [e] at h; cases h
    | some j =>
      rw [e] at h
      refine ⟨hi, j, rfl, ?_⟩
      have h' : (σ[j]?).getD none = some v := Option.some.inj h
      cases e2 : σ[j]? with
      | none => rw [e2] at h'; cases h'
      | some o => rw [e2] at h'; exact congrArg some h'
theorem cf_app : ∀ (names : List (Str × NameKind)) (n : Nat) (acc : List (Str × Addr)), cellsFrom n names acc = cellsFrom n names [] ++ acc
  | [], n, acc => rfl
  | (x, k) :: r, n, acc => by
    unfold cellsFrom
    split
    · rw [cf_app r (n + 1) ((x, n) :: acc), cf_app r (n + 1) [(x, n)]]
      simp
    · exact cf_app r n acc
theorem cf_mem : ∀ (names : List (Str × NameKind)) (n : Nat) (x : Str) (c : Addr), (x, c) ∈ cellsFrom n names [] → n ≤ c ∧ (x, NameKind.cell) ∈ names
  | [], n, x, c, h => by cases h
  | (y, k) :: r, n, x, c, h => by
    unfold cellsFrom at h
    split at h
    · rename_i hk
      rw [cf_app] at h
      rcases List.mem_append.mp h with h | h
      · obtain ⟨h1, h2⟩ := cf_mem r (n + 1) x c h
        exact ⟨Nat.le_of_succ_le h1, List.mem_cons_of_mem _ h2⟩
      · have e : (x, c) = (y, n) := by simpa using h
        cases e
        rw [beq_iff_eq.mp hk]
        exact ⟨Nat.le_refl _, List.mem_cons_self⟩
    · obtain ⟨h1, h2⟩ := cf_mem r n x c h
      exact ⟨h1, List.mem_cons_of_mem _ h2⟩
theorem cf_look {names : List (Str × NameKind)} {n : Nat} {acc : List (Str × Addr)} {x : Str} {c : Addr} (h : (cellsFrom n names acc).lookup x = some c) : (cellsFrom n names []).lookup x = some c ∨ ((cellsFrom n names []).lookup x = none ∧ acc.lookup x = some c) := by
  rw [cf_app, List.lookup_append] at h
  cases e : (cellsFrom n names []).lookup x with
  | none => rw [e] at h; exact .inr ⟨rfl, h⟩
  | some d => rw [e] at h; exact .inl h
theorem cf_none {names : List (Str × NameKind)} {n : Nat} {x : Str} (hn : ∀ y ∈ names, names.lookup y.1 = some y.2) (h : (x, NameKind.free) ∈ names) : (cellsFrom n names []).lookup x = none := by
  cases e : (cellsFrom n names []).lookup x with
  | none => rfl
  | some c =>
    have h1 := hn _ (cf_mem _ _ _ _ (PySem.mem_of_lookup e)).2
    have h2 := hn _ h
    rw [h1] at h2
    cases h2
theorem inv_comp {fp : List Addr} {D C : Addr} {lo : Nat} {h1 : Heap} {t : Nat} {mC : Str → Option Value} {oD : Obj} (I : Inv X pins σ H s) (hf : ∀ b ∈ fp, FpOk X pins H b) (hfl : ∀ b ∈ fp, b < s.heap.objs.size)
    (hk : scope.kind = .function) (hnm : ∀ y ∈ scope.names, scope.names.lookup y.1 = some y.2) (hfree : ∀ x ∈ scope.names, x.2 = .free → (X.env.kindOf x.1 = some .cell ∨ X.env.kindOf x.1 = some .free))
    (hfr : ∀ i ∈ fr, ∃ x, X.N[i]? = some x ∧ scope.names.lookup x = some .free) (hlo : C < lo) (hOC : CellsOk h1 lo (cellsFrom lo scope.names []))
    (old : ∀ b o, s.heap.get? b = some o → h1.get? b = some o) (hD : s.heap.objs.size ≤ D) (hC : s.heap.objs.size ≤ C) (hDC : D ≠ C) (hDlo : D < lo) (eD : h1.get? D = some oD) (dD : ∀ v, oD.data ≠ .cell v) (nC : h1.Ns C mC) :
    Inv (cxC X own fr scope (cellsFrom lo scope.names (clFrom X.env.cells scope.names [])) C s H fp) (pins ++ [(D, oD)]) (σC own.length fr σ) H { s with heap := h1, toks := t } := by
  have cl1 : ∀ x c, (clFrom X.env.cells scope.names []).lookup x = some c → X.env.cells.lookup x = some c := fun x c e => by
    rcases cl_sound _ _ e with q | q
    · cases q
    · exact q
  have clH : ∀ x, (x, NameKind.free) ∈ scope.names → ∃ c, (cellsFrom lo scope.names (clFrom X.env.cells scope.names [])).lookup x = some c ∧ X.env.cells.lookup x = some c := fun x hx => by
    obtain ⟨c, hc⟩ := I.ok.has x (hfree _ hx rfl)
    obtain ⟨c', hc'⟩ := Option.isSome_iff_exists.mp (cl_has hc scope.names [] hx)
    exact ⟨c', by rw [cf_app, List.lookup_append, cf_none hnm hx]; exact hc', cl1 _ _ hc'⟩
  have two : ∀ x c, (cellsFrom lo scope.names (clFrom X.env.cells scope.names [])).lookup x = some c → ((cellsFrom lo scope.names []).lookup x = some c ∧ lo ≤ c) ∨ X.env.cells.lookup x = some c := fun x c e => by
    rcases cf_look e with q | ⟨_, q⟩
    · exact .inl ⟨q, (cf_mem _ _ _ _ (PySem.mem_of_lookup q)).1⟩
    · exact .inr (cl1 _ _ q)
  have oldc : ∀ x c, X.env.cells.lookup x = some c → c < s.heap.objs.size := fun x c e => by
    obtain ⟨v, o, ho, _⟩ := I.cell x c e
    exact Heap.lt_size ho
  have hslo : s.heap.objs.size ≤ lo := Nat.le_trans hC (Nat.le_of_lt hlo)
  refine ⟨⟨I.ok.mod, hk, I.ok.glob, I.ok.blt, hC, fun x y c e1 e2 => ?inj, fun x hx => ?_, fun x c hx e => ?cab, I.ok.hd, I.ok.frames, .inl rfl, fun b hb => ⟨?_, fun x c e => ?exf⟩, I.bs, Nat.le_trans I.ok.bsz I.sz, fun b o e hb => ?_, fun b hb => ?_, I.stack, I.stkFree⟩,
    rfl, I.bare, Un.kept old, ⟨mC, nC, fun i x v h1 h2 h3 => ?_⟩, fun x c e => ?cell, I.hok.fresh hC, fun x c e => ?freeC, fun p hp => ?_, I.hok.kept old, ?_⟩
  case inj =>
    rcases two x c e1 with ⟨q1, l1⟩ | q1
    · rcases two y c e2 with ⟨q2, _⟩ | q2
      · exact name_of_addr hOC.apart (PySem.mem_of_lookup q1) (PySem.mem_of_lookup q2)
      · exact absurd (Nat.lt_of_lt_of_le (oldc y c q2) (Nat.le_trans hslo l1)) (Nat.lt_irrefl _)
    · rcases two y c e2 with ⟨_, l2⟩ | q2
      · exact absurd (Nat.lt_of_lt_of_le (oldc x c q1) (Nat.le_trans hslo l2)) (Nat.lt_irrefl _)
      · exact I.ok.inj x y c q1 q2
  case cab =>
    have hx : (scope.names.lookup x == some .cell) = true := hx
    obtain ⟨d, hd⟩ := Option.isSome_iff_exists.mp (PySem.W.cellsFrom_some scope.names lo [] (.inl (beq_iff_eq.mp hx)))
    rcases cf_look (show (cellsFrom lo scope.names (clFrom X.env.cells scope.names [])).lookup x = some c from e) with q | ⟨q, _⟩
    · exact Nat.le_trans hslo (cf_mem _ _ _ _ (PySem.mem_of_lookup q)).1
    · rw [q] at hd; cases hd
  case exf =>
    rcases two x c e with ⟨_, l⟩ | q
    · exact Nat.ne_of_gt (Nat.lt_of_lt_of_le (hfl b hb) (Nat.le_trans hslo l))
    · exact (hf b hb).2.2.2.2.1 x c q
  case cell =>
    rcases two x c e with ⟨q, _⟩ | q
    · exact ⟨none, (hOC.empty x c (PySem.mem_of_lookup q)).1⟩
    · obtain ⟨v, o, ho, hd⟩ := I.cell x c q
      exact ⟨v, o, old _ _ ho, hd⟩
  case freeC =>
    rcases two x c e with ⟨_, l⟩ | q
    · exact I.hok.fresh (Nat.le_trans hslo l)
    · exact I.freeC x c q
  · have hx' : (relabel scope X.env).names.lookup x = some .cell ∨ (relabel scope X.env).names.lookup x = some .free := hx
    have hm : (x, NameKind.free) ∈ scope.names ∨ (x, NameKind.cell) ∈ scope.names := by
      rcases hx' with h | h
      · exact lookup_relabel (env := X.env) h (.inl rfl)
      · exact lookup_relabel (env := X.env) h (.inr rfl)
    rcases hm with hm | hm
    · obtain ⟨c, e, _⟩ := clH x hm
      exact ⟨c, e⟩
    · exact Option.isSome_iff_exists.mp (PySem.W.cellsFrom_some scope.names lo _ (.inl (hnm _ hm)))
  · exact Nat.ne_of_lt (Nat.lt_of_lt_of_le (hfl b hb) hC)
  · rcases (hf b hb).2.2.2.1 with z | z
    · exact I.ok.noex b o e z
    · exact absurd (Nat.lt_of_lt_of_le (Heap.lt_size e) (Nat.le_trans I.ok.bsz z)) (Nat.lt_irrefl _)
  · exact stk_not I (hf b hb).2.1 (hf b hb).2.2.1
  · obtain ⟨hi, j, e1, e2⟩ := σC_get h2
    have hjm : j ∈ fr := List.mem_of_getElem? e1
    obtain ⟨y, ey, ly⟩ := hfr j hjm
    have hxy : x = y := by
      have h1' : (own ++ fr.map fun i => X.N.getD i Str.empty)[i]? = some x := h1
      rw [List.getElem?_append_right hi, List.getElem?_map, e1] at h1'
      have h1'' : X.N.getD j Str.empty = x := Option.some.inj h1'
      rw [List.getD_eq_getElem?_getD, ey] at h1''
      exact h1''.symm
    subst hxy
    have hm : (x, NameKind.free) ∈ scope.names := PySem.mem_of_lookup ly
    have hv : Vis X.env.scope x := by
      rcases hfree _ hm rfl with q | q
      · exact .inr (.inl q)
      · exact .inr (.inr q)
    obtain ⟨m, hn, hl⟩ := id I.loc
    obtain ⟨u, ru, q⟩ := hl j x v ey e2 hv
    obtain ⟨c, c1, c2⟩ := clH x hm
    refine ⟨u, ru, .inr ⟨relabel_free (env := X.env) ly, c, c1, ?_⟩⟩
    rcases q with ⟨k, _⟩ | ⟨k, c', e', z⟩
    · rcases hfree _ hm rfl with q | q
      · rw [show X.env.kindOf (x, NameKind.free).1 = X.env.kindOf x from rfl, k] at q; cases q
      · rw [show X.env.kindOf (x, NameKind.free).1 = X.env.kindOf x from rfl, k] at q; cases q
    · rw [c2] at e'; cases e'
      obtain ⟨o, ho, hd⟩ := z
      exact ⟨o, old _ _ ho, hd⟩
  · have hp' : p ∈ X.pn ++ (pins ++ [(D, oD)]) := hp
    rw [← List.append_assoc] at hp'
    rcases List.mem_append.mp hp' with hp' | hp'
    · obtain ⟨a1, a2, a3, a4, a5⟩ := I.pin p hp'
      exact ⟨old _ _ a1, a2, Nat.ne_of_lt (Nat.lt_of_lt_of_le (Heap.lt_size a1) hC), stk_not I a3 a4, a5⟩
    · have : p = (D, oD) := by simpa using hp'
      subst this
      refine ⟨eD, I.hok.fresh hD, hDC, fun z => ?_, dD⟩
      rcases List.mem_cons.mp (I.stkSub _ z) with z | z
      · exact absurd (Nat.lt_of_lt_of_le I.lt (z ▸ hD)) (Nat.lt_irrefl _)
      · exact I.nofs hD z
  · show (σC own.length fr σ).length = (own ++ fr.map fun i => X.N.getD i Str.empty).length
    unfold σC
    simp
end
end M
set_option Elab.async false
set_option linter.all false
set_option maxRecDepth 100000
set_option autoImplicit false
namespace M
open PySem PySem.Spec PyProof.Rows L2
theorem HOk.track {P : Program} {w : World} {H : Hp} {h : Heap} {a : Addr} {o : HO} (x : HOk P w H h) (hn : H a = none) (new : ObjOk P w (upd H a o) h a o) : HOk P w (upd H a o) h := fun b u e => by
  by_cases hb : b = a
  · subst hb; rw [upd_same] at e; cases e; exact new
  · rw [upd_ne hb] at e
    exact (x b u e).stay (fun c v _ q => q) (fun c q => by rw [upd_ne (ne_of_none q hn)]; exact q) fun c xs q => by rw [upd_ne (ne_of_none q hn)]; exact q
theorem newEnvC {M : Model} {A : Around} {E : Value → Shared → Prop} {s : Shared} {scope : Scope} {globals : Addr} {cl : List (Str × Addr)} {qual : Str} {env : Env} {Q : Env → Shared → Prop}
    (hQ : Q (newEnv scope s.heap.objs.size globals (cellsFrom (s.heap.objs.size + 1) scope.names cl) qual none .none (some env) builtinsNs) { s with heap := pushCells (s.heap.push { cls := .type "dict", data := .dict #[] }) scope.names }) :
    wpAny M A (newFunctionEnv scope globals cl [] qual none .none (some env)) Q E s := by
  simp only [newFunctionEnv, Option.isSome_some, if_true]
  refine wpAny_bind (wpAny_alloc ?_)
  refine wpAny_bind (wpAny_layCells _ (fun name kind cells => by cases hkc : kind == NameKind.cell <;> simp [hkc]) _ _ _ _ ?_)
  rw [show ({ s with heap := s.heap.push { cls := .type "dict", data := .dict #[] } } : Shared).heap.objs.size = s.heap.objs.size + 1 from Heap.size_push ..]
  refine wpAny_bind ?_
  rw [List.forIn_nil]
  exact wpAny_pure (wpAny_pure hQ)
section
variable {X : Cx} {own : List Str} {fr : List Nat} {scope : Scope}
structure Walked (X : Cx) (pins : List (Addr × Obj)) (σ : L2.St) (H : Hp) (ys : List V) (D C : Addr) (s : Shared) : Prop where
  inv : Inv X pins σ (upd H D (.lst ys)) s
  free : H D = none
  freeC : upd H D (.lst ys) C = none
  own : ∃ m, s.heap.Ns C m
  notL : C ≠ X.env.locals
  young : X.s₀.heap.objs.size ≤ C
  notCell : ∀ x c, X.env.cells.lookup x = some c → c ≠ C
  notPin : ∀ p ∈ X.pn ++ pins, p.1 ≠ C
theorem lc_core {elt tg iter : Expr} {ifs : List Expr} {pos : Pos} {g : TG} {tc : TT} {te : TE} {pins : List (Addr × Obj)} {σ : L2.St} {s2 : Shared} {Qn : List V → Hp → Prop} {itv : Value} {RR : Value → Addr → Result → Shared → Prop} (own : List Str) (fr : List Nat) (hc : X.calm = true)
    (hg : ∀ cl C s₀ H₀ fp, PG (cxC X own fr scope cl C s₀ H₀ fp) tg g) (hq : ∀ cl C s₀ H₀ fp, PF (cxC X own fr scope cl C s₀ H₀ fp) ifs tc) (he : ∀ cl C s₀ H₀ fp, PE (cxC X own fr scope cl C s₀ H₀ fp) elt te)
    (hk : scope.kind = .function) (hnm : ∀ y ∈ scope.names, scope.names.lookup y.1 = some y.2)
    (hfree : ∀ x ∈ scope.names, x.2 = .free → (X.env.kindOf x.1 = some .cell ∨ X.env.kindOf x.1 = some .free)) (hfr : ∀ i ∈ fr, ∃ x, X.N[i]? = some x ∧ scope.names.lookup x = some .free)
    (h2 : PIE X pins σ tg (fun J H1 => ∃ W : Nat → Nat → List V → Hp → Prop, (∃ m, W 0 m [] H1) ∧ ∀ i m ys H, W i m ys H →
      (J.stop i H ∧ Qn ys H) ∨ (J.go i H ∧ ys.length < sizeLine ∧ ∀ x H', J.yld i H x H' → g x (σC own.length fr σ) H' fun σ2 H2 => SubSt (σC own.length fr σ) σ2 ∧ tc σ2 H2 fun b H3 =>
        if b = true then te σ2 H3 fun y H4 => ∃ m', m' < m ∧ W (i + 1) m' (ys ++ [y]) H4 else ∃ m', m' < m ∧ W (i + 1) m' ys H3)) itv s2)
    (fin : ∀ ys H D C s4, Qn ys H → Walked X pins σ H ys D C s4 → RR (.ref D) C (.ok .next) s4) :
    wpAny (model X.prog X.w) X.A (newList []) (fun acc s₃ => wpAny (model X.prog X.w) X.A (newFunctionEnv scope X.env.globals (clFrom X.env.cells scope.names []) [] X.env.qual none .none (some X.env)) (fun cenv s₄ =>
      codeAny (model X.prog X.w) X.A (.compStart (.ListComp elt [⟨tg, iter, ifs, 0⟩] scope pos) 0 itv acc { cenv with scope := relabel scope X.env }) (RR acc cenv.locals) s₄) X.xe s₃) X.xe s2 := by
  obtain ⟨it, fp, tn, J, H2, e, I2, T, st2, f2, W, ⟨m0, w0⟩, turn⟩ := h2
  subst e
  have hfl : ∀ b ∈ fp, b < s2.heap.objs.size := fun b hb => by
    obtain ⟨o, e, _⟩ := T.obj _ _ st2 b hb
    exact Heap.lt_size e
  refine wpAny_newObj_type (newEnvC ?_)
  dsimp only
  generalize hH2 : s2.heap.push { cls := .type "list", dict := none, data := .seq ([] : List Value).toArray } = G2
  have hC : G2.objs.size = s2.heap.objs.size + 1 := by rw [← hH2, Heap.size_push]
  have hDC : s2.heap.objs.size ≠ G2.objs.size := by rw [hC]; exact Nat.ne_of_lt (Nat.lt_succ_self _)
  have hCle : s2.heap.objs.size ≤ G2.objs.size := by rw [hC]; exact Nat.le_succ _
  have below : ∀ b, b < s2.heap.objs.size → b ≠ G2.objs.size ∧ b ≠ s2.heap.objs.size := fun b hb => ⟨by rw [hC]; exact Nat.ne_of_lt (Nat.lt_succ_of_lt hb), Nat.ne_of_lt hb⟩
  have hns₁ : (pushCells (G2.push { cls := .type "dict", data := .dict #[] }) scope.names).Ns G2.objs.size (fun _ => none) := (Heap.Ns.new G2 (.type "dict")).keeps fun b o e => pushCells_keeps _ _ _ _ e
  have hok₁ : CellsOk (pushCells (G2.push { cls := .type "dict", data := .dict #[] }) scope.names) (G2.objs.size + 1) (cellsFrom (G2.objs.size + 1) scope.names []) := by
    have := cellsFrom_ok scope.names (G2.push { cls := .type "dict", data := .dict #[] }) (G2.objs.size + 1) [] ⟨fun _ _ hm => (nomatch hm), List.Pairwise.nil⟩ (by rw [Heap.size_push]; exact Nat.le_refl _)
    rw [Heap.size_push] at this
    exact this
  have hk₁ : ∀ b o, G2.get? b = some o → (pushCells (G2.push { cls := .type "dict", data := .dict #[] }) scope.names).get? b = some o := fun b o e => pushCells_keeps _ _ _ _ (Heap.get?_push_of_some _ e)
  generalize pushCells (G2.push { cls := .type "dict", data := .dict #[] }) scope.names = h₁ at hns₁ hok₁ hk₁ ⊢
  have old : ∀ b o, s2.heap.get? b = some o → h₁.get? b = some o := fun b o e => hk₁ b o (hH2 ▸ Heap.get?_push_of_some _ e)
  have hacc : h₁.get? s2.heap.objs.size = some { cls := .type "list", data := .seq ([] : List Value).toArray 0 } := hk₁ _ _ (hH2 ▸ Heap.get?_push_size _ rfl)
  generalize hXC : cxC X own fr scope (cellsFrom (G2.objs.size + 1) scope.names (clFrom X.env.cells scope.names [])) G2.objs.size s2 H2 fp = XC
  have eenv : compEnvC scope (cellsFrom (G2.objs.size + 1) scope.names (clFrom X.env.cells scope.names [])) G2.objs.size X.env = XC.env := by rw [← hXC]; rfl
  have eprog : XC.prog = X.prog := by rw [← hXC]; rfl
  have ew : XC.w = X.w := by rw [← hXC]; rfl
  have eA : XC.A = X.A := by rw [← hXC]; rfl
  have eK : XC.K = X.K := by rw [← hXC]; rfl
  have ecalm : XC.calm = true := by rw [← hXC]; exact hc
  have exe : XC.xe = fun _ _ => False := by rw [← hXC]; rfl
  have eloc : XC.env.locals = G2.objs.size := by rw [← hXC]; rfl
  have eex : XC.ex = fp := by rw [← hXC]; rfl
  have efs : XC.fs = frs X.stack := by rw [← hXC]; rfl
  have es0 : XC.s₀ = s2 := by rw [← hXC]; rfl
  have eH0 : XC.H₀ = H2 := by rw [← hXC]; rfl
  have epn : XC.pn = X.pn := by rw [← hXC]; rfl
  have ecells : ∀ x c, XC.env.cells.lookup x = some c → X.env.cells.lookup x = some c ∨ G2.objs.size < c := fun x c e => by
    rw [← hXC] at e
    rcases cf_look (show (cellsFrom (G2.objs.size + 1) scope.names (clFrom X.env.cells scope.names [])).lookup x = some c from e) with q | ⟨_, q⟩
    · exact .inr (cf_mem _ _ _ _ (PySem.mem_of_lookup q)).1
    · rcases cl_sound _ _ q with q | q
      · cases q
      · exact .inl q
  have hg' : PG XC tg g := hXC ▸ hg _ _ _ _ _
  have hq' : PF XC ifs tc := hXC ▸ hq _ _ _ _ _
  have he' : PE XC elt te := hXC ▸ he _ _ _ _ _
  have fpok : ∀ {H' : Hp} {pl : List (Addr × Obj)}, (∀ b ∈ fp, H' b = none) → (∀ p ∈ pl, p.1 = s2.heap.objs.size) → ∀ b ∈ fp, FpOk XC (pins ++ pl) H' b := fun {H' pl} hn hpl b hb => by
    obtain ⟨_, f2, f3, f4, f5, f6⟩ := f2 b hb
    refine ⟨hn b hb, by rw [eloc]; exact (below b (hfl b hb)).1, by rw [efs]; exact stk_not I2 f2 f3, .inl (by rw [eex]; exact hb), fun x c e => ?c5, fun p hp => ?_⟩
    case c5 =>
      rcases ecells x c e with q | q
      · exact f5 x c q
      · exact Nat.ne_of_gt (Nat.lt_of_lt_of_le (hfl b hb) (Nat.le_trans hCle (Nat.le_of_lt q)))
    rw [epn, ← List.append_assoc] at hp
    rcases List.mem_append.mp hp with hp | hp
    · exact f6 p hp
    · rw [hpl p hp]; exact Ne.symm (below b (hfl b hb)).2
  have loop : ∀ s₃ : Shared, s₃ = { s2 with heap := h₁ } →
      codeAny (model X.prog X.w) X.A (.compLoop (.ListComp elt [⟨tg, iter, ifs, 0⟩] scope pos) 0 (.ref it) (.ref s2.heap.objs.size) (compEnvC scope (cellsFrom (G2.objs.size + 1) scope.names (clFrom X.env.cells scope.names [])) G2.objs.size X.env))
        (RR (.ref s2.heap.objs.size) G2.objs.size) s₃ := by
    rintro s₃ rfl
    have I0 := inv_comp (own := own) (fr := fr) (t := s2.toks) (lo := G2.objs.size + 1) I2 f2 hfl hk hnm hfree hfr (Nat.lt_succ_self _) hok₁ old (Nat.le_refl _) hCle hDC (Nat.lt_succ_of_le hCle) hacc (by intro v z; cases z) hns₁
    rw [hXC] at I0
    refine compLoop_own (fun n s' => ∃ (i : Nat) (ys : List V) (its : Array Value) (k : Nat) (H' : Hp), Inv XC (pins ++ [(s2.heap.objs.size, ({ cls := .type "list", data := .seq its k } : Obj))]) (σC own.length fr σ) H' s' ∧ Vals ys its.toList ∧ ys.length ≤ sizeLine ∧ tn i s'.heap ∧ (∀ b ∈ fp, H' b = none) ∧ W i n ys H') ?_ m0
      ⟨0, [], #[], 0, H2, I0, .nil, Nat.zero_le _, T.keep _ _ _ st2 (fun b hb o e => old b o e), fun b hb => (f2 b hb).1, w0⟩
    rintro n s3 ⟨i, ys, its, kk, H3, I3, rv, hz, st3, fr3, w3⟩
    have pl1 : ∀ p ∈ [(s2.heap.objs.size, ({ cls := .type "list", data := .seq its kk } : Obj))], p.1 = s2.heap.objs.size := fun p hp => by
      rw [List.mem_singleton.mp hp]
    rcases turn i n ys H3 w3 with ⟨stop, qn⟩ | ⟨go, hlt, step⟩
    · have td := T.done XC eprog ew eK ecalm i _ s3 _ H3 (fun _ _ => False) I3 (fpok fr3 pl1) st3 stop
      rw [eA] at td
      refine thn td fun r s4 ⟨hr, I4⟩ => ?_
      subst hr
      obtain ⟨m, hn, _⟩ := id I4.loc
      rw [eloc] at hn
      obtain ⟨p1, p2, p3, p4, p5⟩ := I4.pin (s2.heap.objs.size, _) (List.mem_append_right _ (List.mem_append_right _ List.mem_cons_self))
      have hnC : H3 G2.objs.size = none := by have := I4.free; rw [eloc] at this; exact this
      have hokf : HOk X.prog X.w (upd H3 s2.heap.objs.size (.lst ys)) s4.heap := by
        refine HOk.track (by have := I4.hok; rw [eprog, ew] at this; exact this) p2 ⟨hz, its.toList, kk, rv, by simpa using p1⟩
      have u0 : Un (frs X.stack) fp H2 H3 s2.heap s4.heap := by
        have := I4.base
        rw [efs, eex, es0, eH0] at this
        exact this
      have u1 : Un (frs X.stack) fp H2 (upd H3 s2.heap.objs.size (.lst ys)) s2.heap s4.heap := by
        have bd : ∀ b o, s2.heap.get? b = some o → b ≠ s2.heap.objs.size := fun b o e => (below b (Heap.lt_size e)).2
        refine ⟨u0.keep, u0.slot, fun b o e n hx => by rw [upd_ne (bd b o e)]; exact u0.free b o e n hx, u0.there, fun b xs e => ?_, fun b o u e => ?_, fun b ps e => ?_⟩
        · have q := u0.tups b xs e
          rw [upd_ne (ne_of_none q p2)]; exact q
        · have q := u0.frzs b o u e
          rw [upd_ne (ne_of_none q p2)]; exact q
        · obtain ⟨more, q⟩ := u0.tbls b ps e
          exact ⟨more, by rw [upd_ne (ne_of_none q p2)]; exact q⟩
      have os4 : s4.os = s2.os := by have := I4.os; rw [es0] at this; exact this
      have IF : Inv X pins σ (upd H3 s2.heap.objs.size (.lst ys)) { s2 with heap := s4.heap, gens := s4.gens, drawn := s4.drawn, toks := s4.toks } :=
        I2.call (h' := s4.heap) (ch := fp) u1 hokf I4.bare fun b hb => by
          obtain ⟨_, f2, f3, f4, f5, f6⟩ := f2 b hb
          exact ⟨f4, f2, f5, f6⟩
      have es : s4 = { s2 with heap := s4.heap, gens := s4.gens, drawn := s4.drawn, toks := s4.toks } := by
        obtain ⟨a1, a2, a3, a4, a5⟩ := s4
        have : a5 = s2.os := os4
        subst this
        rfl
      rw [← es] at IF
      refine fin ys H3 _ _ s4 qn ⟨IF, p2, by rw [upd_ne (Ne.symm hDC)]; exact hnC, ⟨m, hn⟩, Ne.symm (below _ I2.lt).1, Nat.le_trans I2.sz hCle, fun x c e => ?_, fun p hp => ?_⟩
      · obtain ⟨v, o, ho, _⟩ := I2.cell x c e
        exact (below c (Heap.lt_size ho)).1
      · exact (below p.1 (Heap.lt_size (I2.pin p hp).1)).1
    · have td := T.item XC eprog ew eK ecalm i _ s3 _ H3 (fun _ _ => False) I3 (fpok fr3 pl1) st3 go
      rw [eA] at td
      refine thn td fun r s4 ⟨u, hr, h4⟩ => ?_
      subst hr
      refine thn h4 fun _ s5 ⟨x, H5, I5, r5, y5, st5, fr5⟩ => ?_
      have I5' := I5.pinned (fpok fr5 pl1) (T.obj _ _ st5)
      have hgw := hg' _ s5 _ H5 x u _ I5' r5 (step x H5 y5)
      rw [exe, eprog, ew, eA] at hgw
      rw [eenv]
      refine thn hgw fun _ s6 ⟨σ6, H6, I6, ⟨hsl, hsub⟩, q6⟩ => ?_
      have hqw := hq' _ s6 σ6 H6 _ I6 q6
      rw [exe, eprog, ew, eA] at hqw
      refine thn hqw fun ok s7 ⟨H7, I7, q7⟩ => ?_
      have back : ∀ {H8 : Hp} {s8 : Shared}, Inv XC (pins ++ [(s2.heap.objs.size, ({ cls := .type "list", data := .seq its kk } : Obj))] ++ pinsAt fp s5.heap) σ6 H8 s8 →
          Inv XC (pins ++ [(s2.heap.objs.size, ({ cls := .type "list", data := .seq its kk } : Obj))]) (σC own.length fr σ) H8 s8 ∧ tn (i + 1) s8.heap ∧ ∀ b ∈ fp, H8 b = none := fun {H8 s8} I8 => by
        refine ⟨I8.unpinned.weak hsl.symm hsub, T.keep _ _ _ st5 fun b hb o e => (I8.pin (b, o) (List.mem_append_right _ (List.mem_append_right _ (mem_pinsAt hb e)))).1, fun b hb => ?_⟩
        obtain ⟨o, e, d⟩ := T.obj _ _ st5 b hb
        exact (I8.pin (b, o) (List.mem_append_right _ (List.mem_append_right _ (mem_pinsAt hb e)))).2.1
      cases ok with
      | false =>
        have q7' : ∃ m', m' < n ∧ W (i + 1) m' ys H7 := by simpa using q7
        rw [if_neg Bool.false_ne_true]
        obtain ⟨m', hm, w7⟩ := q7'
        obtain ⟨J1, J2, J3⟩ := back I7
        exact ⟨m', hm, i + 1, ys, its, kk, H7, J1, rv, hz, J2, J3, w7⟩
      | true =>
        rw [if_pos rfl] at q7 ⊢
        have hew := he' _ s7 σ6 H7 _ I7 q7
        rw [exe, eprog, ew, eA] at hew
        refine thn hew fun y s8 ⟨vy, H8, I8, r8, m', hm, w8⟩ => ?_
        obtain ⟨J1, J2, J3⟩ := back I8
        obtain ⟨p1, p2, p3, p4, p5⟩ := J1.pin (s2.heap.objs.size, _) (List.mem_append_right _ (List.mem_append_right _ List.mem_cons_self))
        have hil : its.size = ys.length := by rw [rv.length]; simp
        refine append_at (hsz := by rw [hil]; exact hz) p1 fun h9 sb9 e9 => ?_
        have Df : s2.heap.objs.size ∉ fp := fun z => absurd (hfl _ z) (Nat.lt_irrefl _)
        have J0 : Inv XC pins (σC own.length fr σ) H8 s8 := J1.unpinned
        have J9 : Inv XC pins (σC own.length fr σ) H8 { s8 with heap := h9 } := by
          refine J0.turned (t' := s8.toks) (it := s2.heap.objs.size) (fun b o hb e => (sb9.2 b hb).trans e) p2 p3 (.inr (by rw [es0]; exact Nat.le_refl _)) (fun x c e z => ?_) (fun p hp z => ?_)
          · rcases ecells x c e with q | q
            · obtain ⟨v, o, ho, _⟩ := I2.cell x c q
              exact (below c (Heap.lt_size ho)).2 z
            · exact Nat.ne_of_gt (Nat.lt_of_le_of_lt hCle q) z
          · rw [epn] at hp
            exact (below p.1 (Heap.lt_size (I2.pin p hp).1)).2 z
        refine ⟨m', hm, i + 1, ys ++ [vy], its.push y, kk + 1, H8, J9.pins_of fun p hp => ?_, ?_, by simp; exact hlt, T.keep _ _ _ J2 (fun b hb o e => (sb9.2 b (fun z => Df (z ▸ hb))).trans e), J3, w8⟩
        · rcases List.mem_append.mp hp with hp | hp
          · exact J9.pin p (List.mem_append_right _ hp)
          · have e := List.mem_singleton.mp hp
            subst e
            exact ⟨e9, p2, p3, p4, by intro v z; cases z⟩
        · rw [Array.toList_push]
          exact rv.append (.cons r8 .nil)
  exact codeAny_compStart_list (loop _ rfl) (T.self X.A 0 _ _ _ (T.keep _ _ _ st2 fun b hb o e => old b o e) (loop _ rfl))
theorem Walked.gone {pins : List (Addr × Obj)} {σ : L2.St} {H : Hp} {ys : List V} {D C : Addr} {s : Shared} (w : Walked X pins σ H ys D C s) {h' : Heap} (sb : Heap.SameBut C s.heap h') : Inv X pins σ (upd H D (.lst ys)) { s with heap := h' } :=
  w.inv.turned (t' := s.toks) (fun b o hb e => (sb.2 b hb).trans e) w.freeC (Ne.symm (Ne.symm w.notL)) (.inr w.young) w.notCell w.notPin
theorem pe_lc {elt tg iter : Expr} {ifs : List Expr} {pos : Pos} {wi : TI} {g : TG} {tc : TT} {te : TE} (own : List Str) (fr : List Nat) (hc : X.calm = true) (hi : PI X tg iter wi)
    (hg : ∀ cl C s₀ H₀ fp, PG (cxC X own fr scope cl C s₀ H₀ fp) tg g) (hq : ∀ cl C s₀ H₀ fp, PF (cxC X own fr scope cl C s₀ H₀ fp) ifs tc) (he : ∀ cl C s₀ H₀ fp, PE (cxC X own fr scope cl C s₀ H₀ fp) elt te)
    (hk : scope.kind = .function) (hnm : ∀ y ∈ scope.names, scope.names.lookup y.1 = some y.2)
    (hfree : ∀ x ∈ scope.names, x.2 = .free → (X.env.kindOf x.1 = some .cell ∨ X.env.kindOf x.1 = some .free)) (hfr : ∀ i ∈ fr, ∃ x, X.N[i]? = some x ∧ scope.names.lookup x = some .free)
    (hs : ∀ x, foldedSetIterable iter X.env x = pure x := by intro _; rfl) : PE X (.ListComp elt [⟨tg, iter, ifs, 0⟩] scope pos) (tLC own.length fr wi g tc te) := by
  intro pins s σ H Q I h
  rw [eval_ListComp]
  have hclos : closureFor scope X.env = pure (clFrom X.env.cells scope.names []) := closure_eq fun x hx e => I.ok.has x.1 (hfree x hx e)
  refine wpAny_comprehension_free (use := none) rfl hs hclos hk (fun x hx e => by rw [hnm x hx, e]) ?_
  show wpAny _ _ (eval iter X.env) _ _ s
  refine thn (hi pins s σ H _ I h) fun v s1 h1 => thn h1 fun itv s2 h2 => ?_
  refine lc_core (RR := fun acc C => compPost (model X.prog X.w) X.A X.xe none (EP X pins σ Q) acc C) own fr hc hg hq he hk hnm hfree hfr h2 fun ys H3 D C s4 q w => ?_
  obtain ⟨m, hn⟩ := w.own
  exact ⟨m, hn, fun h' sb => ⟨.ref D, _, w.gone sb, rfl, q D w.free⟩⟩
theorem ps_setLC {elt tg iter : Expr} {ifs : List Expr} {pos spos py : Pos} {wi : TI} {g : TG} {tc : TT} {te : TE} {y : Str} {i : Nat} (own : List Str) (fr : List Nat) (hN : X.N.Nodup) (hiN : X.N[i]? = some y) (hy : X.env.scope.names.lookup y = some .local) (hc : X.calm = true) (hi : PI X tg iter wi)
    (hsw : swapsWith (.ListComp elt [⟨tg, iter, ifs, 0⟩] scope pos) (some (.Name y py)) spos.line X.env = pure true)
    (hg : ∀ cl C s₀ H₀ fp, PG (cxC X own fr scope cl C s₀ H₀ fp) tg g) (hq : ∀ cl C s₀ H₀ fp, PF (cxC X own fr scope cl C s₀ H₀ fp) ifs tc) (he : ∀ cl C s₀ H₀ fp, PE (cxC X own fr scope cl C s₀ H₀ fp) elt te)
    (hk : scope.kind = .function) (hnm : ∀ y ∈ scope.names, scope.names.lookup y.1 = some y.2)
    (hfree : ∀ x ∈ scope.names, x.2 = .free → (X.env.kindOf x.1 = some .cell ∨ X.env.kindOf x.1 = some .free)) (hfr : ∀ i ∈ fr, ∃ x, X.N[i]? = some x ∧ scope.names.lookup x = some .free)
    (hs : ∀ x, foldedSetIterable iter X.env x = pure x := by intro _; rfl) : PS X (.Assign [.Name y py] (.ListComp elt [⟨tg, iter, ifs, 0⟩] scope pos) spos) (tAsg (tLC own.length fr wi g tc te) (gName i)) := by
  intro pins s σ H E I h
  rw [exec_Assign_Name_used _ _ _ _ hsw]
  refine wpAny_bind (wpAny_standAt (wpAny_bind ?_))
  have hclos : closureFor scope X.env = pure (clFrom X.env.cells scope.names []) := closure_eq fun x hx e => I.ok.has x.1 (hfree x hx e)
  show wpAny _ X.A (do let _ ← comprehension (.ListComp elt [⟨tg, iter, ifs, 0⟩] scope pos) scope X.env _ (newList []) false (eval iter X.env) (some (assign (.Name y py) X.env))) _ _ s
  refine wpAny_bind (wpAny_mono (wpAny_comprehension_free (use := some (assign (.Name y py) X.env)) (Q := fun _ s' => SP X pins E .next s') rfl hs hclos hk (fun x hx e => by rw [hnm x hx, e]) ?_) (fun _ s' hq => wpAny_pure (wpAny_pure hq)) fun _ _ e => e)
  show wpAny _ _ (eval iter X.env) _ _ s
  refine thn (hi pins s σ H _ I h) fun v s1 h1 => thn h1 fun itv s2 h2 => ?_
  refine lc_core (RR := fun acc C => compPost (model X.prog X.w) X.A X.xe (some (assign (.Name y py) X.env)) (fun _ s' => SP X pins E .next s') acc C) own fr hc hg hq he hk hnm hfree hfr h2 fun ys H3 D C s4 q w => ?_
  show wpAny _ X.A (assign (.Name y py) X.env (.ref D)) _ _ s4
  obtain ⟨m, hn⟩ := w.own
  refine wpAny_assign_Name (store_ok2 (v := V.ref D) w.inv hN hiN (.inl hy) rfl (fun s5 I5 ⟨a, sb, ha⟩ => ?_) (.inr hy))
  have haC : C ≠ a := by
    rcases ha with e | e
    · rw [e]; exact w.notL
    · exact Ne.symm (w.notCell y a e)
  refine ⟨m, hn.sameBut sb haC, fun h' sb' => ?_⟩
  refine ⟨_, _, I5.turned (t' := s5.toks) (fun b o hb e => (sb'.2 b hb).trans e) w.freeC w.notL (.inr w.young) w.notCell w.notPin, q D w.free⟩
end
end M
set_option Elab.async false
set_option linter.all false
set_option maxRecDepth 100000
set_option autoImplicit false
namespace M
open PySem PySem.Spec PyProof.Rows L2
section
variable {K : PySem.W.Frag} {ρ ρ1 : List Addr} {H H1 : Hp}
theorem OutOk.ext {W : XK} {E : Ends} {o : Out} (h : OutOk K W ρ H E o) (x : Ext ρ H ρ1 H1) : OutOk K W ρ1 H1 E o := by
  cases o with
  | next δ μ => exact fun ρ' σ' H' x' A => h ρ' σ' H' (x.trans x') A
  | brk δ μ => exact fun ρ' σ' H' x' A => h ρ' σ' H' (x.trans x') A
  | cont δ μ => exact fun ρ' σ' H' x' A => h ρ' σ' H' (x.trans x') A
  | ret d μ => exact fun ρ' v H' x' R r => h ρ' v H' (x.trans x') R r
  | exc c fs μ => exact fun ρ' H' C dx hc x' R r => h ρ' H' C dx hc (x.trans x') R r
theorem At.set {σ : L2.St} {δ : Loc} {μ : Mem} {d : D} {v : V} (A : At K ρ H σ δ μ) (r : RepV K ρ H d v) (i : Nat) : At K ρ H (σ.set i (some v)) (δ.set i (some d)) μ := by
  refine ⟨fun j d' e => ?_, A.hp, by simp [A.len]⟩
  by_cases hj : j = i
  · subst hj
    have hl : j < δ.length := by
      have := (List.getElem?_eq_some_iff.mp e).1
      simpa using this
    rw [List.getElem?_set_self hl] at e
    cases e
    exact ⟨v, by rw [List.getElem?_set_self (by rw [A.len]; exact hl)], r⟩
  · rw [List.getElem?_set_ne (Ne.symm hj)] at e
    obtain ⟨u, e1, q⟩ := A.st j d' e
    exact ⟨u, by rw [List.getElem?_set_ne (Ne.symm hj)]; exact e1, q⟩
end
section
variable {X : Cx} {a b c e : Expr} {es : List Expr} {φ ψ χ : FE} {pos : Pos} {st : Stmt} {rest : List Stmt}
@[simp] noncomputable def sSkip : FS := fun δ μ => some (.next δ μ)
@[simp] noncomputable def sSeq (p q : FS) : FS := fun δ μ => match p δ μ with
  | some (.next δ' μ') => q δ' μ'
  | o => o
theorem mss_nil : MSs X [] sSkip := mss_of pss_nil fun ρ δ μ σ H o E A e k => by
  cases e
  exact k ρ σ H Ext.refl A
theorem mss_one {p : FS} (h : MS X st p) : MSs X [st] p := pss_one h
theorem mss_cons {p q : FS} (h1 : MS X st p) (h2 : MSs X rest q) : MSs X (st :: rest) (sSeq p q) :=
  mss_of (pss_cons h1 h2) fun ρ δ μ σ H o E A e k => by
    unfold sSeq at e
    show tMS X.K (wishX X) p { E with nx := tMS X.K (wishX X) q E } σ H
    cases ep : p δ μ with
    | none => rw [ep] at e; cases e
    | some op =>
      rw [ep] at e
      refine ⟨ρ, δ, μ, op, A, ep, ?_⟩
      cases op with
      | next δ' μ' => exact fun ρ' σ' H' x' A' => ⟨ρ', δ', μ', o, A', e, k.ext x'⟩
      | brk δ' μ' => cases e; exact k
      | cont δ' μ' => cases e; exact k
      | ret d μ' => cases e; exact k
      | exc C fs μ' => cases e; exact k
@[simp] noncomputable def sRet (φ : FE) : FS := fun δ μ => (φ δ μ).bind fun p => some (.ret p.1 p.2)
theorem ms_ret (h : ME X e φ) : MS X (.Return (some e) pos) (sRet φ) := ms_of (ps_ret h) fun ρ δ μ σ H o E A e k => by
  obtain ⟨⟨x, μ1⟩, e1, e⟩ := bind_inv e
  cases e
  exact ⟨ρ, δ, μ, x, μ1, A, e1, fun ρ' H' v x' R r => k ρ' v H' x' R r⟩
@[simp] noncomputable def sExpr (φ : FE) : FS := fun δ μ => (φ δ μ).bind fun p => some (.next δ p.2)
theorem ms_expr (h : ME X e φ) (hs : swapsWith e none pos.line X.env = pure false := by rfl) : MS X (.Expr e pos) (sExpr φ) := ms_of (ps_expr h hs) fun ρ δ μ σ H o E A e k => by
  obtain ⟨⟨x, μ1⟩, e1, e⟩ := bind_inv e
  cases e
  exact ⟨ρ, δ, μ, x, μ1, A, e1, fun ρ' H' v x' R r => k ρ' σ H' x' (A.ext x' R)⟩
@[simp] noncomputable def sSet (i : Nat) (φ : FE) : FS := fun δ μ => (φ δ μ).bind fun p => some (.next (δ.set i (some p.1)) p.2)
theorem ms_set {x : Str} {pos' : Pos} (i : Nat) (he : ME X e φ) (hN : X.N.Nodup := by first | assumption | decide) (hi : X.N[i]? = some x := by rfl) (hx : L2.Loc X.env.scope x := by first | exact Or.inl rfl | exact Or.inr rfl) (hs : swapsWith e (some (.Name x pos')) pos.line X.env = pure false := by rfl)
    (hf : X.fn x = true ∨ X.env.scope.names.lookup x = some .local := by first | exact .inl rfl | exact .inr rfl | assumption) : MS X (.Assign [.Name x pos'] e pos) (sSet i φ) := ms_of (ps_set hN hi hx he hs hf) fun ρ δ μ σ H o E A e k => by
  obtain ⟨⟨x, μ1⟩, e1, e⟩ := bind_inv e
  cases e
  exact ⟨ρ, δ, μ, x, μ1, A, e1, fun ρ' H' v x' R r => k ρ' _ H' x' ((A.ext x' R).set r i)⟩
@[simp] noncomputable def sIf (c : FT) (p q : FS) : FS := fun δ μ => (c δ μ).bind fun t => bif t.1 then p δ t.2 else q δ t.2
theorem ms_if {s1 s2 : List Stmt} {t : FT} {p q : FS} (hc : MT X c t) (h1 : MSs X s1 p) (h2 : MSs X s2 q) : MS X (.If c s1 s2 pos) (sIf t p q) := ms_of (ps_if hc h1 h2) fun ρ δ μ σ H o E A e k => by
  obtain ⟨⟨x, μ1⟩, e1, e⟩ := bind_inv e
  refine ⟨ρ, δ, μ, x, μ1, A, e1, fun ρ' H' x' R => ?_⟩
  cases x with
  | true => exact iteT ⟨ρ', δ, μ1, o, A.ext x' R, e, k.ext x'⟩
  | false => exact iteF ⟨ρ', δ, μ1, o, A.ext x' R, e, k.ext x'⟩
noncomputable abbrev FG := D → Loc → Mem → Option (Loc × Mem)
noncomputable abbrev FGs := List D → Loc → Mem → Option (Loc × Mem)
noncomputable def tMG (K : PySem.W.Frag) (g : FG) : TG := fun v σ H Q => ∃ ρ δ μ d δ' μ', At K ρ H σ δ μ ∧ RepV K ρ H d v ∧ g d δ μ = some (δ', μ') ∧ ∀ ρ' σ' H', Ext ρ H ρ' H' → At K ρ' H' σ' δ' μ' → Q σ' H'
noncomputable def tMGs (K : PySem.W.Frag) (g : FGs) : TGs := fun vs σ H Q => ∃ ρ δ μ ds δ' μ', At K ρ H σ δ μ ∧ RepVs K ρ H ds vs ∧ g ds δ μ = some (δ', μ') ∧ ∀ ρ' σ' H', Ext ρ H ρ' H' → At K ρ' H' σ' δ' μ' → Q σ' H'
noncomputable def MG (X : Cx) (t : Expr) (g : FG) : Prop := PG X t (tMG X.K g)
noncomputable def MGs (X : Cx) (t : List Expr) (g : FGs) : Prop := PGs X t (tMGs X.K g)
theorem mg_of {t : Expr} {tt : TG} {g : FG} (h : PG X t tt) (w : ∀ ρ δ μ d δ' μ' v σ H Q, At X.K ρ H σ δ μ → RepV X.K ρ H d v → g d δ μ = some (δ', μ') → (∀ ρ' σ' H', Ext ρ H ρ' H' → At X.K ρ' H' σ' δ' μ' → Q σ' H') → tt v σ H Q) : MG X t g :=
  by intro pins s σ H v u Q I r hh; obtain ⟨ρ, δ, μ, d, δ', μ', A, q, e, k⟩ := hh; exact h pins s σ H v u Q I r (w ρ δ μ d δ' μ' v σ H Q A q e k)
theorem mgs_of {t : List Expr} {tt : TGs} {g : FGs} (h : PGs X t tt) (w : ∀ ρ δ μ d δ' μ' v σ H Q, At X.K ρ H σ δ μ → RepVs X.K ρ H d v → g d δ μ = some (δ', μ') → (∀ ρ' σ' H', Ext ρ H ρ' H' → At X.K ρ' H' σ' δ' μ' → Q σ' H') → tt v σ H Q) : MGs X t g :=
  by intro pins s σ H v u Q I r hh; obtain ⟨ρ, δ, μ, d, δ', μ', A, q, e, k⟩ := hh; exact h pins s σ H v u Q I r (w ρ δ μ d δ' μ' v σ H Q A q e k)
@[simp] noncomputable def gN (i : Nat) : FG := fun d δ μ => some (δ.set i (some d), μ)
theorem mg_name {x : Str} (i : Nat) (hN : X.N.Nodup := by first | assumption | decide) (hi : X.N[i]? = some x := by rfl) (hx : L2.Loc X.env.scope x := by first | exact Or.inl rfl | exact Or.inr rfl) (hf : X.fn x = true ∨ X.env.scope.names.lookup x = some .local := by first | exact .inl rfl | exact .inr rfl | assumption) : MG X (.Name x pos) (gN i) :=
  mg_of (pg_name hN hi hx hf) fun ρ δ μ d δ' μ' v σ H Q A q e k => by
    cases e
    exact k ρ _ H Ext.refl (A.set q i)
@[simp] noncomputable def gsNil : FGs := fun ds δ μ => match ds with
  | [] => some (δ, μ)
  | _ => none
@[simp] noncomputable def gsCons (g : FG) (gs : FGs) : FGs := fun ds δ μ => match ds with
  | d :: r => (g d δ μ).bind fun p => gs r p.1 p.2
  | _ => none
theorem mgs_nil : MGs X [] gsNil := mgs_of pgs_nil fun ρ δ μ ds δ' μ' vs σ H Q A q e k => by
  unfold gsNil at e
  split at e
  · cases e
    exact ⟨q.nil_inv, k ρ σ H Ext.refl A⟩
  · cases e
theorem mgs_cons {g : FG} {gs : FGs} (h1 : MG X e g) (h2 : MGs X es gs) (hs : (assignEach (e :: es) X.env).map (·.2) = assign e X.env :: (assignEach es X.env).map (·.2) := by rfl) : MGs X (e :: es) (gsCons g gs) :=
  mgs_of (pgs_cons h1 h2 hs) fun ρ δ μ ds δ' μ' vs σ H Q A q e k => by
    unfold gsCons at e
    split at e
    · obtain ⟨⟨δ1, μ1⟩, e1, e⟩ := bind_inv e
      obtain ⟨v, r, rfl, q1, q2⟩ := q.cons_inv
      refine ⟨v, r, rfl, ρ, δ, μ, _, δ1, μ1, A, q1, e1, fun ρ1 σ1 H1 x1 A1 => ?_⟩
      exact ⟨ρ1, δ1, μ1, _, δ', μ', A1, q2.ext x1, e, fun ρ2 σ2 H2 x2 A2 => k ρ2 σ2 H2 (x1.trans x2) A2⟩
    · cases e
@[simp] noncomputable def gT (n : Nat) (gs : FGs) : FG := fun d δ μ => match d with
  | .tup ds => bif ds.length == n then gs ds δ μ else none
  | _ => none
theorem mg_tup {k n : Nat} {gs : FGs} (h : MGs X es gs) (hc : X.calm = true := by rfl) (hn : (assignEach es X.env).length = n := by rfl) (hst : (assignEach es X.env).findIdx? (·.1) = none := by rfl) : MG X (.Tuple es k pos) (gT n gs) :=
  mg_of (pg_tup hc h hn hst) fun ρ δ μ d δ' μ' v σ H Q A q e k => by
    unfold gT at e
    split at e
    · obtain ⟨h1, e⟩ := bif_inv e
      obtain ⟨a, vs, rfl, e2, q2⟩ := q.tup_inv
      exact ⟨a, vs, rfl, SqT.of e2, by rw [← q2.length]; exact beq_iff_eq.mp h1, ρ, δ, μ, _, δ', μ', A, q2, e, k⟩
    · cases e
@[simp] noncomputable def gAt (φ ψ : FE) : FG := fun d δ μ => (φ δ μ).bind fun p => (ψ δ p.2).bind fun q => match p.1, q.1 with
  | .loc n, .int i => match q.2[n]? with
    | some (.lst ds) => (ixN ds.length i).bind fun j => some (δ, q.2.set n (.lst (ds.set j d)))
    | _ => none
  | _, _ => none
theorem mg_at {o i : Expr} (ho : ME X o φ) (hi : ME X i ψ) (ha : ∀ v, assign (.Subscript o i pos) X.env v = (do
      let ov ← holding [v] (eval o X.env)
      let iv ← holding [v, ov] (eval i X.env)
      standAt pos
      holding [v, ov, iv] (setItem ov iv v)
      release [v, ov, iv] []) := by intro _; rfl) : MG X (.Subscript o i pos) (gAt φ ψ) :=
  mg_of (pg_sub ho hi set_list ha) fun ρ δ μ d δ' μ' v σ H Q A q e k => by
    obtain ⟨⟨x, μ1⟩, e1, e⟩ := bind_inv e
    obtain ⟨⟨y, μ2⟩, e2, e⟩ := bind_inv e
    refine ⟨ρ, δ, μ, x, μ1, A, e1, fun ρ1 H1 v1 x1 R1 r1 => ?_⟩
    refine ⟨ρ1, δ, μ1, y, μ2, A.ext x1 R1, e2, fun ρ2 H2 v2 x2 R2 r2 => ?_⟩
    dsimp only at e
    split at e
    · split at e
      · rename_i hm
        obtain ⟨j, e3, e⟩ := bind_inv e
        cases e
        obtain ⟨ad, rfl, hr⟩ := (r1.ext x2).loc_inv
        obtain ⟨vs, hv, q3⟩ := R2.at_ _ _ _ hr hm
        have hmu : Mut (H2 ad) := by rw [hv]; trivial
        refine ⟨ad, vs, _, j, rfl, r2.int_inv, hv, by rw [← q3.length]; exact e3, ?_⟩
        have xx := x1.trans x2
        have R3 := R2.wr (o := .lst (vs.set j v)) (lo := .lst _) hmu hr ⟨_, upd_same, RepVs.ext (Ext.wr hmu) (q3.set j (q.ext xx))⟩
        exact k ρ2 σ _ (xx.trans (Ext.wr hmu)) (A.ext (xx.trans (Ext.wr hmu)) R3)
      · cases e
    · cases e
@[simp] noncomputable def sAsg (φ : FE) (g : FG) : FS := fun δ μ => (φ δ μ).bind fun p => (g p.1 δ p.2).bind fun q => some (.next q.1 q.2)
theorem ms_asg {tg : Expr} {g : FG} (he : ME X e φ) (hg : MG X tg g) (hs : swapsWithSole [tg] e pos.line X.env = pure false := by rfl) (hw : swappedStores [tg] e X.env = pure none := by rfl)
    (h1 : (assignEach [tg] X.env).map (·.2) = [assign tg X.env] := by rfl) : MS X (.Assign [tg] e pos) (sAsg φ g) := ms_of (ps_asg he hg hs hw h1) fun ρ δ μ σ H o E A e k => by
  obtain ⟨⟨x, μ1⟩, e1, e⟩ := bind_inv e
  obtain ⟨⟨δ1, μ2⟩, e2, e⟩ := bind_inv e
  cases e
  refine ⟨ρ, δ, μ, x, μ1, A, e1, fun ρ1 H1 v1 x1 R1 r1 => ?_⟩
  exact ⟨ρ1, δ, μ1, x, δ1, μ2, A.ext x1 R1, r1, e2, fun ρ2 σ2 H2 x2 A2 => k ρ2 σ2 H2 (x1.trans x2) A2⟩
noncomputable abbrev FI := Loc → Mem → Option (List D × (Mem → Bool) × Mem)
structure ItIs (K : PySem.W.Frag) (J : It) (ρ : List Addr) (H : Hp) (ds : List D) (ok : Mem → Bool) : Prop where
  go : ∀ ρ' H' μ' (i : Nat), Ext ρ H ρ' H' → RepH K ρ' H' μ' → ok μ' = true → i < ds.length → J.go i H'
  yld : ∀ ρ' H' μ' (i : Nat) x H'' d, Ext ρ H ρ' H' → RepH K ρ' H' μ' → ok μ' = true → ds[i]? = some d → J.yld i H' x H'' → Ext ρ' H' ρ' H'' ∧ RepH K ρ' H'' μ' ∧ RepV K ρ' H'' d x
  stop : ∀ ρ' H' μ', Ext ρ H ρ' H' → RepH K ρ' H' μ' → ok μ' = true → J.stop ds.length H'
noncomputable def tMI (K : PySem.W.Frag) (φ : FI) : TI := fun σ H R => ∃ ρ δ μ ds ok μ', At K ρ H σ δ μ ∧ φ δ μ = some (ds, ok, μ') ∧ ∀ ρ' H' J, Ext ρ H ρ' H' → RepH K ρ' H' μ' → ItIs K J ρ' H' ds ok → R J H'
noncomputable def MI (X : Cx) (tg iter : Expr) (φ : FI) : Prop := PI X tg iter (tMI X.K φ)
theorem mi_of {tg it : Expr} {t : TI} {φ : FI} (h : PI X tg it t) (w : ∀ ρ δ μ σ H ds ok μ' R, At X.K ρ H σ δ μ → φ δ μ = some (ds, ok, μ') → (∀ ρ' H' J, Ext ρ H ρ' H' → RepH X.K ρ' H' μ' → ItIs X.K J ρ' H' ds ok → R J H') → t σ H R) : MI X tg it φ :=
  by intro pins s σ H R I hh; obtain ⟨ρ, δ, μ, ds, ok, μ', A, e, k⟩ := hh; exact h pins s σ H R I (w ρ δ μ σ H ds ok μ' R A e k)
@[simp] noncomputable def yes : Mem → Bool := fun _ => true
@[simp] noncomputable def iRange (φ : FA) : FI := fun δ μ => (φ δ μ).bind fun p => match p.1 with
  | [.int j] => bif decide (-(2 ^ 62) ≤ j ∧ j < 2 ^ 62) then some ((List.range j.toNat).map fun (k : Nat) => .int k, yes, p.2) else none
  | _ => none
theorem mi_range {tg : Expr} {p : Pos} {φ : FA} (hm : X.mg "range" = none) (ha : MAn X [a] φ) (hg : Gl X "range" := by rfl) (hs : starEach [a] X.env = [(false, eval a X.env)] := by rfl) : MI X tg (.Call (.Name "range" p) [a] [] pos) (iRange φ) :=
  mi_of (pi_range1 hg hm ha.ma hs) fun ρ δ μ σ H ds ok μ' R A e k => by
    obtain ⟨⟨x, μ1⟩, e1, e⟩ := bind_inv e
    refine ⟨ρ, δ, μ, x, μ1, A, e1, fun ρ1 H1 v1 x1 R1 r1 => ?_⟩
    dsimp only at e
    split at e
    · rename_i j
      obtain ⟨h1, e⟩ := bif_inv e
      have h2 := of_decide_eq_true h1
      cases e
      obtain ⟨w, r, rfl, q1, q2⟩ := r1.cons_inv
      refine ⟨j, by rw [q1.int_inv, q2.nil_inv], h2.1, h2.2, k ρ1 H1 _ x1 R1 ⟨fun ρ' H' μ' i _ _ _ h => by rw [List.length_map, List.length_range] at h; exact h, fun ρ' H' μ' i x H'' d _ RR _ e ⟨y1, y2⟩ => ⟨y1 ▸ Ext.refl, y1 ▸ RR, ?_⟩, fun ρ' H' μ' _ _ _ => by show j.toNat ≤ _; simp⟩⟩
      rw [List.getElem?_map] at e
      cases e3 : (List.range j.toNat)[i]? with
      | none => rw [e3] at e; cases e
      | some m =>
        rw [e3] at e
        have hmi : m = i := by
          obtain ⟨w1, w2⟩ := List.getElem?_eq_some_iff.mp e3
          simpa using w2.symm
        subst hmi
        have e' : D.int (m : Nat) = d := Option.some.inj e
        subst e'
        rw [y2, show (0 : Int) + (m : Nat) = (m : Int) by omega]
        exact .int
    · cases e
theorem itt_is {K : PySem.W.Frag} {ρ : List Addr} {H : Hp} {a : Addr} {vs : List V} {ds : List D} (h : H a = some (.tup vs)) (r : RepVs K ρ H ds vs) : ItIs K (Itt K a) ρ H ds yes := by
  refine ⟨fun ρ' H' μ' i x R _ hi => ?_, fun ρ' H' μ' i x H'' d x' R _ e ⟨y1, y2⟩ => ⟨y1 ▸ Ext.refl, y1 ▸ R, y1 ▸ ?_⟩, fun ρ' H' μ' x R _ => ⟨vs, SqT.of (x.tup _ _ h), by rw [r.length]; exact Nat.le_refl _⟩⟩
  · have hi' : i < vs.length := by rw [← r.length]; exact hi
    exact ⟨vs, vs[i], SqT.of (x.tup _ _ h), by simp [hi']⟩
  · have q := y2 vs (SqT.of (x'.tup _ _ h))
    obtain ⟨w, e1, rr⟩ := (r.ext x').get e
    rw [q] at e1; cases e1
    exact rr
@[simp] noncomputable def iTuple (φ : FE) : FI := fun δ μ => (φ δ μ).bind fun p => match p.1 with
  | .tup ds => some (ds, yes, p.2)
  | _ => none
theorem mi_tup {tg : Expr} (h : ME X a φ) : MI X tg a (iTuple φ) :=
  mi_of (pi_tup h) fun ρ δ μ σ H ds ok μ' R A e k => by
    obtain ⟨⟨x, μ1⟩, e1, e⟩ := bind_inv e
    refine ⟨ρ, δ, μ, x, μ1, A, e1, fun ρ1 H1 v1 x1 R1 r1 => ?_⟩
    dsimp only at e
    split at e
    · cases e
      obtain ⟨a, vs, rfl, e2, q2⟩ := r1.tup_inv
      exact ⟨a, rfl, ⟨vs, SqT.of e2⟩, k ρ1 H1 _ x1 R1 (itt_is e2 q2)⟩
    · cases e
noncomputable def stays (n : Nat) (ds : List D) : Mem → Bool := fun μ => @decide (μ[n]? = some (.lst ds)) (Classical.propDecidable _)
theorem stays_iff {n : Nat} {ds : List D} {μ : Mem} : stays n ds μ = true ↔ μ[n]? = some (.lst ds) := by
  unfold stays
  exact @decide_eq_true_iff _ (Classical.propDecidable _)
noncomputable def iList (φ : FE) : FI := fun δ μ => (φ δ μ).bind fun p => match p.1 with
  | .fz ds => some (ds, yes, p.2)
  | .loc n => match p.2[n]? with
    | some (.lst ds) => some (ds, stays n ds, p.2)
    | _ => none
  | _ => none
theorem itl_is {K : PySem.W.Frag} {ρ : List Addr} {H : Hp} {a : Addr} {ds : List D} {ok : Mem → Bool} (h : ∀ ρ' H' μ', Ext ρ H ρ' H' → RepH K ρ' H' μ' → ok μ' = true → ∃ vs, SqL K H' a vs ∧ RepVs K ρ' H' ds vs) : ItIs K (Itl K a) ρ H ds ok := by
  refine ⟨fun ρ' H' μ' i x R o hi => ?_, fun ρ' H' μ' i x H'' d x' R o e ⟨y1, y2⟩ => ⟨y1 ▸ Ext.refl, y1 ▸ R, y1 ▸ ?_⟩, fun ρ' H' μ' x R o => ?_⟩
  · obtain ⟨vs, s, r⟩ := h ρ' H' μ' x R o
    have hi' : i < vs.length := by rw [← r.length]; exact hi
    exact ⟨vs, vs[i], s, by simp [hi']⟩
  · obtain ⟨vs, s, r⟩ := h ρ' H' μ' x' R o
    have q := y2 vs s
    obtain ⟨w, e1, rr⟩ := r.get e
    rw [q] at e1; cases e1
    exact rr
  · obtain ⟨vs, s, r⟩ := h ρ' H' μ' x R o
    exact ⟨vs, s, by rw [r.length]; exact Nat.le_refl _⟩
theorem mi_list {tg : Expr} (h : ME X a φ) : MI X tg a (iList φ) :=
  mi_of (pi_list h) fun ρ δ μ σ H ds ok μ' R A e k => by
    obtain ⟨⟨x, μ1⟩, e1, e⟩ := bind_inv e
    refine ⟨ρ, δ, μ, x, μ1, A, e1, fun ρ1 H1 v1 x1 R1 r1 => ?_⟩
    dsimp only at e
    split at e
    · cases e
      obtain ⟨a, vs, rfl, e2, q2⟩ := r1.fz_inv
      exact ⟨a, rfl, ⟨vs, e2.sq⟩, k ρ1 H1 _ x1 R1 (itl_is fun ρ' H' μ' x _ _ => ⟨vs, (x.fz e2).sq, q2.ext x⟩)⟩
    · split at e
      · rename_i hm
        cases e
        obtain ⟨a, rfl, e2⟩ := r1.loc_inv
        obtain ⟨vs, e3, q3⟩ := R1.at_ _ _ _ e2 hm
        refine ⟨a, rfl, ⟨vs, SqL.of e3⟩, k ρ1 H1 _ x1 R1 (itl_is fun ρ' H' μ'' x R' o => ?_)⟩
        obtain ⟨vs', e4, q4⟩ := R'.at_ _ _ _ (x.get e2) (stays_iff.mp o)
        exact ⟨vs', SqL.of e4, q4⟩
      · cases e
    · cases e
noncomputable def forIt (g : FG) (body : FS) (ok : Mem → Bool) : List D → FS
  | [], δ, μ => bif ok μ then some (.next δ μ) else none
  | x :: xs, δ, μ => bif ok μ then (g x δ μ).bind fun p => match body p.1 p.2 with
    | some (.next δ' μ') => forIt g body ok xs δ' μ'
    | some (.cont δ' μ') => forIt g body ok xs δ' μ'
    | some (.brk δ' μ') => some (.next δ' μ')
    | some (.ret d μ') => some (.ret d μ')
    | some (.exc C fs μ') => some (.exc C fs μ')
    | none => none
    else none
@[simp] noncomputable def sFor (i : FI) (g : FG) (body : FS) : FS := fun δ μ => (i δ μ).bind fun p => forIt g body p.2.1 p.1 δ p.2.2
theorem ms_for {tg iter : Expr} {body : List Stmt} {i : FI} {g : FG} {p : FS} (hi : MI X tg iter i) (hg : MG X tg g) (hb : MSs X body p) (hx : PassesOwn (model X.prog X.w) X.A X.env X.xe := by first | exact PassesOwn.never | exact PassesOwn.leaving) (hc : X.calm = true := by rfl)
    (hs : ∀ x, foldedSetIterable iter X.env x = pure x := by intro _; rfl) : MS X (.For tg iter body [] pos) (sFor i g p) :=
  ms_of (ps_for hx hc hi hg hb hs) fun ρ δ μ σ H o E A e k => by
    obtain ⟨⟨ds, ok, μ1⟩, e1, e⟩ := bind_inv e
    refine ⟨ρ, δ, μ, ds, ok, μ1, A, e1, fun ρ1 H1 J x1 R1 II => ?_⟩
    refine ⟨fun i m σ' H' => ∃ ρ' δ' μ', Ext ρ1 H1 ρ' H' ∧ At X.K ρ' H' σ' δ' μ' ∧ i ≤ ds.length ∧ m = ds.length - i ∧ forIt g p ok (ds.drop i) δ' μ' = some o, ⟨_, ρ1, δ, μ1, Ext.refl, A.ext x1 R1, Nat.zero_le _, rfl, e⟩, ?_⟩
    rintro i m σ' H' ⟨ρ', δ', μ', x', A', hi, rfl, ef⟩
    by_cases hlt : i < ds.length
    · right
      have hd : ds.drop i = ds[i] :: ds.drop (i + 1) := List.drop_eq_getElem_cons hlt
      rw [hd] at ef
      unfold forIt at ef
      obtain ⟨hok, ef⟩ := bif_inv ef
      obtain ⟨⟨δ2, μ2⟩, e2, ef⟩ := bind_inv ef
      refine ⟨II.go ρ' H' μ' i x' A'.hp hok hlt, fun σ3 H3 => ∃ ρ3 δ3 μ3, Ext ρ1 H1 ρ3 H3 ∧ At X.K ρ3 H3 σ3 δ3 μ3 ∧ forIt g p ok (ds.drop (i + 1)) δ3 μ3 = some o, fun σ3 H3 ⟨ρ3, δ3, μ3, x3, A3, e3⟩ => ⟨ds.length - (i + 1), by omega, ρ3, δ3, μ3, x3, A3, hlt, rfl, e3⟩, fun x H'' y => ?_⟩
      obtain ⟨xe, Re, rx⟩ := II.yld ρ' H' μ' i x H'' ds[i] x' A'.hp hok (by simp [hlt]) y
      have x' := x'.trans xe
      refine ⟨ρ', δ', μ', ds[i], δ2, μ2, A'.ext xe Re, rx, e2, fun ρ4 σ4 H4 x4 A4 => ?_⟩
      cases eb : p δ2 μ2 with
      | none => rw [eb] at ef; cases ef
      | some ob =>
        rw [eb] at ef
        refine ⟨ρ4, δ2, μ2, ob, A4, eb, ?_⟩
        have x5 := x'.trans x4
        cases ob with
        | next δ6 μ6 => exact fun ρ6 σ6 H6 x6 A6 => ⟨ρ6, δ6, μ6, x5.trans x6, A6, ef⟩
        | cont δ6 μ6 => exact fun ρ6 σ6 H6 x6 A6 => ⟨ρ6, δ6, μ6, x5.trans x6, A6, ef⟩
        | brk δ6 μ6 => cases ef; exact (k.ext x1).ext x5
        | ret d μ6 => cases ef; exact (k.ext x1).ext x5
        | exc C fs μ6 => cases ef; exact (k.ext x1).ext x5
    · left
      have e0 : i = ds.length := by omega
      subst e0
      rw [List.drop_length] at ef
      unfold forIt at ef
      obtain ⟨hok, ef⟩ := bif_inv ef
      cases ef
      exact ⟨II.stop ρ' H' μ' x' A'.hp hok, k ρ' σ' H' (x1.trans x') A'⟩
end
noncomputable def lcIt (g : FG) (c : FT) (φ : FE) (ok : Mem → Bool) (δ : Loc) : List D → List D → Mem → Option (D × Mem)
  | [], ys, μ => bif ok μ then some (.loc μ.length, μ ++ [.lst ys]) else none
  | x :: xs, ys, μ => bif ok μ then (g x δ μ).bind fun p => (c p.1 p.2).bind fun t => bif t.1 then (φ p.1 t.2).bind fun q => lcIt g c φ ok δ xs (ys ++ [q.1]) q.2 else lcIt g c φ ok δ xs ys t.2 else none
@[simp] noncomputable def δC (n : Nat) (fr : List Nat) (δ : Loc) : Loc := List.replicate n none ++ fr.map fun i => (δ[i]?).getD none
@[simp] noncomputable def few (ds : List D) : Bool := decide (ds.length ≤ 1000000)
@[simp] noncomputable def fLC (n : Nat) (fr : List Nat) (i : FI) (g : FG) (c : FT) (φ : FE) : FE := fun δ μ => (i δ μ).bind fun p => bif few p.1 then lcIt g c φ p.2.1 (δC n fr δ) p.1 [] p.2.2 else none
noncomputable def MF (X : Cx) (ifs : List Expr) (c : FT) : Prop := PF X ifs (tMT X.K c)
@[simp] noncomputable def cYes : FT := fun _ μ => some (true, μ)
theorem mf_nil {X : Cx} : MF X [] cYes := by intro pins s σ H Q I hh; obtain ⟨ρ, δ, μ, b, μ', A, e, k⟩ := hh; exact pf_nil pins s σ H Q I (by cases e; exact k ρ H Ext.refl A.hp)
theorem mf_one {X : Cx} {e : Expr} {c : FT} (h : MT X e c) : MF X [e] c := pf_one h
theorem At.δC {K : PySem.W.Frag} {ρ : List Addr} {H : Hp} {σ : L2.St} {δ : Loc} {μ : Mem} (A : At K ρ H σ δ μ) (n : Nat) (fr : List Nat) : At K ρ H (σC n fr σ) (M.δC n fr δ) μ := by
  refine ⟨fun i d e => ?_, A.hp, by unfold σC M.δC; simp⟩
  unfold M.δC at e
  unfold σC
  by_cases hi : i < n
  · rw [List.getElem?_append_left (by simpa using hi), List.getElem?_replicate] at e
    split at e <;> cases e
  · have hi : n ≤ i := Nat.le_of_not_lt hi
    rw [List.getElem?_append_right (by simpa using hi), List.length_replicate, List.getElem?_map] at e
    rw [List.getElem?_append_right (by simpa using hi), List.length_replicate, List.getElem?_map]
    cases e1 : fr[i - n]? with
    | none => rw [e1] at e; cases e
    | some j =>
      rw [e1] at e
      have e2 : (δ[j]?).getD none = some d := Option.some.inj e
      have e3 : δ[j]? = some (some d) := by
        cases q : δ[j]? with
        | none => rw [q] at e2; cases e2
        | some z => rw [q] at e2; exact congrArg some e2
      obtain ⟨v, hv, r⟩ := A.st j d e3
      exact ⟨v, by rw [Option.map_some, hv]; rfl, r⟩
noncomputable def Front (n : Nat) (σ σ' : L2.St) : Prop := σ'.length = σ.length ∧ ∀ (i : Nat), n ≤ i → σ'[i]? = σ[i]?
theorem Front.refl {n : Nat} {σ : L2.St} : Front n σ σ := ⟨rfl, fun _ _ => rfl⟩
theorem Front.trans {n : Nat} {σ σ1 σ2 : L2.St} (a : Front n σ σ1) (b : Front n σ1 σ2) : Front n σ σ2 := ⟨b.1.trans a.1, fun i h => (b.2 i h).trans (a.2 i h)⟩
noncomputable def tGc (K : PySem.W.Frag) (n : Nat) (g : FG) : TG := fun v σ H Q => ∃ ρ δ μ d δ' μ', At K ρ H σ δ μ ∧ RepV K ρ H d v ∧ g d δ μ = some (δ', μ') ∧ ∀ ρ' σ' H', Ext ρ H ρ' H' → At K ρ' H' σ' δ' μ' → Front n σ σ' → Q σ' H'
noncomputable def tGcs (K : PySem.W.Frag) (n : Nat) (g : FGs) : TGs := fun vs σ H Q => ∃ ρ δ μ ds δ' μ', At K ρ H σ δ μ ∧ RepVs K ρ H ds vs ∧ g ds δ μ = some (δ', μ') ∧ ∀ ρ' σ' H', Ext ρ H ρ' H' → At K ρ' H' σ' δ' μ' → Front n σ σ' → Q σ' H'
noncomputable def MGc (X : Cx) (n : Nat) (t : Expr) (g : FG) : Prop := PG X t (tGc X.K n g)
noncomputable def MGcs (X : Cx) (n : Nat) (t : List Expr) (g : FGs) : Prop := PGs X t (tGcs X.K n g)
section
variable {X : Cx} {e : Expr} {es : List Expr} {pos : Pos} {n : Nat}
theorem mgc_name {x : Str} (i : Nat) (hin : i < n := by decide) (hN : X.N.Nodup := by first | assumption | decide) (hi : X.N[i]? = some x := by rfl) (hx : L2.Loc X.env.scope x := by first | exact Or.inl rfl | exact Or.inr rfl) (hf : X.fn x = true ∨ X.env.scope.names.lookup x = some .local := by first | exact .inl rfl | exact .inr rfl | assumption) : MGc X n (.Name x pos) (gN i) :=
  by intro pins s σ H v u Q I r hh; obtain ⟨ρ, δ, μ, d, δ', μ', A, q, e, k⟩ := hh; exact pg_name hN hi hx hf pins s σ H v u Q I r (by
    cases e
    exact k ρ _ H Ext.refl (A.set q i) ⟨by simp, fun j hj => List.getElem?_set_ne (by omega)⟩)
theorem mgcs_nil : MGcs X n [] gsNil := by intro pins s σ H v u Q I r hh; obtain ⟨ρ, δ, μ, d, δ', μ', A, q, e, k⟩ := hh; exact pgs_nil pins s σ H v u Q I r (by
  unfold gsNil at e
  split at e
  · cases e
    exact ⟨q.nil_inv, k ρ σ H Ext.refl A Front.refl⟩
  · cases e)
theorem mgcs_cons {g : FG} {gs : FGs} (h1 : MGc X n e g) (h2 : MGcs X n es gs) (hs : (assignEach (e :: es) X.env).map (·.2) = assign e X.env :: (assignEach es X.env).map (·.2) := by rfl) : MGcs X n (e :: es) (gsCons g gs) :=
  by intro pins s σ H vs us Q I r hh; obtain ⟨ρ, δ, μ, ds, δ', μ', A, q, e, k⟩ := hh; exact pgs_cons h1 h2 hs pins s σ H vs us Q I r (by
    unfold gsCons at e
    split at e
    · obtain ⟨⟨δ1, μ1⟩, e1, e⟩ := bind_inv e
      obtain ⟨v, vr, rfl, q1, q2⟩ := q.cons_inv
      refine ⟨v, vr, rfl, ρ, δ, μ, _, δ1, μ1, A, q1, e1, fun ρ1 σ1 H1 x1 A1 f1 => ?_⟩
      exact ⟨ρ1, δ1, μ1, _, δ', μ', A1, q2.ext x1, e, fun ρ2 σ2 H2 x2 A2 f2 => k ρ2 σ2 H2 (x1.trans x2) A2 (f1.trans f2)⟩
    · cases e)
theorem mgc_tup {k m : Nat} {gs : FGs} (h : MGcs X n es gs) (hc : X.calm = true := by rfl) (hn : (assignEach es X.env).length = m := by rfl) (hst : (assignEach es X.env).findIdx? (·.1) = none := by rfl) : MGc X n (.Tuple es k pos) (gT m gs) :=
  by intro pins s σ H v u Q I r hh; obtain ⟨ρ, δ, μ, d, δ', μ', A, q, e, k⟩ := hh; exact pg_tup hc h hn hst pins s σ H v u Q I r (by
    unfold gT at e
    split at e
    · obtain ⟨h1, e⟩ := bif_inv e
      obtain ⟨a, vs, rfl, e2, q2⟩ := q.tup_inv
      exact ⟨a, vs, rfl, SqT.of e2, by rw [← q2.length]; exact beq_iff_eq.mp h1, ρ, δ, μ, _, δ', μ', A, q2, e, k⟩
    · cases e)
end
theorem sub_front {n : Nat} {fr : List Nat} {σ σ' : L2.St} (f : Front n (σC n fr σ) σ') : SubSt (σC n fr σ) σ' := by
  refine ⟨f.1, fun i v e => ?_⟩
  obtain ⟨hi, _⟩ := σC_get e
  rw [f.2 i hi]
  exact e
theorem million : 1000000 < sizeLine := by rw [sizeLine_eq]; decide
theorem lc_w {K : PySem.W.Frag} {n : Nat} {fr : List Nat} {i : FI} {g : FG} {c : FT} {φ : FE} {ρ : List Addr} {δ : Loc} {μ : Mem} {σ : L2.St} {H : Hp} {d : D} {μ' : Mem} {Q : VK} (A : At K ρ H σ δ μ) (e : fLC n fr i g c φ δ μ = some (d, μ'))
    (k : ∀ ρ' H' v, Ext ρ H ρ' H' → RepH K ρ' H' μ' → RepV K ρ' H' d v → Q v H') : tLC n fr (tMI K i) (tGc K n g) (tMT K c) (tM K φ) σ H Q := by
  obtain ⟨⟨ds, ok, μ1⟩, e1, e⟩ := bind_inv e
  obtain ⟨hfew, e⟩ := bif_inv e
  have hfew : ds.length ≤ 1000000 := of_decide_eq_true hfew
  refine ⟨ρ, δ, μ, ds, ok, μ1, A, e1, fun ρ1 H1 J x1 R1 II => ?_⟩
  refine ⟨fun i m ys H' => ∃ ρ' es μ2, Ext ρ1 H1 ρ' H' ∧ RepH K ρ' H' μ2 ∧ RepVs K ρ' H' es ys ∧ es.length ≤ i ∧ i ≤ ds.length ∧ m = ds.length - i ∧ lcIt g c φ ok (δC n fr δ) (ds.drop i) es μ2 = some (d, μ'), ⟨_, ρ1, [], μ1, Ext.refl, R1, .nil, Nat.zero_le _, Nat.zero_le _, rfl, e⟩, ?_⟩
  rintro i m ys H' ⟨ρ', es, μ2, x', R', re, hel, hi, rfl, ef⟩
  by_cases hlt : i < ds.length
  · right
    have hd : ds.drop i = ds[i] :: ds.drop (i + 1) := List.drop_eq_getElem_cons hlt
    rw [hd] at ef
    unfold lcIt at ef
    obtain ⟨hok, ef⟩ := bif_inv ef
    obtain ⟨⟨δ2, μ3⟩, e2, ef⟩ := bind_inv ef
    obtain ⟨⟨b, μ4⟩, e3, ef⟩ := bind_inv ef
    refine ⟨II.go ρ' H' μ2 i x' R' hok hlt, ?_, fun x H'' y => ?_⟩
    · rw [← re.length]
      exact Nat.lt_of_le_of_lt (Nat.le_trans hel (Nat.le_trans hi hfew)) million
    · obtain ⟨xe, Re, rx⟩ := II.yld ρ' H' μ2 i x H'' ds[i] x' R' hok (by simp [hlt]) y
      have x' := x'.trans xe
      have re := re.ext xe
      have A' : At K ρ' H'' (σC n fr σ) (δC n fr δ) μ2 := ((A.ext x1 R1).ext x' Re).δC n fr
      refine ⟨ρ', _, μ2, ds[i], δ2, μ3, A', rx, e2, fun ρ4 σ4 H4 x4 A4 f4 => ⟨sub_front f4, ?_⟩⟩
      refine ⟨ρ4, δ2, μ3, b, μ4, A4, e3, fun ρ5 H5 x5 R5 => ?_⟩
      cases b with
      | false => exact iteF ⟨ds.length - (i + 1), by omega, ρ5, es, μ4, x'.trans (x4.trans x5), R5, re.ext (x4.trans x5), by omega, hlt, rfl, ef⟩
      | true =>
        obtain ⟨⟨y, μ6⟩, e4, ef⟩ := bind_inv ef
        refine iteT ⟨ρ5, δ2, μ4, y, μ6, A4.ext x5 R5, e4, fun ρ6 H6 v x6 R6 r6 => ?_⟩
        exact ⟨ds.length - (i + 1), by omega, ρ6, es ++ [y], μ6, x'.trans (x4.trans (x5.trans x6)), R6, (re.ext (x4.trans (x5.trans x6))).append (.cons r6 .nil), by simp; exact hel, hlt, rfl, ef⟩
  · left
    have e0 : i = ds.length := by omega
    subst e0
    rw [List.drop_length] at ef
    unfold lcIt at ef
    obtain ⟨hok, ef⟩ := bif_inv ef
    cases ef
    refine ⟨II.stop ρ' H' μ2 x' R' hok, fun p hp => ?_⟩
    exact k _ _ _ (x1.trans (x'.trans (Ext.push hp))) (R'.push hp ⟨ys, upd_same, re.ext (Ext.push hp)⟩) (.loc (push_get R'))
theorem me_lc {X : Cx} {scope : Scope} {elt tg iter : Expr} {ifs : List Expr} {pos : Pos} {i : FI} {g : FG} {c : FT} {φ : FE} (own : List Str) (fr : List Nat) (hi : MI X tg iter i)
    (hg : ∀ cl C s₀ H₀ fp, MGc (cxC X own fr scope cl C s₀ H₀ fp) own.length tg g) (hq : ∀ cl C s₀ H₀ fp, MF (cxC X own fr scope cl C s₀ H₀ fp) ifs c) (he : ∀ cl C s₀ H₀ fp, ME (cxC X own fr scope cl C s₀ H₀ fp) elt φ)
    (hc : X.calm = true := by rfl) (hk : scope.kind = .function := by rfl) (hnm : ∀ y ∈ scope.names, scope.names.lookup y.1 = some y.2 := by decide)
    (hfree : ∀ x ∈ scope.names, x.2 = .free → (X.env.kindOf x.1 = some .cell ∨ X.env.kindOf x.1 = some .free) := by decide) (hfr : ∀ i ∈ fr, ∃ x, X.N[i]? = some x ∧ scope.names.lookup x = some .free)
    (hs : ∀ x, foldedSetIterable iter X.env x = pure x := by intro _; rfl) : ME X (.ListComp elt [⟨tg, iter, ifs, 0⟩] scope pos) (fLC own.length fr i g c φ) :=
  me_of (pe_lc (wi := tMI X.K i) (g := tGc X.K own.length g) (tc := tMT X.K c) (te := tM X.K φ) own fr hc hi (fun cl C s₀ H₀ fp => hg cl C s₀ H₀ fp) (fun cl C s₀ H₀ fp => hq cl C s₀ H₀ fp) (fun cl C s₀ H₀ fp => he cl C s₀ H₀ fp) hk hnm hfree hfr hs) fun ρ δ μ σ H d μ' Q A e k => lc_w A e k
end M
set_option Elab.async false
set_option linter.all false
set_option maxRecDepth 100000
set_option autoImplicit false
namespace M
open PySem PySem.Spec PyProof.Rows L2
noncomputable def toP (μ : Mem) : Nat → D → Option PyData
  | 0, _ => none
  | n + 1, d => match d with
    | .non => some .none
    | .bl b => some (.bool b)
    | .int i => some (.int i)
    | .str x => bif PyData.strOk x then some (.str x) else none
    | .ty _ => none
    | .own _ => none
    | .tup ds => (ds.mapM (toP μ n)).bind fun ps => some (.tuple ps)
    | .fz ds => (ds.mapM (toP μ n)).bind fun ps => some (.list ps)
    | .loc k => match μ[k]? with
      | some (.lst ds) => (ds.mapM (toP μ n)).bind fun ps => some (.list ps)
      | _ => none
theorem mapM_nil_inv {f : D → Option PyData} {ps : List PyData} (h : ([] : List D).mapM f = some ps) : ps = [] := by
  simp at h; exact h
theorem mapM_cons_inv {f : D → Option PyData} {d : D} {ds : List D} {ps : List PyData} (h : (d :: ds).mapM f = some ps) : ∃ p r, f d = some p ∧ ds.mapM f = some r ∧ ps = p :: r := by
  rw [List.mapM_cons] at h
  obtain ⟨p, e1, h⟩ := bind_inv h
  obtain ⟨r, e2, h⟩ := bind_inv h
  cases h
  exact ⟨p, r, e1, e2, rfl⟩
theorem mapM_shape {f : D → Option PyData} {m : Nat} (hf : ∀ d p, f d = some p → p.canLay0 = true ∧ p.depth ≤ m) : ∀ {ds : List D} {ps : List PyData}, ds.mapM f = some ps → PyData.canLayAll0 ps = true ∧ PyData.depthAll ps ≤ m
  | [], ps, h => by rw [mapM_nil_inv h]; exact ⟨rfl, Nat.zero_le _⟩
  | d :: ds, ps, h => by
    obtain ⟨p, r, e1, e2, rfl⟩ := mapM_cons_inv h
    obtain ⟨h1, h2⟩ := hf d p e1
    obtain ⟨h3, h4⟩ := mapM_shape hf e2
    refine ⟨?_, ?_⟩
    · simp only [PyData.canLayAll0, h1, h3, Bool.and_true]
    · simp only [PyData.depthAll]; omega
theorem toP_shape {μ : Mem} : ∀ (n : Nat) (d : D) (p : PyData), toP μ n d = some p → p.canLay0 = true ∧ p.depth ≤ n
  | 0, d, p, h => by cases h
  | n + 1, d, p, h => by
    have seq : ∀ {ds : List D} {c : List PyData → PyData}, (∀ ps, (c ps).canLay0 = PyData.canLayAll0 ps) → (∀ ps, (c ps).depth = PyData.depthAll ps + 1) → ((ds.mapM (toP μ n)).bind fun ps => some (c ps)) = some p → p.canLay0 = true ∧ p.depth ≤ n + 1 := fun {ds c} h1 h2 h => by
      obtain ⟨ps, e1, e2⟩ := bind_inv h
      cases e2
      obtain ⟨q1, q2⟩ := mapM_shape (toP_shape n) e1
      exact ⟨by rw [h1]; exact q1, by rw [h2]; omega⟩
    unfold toP at h
    cases d with
    | non => cases h; exact ⟨rfl, Nat.zero_le _⟩
    | bl b => cases h; exact ⟨rfl, Nat.zero_le _⟩
    | int b => cases h; exact ⟨rfl, Nat.zero_le _⟩
    | str x =>
      obtain ⟨h1, h2⟩ := bif_inv h
      cases h2
      exact ⟨h1, Nat.zero_le _⟩
    | ty _ => cases h
    | own _ => cases h
    | tup ds => exact seq (fun _ => rfl) (fun _ => rfl) h
    | fz ds => exact seq (fun _ => rfl) (fun _ => rfl) h
    | loc k =>
      dsimp only at h
      split at h
      · exact seq (fun _ => rfl) (fun _ => rfl) h
      · cases h
section
variable {X : Cx} {pins : List (Addr × Obj)} {σ : L2.St} {H : Hp} {s : Shared} {ρ : List Addr} {μ : Mem}
theorem reads_all {f : D → Option PyData} (hf : ∀ d p v u, f d = some p → RepV X.K ρ H d v → RelV v u → ∃ as, Reads s.heap u p as) : ∀ {ds : List D} {ps : List PyData} {vs : List V} {us : List Value}, ds.mapM f = some ps → RepVs X.K ρ H ds vs → Vals vs us → ∃ as, ReadsAll s.heap us ps as
  | [], ps, vs, us, h, r, q => by
    rw [mapM_nil_inv h]
    rw [r.nil_inv] at q
    cases q
    exact ⟨[], .nil⟩
  | d :: ds, ps, vs, us, h, r, q => by
    obtain ⟨p, pr, e1, e2, rfl⟩ := mapM_cons_inv h
    obtain ⟨v, vr, rfl, r1, r2⟩ := r.cons_inv
    cases q with
    | cons q1 q2 =>
      obtain ⟨a1, h1⟩ := hf _ _ _ _ e1 r1 q1
      obtain ⟨a2, h2⟩ := reads_all hf e2 r2 q2
      exact ⟨_, .cons h1 h2⟩
theorem reads_of (I : Inv X pins σ H s) (R : RepH X.K ρ H μ) : ∀ (n : Nat) (d : D) (p : PyData) (v : V) (u : Value), toP μ n d = some p → RepV X.K ρ H d v → RelV v u → ∃ as, Reads s.heap u p as
  | 0, d, p, v, u, h, _, _ => by cases h
  | n + 1, d, p, v, u, h, r, q => by
    unfold toP at h
    cases d with
    | non => cases h; rw [r.non_inv] at q; cases q; exact ⟨_, .none⟩
    | bl b => cases h; rw [r.bl_inv] at q; cases q; exact ⟨_, .bool b⟩
    | int b => cases h; rw [r.int_inv] at q; obtain ⟨t, rfl⟩ := q; exact ⟨_, .int b t⟩
    | str x =>
      obtain ⟨h1, h2⟩ := bif_inv h
      cases h2
      rw [r.str_inv] at q; obtain ⟨t, rfl⟩ := q; exact ⟨_, .str x t⟩
    | ty _ => cases h
    | own _ => cases h
    | tup ds =>
      obtain ⟨ps, e1, e2⟩ := bind_inv h
      cases e2
      obtain ⟨a, vs, rfl, e3, rr⟩ := r.tup_inv
      cases q
      obtain ⟨its, rv, ⟨o, ho, hc, k, hd⟩, _⟩ := I.tuple (SqT.of e3)
      obtain ⟨as, ha⟩ := reads_all (reads_of I R n) e1 rr rv
      exact ⟨_, reads_tuple_at ho hc hd (by simpa using ha)⟩
    | fz ds =>
      obtain ⟨ps, e1, e2⟩ := bind_inv h
      cases e2
      obtain ⟨a, vs, rfl, e3, rr⟩ := r.fz_inv
      cases q
      obtain ⟨its, rv, ⟨o, k, ho, hc, _, hd⟩, _⟩ := I.list e3.sq
      obtain ⟨as, ha⟩ := reads_all (reads_of I R n) e1 rr rv
      exact ⟨_, reads_list_at ho hc hd (by simpa using ha)⟩
    | loc k =>
      dsimp only at h
      split at h
      · rename_i hm
        obtain ⟨ps, e1, e2⟩ := bind_inv h
        cases e2
        obtain ⟨a, rfl, e2⟩ := r.loc_inv
        obtain ⟨vs, e3, rr⟩ := R.at_ _ _ _ e2 hm
        cases q
        obtain ⟨its, rv, ⟨o, k, ho, hc, _, hd⟩, _⟩ := I.list (SqL.of (K := X.K) e3)
        obtain ⟨as, ha⟩ := reads_all (reads_of I R n) e1 rr rv
        exact ⟨_, reads_list_at ho hc hd (by simpa using ha)⟩
      · cases h
end
noncomputable def gEq : G2 := fun x y μ => (toP μ 8 x).bind fun p => (toP μ 8 y).bind fun q => some (.bl (PyData.eqv p q), μ)
noncomputable def gNe : G2 := fun x y μ => (toP μ 8 x).bind fun p => (toP μ 8 y).bind fun q => some (.bl (!PyData.eqv p q), μ)
theorem shaped_of {μ : Mem} {d : D} {p : PyData} (h : toP μ 8 d = some p) : SeqAt.shaped p = true := by
  obtain ⟨h1, h2⟩ := toP_shape 8 d p h
  unfold SeqAt.shaped
  rw [h1, decide_eq_true (by omega)]
  rfl
section
variable {X : Cx} {a b c e : Expr} {es : List Expr} {φ ψ χ : FE} {pos : Pos}
theorem opM_eq (hu : X.A.units + 64 < cLine) : OpM X (compareOp .Eq) gEq := by
  refine OpM.of fun pins s σ H x y v u Q I rx ry ρ dx dy μ d μ' r1 r2 R e k => ?_
  obtain ⟨p, e1, e⟩ := bind_inv e
  obtain ⟨q, e2, e⟩ := bind_inv e
  cases e
  obtain ⟨as, h1⟩ := reads_of I R 8 dx p x v e1 r1 rx
  obtain ⟨bs, h2⟩ := reads_of I R 8 dy q y u e2 r2 ry
  exact eq_dataH h1 h2 (shaped_of e1) (shaped_of e2) hu ⟨.bl _, H, I, rfl, k ρ H _ Ext.refl R .bl⟩
theorem opM_ne (hu : X.A.units + 64 < cLine) : OpM X (compareOp .NotEq) gNe := by
  refine OpM.of fun pins s σ H x y v u Q I rx ry ρ dx dy μ d μ' r1 r2 R e k => ?_
  obtain ⟨p, e1, e⟩ := bind_inv e
  obtain ⟨q, e2, e⟩ := bind_inv e
  cases e
  obtain ⟨as, h1⟩ := reads_of I R 8 dx p x v e1 r1 rx
  obtain ⟨bs, h2⟩ := reads_of I R 8 dy q y u e2 r2 ry
  exact ne_dataH h1 h2 (shaped_of e1) (shaped_of e2) hu ⟨.bl _, H, I, rfl, k ρ H _ Ext.refl R .bl⟩
@[simp] noncomputable def gIs : G2 := fun x y μ => match x, y with
  | .bl i, .bl j => some (.bl (i == j), μ)
  | .non, .non => some (.bl true, μ)
  | .bl _, .non => some (.bl false, μ)
  | .int _, .non => some (.bl false, μ)
  | .str _, .non => some (.bl false, μ)
  | .tup _, .non => some (.bl false, μ)
  | .loc _, .non => some (.bl false, μ)
  | _, _ => none
@[simp] noncomputable def gIsNot : G2 := fun x y μ => match x, y with
  | .bl i, .bl j => some (.bl (i != j), μ)
  | .non, .non => some (.bl false, μ)
  | .bl _, .non => some (.bl true, μ)
  | .int _, .non => some (.bl true, μ)
  | .str _, .non => some (.bl true, μ)
  | .tup _, .non => some (.bl true, μ)
  | .loc _, .non => some (.bl true, μ)
  | _, _ => none
theorem opM_is : OpM X (compareOp .Is) gIs := by
  refine OpM.of fun pins s σ H x y v u Q I rx ry ρ dx dy μ d μ' r1 r2 R e k => ?_
  unfold gIs at e
  split at e <;> cases e
  · rw [r1.bl_inv] at rx; rw [r2.bl_inv] at ry; cases rx; cases ry
    exact is_bool ⟨.bl _, H, I, rfl, k ρ H _ Ext.refl R .bl⟩
  · exact op_isN pins s σ H x y v u Q I rx ry ⟨r2.non_inv, by rw [r1.non_inv]; exact k ρ H _ Ext.refl R .bl⟩
  · exact op_isN pins s σ H x y v u Q I rx ry ⟨r2.non_inv, by rw [r1.bl_inv]; exact k ρ H _ Ext.refl R .bl⟩
  · exact op_isN pins s σ H x y v u Q I rx ry ⟨r2.non_inv, by rw [r1.int_inv]; exact k ρ H _ Ext.refl R .bl⟩
  · exact op_isN pins s σ H x y v u Q I rx ry ⟨r2.non_inv, by rw [r1.str_inv]; exact k ρ H _ Ext.refl R .bl⟩
  · exact op_isN pins s σ H x y v u Q I rx ry ⟨r2.non_inv, by obtain ⟨a, vs, rfl, _⟩ := r1.tup_inv; exact k ρ H _ Ext.refl R .bl⟩
  · exact op_isN pins s σ H x y v u Q I rx ry ⟨r2.non_inv, by obtain ⟨a, rfl, _⟩ := r1.loc_inv; exact k ρ H _ Ext.refl R .bl⟩
theorem opM_isNot : OpM X (compareOp .IsNot) gIsNot := by
  refine OpM.of fun pins s σ H x y v u Q I rx ry ρ dx dy μ d μ' r1 r2 R e k => ?_
  unfold gIsNot at e
  split at e <;> cases e
  · rw [r1.bl_inv] at rx; rw [r2.bl_inv] at ry; cases rx; cases ry
    exact isnot_bool ⟨.bl _, H, I, rfl, k ρ H _ Ext.refl R .bl⟩
  · exact op_notN pins s σ H x y v u Q I rx ry ⟨r2.non_inv, by rw [r1.non_inv]; exact k ρ H _ Ext.refl R .bl⟩
  · exact op_notN pins s σ H x y v u Q I rx ry ⟨r2.non_inv, by rw [r1.bl_inv]; exact k ρ H _ Ext.refl R .bl⟩
  · exact op_notN pins s σ H x y v u Q I rx ry ⟨r2.non_inv, by rw [r1.int_inv]; exact k ρ H _ Ext.refl R .bl⟩
  · exact op_notN pins s σ H x y v u Q I rx ry ⟨r2.non_inv, by rw [r1.str_inv]; exact k ρ H _ Ext.refl R .bl⟩
  · exact op_notN pins s σ H x y v u Q I rx ry ⟨r2.non_inv, by obtain ⟨a, vs, rfl, _⟩ := r1.tup_inv; exact k ρ H _ Ext.refl R .bl⟩
  · exact op_notN pins s σ H x y v u Q I rx ry ⟨r2.non_inv, by obtain ⟨a, rfl, _⟩ := r1.loc_inv; exact k ρ H _ Ext.refl R .bl⟩
inductive Ty where
  | non | bl | int | str | tup | lst | dict
  deriving DecidableEq
@[simp] noncomputable def tyOf (μ : Mem) : D → Option Ty
  | .non => some .non
  | .bl _ => some .bl
  | .int _ => some .int
  | .str _ => some .str
  | .tup _ => some .tup
  | .loc n => match μ[n]? with
    | some (.lst _) => some .lst
    | some (.dct _) => some .dict
    | _ => none
  | _ => none
@[simp] noncomputable def Ty.name : Ty → String
  | .non => "NoneType" | .bl => "bool" | .int => "int" | .str => "str" | .tup => "tuple" | .lst => "list" | .dict => "dict"
@[simp] noncomputable def isTy : Ty → Ty → Bool
  | .bl, .int => true
  | .non, .non => true
  | .bl, .bl => true
  | .int, .int => true
  | .str, .str => true
  | .tup, .tup => true
  | .lst, .lst => true
  | .dict, .dict => true
  | _, _ => false
@[simp] noncomputable def gIsi (c : Ty) : GL := fun ds μ => match ds with
  | [x, .ty n] => bif n == c.name then (tyOf μ x).bind fun t => some (.bl (isTy t c), μ) else none
  | _ => none
theorem tyOf_ok {K : PySem.W.Frag} {ρ : List Addr} {H : Hp} {μ : Mem} {x : D} {v : V} {t : Ty} (R : RepH K ρ H μ) (r : RepV K ρ H x v) (e : tyOf μ x = some t) : TyOf K H v (.type t.name) := by
  cases x with
  | non => cases e; rw [r.non_inv]; exact .non
  | bl b => cases e; rw [r.bl_inv]; exact .bl b
  | int b => cases e; rw [r.int_inv]; exact .int b
  | str b => cases e; rw [r.str_inv]; exact .str b
  | tup ds => cases e; obtain ⟨a, vs, rfl, e2, _⟩ := r.tup_inv; exact .tup e2
  | loc n =>
    unfold tyOf at e
    dsimp only at e
    split at e
    · rename_i hm; cases e; obtain ⟨a, rfl, e2⟩ := r.loc_inv; obtain ⟨vs, e3, _⟩ := R.at_ _ _ _ e2 hm; exact .lst e3
    · rename_i hm; cases e; obtain ⟨a, rfl, e2⟩ := r.loc_inv; obtain ⟨vs, e3, _⟩ := R.at_ _ _ _ e2 hm; exact .dK e3
    · cases e
  | _ => cases e
theorem kit_ty (K : PySem.W.Frag) (t c : Ty) : PySem.W.kitOne K (.type t.name) (.type c.name) = some (isTy t c) := by
  cases t <;> cases c <;> first | rfl | decide +kernel
theorem callM_isi (c : Ty) : CallM X (.builtin "isinstance") (gIsi c) := by
  refine CallM.of fun pins s σ H xs us Q I r ρ ds μ d μ' r1 R e k => ?_
  unfold gIsi at e
  split at e
  · obtain ⟨hn, e⟩ := bif_inv e
    obtain ⟨t, e1, e⟩ := bind_inv e
    cases e
    obtain ⟨v, rr, rfl, q1, q2⟩ := r1.cons_inv
    obtain ⟨v2, rr2, rfl, q3, q4⟩ := q2.cons_inv
    rw [q4.nil_inv, q3.ty_inv, beq_iff_eq.mp hn] at r
    cases r with
    | cons ra rb =>
      cases rb with
      | cons rc rd =>
        cases rd
        cases rc
        exact isinst_ok I ra (tyOf_ok R q1 e1) (kit_ty X.K t c) fun tk => ⟨.bl _, H, I.tok tk, rfl, k ρ H _ Ext.refl R .bl⟩
  · cases e
@[simp] noncomputable def isBl : D → Bool
  | .bl _ => true
  | _ => false
@[simp] noncomputable def blB : D → Bool
  | .bl b => b
  | _ => false
theorem ms_setLC {scope : Scope} {elt tg iter : Expr} {ifs : List Expr} {spos py : Pos} {y : Str} {fi : FI} {g : FG} {ct : FT} (i : Nat) (own : List Str) (fr : List Nat) (hi : MI X tg iter fi)
    (hg : ∀ cl C s₀ H₀ fp, MGc (cxC X own fr scope cl C s₀ H₀ fp) own.length tg g) (hq : ∀ cl C s₀ H₀ fp, MF (cxC X own fr scope cl C s₀ H₀ fp) ifs ct) (he : ∀ cl C s₀ H₀ fp, ME (cxC X own fr scope cl C s₀ H₀ fp) elt φ)
    (hfr : ∀ i ∈ fr, ∃ x, X.N[i]? = some x ∧ scope.names.lookup x = some .free)
    (hN : X.N.Nodup := by first | assumption | decide) (hiN : X.N[i]? = some y := by rfl) (hy : X.env.scope.names.lookup y = some .local := by rfl)
    (hsw : swapsWith (.ListComp elt [⟨tg, iter, ifs, 0⟩] scope pos) (some (.Name y py)) spos.line X.env = pure true := by rfl)
    (hc : X.calm = true := by rfl) (hk : scope.kind = .function := by rfl) (hnm : ∀ y ∈ scope.names, scope.names.lookup y.1 = some y.2 := by decide)
    (hfree : ∀ x ∈ scope.names, x.2 = .free → (X.env.kindOf x.1 = some .cell ∨ X.env.kindOf x.1 = some .free) := by decide)
    (hs : ∀ x, foldedSetIterable iter X.env x = pure x := by intro _; rfl) : MS X (.Assign [.Name y py] (.ListComp elt [⟨tg, iter, ifs, 0⟩] scope pos) spos) (sSet i (fLC own.length fr fi g ct φ)) :=
  ms_of (ps_setLC (wi := tMI X.K fi) (g := tGc X.K own.length g) (tc := tMT X.K ct) (te := tM X.K φ) own fr hN hiN hy hc hi hsw (fun cl C s₀ H₀ fp => hg cl C s₀ H₀ fp) (fun cl C s₀ H₀ fp => hq cl C s₀ H₀ fp) (fun cl C s₀ H₀ fp => he cl C s₀ H₀ fp) hk hnm hfree hfr hs) fun ρ δ μ σ H o E A e k => by
    obtain ⟨⟨x, μ1⟩, e1, e⟩ := bind_inv e
    cases e
    exact lc_w A e1 fun ρ' H' v x' R r => k ρ' _ H' x' ((A.ext x' R).set r i)
end
@[simp] noncomputable def retOf : Option Out → Option (D × Mem)
  | some (.ret d μ) => some (d, μ)
  | some (.next _ μ) => some (.non, μ)
  | _ => none
@[simp] noncomputable def startD (N : List Str) (ds : List D) : Loc := ds.map some ++ List.replicate (N.length - ds.length) none
theorem start_at {K : PySem.W.Frag} {ρ : List Addr} {H : Hp} {μ : Mem} {N : List Str} {ds : List D} {vs : List V} (r : RepVs K ρ H ds vs) (R : RepH K ρ H μ) : At K ρ H (L2.start N vs) (startD N ds) μ := by
  refine ⟨fun i d e => ?_, R, by unfold L2.start startD; simp [r.length]⟩
  unfold startD at e
  unfold L2.start
  by_cases hi : i < ds.length
  · rw [List.getElem?_append_left (by simpa using hi), List.getElem?_map] at e
    cases e1 : ds[i]? with
    | none => rw [e1] at e; cases e
    | some d' =>
      rw [e1] at e
      cases e
      obtain ⟨v, e2, q⟩ := r.get e1
      refine ⟨v, ?_, q⟩
      rw [List.getElem?_append_left (by simpa [← r.length] using hi), List.getElem?_map, e2]
      rfl
  · rw [List.getElem?_append_right (by simpa using hi), List.getElem?_replicate] at e
    split at e <;> cases e
theorem fnM {P : Program} {w : World} {K : PySem.W.Frag} {mg : Str → Option Value} {base : Heap} {x qual : Str} {st : Stmt} {f : Addr} {fd : FuncData} {N ps : List Str} {k n : Nat} {F : FF} (G : Fun K x qual st f fd) (S : FnScope N ps (defScope st)) (hn : ps.length = n)
    (hbody : ∀ (cdv : Value) (A : Around) (outer : List Env) (s : Shared) (H : Hp) (E : XK), Room k (A.deeper (envOfC qual (defScope st) s.heap.objs.size f cdv)) →
      ∃ p, MSs (cxOf CX0 P w K mg base N qual (defScope st) f cdv A outer s H E).nox (defBody st) p ∧ ∀ ds μ d μ', ds.length = n → F ds μ = some (d, μ') → retOf (p (startD N ds) μ) = some (d, μ')) :
    FnOk P w K mg base CX0 (k + 1) f fd ps (spM K n F) := by
  refine G.ok S (fun vs H Q E h => by rw [hn]; exact h.1) (fun cdv A outer s H vs Q E hr h => ?_)
  obtain ⟨p, hp, hF⟩ := hbody cdv A outer s H E hr
  refine ⟨_, hp, ?_⟩
  obtain ⟨hl, ρ, ds, μ, d, μ', r, R, e, k⟩ := h
  have e' := hF ds μ d μ' (by rw [r.length]; exact hl) e
  cases eo : p (startD N ds) μ with
  | none => rw [eo] at e'; cases e'
  | some o =>
    rw [eo] at e'
    refine ⟨ρ, startD N ds, μ, o, start_at r R, eo, ?_⟩
    cases o with
    | ret d2 μ2 => cases e'; exact fun ρ' v H' x' R' r' => k ρ' H' v x' R' r'
    | next δ2 μ2 => cases e'; exact fun ρ' σ' H' x' A' => k ρ' H' .non x' A'.hp .non
    | brk _ _ => cases e'
    | cont _ _ => cases e'
    | exc _ _ _ => cases e'
end M
set_option Elab.async false
set_option linter.all false
set_option maxRecDepth 100000
set_option autoImplicit false
namespace M
open PySem PySem.Spec PyProof.Rows L2
noncomputable def lcOk (sc inner : Scope) : Bool := (inner.kind == .function) && inner.names.all (fun y => inner.names.lookup y.1 == some y.2) &&
  inner.names.all fun x => x.2 != .free || sc.names.lookup x.1 == some .cell || sc.names.lookup x.1 == some .free
theorem lcOk_kind {sc inner : Scope} (h : lcOk sc inner = true) : inner.kind = .function := by
  unfold lcOk at h
  simp only [Bool.and_eq_true, beq_iff_eq] at h
  exact h.1.1
theorem lcOk_nm {sc inner : Scope} (h : lcOk sc inner = true) : ∀ y ∈ inner.names, inner.names.lookup y.1 = some y.2 := by
  unfold lcOk at h
  simp only [Bool.and_eq_true] at h
  intro y hy
  exact beq_iff_eq.mp (List.all_eq_true.mp h.1.2 y hy)
theorem lcOk_free {sc inner : Scope} (h : lcOk sc inner = true) : ∀ x ∈ inner.names, x.2 = .free → (sc.names.lookup x.1 = some .cell ∨ sc.names.lookup x.1 = some .free) := by
  unfold lcOk at h
  simp only [Bool.and_eq_true] at h
  intro y hy e
  have := List.all_eq_true.mp h.2 y hy
  simpa [e] using this
theorem nodup_of {N : List Str} (h : decide N.Nodup = true) : N.Nodup := of_decide_eq_true h
theorem fr_nil {P : Nat → Prop} : ∀ i ∈ ([] : List Nat), P i := fun i h => nomatch h
theorem fr_cons {P : Nat → Prop} {i : Nat} {l : List Nat} (h : P i) (r : ∀ j ∈ l, P j) : ∀ j ∈ i :: l, P j := fun j hj => by
  rcases List.mem_cons.mp hj with rfl | hj
  · exact h
  · exact r j hj
section
variable {X : Cx} {a b c e : Expr} {es : List Expr} {φ ψ χ : FE} {pos : Pos}
theorem mlc {scope : Scope} {elt tg iter : Expr} {ifs : List Expr} {i : FI} {g : FG} {ct : FT} (own : List Str) (fr : List Nat) (hi : MI X tg iter i)
    (hg : ∀ cl C s₀ H₀ fp, MGc (cxC X own fr scope cl C s₀ H₀ fp) own.length tg g) (hq : ∀ cl C s₀ H₀ fp, MF (cxC X own fr scope cl C s₀ H₀ fp) ifs ct) (he : ∀ cl C s₀ H₀ fp, ME (cxC X own fr scope cl C s₀ H₀ fp) elt φ)
    (hfr : ∀ i ∈ fr, ∃ x, X.N[i]? = some x ∧ scope.names.lookup x = some .free) (hok : lcOk X.env.scope scope = true := by rfl) (hc : X.calm = true := by rfl) (hs : ∀ x, foldedSetIterable iter X.env x = pure x := by intro _; rfl) :
    ME X (.ListComp elt [⟨tg, iter, ifs, 0⟩] scope pos) (fLC own.length fr i g ct φ) :=
  me_lc own fr hi hg hq he hc (lcOk_kind hok) (lcOk_nm hok) (lcOk_free hok) hfr hs
theorem mslc {scope : Scope} {elt tg iter : Expr} {ifs : List Expr} {spos py : Pos} {y : Str} {fi : FI} {g : FG} {ct : FT} (i : Nat) (own : List Str) (fr : List Nat) (hi : MI X tg iter fi)
    (hg : ∀ cl C s₀ H₀ fp, MGc (cxC X own fr scope cl C s₀ H₀ fp) own.length tg g) (hq : ∀ cl C s₀ H₀ fp, MF (cxC X own fr scope cl C s₀ H₀ fp) ifs ct) (he : ∀ cl C s₀ H₀ fp, ME (cxC X own fr scope cl C s₀ H₀ fp) elt φ)
    (hfr : ∀ i ∈ fr, ∃ x, X.N[i]? = some x ∧ scope.names.lookup x = some .free) (hN : X.N.Nodup) (hiN : X.N[i]? = some y := by rfl) (hy : X.env.scope.names.lookup y = some .local := by rfl)
    (hsw : swapsWith (.ListComp elt [⟨tg, iter, ifs, 0⟩] scope pos) (some (.Name y py)) spos.line X.env = pure true := by rfl) (hok : lcOk X.env.scope scope = true := by rfl) (hc : X.calm = true := by rfl) (hs : ∀ x, foldedSetIterable iter X.env x = pure x := by intro _; rfl) :
    MS X (.Assign [.Name y py] (.ListComp elt [⟨tg, iter, ifs, 0⟩] scope pos) spos) (sSet i (fLC own.length fr fi g ct φ)) :=
  ms_setLC i own fr hi hg hq he hfr hN hiN hy hsw hc (lcOk_kind hok) (lcOk_nm hok) (lcOk_free hok) hs
structure FnAt (K : PySem.W.Frag) (mg : Str → Option Value) (x : Str) (st : Stmt) (ps : List Str) (f : Addr) (fd : FuncData) : Prop where
  fn : Fun K x x st f fd
  at_ : mg x = some (.ref f)
  bd : Binds K fd ps []
theorem mcall {k j n : Nat} {st : Stmt} {f : Addr} {fd : FuncData} {ps : List Str} {F : FF} {x : Str} {p : Pos} {φ : FA} (B : FnAt X.K X.mg x st ps f fd) (G : FnOk X.prog X.w X.K X.mg X.base CX0 j f fd ps (spM X.K n F)) (hr : Room k X.A)
    (ha : MAn X (e :: es) φ) (hj : j ≤ k := by decide) (hn : (e :: es).length = n := by rfl) (hg : Gl X x := by rfl) (hdb : (x == ("__debug__" : Str)) = false := by decide) (he : starEach (e :: es) X.env = (false, eval e X.env) :: starEach es X.env := by exact star_ok rfl) (hpl : (backTo pos (starEach es X.env)).any (·.1) = false := by rfl) :
    ME X (.Call (.Name x p) (e :: es) [] pos) (fCall F φ) := me_call G (hr.mono hj) B.at_ B.fn.kp B.bd ha hn hg hdb he hpl
end
end M
set_option Elab.async false
set_option linter.all false
set_option maxRecDepth 100000
set_option autoImplicit false
namespace M
open PySem PySem.Spec PyProof.Rows L2
section
variable {X : Cx} {a b c e : Expr} {es : List Expr} {φ ψ χ : FE} {pos : Pos}
theorem cat0 {prog : Program} {w : World} {A : Around} {E : Value → Shared → Prop} {s : Shared} {t b : Addr} {vs ws : List Value} {Q : Value → Shared → Prop} (ht : IsTup s.heap t vs.toArray) (hb : IsTup s.heap b ws.toArray) (hv : vs = []) (h : Q (.ref b) s) :
    wpAny (model prog w) A (binaryOp .Add (.ref t) (.ref b)) Q E s := by
  obtain ⟨⟨cls, dd, data, sl⟩, ho, hc, n, hd⟩ := id ht
  obtain ⟨⟨cls2, dd2, data2, sl2⟩, ho2, hc2, n2, hd2⟩ := id hb
  simp only at hc hd hc2 hd2
  subst hc hd hc2 hd2
  refine concat_meets ⟨_, ho, rfl⟩ ⟨_, ho2, rfl⟩ noFill_tuple_add seq_tuple_add PySem.F.slot_tuple_add PySem.F.entry_tuple_add (PySem.F.args_tuple_add_2 _ _) (tuple_addW0 t b vs.toArray ws.toArray n n2 dd dd2 sl sl2 (by rw [hv]; rfl)) ⟨ho, ho2, h⟩
theorem opM_add : OpM X (binaryOp .Add) gAdd := by
  refine OpM.of fun pins s σ H x y v u Q I rx ry ρ dx dy μ d μ' r1 r2 R e k => ?_
  unfold gAdd at e
  split at e
  · cases e
    rw [r1.int_inv] at rx; rw [r2.int_inv] at ry
    obtain ⟨t, rfl⟩ := rx
    obtain ⟨t', rfl⟩ := ry
    exact add_int ⟨.int _, H, I.tok _, ⟨_, rfl⟩, k ρ H _ Ext.refl R .int⟩
  · rename_i as bs
    obtain ⟨h1, e⟩ := bif_inv e
    have h1 := of_decide_eq_true h1
    cases e
    obtain ⟨a1, vs, rfl, e1, q1⟩ := r1.tup_inv
    obtain ⟨a2, ws, rfl, e2, q2⟩ := r2.tup_inv
    have hm := million
    have hl1 := q1.length
    have hl2 := q2.length
    by_cases hv : vs = []
    · cases rx; cases ry
      obtain ⟨its, rv, p1, _⟩ := I.tuple (SqT.of (K := X.K) e1)
      obtain ⟨its2, rv2, p2, _⟩ := I.tuple (SqT.of (K := X.K) e2)
      refine cat0 p1 p2 (rv.nil_iff.mpr hv) ⟨.ref a2, H, I, rfl, k ρ H _ Ext.refl R ?_⟩
      have ha : as = [] := by rw [hv] at hl1; exact List.length_eq_zero_iff.mp hl1
      rw [ha, List.nil_append]
      exact r2
    · refine op_catT pins s σ H _ _ v u Q I rx ry ⟨a1, a2, vs, ws, rfl, rfl, SqT.of e1, SqT.of e2, hv, by omega, fun hw => ?_, fun _ p hp => ?_⟩
      · have hb : bs = [] := by rw [hw] at hl2; exact List.length_eq_zero_iff.mp hl2
        rw [hb, List.append_nil] at k
        exact k ρ H _ Ext.refl R r1
      · exact k ρ _ _ (Ext.new hp) (R.newTup hp) (.tup upd_same ((q1.append q2).ext (Ext.new hp)))
  · split at e
    · rename_i hm1 hm2
      obtain ⟨h1, e⟩ := bif_inv e
      have h1 := of_decide_eq_true h1
      cases e
      obtain ⟨a1, rfl, e1⟩ := r1.loc_inv
      obtain ⟨a2, rfl, e2⟩ := r2.loc_inv
      obtain ⟨vs, e3, q1⟩ := R.at_ _ _ _ e1 hm1
      obtain ⟨ws, e4, q2⟩ := R.at_ _ _ _ e2 hm2
      have hm := million
      have hl1 := q1.length
      have hl2 := q2.length
      exact op_cat pins s σ H _ _ v u Q I rx ry ⟨a1, a2, vs, ws, rfl, rfl, e3, e4, by omega, fun p hp => k _ _ _ (Ext.push hp) (R.push hp ⟨_, upd_same, (q1.append q2).ext (Ext.push hp)⟩) (.loc (push_get R))⟩
    · cases e
  · cases e
theorem noFill_tup_mul : fillsNumberSlot (.type "tuple") "mul" = pure false :=
  PyProof.Rows.fillsNumberSlot_seq (id := "tuple.__mul__") (r := some (.builtin "tuple.__rmul__")) PySem.F.slot_tuple_mul.lookup (by decide +kernel) PySem.F.slot_tuple_rmul.lookup (by decide +kernel)
theorem repeat_tup : seqRepeat? (.type "tuple") = pure (some (.builtin "tuple.__mul__")) := by
  unfold seqRepeat?
  rw [PyProof.Rows.seqSlot_of (T := "tuple") (name := "__mul__") (id := "tuple.__mul__") PySem.F.slot_tuple_mul.lookup (by decide +kernel), PyProof.Rows.seqSlot_of (T := "tuple") (name := "__rmul__") (id := "tuple.__rmul__") PySem.F.slot_tuple_rmul.lookup (by decide +kernel)]
  rfl
theorem rmul_declines_tup (i : Int) (t : Tok) (l : Addr) (items : Array Value) (n : Nat) (dd : Option Addr) (sl : Array (Option Value)) :
    Meets (Builtin.«int.__rmul__» ⟨[.int i t, .ref l], []⟩) (fun _ R s => s.heap.get? l = some { cls := .type "tuple", dict := dd, data := .seq items n, slots := sl } ∧ R (.ok (.ret Value.notImplemented)) s) :=
  .of_wp fun prog w A R s h => by
    obtain ⟨hp, g, d, tk, os⟩ := s
    obtain ⟨hl, h⟩ := h
    wp_walk
    exact ⟨_, rfl, h⟩
theorem tup_mul_meets (l : Addr) (items : Array Value) (n : Nat) (dd : Option Addr) (sl : Array (Option Value)) (i : Int) (t : Tok) (h2 : 2 ≤ i) (h3 : i ≤ 1000) (h4 : items.isEmpty = false) (h5 : items.size ≤ 1000)
    (hsz : ((List.replicate i.toNat items).foldl (fun x1 x2 => x1 ++ x2) #[]).size ≤ sizeLine) :
    Meets (Builtin.«tuple.__mul__» ⟨[.ref l, .int i t], []⟩) (fun _ R s => s.heap.get? l = some { cls := .type "tuple", dict := dd, data := .seq items n, slots := sl } ∧
      R (.ok (.ret (Value.ref s.heap.objs.size))) { s with heap := s.heap.push { cls := Value.type "tuple", data := Data.seq ((List.replicate i.toNat items).foldl (fun x1 x2 => x1 ++ x2) #[]) }, toks := s.toks }) :=
  .of_wp fun prog w A R s h => by
    obtain ⟨hp, g, d, tk, os⟩ := s
    obtain ⟨hl, h⟩ := h
    have f1 := AutoSeq1.idx_int
    have c1 : ¬ ((decide (i < -(2 ^ 63)) || decide (i ≥ 2 ^ 63)) = true) := by
      rw [decide_eq_false (by omega), decide_eq_false (by omega)]
      exact Bool.false_ne_true
    have c2 : ¬ ((items.isEmpty || i == 1) = true) := by
      rw [h4, show (i == 1) = false by simp; omega]
      exact Bool.false_ne_true
    have c3 : ¬ ((decide (i ≤ 0) || items.isEmpty) = true) := by
      rw [h4, decide_eq_false (by omega)]
      exact Bool.false_ne_true
    have c4 : ¬ ((items.size : Int) * i > (2 ^ 63 - 1) / 8) := by
      have h6 : (items.size : Int) * i ≤ 1000 * 1000 := Int.mul_le_mul (by omega) h3 (by omega) (by omega)
      omega
    have c5 : ¬ (Builtin.Tuple.tupleTooMany ((items.size : Int) * i) = true) := by
      have h6 : (items.size : Int) * i ≤ 1000 * 1000 := Int.mul_le_mul (by omega) h3 (by omega) (by omega)
      have hz : (sizeLine : Int) = 16777216 := by rw [sizeLine_eq]; rfl
      unfold Builtin.Tuple.tupleTooMany
      rw [decide_eq_false (by omega)]
      exact Bool.false_ne_true
    wp_walk using wpAny_loadPart' hl
    rw [if_neg c1]
    wp_walk using wpAny_loadPart' hl
    rw [if_neg c2]
    dsimp only
    rw [if_neg c3, if_neg c4, if_neg c5]
    refine wpAny_bind (m := Builtin.Tuple.tupleExact _) (wpAny_newObj_type (wpAny_pure ⟨_, rfl, h⟩) hsz)
theorem foldl_flat (its : List Value) : ∀ (n : Nat) (acc : List Value), List.foldl (fun x1 x2 => x1 ++ x2) acc.toArray (List.replicate n its.toArray) = (acc ++ (List.replicate n its).flatten).toArray
  | 0, acc => by simp
  | n + 1, acc => by
    rw [List.replicate_succ, List.foldl_cons, List.append_toArray, foldl_flat its n, List.replicate_succ, List.flatten_cons, List.append_assoc]
theorem rep_rep {K : PySem.W.Frag} {ρ : List Addr} {H : Hp} {ds : List D} {vs : List V} (r : RepVs K ρ H ds vs) : ∀ n : Nat, RepVs K ρ H (List.replicate n ds).flatten (List.replicate n vs).flatten
  | 0 => .nil
  | n + 1 => by
    rw [List.replicate_succ, List.replicate_succ, List.flatten_cons, List.flatten_cons]
    exact r.append (rep_rep r n)
theorem vals_rep {vs : List V} {us : List Value} (r : Vals vs us) : ∀ n : Nat, Vals (List.replicate n vs).flatten (List.replicate n us).flatten
  | 0 => .nil
  | n + 1 => by
    rw [List.replicate_succ, List.replicate_succ, List.flatten_cons, List.flatten_cons]
    exact r.append (vals_rep r n)
theorem opM_mul : OpM X (binaryOp .Mult) gMul := by
  refine OpM.of fun pins s σ H x y v u Q I rx ry ρ dx dy μ d μ' r1 r2 R e k => ?_
  unfold gMul at e
  split at e
  · obtain ⟨h1, e⟩ := bif_inv e
    cases e
    rw [r1.int_inv] at rx; rw [r2.int_inv] at ry
    obtain ⟨t, rfl⟩ := rx
    obtain ⟨t', rfl⟩ := ry
    exact mul_int ⟨.int _, H, I.tok _, ⟨_, rfl⟩, k ρ H _ Ext.refl R .int⟩ (mulOk_ok h1)
  · rename_i ds i
    obtain ⟨h1, e⟩ := bif_inv e
    have h1 := of_decide_eq_true h1
    obtain ⟨h2, h3, h4, h5⟩ := h1
    cases e
    obtain ⟨a1, vs, rfl, e1, q1⟩ := r1.tup_inv
    rw [r2.int_inv] at ry
    cases rx
    obtain ⟨t, rfl⟩ := ry
    obtain ⟨its, rv, ⟨⟨cls, dd, data, sl⟩, ho, hc, n, hd⟩, hz⟩ := I.tuple (SqT.of (K := X.K) e1)
    simp only at hc hd
    subst hc hd
    have hl : its.length = ds.length := by rw [q1.length, rv.length]
    have hlen : ((List.replicate i.toNat vs).flatten).length ≤ sizeLine := by
      rw [len_rep]
      have hm := million
      have h6 : i.toNat * vs.length ≤ 1000 * 1000 := Nat.mul_le_mul (by omega) (by rw [← q1.length]; exact h5)
      omega
    have e2 := foldl_flat its i.toNat []
    rw [List.nil_append] at e2
    have hsz : ((List.replicate i.toNat its.toArray).foldl (fun x1 x2 => x1 ++ x2) #[]).size ≤ sizeLine := by
      rw [show (#[] : Array Value) = ([] : List Value).toArray from rfl, e2, List.size_toArray, ← (vals_rep rv i.toNat).length]
      exact hlen
    refine wpAny_binaryOp_repeat_ref (T := "tuple") (U := "int") (by decide) ⟨_, ho, rfl⟩ (fun s' => typeIs_int s' i t) noFill_tup_mul PySem.F.fills_int_mul PySem.F.slot_int_rmul repeat_tup PySem.F.slot_int_index.lookup
      (call_meets PySem.F.slot_int_rmul (typeIs_int s i t) PySem.F.entry_int_rmul (PySem.F.args_int_rmul_2 _ _) (rmul_declines_tup i t a1 its.toArray n dd sl)
        ⟨ho, rfl, ⟨_, ho, rfl⟩, call_meets PySem.F.slot_tuple_mul ⟨_, ho, rfl⟩ PySem.F.entry_tuple_mul (PySem.F.args_tuple_mul_2 _ _) (tup_mul_meets a1 its.toArray n dd sl i t h2 h3 (by rw [List.isEmpty_toArray, List.isEmpty_eq_false_iff_exists_mem]; exact ⟨_, List.getElem_mem (by omega : 0 < its.length)⟩) (by rw [List.size_toArray, hl]; exact h5) hsz) ⟨ho, ?_⟩⟩)
    rw [show (#[] : Array Value) = ([] : List Value).toArray from rfl, e2]
    have hf := I.hok.fresh (Nat.le_refl s.heap.objs.size)
    refine ⟨.ref s.heap.objs.size, _, I.laid (t' := s.toks) (o := .tup (List.replicate i.toNat vs).flatten) (fun b ob q => Heap.get?_push_of_some _ q) (Nat.le_refl _) ?_, rfl, k ρ _ _ (Ext.new hf) (R.newTup hf) (.tup upd_same ((rep_rep q1 i.toNat).ext (Ext.new hf)))⟩
    exact ⟨hlen, _, vals_rep rv i.toNat, IsTup.new _ _⟩
  · rename_i l n
    split at e
    · rename_i ds hm
      obtain ⟨h1, e⟩ := bif_inv e
      have h1 := of_decide_eq_true h1
      obtain ⟨h2, h3, h4⟩ := h1
      cases e
      obtain ⟨a1, rfl, ea⟩ := r1.loc_inv
      obtain ⟨vs, e3, q3⟩ := R.at_ _ _ _ ea hm
      refine op_rep pins s σ H _ _ v u Q I rx ry ⟨a1, n, vs, rfl, r2.int_inv, e3, by omega, by omega, ?_, fun p hp => k _ _ _ (Ext.push hp) (R.push hp ⟨_, upd_same, (rep_rep q3 n.toNat).ext (Ext.push hp)⟩) (.loc (push_get R))⟩
      have hmi := million
      have h6 : vs.length * n.toNat ≤ 1000 * 1000 := Nat.mul_le_mul (by rw [← q3.length]; exact h4) (by omega)
      omega
    · cases e
  · cases e
noncomputable abbrev FO := Loc → Mem → Option (Option Int × Mem)
noncomputable def tMO (K : PySem.W.Frag) (φ : FO) : TO := fun σ H Q => ∃ ρ δ μ o μ', At K ρ H σ δ μ ∧ φ δ μ = some (o, μ') ∧ ∀ ρ' H', Ext ρ H ρ' H' → RepH K ρ' H' μ' → Q o H'
noncomputable def MO (X : Cx) (e : Option Expr) (φ : FO) : Prop := PO X e (tMO X.K φ)
@[simp] noncomputable def pNo : FO := fun _ μ => some (none, μ)
@[simp] noncomputable def pYes (φ : FE) : FO := fun δ μ => (φ δ μ).bind fun p => match p.1 with
  | .int i => some (some i, p.2)
  | _ => none
noncomputable def cutD (xs : List D) (lo hi : Option Int) : List D := (xs.drop (HT.sIx xs.length 0 lo)).take (HT.sIx xs.length xs.length hi - HT.sIx xs.length 0 lo)
@[simp] noncomputable def fSl (φ : FE) (lo hi : FO) : FE := fun δ μ => (φ δ μ).bind fun p => (lo δ p.2).bind fun l => (hi δ l.2).bind fun h => match p.1 with
  | .tup ds => some (.tup (cutD ds l.1 h.1), h.2)
  | .loc n => match h.2[n]? with
    | some (.lst ds) => some (.loc h.2.length, h.2 ++ [.lst (cutD ds l.1 h.1)])
    | _ => none
  | _ => none
end
end M
set_option Elab.async false
set_option linter.all false
set_option maxRecDepth 100000
set_option autoImplicit false
namespace M
open PySem PySem.Spec PyProof.Rows L2
theorem tup_whole {prog : Program} {w : World} {A : Around} {E : Value → Shared → Prop} {s : Shared} {t sl : Addr} {items : Array Value} {vl vu : Value} {lo hi : Option Int} {Q : Value → Shared → Prop} (ht : IsTup s.heap t items) (hs : s.heap.IsSliceOf sl vl vu .none) (pl : IsPart vl lo) (pu : IsPart vu hi)
    (hw : HT.sIx items.size 0 lo = 0 ∧ HT.sIx items.size items.size hi = items.size) (h : Q (.ref t) s) : wpAny (model prog w) A (getItem (.ref t) (.ref sl)) Q E s := by
  obtain ⟨os, hos, hcs, hds⟩ := id hs
  have hTs : s.TypeIs (.ref sl) "slice" := ⟨os, hos, hcs⟩
  unfold getItem
  try with_reducible refine wpAny_holding ?_
  first | refine wpAny_bind (wpAny_pure ?_) | skip
  refine wpAny_bind (wpAny_sequenceKey ht.typeIs (by decide) ?_)
  refine wpAny_bind (wpAny_callSpecial?_slot (name := Str.ofString "__getitem__") ht.typeIs PyProof.Rows.slot_tuple_getitem
    (wpAny_call_entry PyProof.Rows.slot_tuple_getitem ht.typeIs entry_tuple_getitem ?_ (args_tuple_getitem _ _)))
  show wpAny _ _ (Builtin.Tuple.tupleItemsOf (.ref t) >>= _) _ _ s
  refine wpAny_bind (tupleItemsOf_ ht ?_)
  refine wpAny_bind (wpAny_typeOf hTs ?_)
  rw [if_pos (by decide)]
  refine wpAny_bind (HT.sliceApplied_gen hs pl pu ?_)
  have hyes : (((HT.sIx items.size 0 lo : Nat) : Int) == 0 && (1 : Int) == 1 && (HT.sIx items.size items.size hi - HT.sIx items.size 0 lo) == items.size) = true := by
    rw [hw.1, hw.2]
    simp
  show wpAny _ _ (if (((HT.sIx items.size 0 lo : Nat) : Int) == 0 && (1 : Int) == 1 && (HT.sIx items.size items.size hi - HT.sIx items.size 0 lo) == items.size) = true then _ else _) _ _ s
  rw [if_pos hyes]
  refine wpAny_bind (m := Builtin.Tuple.tupleIsExact _) ?_
  unfold Builtin.Tuple.tupleIsExact
  refine wpAny_bind (wpAny_typeOf ht.typeIs (wpAny_pure ?_))
  rw [if_pos (by decide)]
  exact wpAny_bind (wpAny_rule (wpAny_pure ⟨_, rfl, wpAny_pure h⟩))
section
variable {X : Cx} {a b c e : Expr} {es : List Expr} {φ ψ χ : FE} {pos p2 : Pos} {lo hi : Option Expr}
noncomputable def rSl (K : PySem.W.Frag) : V → Option Int → Option Int → Hp → VK → Prop := fun x lo hi H Q => ∃ a xs, x = .ref a ∧ H a = some (.tup xs) ∧
  ((HT.sIx xs.length 0 lo = 0 ∧ HT.sIx xs.length xs.length hi = xs.length) → Q (.ref a) H) ∧ ∀ p, H p = none → Q (.ref p) (upd H p (.tup (cutV xs lo hi)))
theorem sl_any : SlR X (rSl X.K) := by
  intro pins s σ H x v vl vu lo hi sl Q I rx hs pl pu h
  obtain ⟨a, xs, rfl, hx, h1, h2⟩ := h
  by_cases hw : HT.sIx xs.length 0 lo = 0 ∧ HT.sIx xs.length xs.length hi = xs.length
  · cases rx
    obtain ⟨its, r, ht, hz⟩ := I.tuple (SqT.of (K := X.K) hx)
    have hlen : its.toArray.size = xs.length := by rw [List.size_toArray]; exact r.length.symm
    exact ⟨"tuple", _, PyProof.Rows.slot_tuple_getitem.lookup, ht.typeIs, tup_whole ht hs pl pu (by rw [hlen]; exact hw) ⟨.ref a, H, I, rfl, h1 hw⟩⟩
  · exact sl_tup pins s σ H _ v vl vu lo hi sl Q I rx hs pl pu ⟨a, xs, rfl, SqT.of hx, hw, h2⟩
theorem mp_no : MO X none pNo := by intro pins s σ H Q I hh; obtain ⟨ρ, δ, μ, o, μ', A, e, k⟩ := hh; exact po_none pins s σ H Q I (by cases e; exact k ρ H Ext.refl A.hp)
theorem mp_yes (h : ME X e φ) : MO X (some e) (pYes φ) := by intro pins s σ H Q I hh; obtain ⟨ρ, δ, μ, o, μ', A, e, k⟩ := hh; exact po_some h pins s σ H Q I (by
  obtain ⟨⟨x, μ1⟩, e1, e⟩ := bind_inv e
  refine ⟨ρ, δ, μ, x, μ1, A, e1, fun ρ1 H1 v x1 R1 r1 => ?_⟩
  dsimp only at e
  split at e
  · cases e
    exact ⟨_, r1.int_inv, k ρ1 H1 x1 R1⟩
  · cases e)
theorem cut_rep {K : PySem.W.Frag} {ρ : List Addr} {H : Hp} {ds : List D} {vs : List V} {lo hi : Option Int} (r : RepVs K ρ H ds vs) : RepVs K ρ H (cutD ds lo hi) (cutV vs lo hi) := by
  unfold cutD cutV
  rw [r.length]
  exact (r.drop _).take _
theorem me_sl {l h : FO} (he : ME X e φ) (hl : MO X lo l) (hu : MO X hi h) : ME X (.Subscript e (.Slice lo hi none p2) pos) (fSl φ l h) :=
  me_of (pe_slice (SlR.or sl_any sl_list) he hl hu) fun ρ δ μ σ H d μ' Q A e k => by
    obtain ⟨⟨x, μ1⟩, e1, e⟩ := bind_inv e
    obtain ⟨⟨o1, μ2⟩, e2, e⟩ := bind_inv e
    obtain ⟨⟨o2, μ3⟩, e3, e⟩ := bind_inv e
    refine ⟨ρ, δ, μ, x, μ1, A, e1, fun ρ1 H1 v x1 R1 r1 => ?_⟩
    refine ⟨ρ1, δ, μ1, o1, μ2, A.ext x1 R1, e2, fun ρ2 H2 x2 R2 => ?_⟩
    refine ⟨ρ2, δ, μ2, o2, μ3, A.ext (x1.trans x2) R2, e3, fun ρ3 H3 x3 R3 => ?_⟩
    dsimp only at e
    split at e
    · cases e
      obtain ⟨a, vs, rfl, ea, q⟩ := (r1.ext (x2.trans x3)).tup_inv
      have xx := x1.trans (x2.trans x3)
      refine .inl ⟨a, vs, rfl, ea, fun hw => k ρ3 H3 _ xx R3 (.tup ea ?_), fun p hp => k ρ3 _ _ (xx.trans (Ext.new hp)) (R3.newTup hp) (.tup upd_same ((cut_rep q).ext (Ext.new hp)))⟩
      have e4 : cutV vs o1 o2 = vs := by
        unfold cutV
        rw [hw.1, hw.2, Nat.sub_zero, List.drop_zero, List.take_length]
      have := cut_rep (lo := o1) (hi := o2) q
      rw [e4] at this
      exact this
    · split at e
      · rename_i hm
        cases e
        obtain ⟨a, rfl, ea⟩ := (r1.ext (x2.trans x3)).loc_inv
        obtain ⟨vs, ev, q⟩ := R3.at_ _ _ _ ea hm
        have xx := x1.trans (x2.trans x3)
        exact .inr ⟨a, vs, rfl, SqL.of ev, fun p hp => k _ _ _ (xx.trans (Ext.push hp)) (R3.push hp ⟨_, upd_same, (cut_rep q).ext (Ext.push hp)⟩) (.loc (push_get R3))⟩
      · cases e
    · cases e
@[simp] noncomputable def fNeg (φ : FE) : FE := fun δ μ => (φ δ μ).bind fun p => match p.1 with
  | .int i => some (.int (-i), p.2)
  | _ => none
theorem me_neg (h : ME X a φ) : ME X (.UnaryOp .USub a pos) (fNeg φ) :=
  me_of (pe_un un_neg h) fun ρ δ μ σ H d μ' Q A e k => by
    obtain ⟨⟨x, μ1⟩, e1, e⟩ := bind_inv e
    refine ⟨ρ, δ, μ, x, μ1, A, e1, fun ρ1 H1 v x1 R1 r1 => ?_⟩
    dsimp only at e
    split at e
    · cases e
      exact ⟨_, r1.int_inv, k ρ1 H1 _ x1 R1 .int⟩
    · cases e
@[simp] noncomputable def fEmp : FE := fun _ μ => some (.loc μ.length, μ ++ [.dct []])
noncomputable def flatD : D → Bool
  | .non | .bl _ | .int _ | .str _ => true
  | _ => false
noncomputable def eqF : D → D → Bool
  | .non, .non => true
  | .bl a, .bl b => a == b
  | .bl a, .int b => (if a then 1 else 0) == b
  | .int a, .bl b => a == (if b then 1 else 0)
  | .int a, .int b => a == b
  | .str a, .str b => a == b
  | _, _ => false
noncomputable def gIn : G2 := fun x y μ => (items μ y).bind fun ds => bif flatD x && ds.all flatD then some (.bl (ds.any fun d => eqF d x), μ) else none
noncomputable def gNotIn : G2 := fun x y μ => (items μ y).bind fun ds => bif flatD x && ds.all flatD then some (.bl (!ds.any fun d => eqF d x), μ) else none
theorem flat_rep {K : PySem.W.Frag} {ρ : List Addr} {H : Hp} {d : D} {v : V} (r : RepV K ρ H d v) (f : flatD d = true) : flatV v = true := by
  cases d with
  | non => rw [r.non_inv]; rfl
  | bl b => rw [r.bl_inv]; rfl
  | int b => rw [r.int_inv]; rfl
  | str b => rw [r.str_inv]; rfl
  | _ => cases f
theorem eqF_rep {K : PySem.W.Frag} {ρ : List Addr} {H : Hp} {d d' : D} {v v' : V} (r : RepV K ρ H d v) (r' : RepV K ρ H d' v') (f : flatD d = true) (f' : flatD d' = true) : eqV v v' = eqF d d' := by
  cases d with
  | non => rw [r.non_inv]; cases d' with
    | non => rw [r'.non_inv]; rfl
    | bl b => rw [r'.bl_inv]; rfl
    | int b => rw [r'.int_inv]; rfl
    | str b => rw [r'.str_inv]; rfl
    | _ => cases f'
  | bl b => rw [r.bl_inv]; cases d' with
    | non => rw [r'.non_inv]; rfl
    | bl b => rw [r'.bl_inv]; rfl
    | int b => rw [r'.int_inv]; rfl
    | str b => rw [r'.str_inv]; rfl
    | _ => cases f'
  | int b => rw [r.int_inv]; cases d' with
    | non => rw [r'.non_inv]; rfl
    | bl b => rw [r'.bl_inv]; rfl
    | int b => rw [r'.int_inv]; rfl
    | str b => rw [r'.str_inv]; rfl
    | _ => cases f'
  | str b => rw [r.str_inv]; cases d' with
    | non => rw [r'.non_inv]; rfl
    | bl b => rw [r'.bl_inv]; rfl
    | int b => rw [r'.int_inv]; rfl
    | str b => rw [r'.str_inv]; rfl
    | _ => cases f'
  | _ => cases f
theorem in_rep {K : PySem.W.Frag} {ρ : List Addr} {H : Hp} {x : D} {v : V} (rx : RepV K ρ H x v) (fx : flatD x = true) : ∀ {ds : List D} {vs : List V}, RepVs K ρ H ds vs → ds.all flatD = true → vs.all flatV = true ∧ inV v vs = ds.any fun d => eqF d x
  | [], _, r, _ => by rw [r.nil_inv]; exact ⟨rfl, rfl⟩
  | d :: ds, _, r, f => by
    obtain ⟨w, ws, rfl, r1, r2⟩ := r.cons_inv
    rw [List.all_cons, Bool.and_eq_true] at f
    obtain ⟨h1, h2⟩ := in_rep rx fx r2 f.2
    refine ⟨by rw [List.all_cons, flat_rep r1 f.1, h1]; rfl, ?_⟩
    unfold inV at h2 ⊢
    rw [List.any_cons, List.any_cons, h2, eqF_rep r1 rx f.1 fx]
theorem opM_in : OpM X (compareOp .In) gIn := by
  refine OpM.of fun pins s σ H x y v u Q I rx ry ρ dx dy μ d μ' r1 r2 R e k => ?_
  obtain ⟨ds, e1, e⟩ := bind_inv e
  obtain ⟨h1, e⟩ := bif_inv e
  rw [Bool.and_eq_true] at h1
  cases e
  obtain ⟨p, vs, rfl, hq, rr⟩ := items_seq R r2 e1
  obtain ⟨h3, h4⟩ := in_rep r1 h1.1 rr h1.2
  exact op_in_seq pins s σ H x _ v u Q I rx ry ⟨p, vs, rfl, hq, flat_rep r1 h1.1, h3, by rw [if_neg Bool.false_ne_true, h4]; exact k ρ H _ Ext.refl R .bl⟩
theorem opM_notIn : OpM X (compareOp .NotIn) gNotIn := by
  refine OpM.of fun pins s σ H x y v u Q I rx ry ρ dx dy μ d μ' r1 r2 R e k => ?_
  obtain ⟨ds, e1, e⟩ := bind_inv e
  obtain ⟨h1, e⟩ := bif_inv e
  rw [Bool.and_eq_true] at h1
  cases e
  obtain ⟨p, vs, rfl, hq, rr⟩ := items_seq R r2 e1
  obtain ⟨h3, h4⟩ := in_rep r1 h1.1 rr h1.2
  exact op_notIn_seq pins s σ H x _ v u Q I rx ry ⟨p, vs, rfl, hq, flat_rep r1 h1.1, h3, by rw [if_pos rfl, h4]; exact k ρ H _ Ext.refl R .bl⟩
noncomputable abbrev GM := D → List D → Mem → Option (D × Mem)
@[simp] noncomputable def fMeth (g : GM) (φ : FE) (ψ : FA) : FE := fun δ μ => (φ δ μ).bind fun p => match p.1 with
  | .loc n => match p.2[n]? with
    | some (.lst _) => (ψ δ p.2).bind fun q => g (.loc n) q.1 q.2
    | _ => none
  | _ => none
@[simp] noncomputable def gAppend : GM := fun x ds μ => match x, ds with
  | .loc n, [d] => match μ[n]? with
    | some (.lst xs) => bif decide (xs.length ≤ 1000000) then some (.non, μ.set n (.lst (xs ++ [d]))) else none
    | _ => none
  | _, _ => none
noncomputable def MtG (X : Cx) (id : String) (g : GM) : Prop := MtR X id fun x xs H Q => ∃ ρ dx ds μ d μ', RepV X.K ρ H dx x ∧ RepVs X.K ρ H ds xs ∧ RepH X.K ρ H μ ∧ g dx ds μ = some (d, μ') ∧ ∀ ρ' H' v, Ext ρ H ρ' H' → RepH X.K ρ' H' μ' → RepV X.K ρ' H' d v → Q v H'
theorem MtG.of {X : Cx} {id : String} {g : GM} (h : ∀ (pins : List (Addr × Obj)) (s : Shared) (σ : L2.St) (H : Hp) (x : V) (xs : List V) (v : Value) (us : List Value) (Q : VK), Inv X pins σ H s → RelV x v → Vals xs us → ∀ (ρ : List Addr) (dx : D) (ds : List D) (μ : Mem) (d : D) (μ' : Mem), RepV X.K ρ H dx x → RepVs X.K ρ H ds xs → RepH X.K ρ H μ → g dx ds μ = some (d, μ') → (∀ ρ' H' v, Ext ρ H ρ' H' → RepH X.K ρ' H' μ' → RepV X.K ρ' H' d v → Q v H') → wpAny (model X.prog X.w) X.A (call (.builtin id) (v :: us)) (EP X pins σ Q) X.xe s) : MtG X id g := by
  intro pins s σ H x xs v us Q I rx rs hh
  obtain ⟨ρ, dx, ds, μ, d, μ', r1, r2, R, e, k⟩ := hh
  exact h pins s σ H x xs v us Q I rx rs ρ dx ds μ d μ' r1 r2 R e k
theorem me_meth {o : Expr} {ψ : FA} {name : Str} {id : String} {g : GM} {apos : Pos} (slot : Slot "list" name id) (hty : typeOf (.builtin id) = pure (.type "method_descriptor")) (hm : MtG X id g) (ho : ME X o φ) (ha : MAn X (e :: es) ψ)
    (hbase : attributeBase o name X.env (eval o X.env) = eval o X.env := by rfl)
    (hfew : ((backTo pos (starEach (e :: es) X.env)).all (fun x => !x.1) && (backToKw pos (keywordEach [] X.env)).all (fun x => x.1.isSome)
      && decide ((e :: es).length + ([] : List Keyword).length + (if ([] : List Keyword).isEmpty then 0 else 1) < 30)) = true := by rfl)
    (hline : (apos.endLine == pos.line) = true := by rfl) (hs : starEach (e :: es) X.env = (false, eval e X.env) :: starEach es X.env := by rfl) (hplain : (backTo pos (starEach es X.env)).any (·.1) = false := by rfl) :
    ME X (.Call (.Attribute o name apos) (e :: es) [] pos) (fMeth g φ ψ) :=
  me_of (pe_bm PySem.F.plainAttrs_list slot hty hm ho ha.ma hbase hfew hline hs hplain) fun ρ δ μ σ H d μ' Q A e k => by
    obtain ⟨⟨x, μ1⟩, e1, e⟩ := bind_inv e
    refine ⟨ρ, δ, μ, x, μ1, A, e1, fun ρ1 H1 v x1 R1 r1 => ?_⟩
    dsimp only at e
    split at e
    · split at e
      · rename_i hm'
        obtain ⟨⟨ds, μ2⟩, e2, e⟩ := bind_inv e
        obtain ⟨a, rfl, ea⟩ := r1.loc_inv
        obtain ⟨vs, e3, q3⟩ := R1.at_ _ _ _ ea hm'
        refine ⟨.inl ⟨rfl, vs, SqL.of e3⟩, ρ1, δ, μ1, ds, μ2, A.ext x1 R1, e2, fun ρ2 H2 vs2 x2 R2 r2 => ?_⟩
        exact ⟨ρ2, _, ds, μ2, d, μ', r1.ext x2, r2, R2, e, fun ρ3 H3 v3 x3 R3 r3 => k ρ3 H3 v3 (x1.trans (x2.trans x3)) R3 r3⟩
      · cases e
    · cases e
theorem mtG_append : MtG X "list.append" gAppend := by
  refine MtG.of fun pins s σ H x xs v us Q I rx rs ρ dx ds μ d μ' r1 r2 R e k => ?_
  unfold gAppend at e
  split at e
  · split at e
    · rename_i hm
      obtain ⟨h1, e⟩ := bif_inv e
      have h1 := of_decide_eq_true h1
      cases e
      obtain ⟨a, rfl, ea⟩ := r1.loc_inv
      obtain ⟨vs, e3, q3⟩ := R.at_ _ _ _ ea hm
      obtain ⟨w, r, rfl, q1, q2⟩ := r2.cons_inv
      rw [q2.nil_inv] at rs
      have hl := q3.length
      have hmi := million
      have hmu : Mut (H a) := by rw [e3]; trivial
      refine mt_append pins s σ H _ _ v us Q I rx rs ⟨a, vs, w, rfl, rfl, e3, by omega, ?_⟩
      exact k ρ _ _ (Ext.wr hmu) (R.wr hmu ea ⟨_, upd_same, RepVs.ext (Ext.wr hmu) (q3.append (.cons q1 .nil))⟩) .non
    · cases e
  · cases e
theorem me_append {o : Expr} {ψ : FA} {apos : Pos} (ho : ME X o φ) (ha : MAn X (e :: es) ψ)
    (hbase : attributeBase o "append" X.env (eval o X.env) = eval o X.env := by rfl)
    (hfew : ((backTo pos (starEach (e :: es) X.env)).all (fun x => !x.1) && (backToKw pos (keywordEach [] X.env)).all (fun x => x.1.isSome)
      && decide ((e :: es).length + ([] : List Keyword).length + (if ([] : List Keyword).isEmpty then 0 else 1) < 30)) = true := by rfl)
    (hline : (apos.endLine == pos.line) = true := by rfl) (hs : starEach (e :: es) X.env = (false, eval e X.env) :: starEach es X.env := by rfl) (hplain : (backTo pos (starEach es X.env)).any (·.1) = false := by rfl) :
    ME X (.Call (.Attribute o "append" apos) (e :: es) [] pos) (fMeth gAppend φ ψ) := me_meth PySem.F.slot_list_append PySem.F.type_list_append mtG_append ho ha hbase hfew hline hs hplain
end
end M
set_option Elab.async false
set_option linter.all false
set_option autoImplicit false
namespace M
open PySem
noncomputable def RS (xs : Array Nat) : Prop := xs.toList.Pairwise (· < ·)
structure TOk (L : Bool) (t : SetTable) : Prop where
  rs : RS t.place
  nd : t.dummies = #[]
  led : t.led = L
end M
set_option Elab.async false
set_option linter.all false
set_option autoImplicit false
set_option maxRecDepth 100000
namespace M
open PySem
section
variable {prog : Program} {w : World} {A : Around} {E : Value → Shared → Prop} {s : Shared}
theorem stored {o : Obj} {h : Heap} {a : Addr} {es : Array (Int × Value)} {ep : Nat} {t : SetTable} (ho : h.get? a = some o) (hd : o.data = .set es ep t) (es1 : Array (Int × Value)) (t1 : SetTable) :
    (h.update a (Obj.putSet es1 t1)).get? a = some { o with data := .set es1 (ep + 1) t1 } := by
  have e := putSet_of es1 t1 hd
  have q := Heap.get?_update_self (Obj.putSet es1 t1) ho (by rw [e]; rfl)
  rw [e] at q
  exact q
end
end M
set_option Elab.async false
set_option linter.all false
set_option autoImplicit false
set_option maxRecDepth 100000
namespace M
open PySem
end M
set_option Elab.async false
set_option linter.all false
set_option autoImplicit false
set_option maxRecDepth 100000
namespace M
open PySem
section
variable {prog : Program} {w : World} {A : Around} {E : Value → Shared → Prop} {s : Shared}
end
end M
set_option Elab.async false
set_option linter.all false
set_option autoImplicit false
set_option maxRecDepth 100000
namespace M
open PySem
section
variable {prog : Program} {w : World} {A : Around} {E : Value → Shared → Prop} {s : Shared} {it a : Addr} {es : Array (Int × Value)} {ep i : Nat} {t : SetTable} {Q : Option Value → Shared → Prop}
end
end M
set_option Elab.async false
set_option linter.all false
set_option autoImplicit false
set_option maxRecDepth 100000
namespace M
open PySem
section
variable {prog : Program} {w : World} {A : Around} {E : Value → Shared → Prop} {s : Shared} {it a : Addr} {es : Array (Int × Value)} {ep i : Nat} {t : SetTable}
end
end M
set_option Elab.async false
set_option linter.all false
set_option autoImplicit false
set_option maxRecDepth 100000
namespace M
open PySem
section
variable {prog : Program} {w : World} {A : Around} {E : Value → Shared → Prop} {s : Shared} {I a : Addr} {es : Array (Int × Value)} {ep i : Nat} {t : SetTable}
end
end M
set_option Elab.async false
set_option linter.all false
set_option autoImplicit false
set_option maxRecDepth 100000
namespace M
open PySem
section
variable {prog : Program} {w : World} {A : Around} {E : Value → Shared → Prop} {s : Shared} {a : Addr} {es : Array (Int × Value)} {ep : Nat} {t : SetTable}
end
end M
set_option Elab.async false
set_option linter.all false
set_option autoImplicit false
set_option maxRecDepth 100000
namespace M
open PySem
section
variable {prog : Program} {w : World} {A : Around} {E : Value → Shared → Prop} {s : Shared} {a : Addr} {es : Array (Int × Value)} {ep : Nat} {t : SetTable}
end
end M
set_option Elab.async false
set_option linter.all false
set_option autoImplicit false
set_option maxRecDepth 100000
namespace M
open PySem PyProof.Rows
section
variable {prog : Program} {w : World} {A : Around} {E : Value → Shared → Prop} {s : Shared} {a : Addr}
end
end M
set_option Elab.async false
set_option linter.all false
set_option autoImplicit false
set_option maxRecDepth 100000
namespace M
open PySem PyProof.Rows
section
variable {prog : Program} {w : World} {A : Around} {R : Result → Shared → Prop} {I : Addr} {fp wr : List Addr} {n : Nat} {P : Nat → Value → Prop} {St : Nat → Heap → Prop}
end
section
variable {prog : Program} {w : World} {A : Around} {E : Value → Shared → Prop} {s : Shared}
end
end M
set_option Elab.async false
set_option linter.all false
set_option autoImplicit false
set_option maxRecDepth 100000
namespace M
open PySem PyProof.Rows
section
variable {prog : Program} {w : World} {A : Around} {E : Value → Shared → Prop} {s : Shared}
end
end M
set_option Elab.async false
set_option linter.all false
set_option maxRecDepth 100000
set_option autoImplicit false
namespace M
open PySem PySem.Spec PyProof.Rows L2
section
variable {X : Cx} {pins : List (Addr × Obj)} {σ : L2.St} {H : Hp} {s s' : Shared}
end
noncomputable def intD : D → Option Int
  | .int i => some i
  | _ => none
noncomputable def intsD (ds : List D) : Option (List Int) := ds.mapM intD
@[simp] theorem intsD_map : ∀ ns : List Int, intsD (ns.map D.int) = some ns
  | [] => rfl
  | i :: ns => by
    have := intsD_map ns
    unfold intsD at this ⊢
    rw [List.map_cons, List.mapM_cons, this]
    rfl
theorem intsD_inv : ∀ {ds : List D} {ns : List Int}, intsD ds = some ns → ds = ns.map D.int
  | [], ns, h => by
    unfold intsD at h
    simp at h
    subst h; rfl
  | d :: ds, ns, h => by
    unfold intsD at h
    rw [List.mapM_cons] at h
    obtain ⟨i, e1, h⟩ := bind_inv h
    obtain ⟨r, e2, h⟩ := bind_inv h
    cases h
    cases d with
    | int j => cases e1; rw [intsD_inv (show intsD ds = some r from e2)]; rfl
    | _ => cases e1
theorem rep_ints {K : PySem.W.Frag} {ρ : List Addr} {H : Hp} : ∀ {ns : List Int} {vs : List V}, RepVs K ρ H (ns.map D.int) vs → vs = ns.map V.int
  | [], vs, r => r.nil_inv
  | i :: ns, vs, r => by
    obtain ⟨v, q, rfl, h1, h2⟩ := r.cons_inv
    rw [h1.int_inv, rep_ints h2]
    rfl
section
variable {X : Cx} {a b c e : Expr} {es : List Expr} {φ ψ χ : FE} {pos pos2 p1 p2 : Pos}
end
end M
set_option Elab.async false
set_option linter.all false
set_option maxRecDepth 100000
set_option autoImplicit false
namespace M
open PySem PySem.Spec PyProof.Rows L2
section
variable {prog : Program} {w : World} {A : Around} {E : Value → Shared → Prop} {s : Shared}
end
section
variable {X : Cx} {a b c e : Expr} {es : List Expr} {φ ψ χ : FE} {pos : Pos}
@[simp] noncomputable def gExt : GM := fun x ds μ => match x, ds with
  | .loc n, [.tup ys] => match μ[n]? with
    | some (.lst xs) => bif decide (xs.length + ys.length ≤ 1000000) then some (.non, μ.set n (.lst (xs ++ ys))) else none
    | _ => none
  | .loc n, [.loc m] => match μ[n]?, μ[m]? with
    | some (.lst xs), some (.lst ys) => bif decide (xs.length + ys.length ≤ 1000000) then some (.non, μ.set n (.lst (xs ++ ys))) else none
    | _, _ => none
  | _, _ => none
@[simp] noncomputable def iSeq (φ : FE) : FI := fun δ μ => (φ δ μ).bind fun p => match p.1 with
  | .tup ds => some (ds, yes, p.2)
  | .fz ds => some (ds, yes, p.2)
  | .loc n => match p.2[n]? with
    | some (.lst ds) => some (ds, stays n ds, p.2)
    | _ => none
  | _ => none
theorem mi_seq {tg : Expr} (h : ME X a φ) : MI X tg a (iSeq φ) := by
  intro pins s σ H R I hh
  obtain ⟨ρ, δ, μ, ds, ok, μ', A, e, k⟩ := hh
  cases e1 : φ δ μ with
  | none => unfold iSeq at e; rw [e1] at e; cases e
  | some p =>
    obtain ⟨x, μ1⟩ := p
    cases x with
    | tup zs => exact mi_tup h pins s σ H R I ⟨ρ, δ, μ, ds, ok, μ', A, by unfold iSeq at e; unfold iTuple; rw [e1] at e ⊢; exact e, k⟩
    | fz zs => exact mi_list h pins s σ H R I ⟨ρ, δ, μ, ds, ok, μ', A, by unfold iSeq at e; unfold iList; rw [e1] at e ⊢; exact e, k⟩
    | loc n => exact mi_list h pins s σ H R I ⟨ρ, δ, μ, ds, ok, μ', A, by unfold iSeq at e; unfold iList; rw [e1] at e ⊢; exact e, k⟩
    | _ => unfold iSeq at e; rw [e1] at e; cases e
end
end M
set_option Elab.async false
set_option linter.all false
set_option maxRecDepth 100000
set_option autoImplicit false
namespace M
open PySem PySem.Spec PyProof.Rows L2
theorem exc_of_in {K : PySem.W.Frag} {h : Heap} {C : Addr} {bmB : List Value} {newId : String} (X : K.In h) (q : PySem.W.excIn K C bmB newId = true) :
    ∃ bm N nm qn bs hdct sn sub ab col dd k0 k1 k2 k3 k5 mN, h.get? C = some (excClassObj nm qn C N bs bm hdct sn sub ab col dd k0 k1 k2 k3 k5 newId) ∧ h.Ns N mN ∧ mN "__init__" = none ∧ OwnTail h bmB bm := by
  unfold PySem.W.excIn at q
  split at q
  · rename_i dd cd sl ho
    split at q
    · rename_i C' bm k0 k1 k2 k3 n k5 hm hs
      simp only [Bool.and_eq_true, beq_iff_eq, Bool.not_eq_true'] at q
      obtain ⟨⟨⟨⟨⟨rfl, rfl⟩, hdel⟩, ht⟩, hok⟩, hni⟩ := q
      obtain ⟨nm, bs, mro, ns, qn, hd, sn, sub, ab, col, del⟩ := cd
      dsimp only at hm hdel hok hni
      subst hm hdel
      have hsl : sl = #[k0, k1, k2, k3, some (.builtin n), k5] := by
        obtain ⟨l⟩ := sl
        simp only at hs
        rw [hs]
      subst hsl
      exact ⟨bm, ns, nm, qn, bs, hd, sn, sub, ab, col, dd, k0, k1, k2, k3, k5, _, X _ _ ho, .of_isNs (PySem.W.isNs_of_in X hok), PySem.W.nsMap_none_of_in X hok hni, PySem.W.tail_of_in X ht⟩
    · cases q
  · cases q
section
variable {X : Cx} {e : Expr} {es : List Expr} {pos np cpos : Pos} {x : Str} {C : Addr} {B newId initId : String} {bmB : List Value}
end
inductive RO where
  | ok (d : D) (μ : Mem)
  | exc (c : Str) (fs : List (Str × D)) (μ : Mem)
noncomputable abbrev FX := List D → Mem → Option RO
noncomputable def ROk (K : PySem.W.Frag) (ρ : List Addr) (H : Hp) (Q : VK) (E : XK) : RO → Prop
  | .ok d μ' => ∀ ρ' H' v, Ext ρ H ρ' H' → RepH K ρ' H' μ' → RepV K ρ' H' d v → Q v H'
  | .exc c fs μ' => ∀ ρ' H' C dx, PySem.W.nsIn K mainGlobals c = some (some (.ref C)) → Ext ρ H ρ' H' → RepH K ρ' H' μ' → RepX K ρ' H' fs dx → E (.ref C) dx H'
theorem ROk.ext {K : PySem.W.Frag} {ρ ρ1 : List Addr} {H H1 : Hp} {Q : VK} {E : XK} {r : RO} (h : ROk K ρ H Q E r) (x : Ext ρ H ρ1 H1) : ROk K ρ1 H1 Q E r := by
  cases r with
  | ok d μ => exact fun ρ' H' v x' R r => h ρ' H' v (x.trans x') R r
  | exc c fs μ => exact fun ρ' H' C dx hc x' R r => h ρ' H' C dx hc (x.trans x') R r
noncomputable def spX (K : PySem.W.Frag) (n : Nat) (F : FX) : Sp := fun vs H Q E => vs.length = n ∧ ∃ ρ ds μ r, RepVs K ρ H ds vs ∧ RepH K ρ H μ ∧ F ds μ = some r ∧ ROk K ρ H Q E r
@[simp] noncomputable def retX : Option Out → Option RO
  | some (.ret d μ) => some (.ok d μ)
  | some (.next _ μ) => some (.ok .non μ)
  | some (.exc c fs μ) => some (.exc c fs μ)
  | _ => none
theorem fnX {P : Program} {w : World} {K : PySem.W.Frag} {mg : Str → Option Value} {base : Heap} {x qual : Str} {st : Stmt} {f : Addr} {fd : FuncData} {N ps : List Str} {k n : Nat} {F : FX} (G : Fun K x qual st f fd) (S : FnScope N ps (defScope st)) (hn : ps.length = n)
    (hbody : ∀ (cdv : Value) (A : Around) (outer : List Env) (s : Shared) (H : Hp) (E : XK), Room k (A.deeper (envOfC qual (defScope st) s.heap.objs.size f cdv)) →
      ∃ p, MSs (cxOf (CXq P w) P w K mg base N qual (defScope st) f cdv A outer s H E) (defBody st) p ∧ ∀ ds μ r, ds.length = n → F ds μ = some r → retX (p (startD N ds) μ) = some r) :
    FnOk P w K mg base (CXq P w) (k + 1) f fd ps (spX K n F) := by
  obtain ⟨oc, od, kV, doc, pm, an, cdv, ct, osl, rfl, lk, hcd⟩ := G.ex
  refine fn_of lk hcd S (fun vs H Q E h => by rw [hn]; exact h.1) fun A outer s H vs Q E hr h => ?_
  obtain ⟨p, hp, hF⟩ := hbody cdv A outer s H E hr
  refine ⟨_, hp, ?_⟩
  obtain ⟨hl, ρ, ds, μ, r, rv, R, e, hk⟩ := h
  have e' := hF ds μ r (by rw [rv.length]; exact hl) e
  cases eo : p (startD N ds) μ with
  | none => rw [eo] at e'; cases e'
  | some o =>
    rw [eo] at e'
    refine ⟨ρ, startD N ds, μ, o, start_at rv R, eo, ?_⟩
    cases o with
    | ret d2 μ2 => cases e'; exact fun ρ' v H' x' R' r' => hk ρ' H' v x' R' r'
    | next δ2 μ2 => cases e'; exact fun ρ' σ' H' x' A' => hk ρ' H' .non x' A'.hp .non
    | exc c fs μ2 => cases e'; exact fun ρ' H' C dx hc x' R' r' => wish_leave (hk ρ' H' C dx hc x' R' r')
    | brk _ _ => cases e'
    | cont _ _ => cases e'
section
variable {X : Cx} {e : Expr} {es : List Expr} {pos p spos : Pos} {x : Str} {k j n : Nat} {st : Stmt} {f : Addr} {fd : FuncData} {ps : List Str} {F : FX} {φ : FA}
noncomputable def tCX (K : PySem.W.Frag) (W : XK) (n : Nat) (F : FX) (φ : FA) : TE := tCall (spX K n F) [] W (tMA K φ)
theorem tCX_of {K : PySem.W.Frag} {W : XK} {ρ : List Addr} {δ : Loc} {μ : Mem} {σ : L2.St} {H : Hp} {Q : VK} {ds : List D} {μ1 : Mem} {r : RO} (A : At K ρ H σ δ μ) (e1 : φ δ μ = some (ds, μ1)) (hl : ds.length = n) (e2 : F ds μ1 = some r) (h : ROk K ρ H Q W r) : tCX K W n F φ σ H Q :=
  ⟨ρ, δ, μ, ds, μ1, A, e1, fun ρ1 H1 vs x1 R1 r1 => by
    show spX K n F (vs ++ []) H1 Q W
    rw [List.append_nil]
    exact ⟨by rw [← r1.length]; exact hl, ρ1, ds, μ1, r, r1, R1, e2, h.ext x1⟩⟩
@[simp] noncomputable def outX (F : FX) (φ : FA) (g : D → Loc → Mem → Out) : FS := fun δ μ => (φ δ μ).bind fun p => match F p.1 p.2 with
  | some (.ok d μ') => some (g d δ μ')
  | some (.exc c fs μ') => some (.exc c fs μ')
  | none => none
theorem outX_inv {g : D → Loc → Mem → Out} {δ : Loc} {μ : Mem} {o : Out} (h : outX F φ g δ μ = some o) : ∃ ds μ1 r, φ δ μ = some (ds, μ1) ∧ F ds μ1 = some r ∧ o = match r with
    | .ok d μ' => g d δ μ'
    | .exc c fs μ' => .exc c fs μ' := by
  obtain ⟨⟨ds, μ1⟩, e1, h⟩ := bind_inv h
  refine ⟨ds, μ1, ?_⟩
  cases e2 : F ds μ1 with
  | none => rw [e2] at h; cases h
  | some r =>
    rw [e2] at h
    cases r with
    | ok d μ' => cases h; exact ⟨_, e1, rfl, rfl⟩
    | exc c fs μ' => cases h; exact ⟨_, e1, rfl, rfl⟩
@[simp] noncomputable def sSetX (i : Nat) (F : FX) (φ : FA) : FS := outX F φ fun d δ μ => .next (δ.set i (some d)) μ
end
end M
set_option Elab.async false
set_option linter.all false
set_option maxRecDepth 100000
set_option autoImplicit false
namespace L2
open PySem PySem.Spec PyProof.Rows
section
variable {X : Cx} {pins : List (Addr × Obj)} {σ : St} {H : Hp} {s : Shared}
theorem goes_ok {M : Model} {A : Around} {E : Value → Shared → Prop} {i : Nat} {x : Str} {pos : Pos} {Q : Unit → Shared → Prop} (I : Inv X pins σ H s) (hN : X.N.Nodup) (hi : X.N[i]? = some x) (hk : X.env.scope.names.lookup x = some .local)
    (h : ∀ s', Inv X pins (σ.set i none) H s' → Q () s') : wpAny M A (do bindName X.env x .none; unbindBehindTheSuite X.env x pos) Q E s := by
  obtain ⟨m, hn, hl⟩ := id I.loc
  have hcls : (X.env.scope.kind == .class || (X.env.scope.kind == .module && X.env.locals != X.env.globals)) = false := by rw [I.ok.kind]; rfl
  have hiσ : i < σ.length := by rw [I.len]; exact (List.getElem?_eq_some_iff.mp hi).1
  refine wpAny_nameGoes_keeps hk hn hcls fun h' v hn' hs => ?_
  have old : ∀ b o, X.s₀.heap.get? b = some o → b ≠ X.env.locals := fun b o e => Nat.ne_of_lt (Nat.lt_of_lt_of_le (Heap.lt_size e) I.ok.above)
  have hok : HOk X.prog X.w H h' := fun b ob e => by
    refine (I.hok b ob e).stay (fun c w' hc q => (hs.2 c ?_).trans q) (fun _ q => q) fun _ _ q => q
    rintro rfl
    rcases hc with rfl | hc
    · rw [I.free] at e; cases e
    · rw [I.free] at hc; cases hc
  refine h _ ⟨I.ok, I.os, I.bare, ⟨fun b o e n hb hx => (hs.2 b (old b o e)).trans (I.base.keep b o e n hb hx), fun b o e n hb hx => ?_, I.base.free, fun b o e hx => ?_, I.base.tups, I.base.frzs, I.base.tbls⟩, ⟨_, hn', fun j y v' e1 e2 e3 => ?_⟩, fun y c e => ?_, I.free, I.freeC, fun p hp => ?_, hok, by simpa using I.len⟩
  · obtain ⟨sl, e1⟩ := I.base.slot b o e n hb hx
    exact ⟨sl, (hs.2 b (old b o e)).trans e1⟩
  · obtain ⟨o', e1⟩ := I.base.there b o e hx
    exact ⟨o', (hs.2 b (old b o e)).trans e1⟩
  · by_cases hj : j = i
    · subst hj
      rw [List.getElem?_set_self hiσ] at e2
      cases e2
    · rw [List.getElem?_set_ne (Ne.symm hj)] at e2
      obtain ⟨u', r', q⟩ := hl j y v' e1 e2 e3
      refine ⟨u', r', ?_⟩
      rcases q with ⟨k, e⟩ | ⟨k, c, e, z⟩
      · refine .inl ⟨k, ?_⟩
        have : y ≠ x := fun e => hj (nodup_ix hN e1 (e ▸ hi))
        simp [this, e]
      · exact .inr ⟨k, c, e, z.sameBut hs (I.cne y c e)⟩
  · obtain ⟨w', z⟩ := I.cell y c e
    exact ⟨w', z.sameBut hs (I.cne y c e)⟩
  · obtain ⟨p1, p2, p3, p4, p5⟩ := I.pin p hp
    exact ⟨(hs.2 p.1 p3).trans p1, p2, p3, p4, p5⟩
noncomputable abbrev Cx.suite (X : Cx) (v : Value) : Cx := { X with A := X.A.mark (some v), calm := false, xe := fun _ _ => False }
theorem Inv.suite (I : Inv X pins σ H s) (v : Value) : Inv (X.suite v) pins σ H s :=
  ⟨⟨I.ok.mod, I.ok.kind, I.ok.glob, I.ok.blt, I.ok.above, I.ok.inj, I.ok.has, I.ok.cab, fun z => absurd z (by simp), I.ok.frames, I.ok.stk, I.ok.exf, I.ok.bs, I.ok.bsz, I.ok.noex, I.ok.exfs, I.ok.funs, I.ok.frf⟩,
    I.os, I.bare, I.base, I.loc, I.cell, I.free, I.freeC, I.pin, I.hok, I.len⟩
theorem Inv.unsuite {v : Value} (ok : X.Ok) (I : Inv (X.suite v) pins σ H s) : Inv X pins σ H s :=
  ⟨ok, I.os, I.bare, I.base, I.loc, I.cell, I.free, I.freeC, I.pin, I.hok, I.len⟩
theorem HOk.track {P : Program} {w : World} {h : Heap} {a : Addr} {o : HO} (x : HOk P w H h) (hn : H a = none) (new : ObjOk P w (upd H a o) h a o) : HOk P w (upd H a o) h := fun b u e => by
  by_cases hb : b = a
  · subst hb; rw [upd_same] at e; cases e; exact new
  · rw [upd_ne hb] at e
    exact (x b u e).stay (fun c v _ q => q) (fun c q => by rw [upd_ne (ne_of_none q hn)]; exact q) fun c xs q => by rw [upd_ne (ne_of_none q hn)]; exact q
end
end L2
set_option Elab.async false
set_option linter.all false
set_option maxRecDepth 100000
set_option autoImplicit false
namespace L2
open PySem PySem.Spec PyProof.Rows
section
variable {M : Model} {A : Around} {E : Value → Shared → Prop} {h : Heap} {g : Array GenState} {d : Drawn} {t : Nat} {os : OsState}
theorem excMatches_own {nm q : Str} {C N : Addr} {bs bm : List Value} {hdct : Bool} {sn : List Str} {sub : List Value} {ab : Bool} {col : Option Bool} {dd : Option Addr} {k0 k1 k2 k3 k5 : Option Value} {newId : String}
    {nm' q' : Str} {C' N' : Addr} {bs' bm' : List Value} {hdct' : Bool} {sn' : List Str} {sub' : List Value} {ab' : Bool} {col' : Option Bool} {dd' : Option Addr} {k0' k1' k2' k3' k5' : Option Value} {newId' : String} {e : Addr} {oe : Obj} {b : Bool} {Q : Bool → Shared → Prop}
    (hC : h.get? C = some (excClassObj nm q C N bs bm hdct sn sub ab col dd k0 k1 k2 k3 k5 newId)) (hC' : h.get? C' = some (excClassObj nm' q' C' N' bs' bm' hdct' sn' sub' ab' col' dd' k0' k1' k2' k3' k5' newId'))
    (he : h.get? e = some oe) (hcls : oe.cls = .ref C) (hbase : bm'.contains (.type "BaseException") = true) (hb : (Value.ref C :: bm).contains (.ref C') = b) (hq : Q b ⟨h, g, d, t, os⟩) : wpAny M A (excMatches (.ref e) (.ref C')) Q E ⟨h, g, d, t, os⟩ := by
  have hcB : (Value.ref C' :: bm').contains (.type "BaseException") = true := by rw [List.contains_cons, hbase, Bool.or_true]
  have f := tc_notTuple
  unfold excMatches
  cases b with
  | true =>
    repeat (first | (with_reducible refine wpAny_loadPart_at he ?_; rw [hcls]) | with_reducible refine wpAny_loadPart_at hC' ?_ | (with_reducible refine wpAny_isSubtype_exc hC' ?_; rw [hcB]) | (with_reducible refine wpAny_isSubtype_exc hC ?_; rw [hb]) | wp_step)
    exact hq
  | false =>
    repeat (first | (with_reducible refine wpAny_loadPart_at he ?_; rw [hcls]) | with_reducible refine wpAny_loadPart_at hC' ?_ | (with_reducible refine wpAny_isSubtype_exc hC' ?_; rw [hcB]) | (with_reducible refine wpAny_isSubtype_exc hC ?_; rw [hb]) | wp_step)
    exact hq
end
theorem mro_has {K : PySem.W.Frag} {h : Heap} {C : Addr} {v : Value} {b : Bool} {nm q : Str} {N : Addr} {bs bm : List Value} {hdct : Bool} {sn : List Str} {sub : List Value} {ab : Bool} {col : Option Bool} {dd : Option Addr} {k0 k1 k2 k3 k5 : Option Value} {newId : String} (X : K.In h) (e : PySem.W.mroIn K C v = some b)
    (hC : h.get? C = some (excClassObj nm q C N bs bm hdct sn sub ab col dd k0 k1 k2 k3 k5 newId)) : (Value.ref C :: bm).contains v = b := by
  obtain ⟨cd, a, z⟩ := Option.bind_eq_some_iff.mp e
  unfold PySem.W.clsIn at a
  split at a
  · rename_i ho
    cases a
    have := X _ _ ho
    rw [hC] at this
    cases this
    split at z
    · cases z
    · cases z; rfl
  · cases a
end L2
set_option Elab.async false
set_option linter.all false
set_option maxRecDepth 100000
set_option autoImplicit false
namespace M
open PySem PySem.Spec PyProof.Rows L2
noncomputable def XP (X : Cx) (pins : List (Addr × Obj)) (σ : L2.St) (W : XK) (e : Value) (s' : Shared) : Prop := ∃ H1 s1 C dx H', Inv X pins σ H1 s1 ∧ FlyX X.prog X.w X.stack H1 s1 C dx H' e s' ∧ W C dx H'
noncomputable def PX1 (X : Cx) (st : Stmt) (ψ : FS) : Prop := ∀ (pins : List (Addr × Obj)) (s : Shared) (σ : L2.St) (H : Hp) (D : Ends) (W : XK), Inv X pins σ H s → tMS X.K W ψ D σ H → wpAny (model X.prog X.w) X.A (exec st X.env) (SP X pins D) (XP X pins σ W) s
noncomputable def PX (X : Cx) (sts : List Stmt) (ψ : FS) : Prop := ∀ (pins : List (Addr × Obj)) (s : Shared) (σ : L2.St) (H : Hp) (D : Ends) (W : XK), Inv X pins σ H s → tMS X.K W ψ D σ H → wpAny (model X.prog X.w) X.A (execs sts X.env) (SP X pins D) (XP X pins σ W) s
section
variable {X : Cx} {c e : Expr} {es : List Expr} {pos p spos : Pos} {x : Str} {k j n : Nat} {st : Stmt} {f : Addr} {fd : FuncData} {ps : List Str} {F : FX} {φ : FA}
theorem px_one {ψ : FS} (h : PX1 X st ψ) : PX X [st] ψ := by
  intro pins s σ H D W I q
  refine wpAny_execs_cons (thn (h pins s σ H D W I q) fun f s1 q => ?_)
  cases f with
  | next => exact wpAny_execs_nil q
  | ret v => exact q
  | brk => exact q
  | cont => exact q
theorem pe_x (B : FnAt X.K X.mg x st ps f fd) (G : FnOk X.prog X.w X.K X.mg X.base (CXq X.prog X.w) j f fd ps (spX X.K n F)) (hr : Room k X.A)
    (ha : MAn X.nox (e :: es) φ) (hj : j ≤ k) (hg : Gl X x) (hdb : (x == ("__debug__" : Str)) = false) (he : starEach (e :: es) X.env = (false, eval e X.env) :: starEach es X.env) (hpl : (backTo pos (starEach es X.env)).any (·.1) = false)
    {pins : List (Addr × Obj)} {s : Shared} {σ : L2.St} {H : Hp} {Q : VK} {W : XK} (I : Inv X pins σ H s) (h : tCX X.K W n F φ σ H Q) : wpAny (model X.prog X.w) X.A (eval (.Call (.Name x p) (e :: es) [] pos) X.env) (EP X pins σ Q) (XP X pins σ W) s := by
  refine wpAny_Call_Name_kw (ld_glob I hg B.at_ ?_ hdb)
  refine PySem.W.callWith_K (h₀ := X.base) I.ok.mod.kin B.fn.kp (wpAny_mono (ha.ma pos pins s σ H _ (I.wish _) h) (fun us s1 h1 => ?_) fun _ _ z => z.elim) he hpl
  obtain ⟨vs, H1, I1, r, q⟩ := h1
  have I1 := I1.unwish
  refine ⟨I1.kIn, ?_⟩
  have r2 : Vals (vs ++ []) (us ++ []) := r.append .nil
  have hl : (us ++ []).length = ps.length := by rw [← r2.length]; exact G.len _ _ _ _ q
  refine wpAny_call (codeAny_mono (G.run X.A X.stack s1 H1 ⟨us, []⟩ (us ++ []) (vs ++ []) Q W (hr.mono hj) I1.env0 (B.bd s1 us I1.kIn hl) r2 q) fun rr s' hq => ?_)
  cases rr with
  | error ex =>
    obtain ⟨C, dx, H', Fl, hw⟩ := hq
    exact ⟨H1, s1, C, dx, H', I1, Fl, hw⟩
  | ok fl =>
    cases fl with
    | ret u => exact I1.after hq
    | next => exact False.elim hq
    | brk => exact False.elim hq
    | cont => exact False.elim hq
theorem px_set {y : Str} {py : Pos} (i : Nat) (B : FnAt X.K X.mg x st ps f fd) (G : FnOk X.prog X.w X.K X.mg X.base (CXq X.prog X.w) j f fd ps (spX X.K n F)) (hr : Room k X.A)
    (ha : MAn X.nox (e :: es) φ) (hj : j ≤ k := by decide) (hn : (e :: es).length = n := by rfl) (hN : X.N.Nodup := by first | assumption | decide) (hi : X.N[i]? = some y := by rfl) (hy : L2.Loc X.env.scope y := by first | exact Or.inl rfl | exact Or.inr rfl) (hg : Gl X x := by rfl) (hdb : (x == ("__debug__" : Str)) = false := by decide)
    (he : starEach (e :: es) X.env = (false, eval e X.env) :: starEach es X.env := by exact star_ok rfl) (hpl : (backTo pos (starEach es X.env)).any (·.1) = false := by rfl)
    (hs : swapsWith (.Call (.Name x p) (e :: es) [] pos) (some (.Name y py)) spos.line X.env = pure false := by rfl) (hf : X.fn y = true ∨ X.env.scope.names.lookup y = some .local := by first | exact .inl rfl | exact .inr rfl | assumption) :
    PX1 X (.Assign [.Name y py] (.Call (.Name x p) (e :: es) [] pos) spos) (sSetX i F φ) := by
  intro pins s σ H D W I ⟨ρ, δ, μ, o, A, eo, kk⟩
  obtain ⟨ds, μ1, r, e1, e2, rfl⟩ := outX_inv eo
  refine wpAny_Assign_Name (thn (pe_x B G hr ha hj hg hdb he hpl I (Q := fun v H' => D.nx (σ.set i (some v)) H') (tCX_of A e1 ((ha.len _ _ _ _ e1).trans hn) e2 ?_)) fun v s1 ⟨y, H1, I1, r1, q1⟩ => ?_) hs
  · cases r with
    | ok d μ' => exact fun ρ' H' v x' R r => kk ρ' _ H' x' ((A.ext x' R).set r i)
    | exc c fs μ' => exact kk
  · exact store_ok I1 hN hi hy r1 (fun s2 I2 => ⟨_, H1, I2, q1⟩) hf
end
noncomputable abbrev FH := Str → List (Str × D) → FS
noncomputable def Cau (X : Cx) (pins : List (Addr × Obj)) (σ : L2.St) (C : Value) (dx : Option Addr) (H' : Hp) (a : Addr) (s' : Shared) : Prop := ∃ H1 s1, Inv X pins σ H1 s1 ∧ FlyX X.prog X.w X.stack H1 s1 C dx H' (.ref a) s'
theorem flyx_turn {P : Program} {w : World} {outer : List Env} {H H' : Hp} {s s' : Shared} {C : Value} {dx : Option Addr} {a : Addr} {B base h2 : Heap} (F : FlyX P w outer H s C dx H' (.ref a) s') (c : Cov outer H' s.heap B) (st : B.StaysIn s'.heap) (fl : Fly B outer a C dx h2) (sm : s'.heap.UpToSlots h2)
    (ff : s.heap.FunFrames base outer) (frf : ∀ b ∈ frs outer, H b = none) : FlyX P w outer H s C dx H' (.ref a) { s' with heap := h2 } :=
  ⟨F.os, F.bare, turn_un F.un c st fl.st sm ff frf, turn_hok F.hok c st fl.st, a, B, rfl, fl, c⟩
noncomputable def MH (X : Cx) (hs : List ExceptHandler) (η : FH) : Prop :=
  ∀ pins σ C c fs dx H' a s' ρ δ μ o D, Cau X pins σ (.ref C) dx H' a s' → PySem.W.nsIn X.K mainGlobals c = some (some (.ref C)) → RepX X.K ρ H' fs dx → At X.K ρ H' σ δ μ → η c fs δ μ = some o → OutOk X.K (wishX X) ρ H' D o →
    wpAny (model X.prog X.w) X.A (handleBy (.ref a) X.env hs) (SP X pins D) X.xe s'
@[simp] noncomputable def hNone : FH := fun _ _ _ _ => none
theorem mh_none {X : Cx} {hs : List ExceptHandler} : MH X hs hNone := fun _ _ _ _ _ _ _ _ _ _ _ _ _ _ _ _ _ _ e _ => by cases e
@[simp] noncomputable def sTry (p : FS) (η : FH) : FS := fun δ μ => match p δ μ with
  | some (.exc c fs μ') => η c fs δ μ'
  | o => o
theorem ms_try {X : Cx} {body : List Stmt} {h0 : ExceptHandler} {hs : List ExceptHandler} {pos : Pos} {p : FS} {η : FH} (hb : PX X body p) (hh : MH X (h0 :: hs) η) (hst : X.stack = X.env :: X.outer := by rfl) (hfm : X.env.frame = some X.env.locals := by rfl) : MS X (.Try body (h0 :: hs) [] [] pos) (sTry p η) := by
  intro pins s σ H D I ⟨ρ, δ, μ, o, A, eo, kk⟩
  have calm : ∀ o', p δ μ = some o' → (∀ c fs μ', o' ≠ .exc c fs μ') → wpAny (model X.prog X.w) X.A (exec (.Try body (h0 :: hs) [] [] pos) X.env) (SP X pins D) X.xe s := fun o' ep hne => by
    have eo' : o' = o := by
      unfold sTry at eo
      rw [ep] at eo
      cases o' with
      | exc c fs μ' => exact absurd rfl (hne c fs μ')
      | next _ _ => cases eo; rfl
      | ret _ _ => cases eo; rfl
      | brk _ _ => cases eo; rfl
      | cont _ _ => cases eo; rfl
    subst eo'
    refine wpAny_Try_except (wpAny_mono (hb pins s σ H D E0 I ⟨ρ, δ, μ, o', A, ep, ?_⟩) (fun fl s1 q => ?_) fun e s1 ⟨_, _, _, _, _, _, _, z⟩ => z.elim)
    · cases o' with
      | exc c fs μ' => exact absurd rfl (hne c fs μ')
      | next _ _ => exact kk
      | ret _ _ => exact kk
      | brk _ _ => exact kk
      | cont _ _ => exact kk
    · cases fl with
      | next => exact wpAny_execs_nil q
      | ret v => exact q
      | brk => exact q
      | cont => exact q
  cases ep : p δ μ with
  | none => unfold sTry at eo; rw [ep] at eo; cases eo
  | some o' =>
    cases o' with
    | next _ _ => exact calm _ ep (by intros; simp)
    | ret _ _ => exact calm _ ep (by intros; simp)
    | brk _ _ => exact calm _ ep (by intros; simp)
    | cont _ _ => exact calm _ ep (by intros; simp)
    | exc c fs μ' =>
      have eo : η c fs δ μ' = some o := by unfold sTry at eo; rw [ep] at eo; exact eo
      refine wpAny_Try_except (wpAny_mono (hb pins s σ H { nx := fun _ _ => False, rt := fun _ _ => False } (fun Cv dx H' => ∃ C ρ', Cv = .ref C ∧ PySem.W.nsIn X.K mainGlobals c = some (some (.ref C)) ∧ Ext ρ H ρ' H' ∧ RepH X.K ρ' H' μ' ∧ RepX X.K ρ' H' fs dx) I
        ⟨ρ, δ, μ, _, A, ep, fun ρ' H' C dx hc x' R r => ⟨C, ρ', rfl, hc, x', R, r⟩⟩) (fun fl s1 q => ?_) fun e s1 q => ?_)
      · cases fl with
        | next => obtain ⟨_, _, _, z⟩ := q; exact z.elim
        | ret v => obtain ⟨_, _, _, _, _, z⟩ := q; exact z.elim
        | brk => obtain ⟨_, _, _, z⟩ := q; exact z.elim
        | cont => obtain ⟨_, _, _, z⟩ := q; exact z.elim
      · obtain ⟨H1, s2, Cv, dx, H', I1, F, C, ρ', rfl, hc, x', R, rX⟩ := q
        obtain ⟨a, B, rfl, fl, cov⟩ := F.fly
        have fl' : Fly B (X.env :: X.outer) a (.ref C) dx s1.heap := by rw [← hst]; exact fl
        have hfr : X.A.frames = some (X.env :: X.outer) := by rw [← hst]; exact I.ok.frames
        refine noteFrame_f hfr hfm fl' fun h2 fl2 sm2 => setFlight_f (s := { s1 with heap := h2 }) fl2 fun h3 fl3 sm3 => ?_
        rw [← hst] at fl3
        exact hh pins σ C c fs dx H' a { s1 with heap := h3 } ρ' δ μ' o D ⟨H1, s2, I1, flyx_turn (h2 := h3) F cov fl.st fl3 (sm2.trans sm3) I1.stack I1.stkFree⟩ hc rX (A.ext x' R) eo (kk.ext x')
@[simp] noncomputable def behind (i : Nat) : Option Out → Option Out
  | some (.next δ μ) => some (.next (δ.set i none) μ)
  | some (.ret d μ) => some (.ret d μ)
  | some (.brk δ μ) => some (.brk (δ.set i none) μ)
  | some (.cont δ μ) => some (.cont (δ.set i none) μ)
  | _ => none
@[simp] noncomputable def hAs (i : Nat) (tb : List (Str × Bool)) (q : FS) (η : FH) : FH := fun c fs δ μ => match tb.lookup c with
  | some true => behind i (q (δ.set i (some (.loc μ.length))) (μ ++ [.exc c fs]))
  | some false => η c fs δ μ
  | none => none
noncomputable def Subs (K : PySem.W.Frag) (D0 : Addr) (tb : List (Str × Bool)) : Prop := ∀ c b, tb.lookup c = some b → ∀ C, PySem.W.nsIn K mainGlobals c = some (some (.ref C)) → PySem.W.ktsIn K C "BaseException" = true ∧ PySem.W.mroIn K C (.ref D0) = some b
theorem At.unset {K : PySem.W.Frag} {ρ : List Addr} {H : Hp} {σ : L2.St} {δ : Loc} {μ : Mem} (A : At K ρ H σ δ μ) (i : Nat) : At K ρ H (σ.set i none) (δ.set i none) μ := by
  refine ⟨fun j d' e => ?_, A.hp, by simp [A.len]⟩
  by_cases hj : j = i
  · subst hj
    have hl : j < δ.length := by
      have := (List.getElem?_eq_some_iff.mp e).1
      simpa using this
    rw [List.getElem?_set_self hl] at e
    cases e
  · rw [List.getElem?_set_ne (Ne.symm hj)] at e
    obtain ⟨u, e1, q⟩ := A.st j d' e
    exact ⟨u, by rw [List.getElem?_set_ne (Ne.symm hj)]; exact e1, q⟩
theorem mh_as {X : Cx} {d n : Str} {D0 : Addr} {b0 : Stmt} {suite : List Stmt} {pos np : Pos} {rest : List ExceptHandler} {q : FS} {η : FH} (i : Nat) (tb : List (Str × Bool)) (hd : PySem.W.nsIn X.K mainGlobals d = some (some (.ref D0))) (hk : PySem.W.ktsIn X.K D0 "BaseException" = true) (ht : Subs X.K D0 tb)
    (hq : ∀ v, MSs (X.suite v) (b0 :: suite) q) (hr : MH X rest η) (hg : Gl X d := by rfl) (hN : X.N.Nodup := by first | assumption | decide) (hi : X.N[i]? = some n := by rfl) (hl : X.env.scope.names.lookup n = some .local := by rfl) (hdb : (d == ("__debug__" : Str)) = false := by decide) :
    MH X (.ExceptHandler (some (.Name d np)) (some n) (b0 :: suite) pos :: rest) (hAs i tb q η) := by
  intro pins σ C c fs dx H' a s' ρ δ μ o D hcau hc hX A eo kk
  obtain ⟨H1, s1, I1, F⟩ := hcau
  obtain ⟨a', B, ea, fl, cov⟩ := F.fly
  cases ea
  have J : Inv X pins σ H' s' := I1.fly F cov fl.st fl.st (.refl _)
  obtain ⟨oe, vs, y, he, hcl, hdx, hfd, h1, tr⟩ := fl.ob
  cases hb : tb.lookup c with
  | none => unfold hAs at eo; rw [hb] at eo; cases eo
  | some b =>
    obtain ⟨kC, mC⟩ := ht c b hb C hc
    obtain ⟨nm, qn, N, bs, bm, hdct, sn, sub, ab, col, dd, k0, k1, k2, k3, k5, newId, hC, _, _⟩ := PySem.W.kts_cls J.kIn kC
    obtain ⟨nm', qn', N', bs', bm', hdct', sn', sub', ab', col', dd', k0', k1', k2', k3', k5', newId', hC', hbase', _⟩ := PySem.W.kts_cls J.kIn hk
    refine wpAny_handleBy_cons (codeAny_handlers_test (ld_glob (X := X.suite (.ref a)) (J.suite (.ref a)) hg (PySem.W.mg_of J.mod.kin J.mod.glob hd) ?_ hdb)) (by intro z; cases z)
    obtain ⟨hh, g, dr, tk, os⟩ := s'
    refine excMatches_own hC hC' he hcl hbase' (mro_has J.kIn mC hC) ?_
    cases b with
    | false =>
      unfold hAs at eo
      rw [hb] at eo
      exact hr pins σ C c fs dx H' a _ ρ δ μ o D ⟨H1, s1, I1, F⟩ hc hX A eo kk
    | true =>
      unfold hAs at eo
      rw [hb] at eo
      refine codeAny_handlers_suite_as (setFlight_f (s := ⟨hh, g, dr, tk, os⟩) fl fun h2 fl2 sm2 => ?_)
      have hna : H' a = none := by
        cases z : H' a with
        | none => rfl
        | some u => obtain ⟨w, hw⟩ := cov.tr a u z; rw [fl.new] at hw; cases hw
      have hold : ∀ b o, s1.heap.get? b = some o → b ≠ a := fun b o ho z => by
        subst z
        by_cases hm : b ∈ frs X.stack
        · obtain ⟨_, o', ho', hnf⟩ := fl.ff.mem hm
          rw [he] at ho'
          cases ho'
          exact hnf _ hfd
        · obtain ⟨w, hw⟩ := cov.old b o ho hm
          rw [fl.new] at hw
          cases hw
      have u2 := turn_un F.un cov fl.st fl2.st sm2 I1.stack I1.stkFree
      have ok2 := turn_hok F.hok cov fl.st fl2.st
      obtain ⟨oe2, vs2, y2, he2, hcl2, hdx2, hfd2, _, _⟩ := fl2.ob
      have J3 : Inv X pins σ (upd H' a (.ext (ExcAt a C dx))) ⟨h2, g, dr, tk, os⟩ := by
        refine I1.call' (s' := ⟨h2, g, dr, tk, os⟩) (ch := []) F.os ⟨u2.keep, u2.slot, fun b o e1 e2 e3 => ?_, u2.there, fun b xs z => ?_, fun b ob u z => ?_, fun b ps z => ?_⟩ (ok2.track hna ⟨⟨oe2, vs2, he2, hcl2, hdx2, hfd2⟩, ⟨_, he2⟩, fun x1 x2 z1 z2 => ?_⟩) F.bare fun b z => absurd z (by simp)
        · rw [upd_ne (hold b o e1)]; exact u2.free b o e1 e2 e3
        · have := u2.tups b xs z; rw [upd_ne (ne_of_none this hna)]; exact this
        · have := u2.frzs b ob u z; rw [upd_ne (ne_of_none this hna)]; exact this
        · obtain ⟨m, this⟩ := u2.tbls b ps z; exact ⟨m, by rw [upd_ne (ne_of_none this hna)]; exact this⟩
        · obtain ⟨o1, v1, w1, w2⟩ := z1; exact ⟨o1, v1, z2 _ w1, w2⟩
      refine store_ok (X := X.suite (.ref a)) (v := .ref a) (u := .ref a) (J3.suite (.ref a)) hN hi (.inl hl) rfl (fun s3 I3 => ?_) (.inr hl)
      have A3 : At X.K (ρ ++ [a]) (upd H' a (.ext (ExcAt a C dx))) (σ.set i (some (.ref a))) (δ.set i (some (.loc μ.length))) (μ ++ [.exc c fs]) :=
        (A.ext (Ext.push hna) (A.hp.push (o := .ext (ExcAt a C dx)) (lo := .exc c fs) hna ⟨C, dx, hc, upd_same, hX.ext (Ext.push hna)⟩)).set (.loc (push_get A.hp)) i
      cases eq : q (δ.set i (some (.loc μ.length))) (μ ++ [.exc c fs]) with
      | none => rw [eq] at eo; cases eo
      | some o' =>
        rw [eq] at eo
        have kk' := kk.ext (Ext.push (o := .ext (ExcAt a C dx)) hna)
        refine wpAny_mono (hq (.ref a) pins s3 _ _ { nx := fun σ' H2 => D.nx (σ'.set i none) H2, rt := D.rt, bk := fun σ' H2 => D.bk (σ'.set i none) H2, ct := fun σ' H2 => D.ct (σ'.set i none) H2 } I3 ⟨_, _, _, o', A3, eq, ?_⟩) (fun f4 s4 hs4 => ?_) fun _ _ z => z.elim
        · cases o' with
          | next δ' μ' => cases eo; exact fun ρ' σ' H2 x2 A2 => kk' ρ' _ H2 x2 (A2.unset i)
          | brk δ' μ' => cases eo; exact fun ρ' σ' H2 x2 A2 => kk' ρ' _ H2 x2 (A2.unset i)
          | cont δ' μ' => cases eo; exact fun ρ' σ' H2 x2 A2 => kk' ρ' _ H2 x2 (A2.unset i)
          | ret d' μ' => cases eo; exact kk'
          | exc _ _ _ => cases eo
        · cases f4 with
          | next => obtain ⟨σ4, H4, I4, z⟩ := hs4; exact goes_ok (I4.unsuite J.ok) hN hi hl fun s5 I5 => ⟨_, H4, I5, z⟩
          | brk => obtain ⟨σ4, H4, I4, z⟩ := hs4; exact goes_ok (I4.unsuite J.ok) hN hi hl fun s5 I5 => ⟨_, H4, I5, z⟩
          | cont => obtain ⟨σ4, H4, I4, z⟩ := hs4; exact goes_ok (I4.unsuite J.ok) hN hi hl fun s5 I5 => ⟨_, H4, I5, z⟩
          | ret u => obtain ⟨v4, σ4, H4, I4, r4, z⟩ := hs4; exact goes_ok (I4.unsuite J.ok) hN hi hl fun s5 I5 => ⟨v4, _, H4, I5, r4, z⟩
end M
set_option Elab.async false
set_option linter.all false
set_option maxRecDepth 100000
set_option autoImplicit false
namespace PySem.W
open PySem PySem.Spec PySem.Calls PyProof.Rows
structure AskC (K : Frag) (C : Addr) : Prop where
  cl : (clsIn K C).isSome = true
  ga : findIn K (.ref C) "__getattribute__" = some (some (.builtin "BaseException.__getattribute__"))
  gk : findIn K (.ref C) "__getattr__" = some none
  be : mroIn K C (.type "BaseException") = some true
  ha : findIn K (.ref C) "__class__" = some (some (.builtin "object.__class__"))
  hn : specialIn K (.builtin "object.__class__") "__get__" = some (some (.builtin "getset_descriptor.__get__"))
  tk : takesIn K (.builtin "object.__class__") = some true
  hm : mroIn K C (.type "object") = some true
theorem findObj_any {K : Frag} {C : Addr} {odo : Option Obj} {name : Str} {a g : Value} (hc : (clsIn K C).isSome = true) (ha : findIn K (.ref C) name = some (some a)) (hg : specialIn K a "__get__" = some (some g)) (ht : takesIn K a = some true) : findObj K C odo name = some (.bind g a) := by
  obtain ⟨cd, hc⟩ := Option.isSome_iff_exists.mp hc
  unfold findObj
  rw [hc, Option.bind_some, ha, Option.bind_some]
  simp [hg, ht]
section
variable {prog : Program} {w : World} {A : Around} {E : Value → Shared → Prop} {s : Shared} {K : Frag} {x D : Addr} {ox : Obj} {odo : Option Obj}
theorem exc_check {M : Model} {nameV : Value} {Q : Unit → Shared → Prop} (X : K.In s.heap) (I : InstAt s.heap x ox D odo) (c : AskC K D) (hq : Q () s) : wpAny M A (checkBuiltinCall "BaseException.__getattribute__" ⟨[.ref x, nameV], []⟩) Q E s := by
  have hk : builtinKind "BaseException.__getattribute__" = some .slot := by decide +kernel
  have hsplit : splitId "BaseException.__getattribute__" = some ("BaseException", "__getattribute__") := by decide +kernel
  have ha := F.args_bexc_ga (.ref x) nameV
  have L0 := I.type (M := M)
  have L1 := looks_mroIn (M := M) X c.be
  obtain ⟨hh, g, d, t, os⟩ := s
  simp only [checkBuiltinCall, hk, hsplit]
  refine wpAny_bind ?_
  · unfold isInstance
    repeat (first | with_reducible refine L0.at ?_ | with_reducible refine L1.at ?_ | wp_step)
    exact hq
theorem exc_entry {tk : Tok} {Q : Fin → Shared → Prop} (X : K.In s.heap) (I : InstAt s.heap x ox D odo) (c : AskC K D) (hq : Q (.done (.ret (.ref D))) s) : wpAny (model prog w) A (Builtin.«object.__getattribute__» ⟨[.ref x, .str "__class__" tk], []⟩) Q E s := by
  have L0 := I.type (M := model prog w)
  have L1 := looks_find (M := model prog w) X I (findObj_any c.cl c.ha c.hn c.tk)
  obtain ⟨hh, g, d, t, os⟩ := s
  repeat (any_goals (first | assumption | with_reducible refine L0.at ?_ | with_reducible refine L1.at ?_ | wp_step))
  refine class_get (s := ⟨hh, g, d, t, os⟩) (ox := ox) (od := odo) X I c.hm ?_
  repeat (any_goals (first | assumption | wp_step))
theorem exc_class {Q : Option Value → Shared → Prop} (X : K.In s.heap) (I : InstAt s.heap x ox D odo) (c : AskC K D) (h : Q (some (.ref D)) { s with toks := s.toks + 1 }) : wpAny (model prog w) A (getAttr? (.ref x) "__class__") Q E s := by
  have L0 := I.type (M := model prog w)
  have L1 := looks_findIn (M := model prog w) X c.ga
  have L2 := looks_findIn (M := model prog w) X c.gk
  have f3 := F.excAttr_ValueError.ga.bind (.ref x)
  have hx2 : (Value.builtin "BaseException.__getattribute__" == Value.builtin "object.__getattribute__") = false := by decide +kernel
  have hx1 : (onTheHeap (Value.ref D) && Value.builtin "BaseException.__getattribute__" == Value.builtin "object.__getattribute__") = false := by rw [hx2]; rfl
  obtain ⟨hh, g, d, t, os⟩ := s
  unfold getAttr? getAttrBy? getAttrBy
  repeat (any_goals (first | assumption | with_reducible refine L0.at ?_ | with_reducible refine L1.at ?_ | with_reducible refine L2.at ?_ | wp_step))
  refine codeAny_call_builtin F.excAttr_ValueError.ga.plain F.entry_bexc_ga (exc_check (s := ⟨hh, g, d, t + 1, os⟩) X I c (exc_entry (s := ⟨hh, g, d, t + 1, os⟩) X I c ?_))
  repeat (any_goals (first | assumption | wp_step))
end
theorem kitx_exc {K : Frag} {x D : Addr} (c : AskC K D) : KitX K (.ref x) (.ref D) (fun h => ∃ ox odo, InstAt h x ox D odo) where
  ty := fun _ _ _ ⟨_, _, I⟩ => I.type
  it := fun _ _ X _ => by
    obtain ⟨cdD, hcD⟩ := Option.isSome_iff_exists.mp c.cl
    unfold clsIn at hcD
    split at hcD
    · rename_i c' d' cd' sl' ho
      intro A' Q' E' s' k q
      unfold isType loadHead
      exact wpAny_bind (wpAny_loadPart (k _ _ (X _ _ ho)) (wpAny_pure q))
    · cases hcD
  ne := fun h tp dd its n sl X htp => by
    obtain ⟨cdD, hcD⟩ := Option.isSome_iff_exists.mp c.cl
    refine Bool.eq_false_iff.mpr fun q => ?_
    have e : D = tp := Value.ref.inj (beq_iff_eq.mp q)
    subst e
    unfold clsIn at hcD
    split at hcD
    · rename_i c' d' cd' sl' ho
      have z := (X _ _ ho).symm.trans htp
      cases z
    · cases hcD
  ca := fun {prog w A E Q s} X ⟨ox, odo, I⟩ k => exc_class X I c k
end PySem.W
namespace M
open PySem PySem.Spec PyProof.Rows L2
section
variable {X : Cx}
theorem me_own {x : Str} {a : Addr} {pos : Pos} (hn : PySem.W.nsIn X.K mainGlobals x = some (some (.ref a))) (hm : X.mg x = some (.ref a)) (hg : Gl X x := by rfl) (hd : (x == ("__debug__" : Str)) = false := by decide) : ME X (.Name x pos) (fC (.own x)) :=
  me_c (pe_glob (v := V.ref a) hg hm rfl hd) fun _ _ => .own hn
@[simp] noncomputable def askOf (μ : Mem) : D → Option (Option Str)
  | .non => some none
  | .loc n => match μ[n]? with
    | some (.exc c _) => some (some c)
    | _ => none
  | _ => none
inductive CN where
  | own (c : Str)
  | ty (n : String)
  deriving DecidableEq
noncomputable abbrev Kit := List ((Option Str × CN) × Bool)
noncomputable def clsV (K : PySem.W.Frag) : CN → Value → Prop
  | .own d, v => ∃ a, PySem.W.nsIn K mainGlobals d = some (some (.ref a)) ∧ v = .ref a
  | .ty n, v => v = .type n
structure KitOk (K : PySem.W.Frag) (tb : Kit) : Prop where
  non : ∀ d b v, tb.lookup (none, d) = some b → clsV K d v → PySem.W.kitOne K (.type "NoneType") v = some b
  ask : ∀ c d b, tb.lookup (some c, d) = some b → ∀ C, PySem.W.nsIn K mainGlobals c = some (some (.ref C)) → PySem.W.AskC K C
  exc : ∀ c d b v, tb.lookup (some c, d) = some b → clsV K d v → ∀ C, PySem.W.nsIn K mainGlobals c = some (some (.ref C)) → PySem.W.kitOne K (.ref C) v = some b
@[simp] noncomputable def nmOf : D → Option (CN)
  | .own c => some (.own c)
  | .ty n => some (.ty n)
  | _ => none
@[simp] noncomputable def ask1 (tb : Kit) (k : Option Str) (c : D) : Option Bool := (nmOf c).bind fun d => tb.lookup (k, d)
noncomputable def askAny (tb : Kit) (k : Option Str) : List D → Option Bool
  | [] => some false
  | c :: r => match ask1 tb k c with
    | some true => some true
    | some false => askAny tb k r
    | none => none
@[simp] noncomputable def gAsk (tb : Kit) : GL := fun ds μ => match ds with
  | [x, .tup (c :: cs)] => (askOf μ x).bind fun k => (askAny tb k (c :: cs)).bind fun b => some (.bl b, μ)
  | [x, c] => (askOf μ x).bind fun k => (ask1 tb k c).bind fun b => some (.bl b, μ)
  | _ => none
theorem clsV_of {K : PySem.W.Frag} {ρ : List Addr} {H : Hp} {c : D} {v : V} {u : Value} {d : CN} (r : RepV K ρ H c v) (q : RelV v u) (e : nmOf c = some d) : clsV K d u := by
  cases c with
  | own c => cases e; obtain ⟨a, rfl, h⟩ := r.own_inv; cases q; exact ⟨a, h, rfl⟩
  | ty n => cases e; rw [r.ty_inv] at q; cases q; rfl
  | _ => cases e
theorem askOf_ok {pins : List (Addr × Obj)} {σ : L2.St} {H : Hp} {s : Shared} {ρ : List Addr} {μ : Mem} {x : D} {v : V} {u : Value} {k : Option Str} {tb : Kit} (I : Inv X pins σ H s) (R : RepH X.K ρ H μ) (r : RepV X.K ρ H x v) (q : RelV v u) (e : askOf μ x = some k) (T : KitOk X.K tb) (hne : ∃ d b, tb.lookup (k, d) = some b) :
    ∃ (t : Value) (P : Heap → Prop), PySem.W.KitX X.K u t P ∧ P s.heap ∧ u ≠ .builtin "__main__.__loader__#opaque" ∧ ∀ d b w, tb.lookup (k, d) = some b → clsV X.K d w → PySem.W.kitOne X.K t w = some b := by
  cases x with
  | non => cases e; rw [r.non_inv] at q; cases q; exact ⟨_, _, PySem.W.kitx_none, trivial, (fun z => nomatch z), fun d b w h1 h2 => T.non d b w h1 h2⟩
  | loc n =>
    unfold askOf at e
    dsimp only at e
    split at e
    · rename_i c fs hm
      cases e
      obtain ⟨a, rfl, e2⟩ := r.loc_inv
      cases q
      obtain ⟨C, dx, hn, hH, hX⟩ := R.at_ _ _ _ e2 hm
      obtain ⟨⟨o, vs, h1, h2, h3, h4⟩, _, _⟩ := (show ObjOk X.prog X.w H s.heap a (.ext (ExcAt a C dx)) from I.hok a _ hH)
      have inst : ∃ ox odo, PySem.W.InstAt s.heap a ox C odo := by
        rcases hX with ⟨_, rfl⟩ | ⟨p, ws, rfl, hp, _, _⟩
        · exact ⟨o, none, h1, h2, by unfold PySem.W.notCls; rw [h4], by rw [h3]; trivial⟩
        · obtain ⟨u, hu⟩ := (I.hok p _ hp).there
          exact ⟨o, some u, h1, h2, by unfold PySem.W.notCls; rw [h4], by rw [h3]; exact hu⟩
      obtain ⟨d, b, h5⟩ := hne
      exact ⟨.ref C, _, PySem.W.kitx_exc (T.ask c d b h5 C hn), inst, (fun z => nomatch z), fun d b w h1 h2 => T.exc c d b w h1 h2 C hn⟩
    · cases e
  | _ => cases e
theorem kitAny_of {K : PySem.W.Frag} {ρ : List Addr} {H : Hp} {tb : Kit} {k : Option Str} {t : Value} (hk : ∀ d b w, tb.lookup (k, d) = some b → clsV K d w → PySem.W.kitOne K t w = some b) : ∀ {cs : List D} {vs : List V} {us : List Value} {b : Bool}, RepVs K ρ H cs vs → Vals vs us → askAny tb k cs = some b → PySem.W.kitAny K t us = some b
  | [], _, _, b, r, q, e => by
    rw [r.nil_inv] at q
    cases q
    cases e
    rfl
  | c :: cs, _, _, b, r, q, e => by
    obtain ⟨v, vs, rfl, r1, r2⟩ := r.cons_inv
    cases q with
    | cons q1 q2 =>
      unfold askAny at e
      cases e1 : ask1 tb k c with
      | none => rw [e1] at e; cases e
      | some b1 =>
        rw [e1] at e
        obtain ⟨d, e2, e3⟩ := bind_inv e1
        have h1 := hk d b1 _ e3 (clsV_of r1 q1 e2)
        unfold PySem.W.kitAny
        rw [h1]
        cases b1 with
        | true => exact e
        | false => exact kitAny_of hk r2 q2 e
theorem callM_ask {tb : Kit} (T : KitOk X.K tb) : CallM X (.builtin "isinstance") (gAsk tb) := by
  refine CallM.of fun pins s σ H xs us Q I r ρ ds μ d μ' r1 R e k => ?_
  unfold gAsk at e
  split at e
  · rename_i x c cs
    obtain ⟨kd, e1, e⟩ := bind_inv e
    obtain ⟨b, e2, e⟩ := bind_inv e
    cases e
    obtain ⟨v, rr, rfl, q1, q2⟩ := r1.cons_inv
    obtain ⟨v2, rr2, rfl, q3, q4⟩ := q2.cons_inv
    rw [q4.nil_inv] at r
    cases r with
    | cons ra rb =>
      cases rb with
      | cons rc rd =>
        cases rd
        obtain ⟨a, vs, rfl, e3, rt⟩ := q3.tup_inv
        cases rc
        have hne : ∃ d b, tb.lookup (kd, d) = some b := by
          unfold askAny at e2
          cases e4 : ask1 tb kd c with
          | none => rw [e4] at e2; cases e2
          | some b1 => obtain ⟨d, _, e5⟩ := bind_inv e4; exact ⟨d, b1, e5⟩
        obtain ⟨t, P, Z, hp, hu, hk⟩ := askOf_ok I R q1 ra e1 T hne
        obtain ⟨its, rv, ⟨o, ho, hc, n, hd⟩, _⟩ := I.tuple (SqT.of e3)
        obtain ⟨oc, od, odt, osl⟩ := o
        cases hc
        cases hd
        exact PySem.W.kia_tup Z I.kIn hp ho (kitAny_of hk rt rv e2) hu fun tk => ⟨.bl _, H, I.tok tk, rfl, k ρ H _ Ext.refl R .bl⟩
  · rename_i x c _
    obtain ⟨kd, e1, e⟩ := bind_inv e
    obtain ⟨b, e2, e⟩ := bind_inv e
    cases e
    obtain ⟨v, rr, rfl, q1, q2⟩ := r1.cons_inv
    obtain ⟨v2, rr2, rfl, q3, q4⟩ := q2.cons_inv
    rw [q4.nil_inv] at r
    cases r with
    | cons ra rb =>
      cases rb with
      | cons rc rd =>
        cases rd
        obtain ⟨d, e4, e5⟩ := bind_inv e2
        obtain ⟨t, P, Z, hp, hu, hk⟩ := askOf_ok I R q1 ra e1 T ⟨d, b, e5⟩
        exact PySem.W.kia_one Z I.kIn hp (hk d b _ e5 (clsV_of q3 rc e4)) hu fun tk => ⟨.bl _, H, I.tok tk, rfl, k ρ H _ Ext.refl R .bl⟩
  · cases e
end
section
variable {K : PySem.W.Frag} {D0 : Addr} {tb : List (Str × Bool)} {kt : Kit}
theorem Subs.nil : Subs K D0 [] := fun c b h => by cases h
theorem Subs.cons {c : Str} {C : Addr} {b : Bool} (hc : PySem.W.nsIn K mainGlobals c = some (some (.ref C))) (k : PySem.W.ktsIn K C "BaseException" = true) (m : PySem.W.mroIn K C (.ref D0) = some b) (r : Subs K D0 tb) : Subs K D0 ((c, b) :: tb) := fun c' b' h C' hC' => by
  unfold List.lookup at h
  split at h
  · rename_i e
    cases h
    rw [beq_iff_eq.mp e, hc] at hC'
    cases hC'
    exact ⟨k, m⟩
  · exact r c' b' h C' hC'
theorem KitOk.nil : KitOk K [] := ⟨fun _ _ _ h => by (cases h), fun _ _ _ h => by (cases h), fun _ _ _ _ h => by (cases h)⟩
theorem KitOk.none {d : CN} {b : Bool} (h : ∀ v, clsV K d v → PySem.W.kitOne K (.type "NoneType") v = some b) (r : KitOk K kt) : KitOk K (((Option.none, d), b) :: kt) where
  non := fun d' b' v e q => by
    unfold List.lookup at e
    split at e
    · rename_i z
      cases e
      have z := beq_iff_eq.mp z
      cases z
      exact h v q
    · exact r.non d' b' v e q
  ask := fun c d' b' e => by
    unfold List.lookup at e
    split at e
    · rename_i z
      have z := beq_iff_eq.mp z
      cases z
    · exact r.ask c d' b' e
  exc := fun c d' b' v e => by
    unfold List.lookup at e
    split at e
    · rename_i z
      have z := beq_iff_eq.mp z
      cases z
    · exact r.exc c d' b' v e
theorem KitOk.some {c : Str} {C : Addr} {d : CN} {b : Bool} (hc : PySem.W.nsIn K mainGlobals c = Option.some (Option.some (.ref C))) (a : PySem.W.AskC K C) (h : ∀ v, clsV K d v → PySem.W.kitOne K (.ref C) v = Option.some b) (r : KitOk K kt) : KitOk K (((Option.some c, d), b) :: kt) where
  non := fun d' b' v e => by
    unfold List.lookup at e
    split at e
    · rename_i z
      have z := beq_iff_eq.mp z
      cases z
    · exact r.non d' b' v e
  ask := fun c' d' b' e C' hC' => by
    unfold List.lookup at e
    split at e
    · rename_i z
      have z := beq_iff_eq.mp z
      cases z
      rw [hc] at hC'
      cases hC'
      exact a
    · exact r.ask c' d' b' e C' hC'
  exc := fun c' d' b' v e q C' hC' => by
    unfold List.lookup at e
    split at e
    · rename_i z
      cases e
      have z := beq_iff_eq.mp z
      cases z
      rw [hc] at hC'
      cases hC'
      exact h v q
    · exact r.exc c' d' b' v e q C' hC'
theorem clsV_own {d : Str} {a : Addr} {P : Value → Prop} (h : PySem.W.nsIn K mainGlobals d = some (some (.ref a))) (p : P (.ref a)) : ∀ v, clsV K (.own d) v → P v := fun v ⟨a', h', e⟩ => by
  rw [h] at h'
  cases h'
  rw [e]
  exact p
theorem clsV_ty {n : String} {P : Value → Prop} (p : P (.type n)) : ∀ v, clsV K (.ty n) v → P v := fun v e => by
  cases e
  exact p
end
end M
set_option Elab.async false
set_option linter.all false
set_option maxRecDepth 100000
set_option autoImplicit false
namespace M
open PySem PySem.Spec PyProof.Rows L2
structure MSsl (X : Cx) (sts : List Stmt) (ψ : FS) : Prop where
  h : MSs X sts ψ
end M
set_option Elab.async false
set_option linter.all false
set_option maxRecDepth 100000
set_option autoImplicit false
namespace PySem
open Sem (wp)
section
variable {prog : Program} {w : World} {A : Around} {E : Value → Shared → Prop} {h : Heap} {g : Array GenState} {d : Drawn} {t : Nat} {os : OsState}
variable {nm q : Str} {C N fI : Addr} {bs bm bmB : List Value} {hdct : Bool} {sn : List Str} {sub : List Value} {ab : Bool} {col : Option Bool} {dd : Option Addr} {k0 k1 k2 k3 k5 : Option Value} {B newId initId : String}
noncomputable abbrev excNew (h : Heap) (C : Addr) (rest : List Value) : Heap := (h.push { cls := .type "tuple", data := .seq rest.toArray }).push { cls := .ref C, data := .fields #[.ref h.objs.size, .none, .none, .none, .bool false, .none] }
theorem type_call_exc_init (F : ExcBaseFacts B newId initId bmB) (T : OwnTail h bmB bm) {rest : List Value} {Q : Fin → Shared → Prop}
    (hC : h.get? C = some (excClassObj nm q C N bs bm hdct sn sub ab col dd k0 k1 k2 k3 k5 newId)) (L : W.Looks (model prog w) h (typeLookup (.ref C) "__init__") (some (.ref fI))) (LB : ∀ self, W.Looks (model prog w) h (bindSpecial (.ref fI) self) (.ref fI, [self]))
    (hq : wpAny (model prog w) A (call (.ref fI) (.ref (h.objs.size + 1) :: rest)) (fun v s' => v = .none ∧ Q (.done (.ret (.ref (h.objs.size + 1)))) s') E ⟨excNew h C rest, g, d, t, os⟩) (hrest : rest.length ≤ sizeLine := by size_fits) :
    wpAny (model prog w) A (Builtin.«type.__call__» ⟨.ref C :: rest, []⟩) Q E ⟨h, g, d, t, os⟩ := by
  repeat (first | with_reducible refine wpAny_loadPart_at hC ?_ | with_reducible refine wpAny_madeBy_exc hC ?_ | wp_step)
  refine codeAny_call_builtin_code (Code.quiet_builtin _ F.quiet) (wpAny_check_new_subT F T hC ?_)
  refine codeAny_exc_new_subT F T hC ?_ hrest
  show wpAny _ _ _ _ _ _
  have k : ∀ b o, h.get? b = some o → (excNew h C rest).get? b = some o := fun b o e => Heap.get?_push_of_some _ (Heap.get?_push_of_some _ e)
  have hC₁ := k _ _ hC
  have hget : (excNew h C rest).get? (h.objs.size + 1) = some { cls := .ref C, data := .fields #[.ref h.objs.size, .none, .none, .none, .bool false, .none] } := by heap_get
  have hcC : (Value.ref C :: bm).contains (.ref C) = true := by simp
  have T₁ := T.keeps k
  unfold isInstance
  repeat (first | with_reducible refine wpAny_loadPart_at hget ?_ | (with_reducible refine wpAny_isSubtype_exc hC₁ ?_; rw [hcC]) | wp_step)
  show wpAny _ _ (typeLookup (.ref C) _) _ _ _
  refine L _ _ _ _ k ?_
  refine wpAny_holding (wpAny_bind (LB _ _ _ _ _ k ?_))
  refine wpAny_bind (wpAny_mono hq (fun v s' hv => ?_) fun _ _ x => x)
  obtain ⟨rfl, hv⟩ := hv
  repeat wp_step
  exact hv
theorem call_exc_init (F : ExcBaseFacts B newId initId bmB) (T : OwnTail h bmB bm) {rest : List Value} {Q : Value → Shared → Prop}
    (hC : h.get? C = some (excClassObj nm q C N bs bm hdct sn sub ab col dd k0 k1 k2 k3 k5 newId)) (L : W.Looks (model prog w) h (typeLookup (.ref C) "__init__") (some (.ref fI))) (LB : ∀ self, W.Looks (model prog w) h (bindSpecial (.ref fI) self) (.ref fI, [self]))
    (hq : wpAny (model prog w) (A.under (.builtin "type.__call__" ⟨.ref C :: rest, []⟩)) (call (.ref fI) (.ref (h.objs.size + 1) :: rest)) (fun v s' => v = .none ∧ Q (.ref (h.objs.size + 1)) s') E ⟨excNew h C rest, g, d, t, os⟩) (hrest : rest.length ≤ sizeLine := by size_fits) :
    wpAny (model prog w) A (call (.ref C) rest) Q E ⟨h, g, d, t, os⟩ := by
  have f1 := tc_lookup
  have f2 := tc_bind (.ref C)
  have hT : (⟨h, g, d, t, os⟩ : Shared).TypeIs (.ref C) "type" := ⟨_, hC, rfl⟩
  refine wpAny_call (codeAny_of_tree ?_)
  show wpAny _ _ (callAny (.ref C) _) _ _ _
  repeat (any_goals (first | assumption | with_reducible refine wpAny_loadPart_at hC ?_ | wp_step))
  refine ⟨rfl, ?_⟩
  refine codeAny_call_builtin_at (Code.quiet_builtin _ (by decide +kernel)) entry_typeCall (wpAny_check_type_call_sub hC (type_call_exc_init (hrest := hrest) F T hC L LB ?_))
  exact hq
theorem raiseStmt_any {M : Model} {s : Shared} {env : Env} {x : Sem Value} {Q : Flow → Shared → Prop} (hbase : bm.contains (.type "BaseException") = true) (hh : A.handled = none)
    (h : wpAny M A x (fun v s₁ => ∃ e de te, v = .ref e ∧ s₁.heap.get? C = some (excClassObj nm q C N bs bm hdct sn sub ab col dd k0 k1 k2 k3 k5 newId) ∧ s₁.heap.get? e = some { cls := .ref C, dict := de, data := .fields #[.ref te, .none, .none, .none, .bool false, .none] } ∧ E (.ref e) s₁) E s) :
    wpAny M A (raiseStmt env (some x) none) Q E s := by
  have hcB : (Value.ref C :: bm).contains (.type "BaseException") = true := by rw [List.contains_cons, hbase, Bool.or_true]
  unfold raiseStmt
  refine wpAny_bind (wpAny_mono h (fun v s₁ h₁ => ?_) fun _ _ x => x)
  obtain ⟨e, de, te, rfl, hC, he, hE⟩ := h₁
  obtain ⟨hp, g, d, tk, os⟩ := s₁
  repeat (first | with_reducible refine wpAny_loadPart_at he ?_ | with_reducible refine wpAny_loadPart_at hC ?_ | (with_reducible refine wpAny_isSubtype_exc hC ?_; rw [hcB]) | wp_step)
  exact wpAny_raiseNew_none hh hE
end
section
variable {prog : Program} {w : World} {A : Around} {E : Value → Shared → Prop} {s : Shared} {env : Env}
variable {nm q : Str} {C N fI : Addr} {bs bm bmB : List Value} {hdct : Bool} {sn : List Str} {sub : List Value} {ab : Bool} {col : Option Bool} {dd : Option Addr} {k0 k1 k2 k3 k5 : Option Value} {B newId initId : String}
theorem Raise_call_init (F : ExcBaseFacts B newId initId bmB) {x : Str} {np cpos pos : Pos} {args : List Expr} {Q : Flow → Shared → Prop}
    (hbase : bm.contains (.type "BaseException") = true) (hh : A.handled = none) (hplain : (backTo cpos (starEach args env)).any (·.1) = false)
    (h : wpAny (model prog w) A (eval (.Name x np) env) (fun f s₁ => f = .ref C ∧ wpAny (model prog w) A (evalArgs (.ref C) true (backTo cpos (starEach args env)) [])
      (fun a s₂ => a.kw = [] ∧ a.pos.length ≤ sizeLine ∧ s₂.heap.get? C = some (excClassObj nm q C N bs bm hdct sn sub ab col dd k0 k1 k2 k3 k5 newId) ∧ W.Looks (model prog w) s₂.heap (typeLookup (.ref C) "__init__") (some (.ref fI)) ∧ OwnTail s₂.heap bmB bm ∧ (∀ self, W.Looks (model prog w) s₂.heap (bindSpecial (.ref fI) self) (.ref fI, [self])) ∧
        wpAny (model prog w) (A.under (.builtin "type.__call__" ⟨.ref C :: a.pos, []⟩)) (call (.ref fI) (.ref (s₂.heap.objs.size + 1) :: a.pos)) (fun v s₃ => v = .none ∧ s₃.heap.get? C = some (excClassObj nm q C N bs bm hdct sn sub ab col dd k0 k1 k2 k3 k5 newId) ∧
          (∃ de te, s₃.heap.get? (s₂.heap.objs.size + 1) = some { cls := .ref C, dict := de, data := .fields #[.ref te, .none, .none, .none, .bool false, .none] }) ∧ E (.ref (s₂.heap.objs.size + 1)) s₃) E { s₂ with heap := excNew s₂.heap C a.pos }) E s₁) E s) :
    wpAny (model prog w) A (exec (.Raise (some (.Call (.Name x np) args [] cpos)) none pos) env) Q E s := by
  rw [arm_exec_Raise]
  first
    | refine wpAny_bind (wpAny_standAt (raiseStmt_any (C := C) (nm := nm) (q := q) (N := N) (bs := bs) (bm := bm) (hdct := hdct) (sn := sn) (sub := sub) (ab := ab) (col := col) (dd := dd) (k0 := k0) (k1 := k1) (k2 := k2) (k3 := k3) (k5 := k5) (newId := newId) hbase hh (wpAny_bind (wpAny_mono (wpAny_Call_ofName (wpAny_mono h (fun f s₁ h₁ => ?_) fun _ _ x => x)) (fun v s₃ h₃ => wpAny_bind (wpAny_standAt (wpAny_pure h₃))) fun _ _ x => x))))
    | (simp only [evalOpt, Option.map]; refine wpAny_bind (wpAny_standAt (raiseStmt_any (C := C) (nm := nm) (q := q) (N := N) (bs := bs) (bm := bm) (hdct := hdct) (sn := sn) (sub := sub) (ab := ab) (col := col) (dd := dd) (k0 := k0) (k1 := k1) (k2 := k2) (k3 := k3) (k5 := k5) (newId := newId) hbase hh (wpAny_bind (wpAny_mono (wpAny_Call_ofName (wpAny_mono h (fun f s₁ h₁ => ?_) fun _ _ x => x)) (fun v s₃ h₃ => wpAny_bind (wpAny_standAt (wpAny_pure h₃))) fun _ _ x => x)))))
    | (refine wpAny_bind (wpAny_standAt (raiseStmt_any (C := C) (nm := nm) (q := q) (N := N) (bs := bs) (bm := bm) (hdct := hdct) (sn := sn) (sub := sub) (ab := ab) (col := col) (dd := dd) (k0 := k0) (k1 := k1) (k2 := k2) (k3 := k3) (k5 := k5) (newId := newId) hbase hh ?_)); refine wpAny_bind (wpAny_mono (wpAny_Call_ofName (wpAny_mono h (fun f s₁ h₁ => ?_) fun _ _ x => x)) (fun v s₃ h₃ => wpAny_bind (wpAny_standAt (wpAny_pure h₃))) fun _ _ x => x))
  obtain ⟨rfl, h₁⟩ := h₁
  unfold callWith
  refine wpAny_bind (wpAny_holding (wpAny_mono h₁ (fun a s₂ h₂ => wpAny_bind (wpAny_standAt ?_)) fun _ _ x => x))
  obtain ⟨apos, akw⟩ := a
  obtain ⟨hkw, hlen, hC, L, T, LB, h₂⟩ := h₂
  obtain rfl : akw = [] := hkw
  obtain ⟨hp, g, d, tk, os⟩ := s₂
  simp only [hplain]
  refine wpAny_bind (wpAny_keeperOf_exc hC ?_)
  refine wpAny_bind (call_exc_init (hrest := hlen) F T hC L LB ?_)
  refine wpAny_mono h₂ (fun v s₃ h₃ => ?_) fun _ _ x => x
  obtain ⟨rfl, hC3, ⟨de, te, he⟩, hE⟩ := h₃
  exact ⟨rfl, wpAny_bind (wpAny_holding (wpAny_point (wpAny_pure ⟨_, de, te, rfl, hC3, he, hE⟩)))⟩
end
end PySem
set_option Elab.async false
set_option linter.all false
set_option maxRecDepth 100000
set_option autoImplicit false
namespace PySem
open Sem (wp)
section
variable {prog : Program} {w : World} {A : Around} {E : Value → Shared → Prop} {h : Heap} {g : Array GenState} {d : Drawn} {t : Nat} {os : OsState}
variable {nm q : Str} {C N : Addr} {bs bm bmB : List Value} {hdct : Bool} {sn : List Str} {sub : List Value} {ab : Bool} {col : Option Bool} {dd : Option Addr} {k0 k1 k2 k3 k5 : Option Value} {B newId initId : String}
theorem base_init (F : ExcBaseFacts B newId initId bmB) (T : OwnTail h bmB bm) {e te : Addr} {de : Option Addr} {rest : List Value} {Q : Value → Shared → Prop}
    (hC : h.get? C = some (excClassObj nm q C N bs bm hdct sn sub ab col dd k0 k1 k2 k3 k5 newId)) (he : h.get? e = some { cls := .ref C, dict := de, data := .fields #[.ref te, .none, .none, .none, .bool false, .none] })
    (hq : ∀ h', (∀ b o, b ≠ e → h.get? b = some o → h'.get? b = some o) → h'.get? e = some { cls := .ref C, dict := de, data := .fields #[.ref h.objs.size, .none, .none, .none, .bool false, .none] } → h.objs.size ≤ h'.objs.size → Q .none ⟨h', g, d, t, os⟩) (hrest : rest.length ≤ sizeLine := by size_fits) :
    wpAny (model prog w) A (call (.builtin initId) (.ref e :: rest)) Q E ⟨h, g, d, t, os⟩ := by
  refine wpAny_call (codeAny_call_builtin F.init.plain F.initEntry (wpAny_check_init_subT F T hC he rfl ?_))
  wp_walk
  refine hq _ (fun b o hb eb => ?_) ?_ ?_
  · rw [Heap.get?_update_other _ _ (Ne.symm hb)]
    exact Heap.get?_push_of_some _ eb
  · rw [Heap.get?_update_self _ (Heap.get?_push_of_some _ he) rfl]
    rfl
  · simp
end
end PySem
set_option Elab.async false
set_option linter.all false
set_option maxRecDepth 100000
set_option autoImplicit false
namespace PySem.W
open PySem PySem.Spec PySem.Calls PyProof.Rows
open Builtin Builtin.ObjectAttr
noncomputable abbrev bmV : List Value := [.type "ValueError", .type "Exception", .type "BaseException", .type "object"]
noncomputable def dropRefs : List Value → List Value
  | .ref _ :: r => dropRefs r
  | l => l
theorem drop_id {v : Value} {r : List Value} (q : ¬ ∃ c, v = .ref c) : dropRefs (v :: r) = v :: r := by
  unfold dropRefs
  split
  · rename_i z; cases z; exact absurd ⟨_, rfl⟩ q
  · rfl
theorem refuse_exc (self : Value) : ∀ {l : List Value}, dropRefs l = bmV → refuseLoop self "__setattr__" l = pure ()
  | [], h => by cases h
  | v :: r, h => by
    by_cases q : ∃ c, v = .ref c
    · obtain ⟨c, rfl⟩ := q
      rw [refuseLoop_ref]
      exact refuse_exc self (l := r) h
    · rw [drop_id q] at h
      rw [h]
      exact PySem.F.store_ValueError.passes self
theorem drop_obj : ∀ {l : List Value}, dropRefs l = bmV → l.contains (.type "object") = true ∧ l.isEmpty = false
  | [], h => by cases h
  | v :: r, h => by
    refine ⟨?_, rfl⟩
    by_cases q : ∃ c, v = .ref c
    · obtain ⟨c, rfl⟩ := q
      rw [List.contains_cons, (drop_obj (l := r) h).1, Bool.or_true]
    · rw [drop_id q] at h
      rw [h]
      decide
section
variable {prog : Program} {w : World} {A : Around} {E : Value → Shared → Prop} {s : Shared} {K : Frag} {x C : Addr} {ox : Obj} {name : Str} {v : Value} {cd : ClassData}
theorem osa_exc {R : Result → Shared → Prop} {od : Option Obj} {tk : Tok} (X : K.In s.heap) (I : InstAt s.heap x ox C od) (hc : clsIn K C = some cd) (ho : dropRefs cd.mro = bmV) (ha : findIn K (.ref C) name = some none)
    (h : wpAny (model prog w) A.in1 (storeInOwnDict (.ref x) (.ref C) (.str name tk) name v false)
      (fun fin s' => match fin with | .done f => R (.ok f) s' | .again c' => c'.quiet = true ∧ codeAny (model prog w) A c' R s') (fun e s' => R (.error e) s') s) :
    codeAny (model prog w) A (.call (.builtin "object.__setattr__") ⟨[.ref x, .str name tk, v], []⟩) R s := by
  have SF := PySem.F.store_object
  obtain ⟨h1, h2⟩ := drop_obj ho
  have sub : Looks (model prog w) s.heap (isInstance (.ref x) (.type "object")) true := I.type.andThen (looks_mroIn X (by unfold mroIn; rw [hc, Option.bind_some, if_neg (by rw [h2]; decide), h1]))
  refine codeAny_call_builtin SF.slot.plain SF.entry (@check_slot (model prog w) _ _ s "object.__setattr__" "object" "__setattr__" (.ref x) [.str name tk, v] [] _ SF.kind SF.split sub (SF.args (.ref x) (.str name tk) v) ?_)
  have hm : Looks (model prog w) s.heap (mroOf (.ref C)) cd.mro := (looks_clsIn X hc).andThen .now
  rw [osa_eq, refuse_eq]
  refine wpAny_bind (wpAny_bind (I.type.here (wpAny_bind (hm.here ?_))))
  rw [refuse_exc _ ho]
  refine wpAny_pure (wpAny_bind (I.type.here (wpAny_bind ((looks_findIn X ha).here (wpAny_bind (wpAny_pure (a := none) ?_))))))
  exact h
theorem set_exc {Q : Unit → Shared → Prop} {vs : Array Value} (X : K.In s.heap) (I : InstAt s.heap x ox C none) (hdt : ox.data = .fields vs)
    (hs : findIn K (.ref C) "__setattr__" = some (some (.builtin "object.__setattr__"))) (hc : clsIn K C = some cd) (ho : dropRefs cd.mro = bmV) (hd : cd.hasDict = true) (ha : findIn K (.ref C) name = some none)
    (h : ∀ (h' : Heap) (p : Addr) (tk : Nat), h'.get? x = some { ox with dict := some p } → h'.Ns1 p (fun y => if y = name then some v else none) → s.heap.objs.size ≤ p → (∀ b o, b ≠ x → s.heap.get? b = some o → h'.get? b = some o) → Q () { s with heap := h', toks := tk }) :
    wpAny (model prog w) A (setAttr (.ref x) name v) Q E s := by
  obtain ⟨hx, hcl, hno, hdd⟩ := id I
  obtain ⟨oc, odi, oda, osl⟩ := ox
  dsimp only at hcl hdt
  subst hcl hdt
  cases odi with
  | some dx => exact hdd.elim
  | none =>
    refine set_plain X I hs (osa_exc (s := { s with toks := s.toks + 1 }) X I hc ho ha ?_)
    refine wpAny_bind (wpAny_pure (wpAny_bind (wpAny_bind (wpAny_loadPart hx (wpAny_bind (Looks.here (s := { s with toks := s.toks + 1 }) (looks_clsIn X hc) ?_))))))
    rw [hd]
    have hx₁ : (s.heap.push { cls := .type "dict", data := .dict #[] }).get? x = some ⟨.ref C, none, .fields vs, osl⟩ := Heap.get?_push_of_some _ hx
    have hxs : x ≠ s.heap.objs.size := Nat.ne_of_lt (Heap.lt_size hx)
    refine wpAny_bind (wpAny_alloc' ?_)
    refine wpAny_bind (wpAny_update' hx₁ ?_)
    refine wpAny_pure (a := some s.heap.objs.size) ?_
    have hgd : ((s.heap.push { cls := .type "dict", data := .dict #[] }).update x fun o => { cls := o.cls, dict := some s.heap.objs.size, data := o.data, slots := o.slots }).get? s.heap.objs.size
        = some { cls := .type "dict", data := .dict #[] } :=
      (Heap.get?_update_ne _ _ _ _ hxs.symm).trans (Heap.get?_push_at rfl rfl)
    have hnd : ((s.heap.push { cls := .type "dict", data := .dict #[] }).update x fun o => { cls := o.cls, dict := some s.heap.objs.size, data := o.data, slots := o.slots }).Ns s.heap.objs.size (fun _ => none) :=
      ⟨_, #[], _, hgd, rfl, fun e he => absurd he (by simp), fun _ => rfl⟩
    show wpAny _ _ (storeInDict s.heap.objs.size (.str name _) name v) _ _ _
    unfold storeInDict newKeyGuard
    refine wpAny_bind (wpAny_pure (wpAny_bind (wpAny_nsSet1 (Heap.Ns1.of_empty hnd) fun h' hn' hs' => ?_)))
    obtain ⟨oD, esD, epD, hoD, hdD, hcD⟩ := hn'.count (Within.cons name v Within.nil)
    refine wpAny_bind (wpAny_lookBehind hoD (by rw [hdD]; exact pastItsLine_dict (Nat.le_trans hcD (by rw [List.length_cons, List.length_nil, sizeLine_eq]; omega))) ?_)
    refine wpAny_pure ?_
    refine h h' s.heap.objs.size _ ?_ hn' (Nat.le_refl _) (fun b o hb q => ?_)
    · exact (hs'.2 x hxs).trans (Heap.get?_update_self _ hx₁ rfl)
    · exact (hs'.2 b (Nat.ne_of_lt (Heap.lt_size q))).trans ((Heap.get?_update_ne _ _ _ _ hb).trans (Heap.get?_push_of_some _ q))
variable {D : Addr} {odo : Option Obj}
theorem exc_entryV {tk : Tok} {Q : Fin → Shared → Prop} (X : K.In s.heap) (I : InstAt s.heap x ox D odo) (e : findObj K D odo name = some (.value v)) (hq : Q (.done (.ret v)) s) : wpAny (model prog w) A (Builtin.«object.__getattribute__» ⟨[.ref x, .str name tk], []⟩) Q E s := by
  have L0 := I.type (M := model prog w)
  have L1 := looks_find (M := model prog w) X I e
  obtain ⟨hh, g, d, t, os⟩ := s
  repeat (any_goals (first | assumption | with_reducible refine L0.at ?_ | with_reducible refine L1.at ?_ | wp_step))
theorem exc_load {expr : Bool} {Q : Value → Shared → Prop} (X : K.In s.heap) (I : InstAt s.heap x ox D odo) (c : AskC K D) (e : findObj K D odo name = some (.value v)) (hv : handedIn v = true) (h : Q v { s with toks := s.toks + 1 }) : wpAny (model prog w) A (getAttr (.ref x) name expr) Q E s := by
  have L0 := I.type (M := model prog w)
  have L1 := looks_findIn (M := model prog w) X c.ga
  have L2 := looks_findIn (M := model prog w) X c.gk
  have f3 := F.excAttr_ValueError.ga.bind (.ref x)
  have hx2 : (Value.builtin "BaseException.__getattribute__" == Value.builtin "object.__getattribute__") = false := by decide +kernel
  have hx1 : (onTheHeap (Value.ref D) && Value.builtin "BaseException.__getattribute__" == Value.builtin "object.__getattribute__") = false := by rw [hx2]; rfl
  obtain ⟨hh, g, d, t, os⟩ := s
  unfold getAttr getAttrBy
  repeat (any_goals (first | assumption | with_reducible refine L0.at ?_ | with_reducible refine L1.at ?_ | with_reducible refine L2.at ?_ | wp_step))
  rw [show (expr && onTheHeap (Value.builtin "BaseException.__getattribute__")) = false from Bool.and_false _, if_neg (by decide)]
  unfold boundAndCalled
  repeat (any_goals (first | assumption | with_reducible refine L0.at ?_ | with_reducible refine L1.at ?_ | with_reducible refine L2.at ?_ | wp_step))
  refine codeAny_call_builtin F.excAttr_ValueError.ga.plain F.entry_bexc_ga (exc_check (s := ⟨hh, g, d, t + 1, os⟩) X I c (exc_entryV (s := ⟨hh, g, d, t + 1, os⟩) X I e ?_))
  repeat (any_goals (first | assumption | wp_step))
  show wpAny _ _ (handedOut v) _ _ _
  rw [handedOut_of hv]
  exact wpAny_pure h
end
end PySem.W
set_option Elab.async false
set_option linter.all false
set_option maxRecDepth 100000
set_option autoImplicit false
namespace L2
open PySem PySem.Spec PyProof.Rows
theorem upd_id {H : Hp} {a : Addr} {o : HO} (h : H a = some o) : upd H a o = H := by
  funext b
  unfold upd
  split
  · rename_i e
    rw [e, h]
  · rfl
noncomputable def era (H : Hp) (e : Addr) : Hp := fun b => if b = e then none else H b
theorem era_ne {H : Hp} {e b : Addr} (h : b ≠ e) : era H e b = H b := by unfold era; rw [if_neg h]
theorem era_same {H : Hp} {e : Addr} : era H e e = none := by unfold era; rw [if_pos rfl]
section
variable {P : Program} {w : World} {fs ex : List Addr} {H H' : Hp} {h h' : Heap} {e : Addr} {φ : Heap → Prop}
theorem Un.era (u : Un fs ex H H' h h') (he : H e = none) : Un fs ex H (era H' e) h h' where
  keep := u.keep
  slot := u.slot
  free := fun b o q n hx => by
    by_cases z : b = e
    · rw [z]; exact era_same
    · rw [era_ne z]; exact u.free b o q n hx
  there := u.there
  tups := fun b xs q => by rw [era_ne (ne_of_none q he)]; exact u.tups b xs q
  frzs := fun b o v q => by rw [era_ne (ne_of_none q he)]; exact u.frzs b o v q
  tbls := fun b ps q => by rw [era_ne (ne_of_none q he)]; exact u.tbls b ps q
theorem HOk.era (k : HOk P w H h) (he : H e = some (.ext φ)) : HOk P w (era H e) h := fun b o q => by
  by_cases z : b = e
  · rw [z, era_same] at q; cases q
  · rw [era_ne z] at q
    refine (k b o q).stay (fun _ _ _ r => r) (fun c r => ?_) fun c xs r => ?_
    · rw [era_ne fun y => by rw [y, he] at r; cases r]; exact r
    · rw [era_ne fun y => by rw [y, he] at r; cases r]; exact r
end
end L2
namespace M
open PySem PySem.Spec PyProof.Rows L2
noncomputable def ExcN (a C : Addr) (dx : Option Addr) : Heap → Prop := fun h => ∃ te, h.get? a = some { cls := .ref C, dict := dx, data := .fields #[.ref te, .none, .none, .none, .bool false, .none] }
theorem excN_ok {P : Program} {w : World} {H : Hp} {h : Heap} {a C : Addr} {dx : Option Addr} (x : ExcN a C dx h) : ObjOk P w H h a (.ext (ExcN a C dx)) := by
  obtain ⟨te, e⟩ := x
  exact ⟨⟨te, e⟩, ⟨_, e⟩, fun h1 h2 ⟨t, q⟩ k => ⟨t, k _ q⟩⟩
structure ExcI (K : PySem.W.Frag) (C NE fI : Addr) (f : Str) : Prop where
  ob : ∃ nm q N bs sn sub ab col dd k0 k1 k2 k3 k5, K.lookup C = some (excClassObj nm q C N bs (.ref NE :: PySem.W.bmV) true sn sub ab col dd k0 k1 k2 k3 k5 "ValueError.__new__")
  ini : PySem.W.findIn K (.ref C) "__init__" = some (some (.ref fI))
  fn : PySem.W.typeIn K (.ref fI) = some (.type "function")
  ne : PySem.W.excIn K NE PySem.W.bmV "ValueError.__new__" = true
  sa : PySem.W.findIn K (.ref C) "__setattr__" = some (some (.builtin "object.__setattr__"))
  at_ : PySem.W.findIn K (.ref C) f = some none
  gt : PySem.W.specialIn K (.ref NE) "__getattribute__" = some (some (.builtin "type.__getattribute__"))
  rd : PySem.W.readsIn K NE (.type "type") = true
  fc : PySem.W.findCls K (.ref NE) (.type "type") "__init__" = some (.val (.builtin "ValueError.__init__"))
theorem ExcI.tail {K : PySem.W.Frag} {C NE fI : Addr} {f : Str} (Z : ExcI K C NE fI f) {h : Heap} (X : K.In h) : OwnTail h PySem.W.bmV (.ref NE :: PySem.W.bmV) := by
  obtain ⟨bm, N, nm, qn, bs, hdct, sn, sub, ab, col, dd, k0, k1, k2, k3, k5, mN, hC, hN, hni, T⟩ := exc_of_in X Z.ne
  exact .own hC hN hni .base
section
variable {X : Cx} {v o value : Expr} {e : Expr} {es : List Expr} {tv ta : TE} {t : TA} {C NE fI : Addr} {f : Str} {np apos pos pos' p1 p2 p3 p4 : Pos} {x1 x2 : Str} {j1 j2 : Nat}
theorem pe_fstr (hv : PE X v tv) (h1 : x1.length ≤ 1000 := by decide) (h2 : x2.length ≤ 1000 := by decide) :
    PE X (.JoinedStr [.Constant (.str x1) j1 p1, .FormattedValue v 114 none p2, .Constant (.str x2) j2 p3] p4) (fun σ H Q => tv σ H fun x H1 => ∃ n : Int, x = .int n ∧ n.natAbs.log2 < 1920 ∧ ∀ y, Q (.str y) H1) := by
  intro pins s σ H Q I h
  have z0 : (Str.empty : Str).length = 0 := rfl
  refine wpAny_JoinedStr ?_
  show Joins _ _ _ [eval (.Constant (.str x1) j1 p1) X.env, eval (.FormattedValue v 114 none p2) X.env, eval (.Constant (.str x2) j2 p3) X.env] _ _ _
  refine Calls.Constant_str ⟨x1, _, rfl, by rw [strLen_append, z0, sizeLine_eq]; omega, ?_⟩
  refine wpAny_FormattedValue_repr (thn (hv pins _ σ H _ (I.tok _) h) fun u s1 ⟨x, H1, I1, r1, n, ex, hn, q⟩ => ?_)
  subst ex
  obtain ⟨t, rfl⟩ := (show ∃ t, u = Value.int n t from r1)
  refine pyReprObj_int hn ?_
  have hz : (Str.ofString (toString n)).length ≤ 1921 := by
    have := int_text_length_le (k := 1920) (by decide) hn
    rw [PySem.ofString_length]; exact this
  have last : ∀ t s2, Inv X pins σ H1 s2 → ∃ y t', Value.str (Str.ofString (toString n)) t = .str y t' ∧ ((Str.empty ++ x1) ++ y).length ≤ sizeLine ∧
      Joins (model X.prog X.w) X.A X.xe [eval (.Constant (.str x2) j2 p3) X.env] ((Str.empty ++ x1) ++ y) (fun out s₁ => out.length ≤ sizeLine ∧ EP X pins σ Q (.str out s₁.toks) { s₁ with toks := s₁.toks + 1 }) s2 := fun t s2 I2 => by
    refine ⟨_, t, rfl, by rw [strLen_append, strLen_append, z0, sizeLine_eq]; omega, ?_⟩
    have hl : (((Str.empty ++ x1) ++ Str.ofString (toString n)) ++ x2).length ≤ sizeLine := by rw [strLen_append, strLen_append, strLen_append, z0, sizeLine_eq]; omega
    refine Calls.Constant_str ⟨x2, _, rfl, hl, hl, ⟨.str _, H1, ?_, ⟨_, rfl⟩, q _⟩⟩
    exact (I2.tok _).tok _
  refine wpAny_formatField_str (last _ _ (I1.tok _)) (last _ _ ((I1.tok _).tok _)) (Nat.le_trans hz (by rw [sizeLine_eq]; omega))
theorem pe_base (Z : ExcI X.K C NE fI f) (hm : X.mg "NestError" = some (.ref NE)) (ha : PA X (e :: es) t) {pl : Sem Bool} (hg : Gl X "NestError" := by rfl)
    (hst : starEach (e :: es) X.env = (false, eval e X.env) :: starEach es X.env := by rfl) (hpl : (backTo pos (starEach es X.env)).any (·.1) = false := by rfl)
    (ht : eval (.Call (.Attribute (.Name "NestError" np) "__init__" apos) (e :: es) [] pos) X.env = (do
      let ov ← eval (.Name "NestError" np) X.env
      standAt apos.atName
      let (f, first) ← holding [ov] (getMethod ov "__init__" pl)
      callWith pos f first (backTo pos (starEach (e :: es) X.env)) (backToKw pos (keywordEach [] X.env))) := by rfl) :
    PE X (.Call (.Attribute (.Name "NestError" np) "__init__" apos) (e :: es) [] pos) (fun σ H Q => t σ H fun vs H1 => ∃ a x, vs = [.ref a, x] ∧ H1 a = some (.ext (ExcN a C none)) ∧ Q .non H1) := by
  intro pins s σ H Q I h
  refine PySem.W.methodCall_KW (pl := pl) (ld_glob I hg hm ?_ (by decide)) ht
  refine PySem.W.method_cls I.kIn Z.gt (PySem.W.cls_value I.kIn Z.rd Z.fc (by decide +kernel) ?_)
  refine PyProof.Rows.callWith_builtin1 (thn (ha pos pins _ σ H _ (I.tok _) h) fun us s1 ⟨vs, H1, I1, r1, a, x, ev, ea, q⟩ => ?_) hst hpl
  subst ev
  obtain ⟨u1, u2, rfl, ra, rx⟩ := vals2 r1
  obtain rfl : u1 = Value.ref a := ra
  obtain ⟨⟨te, ho⟩, _, _⟩ := (show ObjOk X.prog X.w H1 s1.heap a (.ext (ExcN a C none)) from I1.hok a _ ea)
  obtain ⟨nm, qn, N, bs, sn, sub, ab, col, dd, k0, k1, k2, k3, k5, lk⟩ := Z.ob
  have T := Z.tail I1.kIn
  have hC := I1.kIn _ _ lk
  obtain ⟨hp, g, d, tk, os⟩ := s1
  refine base_init PySem.F.excBase_ValueError T hC ho (fun h' keep he hsz => ?_) (show 1 ≤ sizeLine by rw [sizeLine_eq]; decide)
  refine ⟨.non, H1, ?_, rfl, q⟩
  have J := I1.write (x := a) (e := a) (o := .ext (ExcN a C none)) (h' := h') (t' := tk) (by rw [ea]; trivial) (.inl rfl) keep ⟨_, he⟩ (excN_ok ⟨_, he⟩)
  rwa [upd_id ea] at J
theorem ps_storeX (Z : ExcI X.K C NE fI f) (ho : PE X o ta) (hv : PE X value tv) (hs : swapsWith value (some (.Attribute o f pos')) pos.line X.env = pure false := by rfl) :
    PS X (.Assign [.Attribute o f pos'] value pos) (fun D σ H => tv σ H fun y H1 => ta σ H1 fun x H2 => ∃ a, x = .ref a ∧ H2 a = some (.ext (ExcN a C none)) ∧ ∀ p, H2 p = none → p ≠ a → D.nx σ (upd (upd H2 p (.xd [(f, y)])) a (.ext (ExcN a C (some p))))) := by
  intro pins s σ H D I h
  refine plainObj_wpAny_Assign_Attribute (thn (hv pins s σ H _ I h) fun u s1 ⟨y, H1, I1, ry, q⟩ => thn (ho pins s1 σ H1 _ I1 q) fun ov s2 ⟨x, H2, I2, rx, a, ex, ea, q2⟩ => ?_) hs
  subst ex
  obtain rfl : ov = Value.ref a := rx
  obtain ⟨⟨te, hob⟩, _, _⟩ := (show ObjOk X.prog X.w H2 s2.heap a (.ext (ExcN a C none)) from I2.hok a _ ea)
  obtain ⟨nm, qn, N, bs, sn, sub, ab, col, dd, k0, k1, k2, k3, k5, lk⟩ := Z.ob
  obtain ⟨cd, hc, hmro, hhd⟩ : ∃ cd, PySem.W.clsIn X.K C = some cd ∧ PySem.W.dropRefs cd.mro = PySem.W.bmV ∧ cd.hasDict = true := by
    unfold PySem.W.clsIn
    rw [lk]
    exact ⟨_, rfl, rfl, rfl⟩
  refine PySem.W.set_exc I2.kIn ⟨hob, rfl, rfl, trivial⟩ rfl Z.sa hc hmro hhd Z.at_ fun h' p tk he hn hp keep => ⟨σ, _, ?_, q2 p (I2.hok.fresh hp) ?_⟩
  · have hpn : H2 p = none := I2.hok.fresh hp
    have hpa : p ≠ a := fun z => absurd (Nat.lt_of_lt_of_le (Heap.lt_size hob) (z ▸ hp)) (Nat.lt_irrefl _)
    have hpg : ∀ b ob, s2.heap.get? b = some ob → b ≠ p := fun b ob r z => absurd (Nat.lt_of_lt_of_le (Heap.lt_size r) (z ▸ hp)) (Nat.lt_irrefl _)
    have hup : ∀ b, b ≠ a → b ≠ p → upd (upd H2 p (.xd [(f, y)])) a (.ext (ExcN a C (some p))) b = H2 b := fun b n1 n2 => by rw [upd_ne n1, upd_ne n2]
    have ne_a : ∀ b ob, H2 b = some ob → (∀ φ, ob ≠ .ext φ) → b ≠ a := fun b ob r n z => by rw [z, ea] at r; cases r; exact n _ rfl
    have ne_p : ∀ b ob, H2 b = some ob → b ≠ p := fun b ob r => ne_of_none r hpn
    refine I2.un (t' := tk) ⟨?_, ?_, ?_, ?_, ?_, ?_, ?_⟩ ?_
    · exact fun b ob r n _ _ => keep b ob (fun z => by rw [z, ea] at n; cases n) r
    · exact fun b ob r n _ _ => ⟨ob.slots, keep b ob (fun z => by rw [z, ea] at n; cases n) r⟩
    · exact fun b ob r n _ => by rw [hup b (fun z => by rw [z, ea] at n; cases n) (hpg b ob r)]; exact n
    · exact fun b ob r _ => by
        by_cases z : b = a
        · exact ⟨_, by rw [z]; exact he⟩
        · exact ⟨_, keep b ob z r⟩
    · exact fun b xs r => by rw [hup b (ne_a b _ r fun _ z => by cases z) (ne_p b _ r)]; exact r
    · exact fun b ob w r => by rw [hup b (ne_a b _ r fun _ z => by cases z) (ne_p b _ r)]; exact r
    · exact fun b ps r => ⟨#[], by rw [hup b (ne_a b _ r fun _ z => by cases z) (ne_p b _ r), Array.append_empty]; exact r⟩
    · intro b ob r
      by_cases z : b = a
      · subst z
        rw [upd_same] at r
        cases r
        exact excN_ok ⟨te, he⟩
      · by_cases z2 : b = p
        · subst z2
          rw [upd_ne z, upd_same] at r
          cases r
          refine ⟨_, hn, fun g => ?_⟩
          by_cases zg : g = f
          · have hb : (g == f) = true := beq_iff_eq.mpr zg
            simp only [List.lookup, hb, if_pos zg]
            exact ry
          · have hb : (g == f) = false := beq_eq_false_iff_ne.mpr zg
            simp only [List.lookup, hb, if_neg zg]
            trivial
        · rw [hup b z z2] at r
          refine (I2.hok b ob r).stay (fun c w hc r' => keep c w (fun z3 => ?_) r') (fun c r' => ?_) fun c xs r' => ?_
          · subst z3
            rcases hc with hc | hc
            · exact z hc.symm
            · rw [ea] at hc; cases hc
          · rw [hup c (ne_a c _ r' fun _ z => by cases z) (ne_p c _ r')]; exact r'
          · rw [hup c (ne_a c _ r' fun _ z => by cases z) (ne_p c _ r')]; exact r'
  · exact fun z => absurd (Nat.lt_of_lt_of_le (Heap.lt_size hob) (z ▸ hp)) (Nat.lt_irrefl _)
end
noncomputable def spI (C : Addr) (f : Str) : Sp := fun vs H Q _ => ∃ e n, vs = [.ref e, .int n] ∧ n.natAbs.log2 < 1920 ∧ H e = some (.ext (ExcN e C none)) ∧ ∀ p, H p = none → p ≠ e → Q .non (upd (upd H p (.xd [(f, .int n)])) e (.ext (ExcN e C (some p))))
end M
set_option Elab.async false
set_option linter.all false
set_option maxRecDepth 100000
set_option autoImplicit false
namespace M
open PySem PySem.Spec PyProof.Rows L2
@[simp] noncomputable def sRaiseI (c f : Str) (φ : FA) : FS := fun δ μ => (φ δ μ).bind fun p => match p.1 with
  | [.int n] => if n.natAbs < 1000000 then some (.exc c [(f, .int n)] p.2) else none
  | _ => none
theorem log_small {n : Int} (h : n.natAbs < 1000000) : n.natAbs.log2 < 1920 := by
  by_cases z : n.natAbs = 0
  · rw [z]; decide
  · exact (Nat.log2_lt z).mpr (Nat.lt_of_lt_of_le h (Nat.le_trans (by decide : 1000000 ≤ 2 ^ 20) (Nat.pow_le_pow_right (by decide) (by decide))))
section
variable {X : Cx} {x : Str} {e : Expr} {np cpos pos : Pos} {C NE fI : Addr} {f : Str} {k : Nat} {fd : FuncData} {ps : List Str} {φ : FA}
theorem era_made {H : Hp} {a p : Addr} {o o' u : HO} (ha : H a = none) (hp : p ≠ a) : era (upd (upd (upd H a o) p u) a o') a = upd H p u := by
  funext b
  by_cases z : b = a
  · rw [z, era_same, upd_ne (Ne.symm hp), ha]
  · rw [era_ne z, upd_ne z]
    by_cases z2 : b = p
    · rw [z2, upd_same, upd_same]
    · rw [upd_ne z2, upd_ne z, upd_ne z2]
theorem flyI {pins : List (Addr × Obj)} {σ : L2.St} {H H2 : Hp} {s s' : Shared} {a p te : Addr} (I : Inv X pins σ H s) (I3 : Inv X pins σ H2 s') (hos : s'.os = s.os) (un : Un (frs X.stack) [] H H2 s.heap s'.heap) (ha : s.heap.objs.size ≤ a) (h2 : ∃ φ, H2 a = some (.ext φ))
    (he : s'.heap.get? a = some { cls := .ref C, dict := some p, data := .fields #[.ref te, .none, .none, .none, .bool false, .none] }) : FlyX X.prog X.w X.stack H s (.ref C) (some p) (era H2 a) (.ref a) s' := by
  have hn : H a = none := I.hok.fresh ha
  obtain ⟨φ, h2⟩ := h2
  have hin : ∀ env ∈ X.stack, ∀ b, env.frame = some b → b ∈ a :: frs X.stack := fun env he b hb => List.mem_cons_of_mem _ (List.mem_filterMap.mpr ⟨env, he, hb⟩)
  refine ⟨hos, I3.bare, un.era hn, I3.hok.era h2, a, PySem.W.hideAll s'.heap (a :: frs X.stack), rfl, ⟨fun b o q => PySem.W.of_hideAll _ q, PySem.W.hideAll_none _ List.mem_cons_self, PySem.W.funFrames_hide I3.stack hin, ⟨_, _, _, he, rfl, rfl, rfl, rfl, .inl rfl⟩⟩, ?_⟩
  refine ⟨fun b o q => ?_, fun b o q hb => ?_⟩
  · by_cases z : b = a
    · rw [z, era_same] at q; cases q
    · rw [era_ne z] at q
      obtain ⟨u, hu⟩ := (I3.hok b o q).there
      refine ⟨u, PySem.W.hideAll_get _ hu fun hm => ?_⟩
      rcases List.mem_cons.mp hm with hm | hm
      · exact z hm
      · rw [I3.stkFree b hm] at q; cases q
  · obtain ⟨u, hu⟩ := un.there b o q (by simp)
    refine ⟨u, PySem.W.hideAll_get _ hu fun hm => ?_⟩
    rcases List.mem_cons.mp hm with hm | hm
    · exact absurd (Nat.lt_of_lt_of_le (Heap.lt_size q) (hm ▸ ha)) (Nat.lt_irrefl _)
    · exact hb hm
set_option maxHeartbeats 400000 in
theorem ms_raiseI (hn : PySem.W.nsIn X.K mainGlobals x = some (some (.ref C))) (Z : ExcI X.K C NE fI f) (G : FnOk X.prog X.w X.K X.mg X.base CX0 1 fI fd ps (spI C f)) (hb : Binds X.K fd ps []) (hr : Room k X.A) (ha : MAn X [e] φ) (hk : 2 ≤ k := by decide) (hh : X.calm = true := by rfl) (hg : Gl X x := by rfl)
    (he : starEach [e] X.env = (false, eval e X.env) :: starEach [] X.env := by exact star_ok rfl) (hdb : (x == ("__debug__" : Str)) = false := by decide) :
    MS X (.Raise (some (.Call (.Name x np) [e] [] cpos)) none pos) (sRaiseI x f φ) := by
  intro pins s σ H D I ⟨ρ, δ, μ, o, A, eo, kk⟩
  obtain ⟨⟨ds, μ1⟩, e1, eo⟩ := bind_inv eo
  dsimp only at eo
  split at eo
  case h_2 => cases eo
  rename_i n
  split at eo
  case isFalse => cases eo
  rename_i hlt
  cases eo
  have hlog := log_small hlt
  obtain ⟨nm, qn, N, bs, sn, sub, ab, col, dd, k0, k1, k2, k3, k5, lk⟩ := Z.ob
  have hpl' : (backTo cpos (starEach [e] X.env)).any (·.1) = false := by
    rw [he]
    rfl
  refine Raise_call_init (C := C) (fI := fI) (nm := nm) (q := qn) (N := N) (bs := bs) (bm := .ref NE :: PySem.W.bmV) (hdct := true) (sn := sn) (sub := sub) (ab := ab) (col := col) (dd := dd) (k0 := k0) (k1 := k1) (k2 := k2) (k3 := k3) (k5 := k5) (newId := "ValueError.__new__")
    PySem.F.excBase_ValueError ((Z.tail I.kIn).hasType PySem.F.excBase_ValueError.hasBase) (I.ok.hd hh) hpl' (ld_glob I hg (PySem.W.mg_of I.mod.kin I.mod.glob hn) ⟨rfl, ?_⟩ hdb)
  have h := ha.ma cpos pins s σ H (fun vs H' => vs = [.int n] ∧ ∃ ρ', Ext ρ H ρ' H' ∧ RepH X.K ρ' H' μ1) I ⟨ρ, δ, μ, [.int n], μ1, A, e1, fun ρ' H' vs x' R r => ⟨by
    obtain ⟨v, rr, rfl, q1, q2⟩ := r.cons_inv
    rw [q2.nil_inv, q1.int_inv], ρ', x', R⟩⟩
  rw [he] at h ⊢
  refine Calls.evalArgs_plain (wpAny_mono h (fun us s2 h2 => ?_) fun _ _ y => y)
  obtain ⟨vs, H', I', r, rfl, ρ', x', R⟩ := h2
  obtain ⟨u, rfl, ru⟩ := vals1 r
  obtain ⟨t, rfl⟩ := (show ∃ t, u = Value.int n t from ru)
  have hz : (excNew s2.heap C [.int n t]).get? (s2.heap.objs.size + 1) = some { cls := .ref C, dict := none, data := .fields #[.ref s2.heap.objs.size, .none, .none, .none, .bool false, .none] } := by heap_get
  have kp : ∀ b o, s2.heap.get? b = some o → (excNew s2.heap C [.int n t]).get? b = some o := fun b o q => Heap.get?_push_of_some _ (Heap.get?_push_of_some _ q)
  have hsz : s2.heap.objs.size ≤ s2.heap.objs.size + 1 := Nat.le_succ _
  have hfr : H' (s2.heap.objs.size + 1) = none := I'.hok.fresh hsz
  have I2 : Inv X pins σ (upd H' (s2.heap.objs.size + 1) (.ext (ExcN (s2.heap.objs.size + 1) C none))) { s2 with heap := excNew s2.heap C [.int n t] } :=
    I'.laid (a := s2.heap.objs.size + 1) (t' := s2.toks) kp hsz (excN_ok ⟨_, hz⟩)
  have sp : spI C f [.ref (s2.heap.objs.size + 1), .int n] (upd H' (s2.heap.objs.size + 1) (.ext (ExcN (s2.heap.objs.size + 1) C none))) (fun v H2 => v = .non ∧ ∃ p, H' p = none ∧ p ≠ s2.heap.objs.size + 1 ∧
      H2 = upd (upd (upd H' (s2.heap.objs.size + 1) (.ext (ExcN (s2.heap.objs.size + 1) C none))) p (.xd [(f, .int n)])) (s2.heap.objs.size + 1) (.ext (ExcN (s2.heap.objs.size + 1) C (some p)))) E0 :=
    ⟨_, n, rfl, hlog, upd_same, fun p hp hpe => ⟨rfl, p, by rwa [upd_ne hpe] at hp, hpe, rfl⟩⟩
  have hl : ([Value.ref (s2.heap.objs.size + 1), .int n t] ++ []).length = ps.length := G.len _ _ _ _ sp
  refine ⟨rfl, (show 1 ≤ sizeLine by rw [sizeLine_eq]; decide), I'.kIn _ _ lk, PySem.W.looks_findIn I'.kIn Z.ini, Z.tail I'.kIn, fun self => PySem.W.bind_fn I'.kIn self Z.fn, ?_⟩
  have hroom : Room 1 (X.A.under (.builtin "type.__call__" ⟨.ref C :: [.int n t], []⟩)) := Room.make (k := 1) (hr.mono hk) C [.int n t] []
  have henv := I2.env0.make C [.int n t] []
  have hbind := hb { s2 with heap := excNew s2.heap C [.int n t] } [.ref (s2.heap.objs.size + 1), .int n t] I2.kIn hl
  have hvals : Vals [V.ref (s2.heap.objs.size + 1), .int n] ([Value.ref (s2.heap.objs.size + 1), .int n t] ++ []) := .cons rfl (.cons ⟨t, rfl⟩ .nil)
  have run := G.run _ X.stack _ _ _ _ _ _ E0 hroom henv hbind hvals sp
  show wpAny (model X.prog X.w) (X.A.under (.builtin "type.__call__" ⟨.ref C :: [.int n t], []⟩)) (call (.ref fI) [.ref (s2.heap.objs.size + 1), .int n t]) _ _ { s2 with heap := excNew s2.heap C [.int n t] }
  refine wpAny_call (codeAny_mono run fun rr s' hq => ?_)
  cases rr with
  | error ex => exact False.elim hq
  | ok fl =>
    cases fl with
    | next => exact False.elim hq
    | brk => exact False.elim hq
    | cont => exact False.elim hq
    | ret uu =>
      obtain ⟨v, H2, hos, hbare, un, hok, rv, ev, p, hp, hpe, e2⟩ := hq
      subst ev
      obtain rfl : uu = Value.none := rv
      obtain ⟨_, H3, I3, _, _, e3⟩ := I2.after (Q := fun v' H'' => v' = V.non ∧ H'' = H2) ⟨V.non, H2, hos, hbare, un, hok, rfl, rfl, rfl⟩
      rw [e3] at I3
      have h3 : H2 (s2.heap.objs.size + 1) = some (.ext (ExcN (s2.heap.objs.size + 1) C (some p))) := by rw [e2]; exact upd_same
      obtain ⟨⟨te, he3⟩, _, _⟩ := (show ObjOk X.prog X.w H2 s'.heap (s2.heap.objs.size + 1) (.ext (ExcN (s2.heap.objs.size + 1) C (some p))) from I3.hok _ _ h3)
      refine ⟨rfl, I3.kIn _ _ lk, ⟨_, te, he3⟩, ?_⟩
      have F := flyI (C := C) (te := te) I' I3 hos ((Un.laid kp hsz hfr).trans un) hsz ⟨_, h3⟩ he3
      rw [e2, era_made hfr hpe] at F
      exact kk ρ' (upd H' p (.xd [(f, .int n)])) C (some p) hn (x'.trans (Ext.new hp)) (R.newTup hp) (.inr ⟨p, [(f, .int n)], rfl, upd_same, rfl, by simp [RepVs, RepV]⟩) pins σ H' s2 (.ref (s2.heap.objs.size + 1)) s' I' F
end
structure AtC (K : PySem.W.Frag) (c f : Str) : Prop where
  ok : ∀ C, PySem.W.nsIn K mainGlobals c = some (some (.ref C)) → PySem.W.AskC K C ∧ PySem.W.findIn K (.ref C) f = some none ∧ PySem.W.hasDictIn K C = true
@[simp] noncomputable def fAt (c f : Str) (φ : FE) : FE := fun δ μ => (φ δ μ).bind fun p => match p.1 with
  | .loc n => match p.2[n]? with
    | some (.exc c' fs) => if c' = c then (fs.lookup f).bind fun d => some (d, p.2) else none
    | _ => none
  | _ => none
theorem lookup_rep {K : PySem.W.Frag} {ρ : List Addr} {H : Hp} {f : Str} {d : D} : ∀ {fs : List (Str × D)} {vs : List (Str × V)}, vs.map (·.1) = fs.map (·.1) → RepVs K ρ H (fs.map (·.2)) (vs.map (·.2)) → fs.lookup f = some d → ∃ v, vs.lookup f = some v ∧ RepV K ρ H d v
  | [], _, _, _, h => by cases h
  | (g, d0) :: fs, [], e, _, _ => by cases e
  | (g, d0) :: fs, (g', v0) :: vs, e, r, h => by
    simp only [List.map_cons, List.cons.injEq] at e
    obtain ⟨rfl, e⟩ := e
    obtain ⟨v, rr, e2, q1, q2⟩ := r.cons_inv
    simp only [List.map_cons, List.cons.injEq] at e2
    obtain ⟨rfl, rfl⟩ := e2
    unfold List.lookup at h ⊢
    split at h
    · cases h; exact ⟨_, rfl, q1⟩
    · exact lookup_rep e q2 h
theorem fAt_inv {c f : Str} {φ : FE} {δ : Loc} {μ μ' : Mem} {d : D} (h : fAt c f φ δ μ = some (d, μ')) : ∃ n fs, φ δ μ = some (.loc n, μ') ∧ μ'[n]? = some (.exc c fs) ∧ fs.lookup f = some d := by
  obtain ⟨⟨d1, μ1⟩, e1, h2⟩ := bind_inv h
  clear h
  cases d1 with
  | loc n =>
    replace h2 : (match μ1[n]? with
      | some (.exc c' fs) => if c' = c then (fs.lookup f).bind fun d => some (d, μ1) else none
      | _ => none) = some (d, μ') := h2
    cases hm : μ1[n]? with
    | none => rw [hm] at h2; cases h2
    | some o =>
      rw [hm] at h2
      cases o with
      | exc c' fs =>
        by_cases hc : c' = c
        · subst hc
          simp only [if_true] at h2
          obtain ⟨d2, e2, h3⟩ := bind_inv h2
          cases h3
          exact ⟨n, fs, e1, hm, e2⟩
        · simp only [if_neg hc] at h2
          cases h2
      | lst _ => cases h2
      | dct _ => cases h2
      | dcf _ => cases h2
  | _ => cases h2
theorem me_at {X : Cx} {o : Expr} {pos : Pos} {c f : Str} {φ : FE} (Z : AtC X.K c f) (ho : ME X o φ) (hb : attributeBase o f X.env (eval o X.env) = eval o X.env := by rfl) : ME X (.Attribute o f pos) (fAt c f φ) := by
  intro pins s σ H Q I ⟨ρ, δ, μ, d, μ1, A, eo, kk⟩
  obtain ⟨n, fs, e1, hm, e2⟩ := fAt_inv eo
  refine attr_of hb (thn (ho pins s σ H (fun v H1 => ∃ a ρ1, v = .ref a ∧ ρ1[n]? = some a ∧ Ext ρ H ρ1 H1 ∧ RepH X.K ρ1 H1 μ1) I ⟨ρ, δ, μ, .loc n, μ1, A, e1, fun ρ1 H1 v x1 R1 r1 => by
    obtain ⟨a, rfl, e3⟩ := r1.loc_inv
    exact ⟨a, ρ1, rfl, e3, x1, R1⟩⟩) fun u s1 ⟨v, H1, I1, r1, a, ρ1, ev, e3, x1, R1⟩ => ?_)
  subst ev
  obtain rfl : u = Value.ref a := r1
  obtain ⟨C, dx, hn, hH, hX⟩ := R1.at_ _ _ _ e3 hm
  obtain ⟨⟨ob, vs, h1, h2, h3, h4⟩, _, _⟩ := (show ObjOk X.prog X.w H1 s1.heap a (.ext (ExcAt a C dx)) from I1.hok a _ hH)
  obtain ⟨Zc, Zf, Zd⟩ := Z.ok C hn
  rcases hX with ⟨hfs, _⟩ | ⟨p, ws, rfl, hp, hk, hr⟩
  · rw [hfs] at e2; cases e2
  · obtain ⟨w1, l1, rw1⟩ := lookup_rep hk hr e2
    obtain ⟨mA, hns, hro⟩ := (show ObjOk X.prog X.w H1 s1.heap p (.xd ws) from I1.hok p _ hp)
    obtain ⟨u1, hu1, ru1⟩ := RelO.some_of (v := w1) (o := mA f) (by rw [← l1]; exact hro f)
    obtain ⟨od, hod, hl⟩ := lookIn_ns hns
    have J : PySem.W.InstAt s1.heap a ob C (some od) := ⟨h1, h2, by unfold PySem.W.notCls; rw [h4], by rw [h3]; exact hod⟩
    exact PySem.W.exc_load I1.kIn J Zc (PySem.W.findObj_own Zd Zf rfl (by rw [hl, hu1])) (handed_of ru1) ⟨w1, H1, I1.tok _, ru1, kk ρ1 H1 w1 x1 R1 rw1⟩
end M
namespace M
open PySem PySem.Spec PyProof.Rows L2
noncomputable def clsFn (s : Stmt) : Stmt := match s with
  | .ClassDef _ _ _ b _ _ _ _ _ _ _ => b.getD 0 (.Pass ⟨0, 0, 0, 0⟩)
  | _ => .Pass ⟨0, 0, 0, 0⟩
structure IniAt (K : PySem.W.Frag) (mg : Str → Option Value) (c f qual : Str) (st : Stmt) (ps : List Str) (C NE fI : Addr) (fd : FuncData) : Prop where
  nm : PySem.W.nsIn K mainGlobals c = some (some (.ref C))
  ne : mg "NestError" = some (.ref NE)
  ex : ExcI K C NE fI f
  fn : Fun K "__init__" qual st fI fd
  bd : Binds K fd ps []
end M
set_option Elab.async false
set_option linter.all false
set_option maxRecDepth 100000
set_option autoImplicit false
namespace M
open PySem PySem.Spec PyProof.Rows L2
section
variable {X : Cx} {a b c e : Expr} {es : List Expr} {φ ψ χ : FE} {pos pos2 p1 p2 : Pos}
noncomputable def fLRange (φ : FE) : FE := fun δ μ => (φ δ μ).bind fun p => match p.1 with
  | .int j => bif decide (-(2 ^ 62) ≤ j ∧ j ≤ 1000000) then some (.loc p.2.length, p.2 ++ [.lst ((List.range j.toNat).map fun (k : Nat) => .int k)]) else none
  | _ => none
@[simp] noncomputable def gAny : GL := fun ds μ => match ds with
  | [.loc n] => match μ[n]? with
    | some (.lst xs) => bif xs.all isBl then some (.bl (xs.any blB), μ) else none
    | _ => none
  | _ => none
@[simp] noncomputable def gInt : GL := fun ds μ => match ds with
  | [.int i] => some (.int i, μ)
  | [.bl b] => some (.int (if b then 1 else 0), μ)
  | _ => none
theorem callM_int : CallM X (.type "int") gInt := by
  refine CallM.of fun pins s σ H xs us Q I r ρ ds μ d μ' r1 R e k => ?_
  unfold gInt at e
  split at e
  · cases e
    obtain ⟨v, rr, rfl, q1, q2⟩ := r1.cons_inv
    exact call_int1 pins s σ H _ us Q I r (.inl ⟨_, by rw [q1.int_inv, q2.nil_inv], k ρ H _ Ext.refl R .int⟩)
  · cases e
    obtain ⟨v, rr, rfl, q1, q2⟩ := r1.cons_inv
    exact call_int1 pins s σ H _ us Q I r (.inr ⟨_, by rw [q1.bl_inv, q2.nil_inv], k ρ H _ Ext.refl R .int⟩)
  · cases e
@[simp] noncomputable def gMin2 : GL := fun ds μ => match ds with
  | [.int i, .int j] => some (.int (if j < i then j else i), μ)
  | _ => none
@[simp] noncomputable def gMax2 : GL := fun ds μ => match ds with
  | [.int i, .int j] => some (.int (if j > i then j else i), μ)
  | _ => none
@[simp] noncomputable def fIf (c : FT) (φ ψ : FE) : FE := fun δ μ => (c δ μ).bind fun p => bif p.1 then φ δ p.2 else ψ δ p.2
end
end M
set_option Elab.async false
set_option linter.all false
set_option maxRecDepth 100000
set_option autoImplicit false
namespace M
open PySem PySem.Spec PyProof.Rows L2
section
variable {prog : Program} {w : World} {A : Around} {E : Value → Shared → Prop} {s : Shared}
theorem nextT {it t : Addr} {i : Nat} {items : Array Value} {x : Value} {Q : Value → Shared → Prop} (hit : s.heap.IsTupleIter it t i) (ht : s.heap.IsTuple t items) (hx : items[i]? = some x)
    (hQ : ∀ h', h'.IsTupleIter it t (i + 1) → Heap.SameBut it s.heap h' → Q x { s with heap := h' }) : wpAny (model prog w) A (Builtin.SmallTypes.nextOf (.ref it)) Q E s := by
  obtain ⟨ob, hob, hcl, hfs⟩ := id hit
  obtain ⟨ot, hot, _, m, hits⟩ := ht
  unfold Builtin.SmallTypes.nextOf
  refine wpAny_bind (wpAny_callSpecial?_slot (name := Str.ofString "__next__") hit.typeIs F.slot_tuple_iterator_next (wpAny_call_entry F.slot_tuple_iterator_next hit.typeIs F.entry_tuple_iterator_next ?_ (F.args_tuple_iterator_next_1 _)))
  show wpAny _ _ (field (.ref it) 0 >>= _) _ _ s
  refine wpAny_bind (wpAny_field hob hfs (x := .ref t) rfl ?_)
  show wpAny _ _ (if (Value.ref t == Value.none) = true then _ else field (.ref it) 1 >>= _) _ _ s
  rw [if_neg (show ¬ (Value.ref t == Value.none) = true from Bool.false_ne_true)]
  refine wpAny_bind (wpAny_field hob hfs (x := .int i 0) rfl ?_)
  show wpAny _ _ (seqItems? (.ref t) >>= _) _ _ s
  refine wpAny_bind (wpAny_seqItems hot hits ?_)
  simp only [Int.toNat_natCast, hx]
  refine wpAny_bind (wpAny_setField hob hfs (by simp) (wpAny_pure ⟨x, rfl, wpAny_pure (hQ _ ?_ (Heap.SameBut.update ..))⟩))
  refine ⟨_, Heap.get?_update_self _ hob (Obj.isFreed_of_fields (Obj.data_mapFields hfs _)), (Obj.cls_mapFields ..).trans hcl, ?_⟩
  rw [Obj.data_mapFields hfs]
  simp [rawInt]
theorem nextT_end {it t : Addr} {i : Nat} {items : Array Value} {Q : Value → Shared → Prop} (hh : A.handled = none) (hit : s.heap.IsTupleIter it t i) (ht : s.heap.IsTuple t items) (hx : items[i]? = none)
    (hE : ∀ h' e, Heap.ExtBut it s.heap h' → (∃ o, h'.get? e = some o ∧ o.cls = .type "StopIteration") → E (.ref e) { s with heap := h' }) : wpAny (model prog w) A (Builtin.SmallTypes.nextOf (.ref it)) Q E s := by
  obtain ⟨ob, hob, hcl, hfs⟩ := id hit
  obtain ⟨ot, hot, _, m, hits⟩ := ht
  unfold Builtin.SmallTypes.nextOf
  refine wpAny_bind (wpAny_callSpecial?_slot (name := Str.ofString "__next__") hit.typeIs F.slot_tuple_iterator_next (wpAny_call_entry F.slot_tuple_iterator_next hit.typeIs F.entry_tuple_iterator_next ?_ (F.args_tuple_iterator_next_1 _)))
  show wpAny _ _ (field (.ref it) 0 >>= _) _ _ s
  refine wpAny_bind (wpAny_field hob hfs (x := .ref t) rfl ?_)
  show wpAny _ _ (if (Value.ref t == Value.none) = true then _ else field (.ref it) 1 >>= _) _ _ s
  rw [if_neg (show ¬ (Value.ref t == Value.none) = true from Bool.false_ne_true)]
  refine wpAny_bind (wpAny_field hob hfs (x := .int i 0) rfl ?_)
  show wpAny _ _ (seqItems? (.ref t) >>= _) _ _ s
  refine wpAny_bind (wpAny_seqItems hot hits ?_)
  simp only [Int.toNat_natCast, hx]
  refine wpAny_bind (wpAny_rule (wpAny_bind (wpAny_setField hob hfs (by simp) ?_)))
  show wpAny _ _ (newExc (.type "StopIteration") [] >>= _) _ _ _
  refine wpAny_bind ?_
  simp only [newExc, newTuple]
  refine wpAny_bind (wpAny_newObj_type ?_ (by size_fits))
  refine wpAny_bind (m := firstArgMember _ _) (wpAny_of_eq (a := Value.none) (by first | rfl | (simp only [firstArgMember]; rfl)) ?_)
  refine wpAny_newObj_type ?_ (by size_fits)
  simp only [raiseNew]
  refine wpAny_bind (wpAny_handled ?_)
  first | rw [show A.in1.handled = none from hh] | rw [hh]
  exact wpAny_bind (wpAny_pure (wpAny_throw (hE _ _ (((Heap.SameBut.update ..).extBut.push _).push _) ⟨_, Heap.get?_push_size _ rfl, rfl⟩)))
theorem enum_item {e it : Addr} {i : Int} {x old : Value} {N : Heap → Prop} {Q : Option Value → Shared → Prop} (he : IsEnum s.heap e it i old) (hne : e ≠ it)
    (nx : ∀ (A' : Around) (Q' : Value → Shared → Prop) (E' : Value → Shared → Prop), (∀ h1, N h1 → Heap.SameBut it s.heap h1 → Q' x { s with heap := h1 }) → wpAny (model prog w) A' (Builtin.SmallTypes.nextOf (.ref it)) Q' E' s)
    (hN : ∀ h h', N h → (∀ o, h.get? it = some o → h'.get? it = some o) → N h')
    (hQ : ∀ h', IsEnumOut h' e it (i + 1) x s.heap.objs.size → N h' → h'.get? s.heap.objs.size = some { cls := .type "tuple", data := .seq #[.int i s.toks, x] } → h'.objs.size = s.heap.objs.size + 1 →
      (∀ b o, b ≠ e → b ≠ it → s.heap.get? b = some o → h'.get? b = some o) → Q (some (.ref s.heap.objs.size)) { s with heap := h', toks := s.toks + 1 }) : wpAny (model prog w) A (pyNext (.ref e)) Q E s := by
  obtain ⟨hp, g, d, tk, os⟩ := s
  have hT : Shared.TypeIs ⟨hp, g, d, tk, os⟩ (.ref e) "enumerate" := ⟨_, he, rfl⟩
  unfold pyNext
  refine wpAny_bind (wpAny_attempt (wpAny_callSpecial?_slot (name := Str.ofString "__next__") hT F.slot_enumerate_next (wpAny_call_entry F.slot_enumerate_next hT F.entry_enumerate_next ?_ (F.args_enumerate_next_1 _))))
  show wpAny _ _ (field (.ref e) 2 >>= _) _ _ _
  refine wpAny_bind (wpAny_field he rfl (x := .ref it) rfl (wpAny_bind (nx _ _ _ fun h1 n1 sb1 => ?_)))
  replace sb1 : Heap.SameBut it hp h1 := sb1
  have e1 : IsEnum h1 e it i old := (sb1.2 e hne).trans he
  show wpAny _ _ (field (.ref e) 3 >>= _) _ _ ⟨h1, g, d, tk, os⟩
  refine wpAny_bind (wpAny_field e1 rfl (x := rawInt i) rfl ?_)
  show wpAny _ _ (field (.ref e) 4 >>= _) _ _ ⟨h1, g, d, tk, os⟩
  refine wpAny_bind (wpAny_field e1 rfl (x := .none) rfl ?_)
  show wpAny _ _ (mkInt i >>= _) _ _ ⟨h1, g, d, tk, os⟩
  refine wpAny_bind (wpAny_mkInt ?_)
  show wpAny _ _ (setField (.ref e) 3 (rawInt (i + 1)) >>= _) _ _ ⟨h1, g, d, tk + 1, os⟩
  refine wpAny_bind (wpAny_setField_rec e1 (by simp) fun h2 e2 sb2 => ?_)
  replace sb2 : Heap.SameBut e h1 h2 := sb2
  replace e2 : IsEnum h2 e it (i + 1) old := e2
  show wpAny _ _ (setField (.ref e) 4 .none >>= _) _ _ ⟨h2, g, d, tk + 1, os⟩
  refine wpAny_bind (wpAny_setField_rec e2 (by simp) fun h3 e3 sb3 => ?_)
  replace sb3 : Heap.SameBut e h2 h3 := sb3
  replace e3 : IsEnum h3 e it (i + 1) old := e3
  show wpAny _ _ (newTuple [.int i tk, x] >>= _) _ _ ⟨h3, g, d, tk + 1, os⟩
  refine wpAny_bind (wpAny_newTuple ?_)
  have z3 : h3.objs.size = hp.objs.size := by rw [sb3.1, sb2.1, sb1.1]
  have el : e < hp.objs.size := Heap.lt_size he
  have ne4 : hp.objs.size ≠ e := Nat.ne_of_gt el
  obtain ⟨h4, hh4⟩ : ∃ h4, h4 = h3.push { cls := .type "tuple", data := .seq #[.int i tk, x] } := ⟨_, rfl⟩
  have e4 : IsEnum h4 e it (i + 1) old := by rw [hh4]; exact Heap.get?_push_of_some _ e3
  have t4 : h4.get? hp.objs.size = some { cls := .type "tuple", data := .seq #[.int i tk, x] } := by rw [hh4, ← z3]; exact Heap.get?_push_size _ rfl
  have z4 : h4.objs.size = hp.objs.size + 1 := by rw [hh4, Heap.size_push, z3]
  have up : ∀ b o, b ≠ e → h1.get? b = some o → h4.get? b = some o := fun b o hb q => by
    rw [hh4]
    exact Heap.get?_push_of_some _ ((sb3.2 b hb).trans ((sb2.2 b hb).trans q))
  show wpAny _ _ (Builtin.SmallTypes.ownedTupleIsFree (.ref e) >>= _) _ _ ⟨h3.push { cls := .type "tuple", data := .seq #[.int i tk, x] }, g, d, tk + 1, os⟩
  rw [← hh4, z3]
  refine wpAny_bind ?_
  unfold Builtin.SmallTypes.ownedTupleIsFree
  refine wpAny_bind (wpAny_field e4 rfl (x := .none) rfl (wpAny_pure ?_))
  simp only [if_true]
  refine wpAny_bind (wpAny_rule (wpAny_bind (wpAny_field e4 rfl (x := old) rfl (wpAny_bind (wpAny_setField_rec e4 (by simp) fun h5 e5 sb5 => ?_)))))
  replace sb5 : Heap.SameBut e h4 h5 := sb5
  replace e5 : IsEnum h5 e it (i + 1) x := e5
  show wpAny _ _ (Builtin.SmallTypes.ownedTupleHandOut (.ref e) (.ref hp.objs.size) >>= _) _ _ ⟨h5, g, d, tk + 1, os⟩
  refine wpAny_bind ?_
  unfold Builtin.SmallTypes.ownedTupleHandOut
  refine wpAny_bind (wpAny_setField_rec e5 (by simp) fun h6 e6 sb6 => ?_)
  replace sb6 : Heap.SameBut e h5 h6 := sb6
  replace e6 : IsEnumOut h6 e it (i + 1) x hp.objs.size := e6
  refine wpAny_setField_rec e6 (by simp) fun h7 e7 sb7 => ?_
  replace sb7 : Heap.SameBut e h6 h7 := sb7
  replace e7 : IsEnumOut h7 e it (i + 1) x hp.objs.size := e7
  have up7 : ∀ b o, b ≠ e → h4.get? b = some o → h7.get? b = some o := fun b o hb q => (sb7.2 b hb).trans ((sb6.2 b hb).trans ((sb5.2 b hb).trans q))
  refine wpAny_bind (wpAny_letGo (wpAny_pure ⟨_, rfl, wpAny_pure (hQ h7 e7 (hN _ _ n1 fun o q => up7 _ _ (Ne.symm hne) (up _ _ (Ne.symm hne) q)) (up7 _ _ ne4 t4) ?_ fun b o h1 h2 q => up7 _ _ h1 (up _ _ h1 ((sb1.2 b h2).trans q)))⟩))
  show h7.objs.size = hp.objs.size + 1
  rw [sb7.1, sb6.1, sb5.1, z4]
theorem enum_end {e it : Addr} {i : Int} {old : Value} {Q : Option Value → Shared → Prop} (he : IsEnum s.heap e it i old)
    (nx : ∀ (A' : Around) (Q' : Value → Shared → Prop) (E' : Value → Shared → Prop), A'.handled = A.handled → (∀ h' x, Heap.ExtBut it s.heap h' → (∃ o, h'.get? x = some o ∧ o.cls = .type "StopIteration") → E' (.ref x) { s with heap := h' }) → wpAny (model prog w) A' (Builtin.SmallTypes.nextOf (.ref it)) Q' E' s)
    (hQ : ∀ h', Heap.ExtBut it s.heap h' → Q none { s with heap := h' }) : wpAny (model prog w) A (pyNext (.ref e)) Q E s := by
  have hT : s.TypeIs (.ref e) "enumerate" := ⟨_, he, rfl⟩
  unfold pyNext
  refine wpAny_bind (wpAny_attempt (wpAny_callSpecial?_slot (name := Str.ofString "__next__") hT F.slot_enumerate_next (wpAny_call_entry F.slot_enumerate_next hT F.entry_enumerate_next ?_ (F.args_enumerate_next_1 _))))
  show wpAny _ _ (field (.ref e) 2 >>= _) _ _ _
  refine wpAny_bind (wpAny_field he rfl (x := .ref it) rfl (wpAny_bind (nx _ _ _ rfl fun h' x eb ⟨o, ho, hc⟩ => ?_)))
  exact wpAny_bind (wpAny_isInstance (T := "StopIteration") (b := true) ⟨o, ho, hc⟩ isSubtype_stop (wpAny_pure (hQ _ eb)))
end
end M
set_option Elab.async false
set_option linter.all false
set_option maxRecDepth 100000
set_option autoImplicit false
namespace M
open PySem PySem.Spec PyProof.Rows L2
section
variable {X : Cx} {pins : List (Addr × Obj)} {σ : L2.St} {H : Hp} {s : Shared}
theorem fp_free {fp : List Addr} (hf : ∀ b ∈ fp, FpOk X pins H b) {b : Addr} {u : HO} (e : H b = some u) : b ∉ fp := fun z => by rw [(hf b z).1] at e; cases e
theorem fp_ch {fp : List Addr} (hf : ∀ b ∈ fp, FpOk X pins H b) : ∀ b ∈ fp, (b ∈ X.ex ∨ X.s₀.heap.objs.size ≤ b) ∧ b ≠ X.env.locals ∧ (∀ x c, X.env.cells.lookup x = some c → c ≠ b) ∧ ∀ p ∈ X.pn ++ pins, p.1 ≠ b := fun b hb => by
  obtain ⟨_, f1, _, f3, f4, f5⟩ := hf b hb
  exact ⟨f3, f1, f4, f5⟩
theorem inv_turned {fp : List Addr} {h' : Heap} {t' : Nat} (I : Inv X pins σ H s) (hf : ∀ b ∈ fp, FpOk X pins H b) (k : ∀ b o, b ∉ fp → s.heap.get? b = some o → h'.get? b = some o) : Inv X pins σ H { s with heap := h', toks := t' } := by
  refine I.call (g' := s.gens) (t' := t') (d' := s.drawn) (ch := fp) ⟨fun b o e _ _ hx => k b o hx e, fun b o e _ _ hx => ⟨o.slots, k b o hx e⟩, fun _ _ _ n _ => n, fun b o e hx => ⟨o, k b o hx e⟩, fun _ _ e => e, fun _ _ _ e => e, fun _ ps e => ⟨#[], by rw [e]; simp⟩⟩ (fun a o e => ?_) I.bare (fp_ch hf)
  refine (I.hok a o e).stay (fun b u hb q => k b u ?_ q) (fun _ q => q) fun _ _ q => q
  rcases hb with rfl | hb
  · exact fp_free hf e
  · exact fp_free hf hb
theorem inv_turnedLaid {fp : List Addr} {h' : Heap} {t' : Nat} {p : Addr} {o : HO} (I : Inv X pins σ H s) (hf : ∀ b ∈ fp, FpOk X pins H b) (k : ∀ b o, b ∉ fp → s.heap.get? b = some o → h'.get? b = some o) (hp : s.heap.objs.size ≤ p)
    (new : ObjOk X.prog X.w (upd H p o) h' p o) : Inv X pins σ (upd H p o) { s with heap := h', toks := t' } := by
  have hn := I.hok.fresh hp
  have hlt : ∀ b ob, s.heap.get? b = some ob → b ≠ p := fun b ob e => Nat.ne_of_lt (Nat.lt_of_lt_of_le (Heap.lt_size e) hp)
  refine I.call (g' := s.gens) (t' := t') (d' := s.drawn) (ch := fp) ⟨fun b o e _ _ hx => k b o hx e, fun b o e _ _ hx => ⟨o.slots, k b o hx e⟩, fun b ob e n _ => by rw [upd_ne (hlt b ob e)]; exact n, fun b o e hx => ⟨o, k b o hx e⟩,
    fun _ _ e => by rw [upd_ne (ne_of_none e hn)]; exact e, fun _ _ _ e => by rw [upd_ne (ne_of_none e hn)]; exact e, fun _ ps e => ⟨#[], by rw [upd_ne (ne_of_none e hn), e]; simp⟩⟩ (fun a u e => ?_) I.bare (fp_ch hf)
  by_cases ha : a = p
  · subst ha; rw [upd_same] at e; cases e; exact new
  · rw [upd_ne ha] at e
    refine (I.hok a u e).stay (fun b u hb q => k b u ?_ q) (fun b q => by rw [upd_ne (ne_of_none q hn)]; exact q) fun b xs q => by rw [upd_ne (ne_of_none q hn)]; exact q
    rcases hb with rfl | hb
    · exact fp_free hf e
    · exact fp_free hf hb
noncomputable def Ien (J : It) : It := ⟨J.go, fun i H x H' => ∃ p y, x = .ref p ∧ H p = none ∧ H' = upd H p (.tup [.int i, y]) ∧ J.yld i H y H, J.stop⟩
theorem pair_ok {P : Program} {w : World} {H : Hp} {h : Heap} {p : Addr} {x y : V} {u v : Value} (e : h.get? p = some { cls := .type "tuple", data := .seq #[u, v] }) (rx : RelV x u) (ry : RelV y v) : ObjOk P w H h p (.tup [x, y]) :=
  ⟨by rw [sizeLine_eq]; simp, [u, v], .cons rx (.cons ry .nil), ⟨_, e, rfl, _, rfl⟩⟩
theorem turn_enumL {P : Program} {w : World} {K : PySem.W.Frag} {elts : List Expr} {x1} {pos : Pos} (a e it : Addr) (hne : e ≠ it) : Turn P w K (.Tuple elts x1 pos) (Ien (Itl K a)) [e, it] e (fun i h => (∃ old, IsEnum h e it i old) ∧ h.IsListIter it a i) where
  mem := by simp
  obj := fun i h ⟨⟨old, he⟩, st⟩ b hb => by
    have hb : b = e ∨ b = it := by simpa using hb
    rcases hb with rfl | rfl
    · exact ⟨_, he, fun v z => by have z' : Data.fields _ = Data.cell v := z; cases z'⟩
    · obtain ⟨o, q, c, d⟩ := st
      exact ⟨o, q, fun v z => by rw [d] at z; cases z⟩
  keep := fun i h h' ⟨⟨old, he⟩, st⟩ k => ⟨⟨old, k e (by simp) _ he⟩, st.at fun o q => k it (by simp) o q⟩
  item := by
    intro X hP hw hK hc i pins s σ H E I hf ⟨⟨old, he⟩, st⟩ hg
    subst hP hw hK
    obtain ⟨xs, x, hq, hx⟩ := hg
    obtain ⟨its, rv, p, hz⟩ := I.list hq
    obtain ⟨u, hu, ru⟩ := rv.get hx
    refine enum_item (N := fun h => h.IsListIter it a (i + 1)) he hne (fun A' Q' E' hQ => wpAny_nextOf_list_item st p.isList (x := u) (by simpa using hu) fun h' st' sb => hQ h' st' sb) (fun h h' n k => n.at fun o q => k o q) fun h' eo n' t' z' kk => ?_
    refine ⟨_, rfl, wpAny_letOwnedTupleGo_enum eo fun h2 e2 sb2 => ?_⟩
    replace sb2 : Heap.SameBut e h' h2 := sb2
    have hlt : e < s.heap.objs.size := Heap.lt_size he
    have t2 := (sb2.2 s.heap.objs.size (Nat.ne_of_gt hlt)).trans t'
    have hfr := I.hok.fresh (Nat.le_refl s.heap.objs.size)
    have I2 : Inv X pins σ (upd H s.heap.objs.size (.tup [.int i, x])) { s with heap := h2, toks := s.toks + 1 } := by
      refine inv_turnedLaid I hf (fun b o hb q => ?_) (Nat.le_refl _) (pair_ok t2 ⟨_, rfl⟩ ru)
      simp only [List.mem_cons, List.not_mem_nil, or_false, not_or] at hb
      exact (sb2.2 b hb.1).trans (kk b o hb.1 hb.2 q)
    refine ⟨.ref s.heap.objs.size, _, I2, rfl, ⟨_, x, rfl, hfr, rfl, rfl, fun ys hy => by rw [I.list_inj hy hq]; exact hx⟩, ⟨⟨u, by simpa using e2⟩, n'.at fun o q => (sb2.2 it (Ne.symm hne)).trans q⟩, fun b hb => ?_⟩
    · rw [upd_ne]
      · exact (hf b hb).1
      · rintro rfl
        have hb : s.heap.objs.size = e ∨ s.heap.objs.size = it := by simpa using hb
        rcases hb with q | q
        · exact absurd hlt (by rw [q]; exact Nat.lt_irrefl _)
        · obtain ⟨o, qo, _⟩ := st; exact absurd (Heap.lt_size qo) (by rw [q]; exact Nat.lt_irrefl _)
  done := by
    intro X hP hw hK hc i pins s σ H E I hf ⟨⟨old, he⟩, st⟩ hg
    subst hP hw hK
    obtain ⟨xs, hq, hx⟩ := hg
    obtain ⟨its, rv, p, hz⟩ := I.list hq
    have hl := rv.length
    refine enum_end he (fun A' Q' E' hA hE => wpAny_nextOf_list_end (hA.trans (I.ok.hd hc)) st p.isList (by simp; omega) hE) fun h' eb => ⟨rfl, inv_turned (t' := s.toks) I hf fun b o hb q => eb b o (fun z => hb (by simp [z])) q⟩
  self := fun _ _ _ _ _ ⟨⟨old, he⟩, _⟩ h => wpAny_pyIter_enum he h
theorem turn_enumT {P : Program} {w : World} {K : PySem.W.Frag} {elts : List Expr} {x1} {pos : Pos} (a e it : Addr) (hne : e ≠ it) : Turn P w K (.Tuple elts x1 pos) (Ien (Itt K a)) [e, it] e (fun i h => (∃ old, IsEnum h e it i old) ∧ h.IsTupleIter it a i) where
  mem := by simp
  obj := fun i h ⟨⟨old, he⟩, st⟩ b hb => by
    have hb : b = e ∨ b = it := by simpa using hb
    rcases hb with rfl | rfl
    · exact ⟨_, he, fun v z => by have z' : Data.fields _ = Data.cell v := z; cases z'⟩
    · obtain ⟨o, q, c, d⟩ := st
      exact ⟨o, q, fun v z => by rw [d] at z; cases z⟩
  keep := fun i h h' ⟨⟨old, he⟩, st⟩ k => ⟨⟨old, k e (by simp) _ he⟩, st.at fun o q => k it (by simp) o q⟩
  item := by
    intro X hP hw hK hc i pins s σ H E I hf ⟨⟨old, he⟩, st⟩ hg
    subst hP hw hK
    obtain ⟨xs, x, hq, hx⟩ := hg
    obtain ⟨its, rv, p, hz⟩ := I.tuple hq
    obtain ⟨u, hu, ru⟩ := rv.get hx
    refine enum_item (N := fun h => h.IsTupleIter it a (i + 1)) he hne (fun A' Q' E' hQ => nextT st (show s.heap.IsTuple a its.toArray from p) (x := u) (by simpa using hu) fun h' st' sb => hQ h' st' sb) (fun h h' n k => n.at fun o q => k o q) fun h' eo n' t' z' kk => ?_
    refine ⟨_, rfl, wpAny_letOwnedTupleGo_enum eo fun h2 e2 sb2 => ?_⟩
    replace sb2 : Heap.SameBut e h' h2 := sb2
    have hlt : e < s.heap.objs.size := Heap.lt_size he
    have t2 := (sb2.2 s.heap.objs.size (Nat.ne_of_gt hlt)).trans t'
    have hfr := I.hok.fresh (Nat.le_refl s.heap.objs.size)
    have I2 : Inv X pins σ (upd H s.heap.objs.size (.tup [.int i, x])) { s with heap := h2, toks := s.toks + 1 } := by
      refine inv_turnedLaid I hf (fun b o hb q => ?_) (Nat.le_refl _) (pair_ok t2 ⟨_, rfl⟩ ru)
      simp only [List.mem_cons, List.not_mem_nil, or_false, not_or] at hb
      exact (sb2.2 b hb.1).trans (kk b o hb.1 hb.2 q)
    refine ⟨.ref s.heap.objs.size, _, I2, rfl, ⟨_, x, rfl, hfr, rfl, rfl, fun ys hy => by rw [I.tuple_inj hy hq]; exact hx⟩, ⟨⟨u, by simpa using e2⟩, n'.at fun o q => (sb2.2 it (Ne.symm hne)).trans q⟩, fun b hb => ?_⟩
    · rw [upd_ne]
      · exact (hf b hb).1
      · rintro rfl
        have hb : s.heap.objs.size = e ∨ s.heap.objs.size = it := by simpa using hb
        rcases hb with q | q
        · exact absurd hlt (by rw [q]; exact Nat.lt_irrefl _)
        · obtain ⟨o, qo, _⟩ := st; exact absurd (Heap.lt_size qo) (by rw [q]; exact Nat.lt_irrefl _)
  done := by
    intro X hP hw hK hc i pins s σ H E I hf ⟨⟨old, he⟩, st⟩ hg
    subst hP hw hK
    obtain ⟨xs, hq, hx⟩ := hg
    obtain ⟨its, rv, p, hz⟩ := I.tuple hq
    have hl := rv.length
    refine enum_end he (fun A' Q' E' hA hE => nextT_end (hA.trans (I.ok.hd hc)) st (show s.heap.IsTuple a its.toArray from p) (by simp; omega) hE) fun h' eb => ⟨rfl, inv_turned (t' := s.toks) I hf fun b o hb q => eb b o (fun z => hb (by simp [z])) q⟩
  self := fun _ _ _ _ _ ⟨⟨old, he⟩, _⟩ h => wpAny_pyIter_enum he h
theorem enum_newT (l : Addr) (items : Array Value) (n : Nat) (dct : Option Addr) (sl : Array (Option Value)) :
    Meets (Builtin.«enumerate.__new__» ⟨[.type "enumerate", .ref l], []⟩) (fun _ R s => s.heap.get? l = some { cls := .type "tuple", dict := dct, data := .seq items n, slots := sl } ∧
      R (.ok (.ret (.ref (s.heap.push { cls := .type "tuple_iterator", data := .fields #[.ref l, .int 0 0] }).objs.size)))
        { s with heap := (s.heap.push { cls := .type "tuple_iterator", data := .fields #[.ref l, .int 0 0] }).push { cls := .type "enumerate", data := .fields #[.none, .bool false, .ref s.heap.objs.size, rawInt 0, .none, .none] } }) :=
  .of_wp fun prog w A R s h => by
    obtain ⟨hp, g, d, tk, os⟩ := s
    obtain ⟨hl, h⟩ := h
    have hsub := sub_enumerate
    have hL : Heap.IsTuple (Shared.heap ⟨hp, g, d, tk, os⟩) l items := ⟨_, hl, rfl, n, rfl⟩
    wp_walk using AutoSeq1.wpAny_loadPart' hl
    refine wpAny_stack_any fun st => wpAny_pure ?_
    split
    · rename_i c _ _ _ _ _
      cases (c == Value.type "enumerate")
      · wp_walk using AutoSeq1.wpAny_loadPart' hl, wpAny_pyIter_tuple hL
        exact ⟨_, rfl, h⟩
      · wp_walk using AutoSeq1.wpAny_loadPart' hl, wpAny_pyIter_tuple hL
        exact ⟨_, rfl, h⟩
    · wp_walk using AutoSeq1.wpAny_loadPart' hl, wpAny_pyIter_tuple hL
      exact ⟨_, rfl, h⟩
theorem call_enumT {prog : Program} {w : World} {A : Around} {E : Value → Shared → Prop} {l : Addr} {items : Array Value} {Q : Value → Shared → Prop} (hL : s.heap.IsTuple l items)
    (h : ∀ h', IsEnum h' (s.heap.objs.size + 1) s.heap.objs.size 0 .none → h'.IsTupleIter s.heap.objs.size l 0 → h'.objs.size = s.heap.objs.size + 2 →
      (∀ b o, s.heap.get? b = some o → h'.get? b = some o) → Q (.ref (s.heap.objs.size + 1)) { s with heap := h' }) : wpAny (model prog w) A (call (.type "enumerate") [.ref l]) Q E s := by
  obtain ⟨⟨c, dct, dt, sl⟩, hl, hc, n, hd⟩ := hL
  replace hc : c = .type "tuple" := hc
  replace hd : dt = .seq items n := hd
  subst hc hd
  refine callType_new F.called_enumerate (by decide) (F.typeCall_enumerate_1 _) (F.newCall_enumerate_1 _) (fun obj => F.args_object_init_2 obj _) F.entry_enumerate_new (enum_newT l items n dct sl) ⟨hl, ?_⟩
  have hz : (s.heap.push { cls := .type "tuple_iterator", data := .fields #[.ref l, .int 0 0] }).objs.size = s.heap.objs.size + 1 := Heap.size_push ..
  have he : IsEnum ((s.heap.push { cls := .type "tuple_iterator", data := .fields #[.ref l, .int 0 0] }).push { cls := .type "enumerate", data := .fields #[.none, .bool false, .ref s.heap.objs.size, rawInt 0, .none, .none] }) (s.heap.objs.size + 1) s.heap.objs.size 0 .none := by
    have := Heap.get?_push_size (s.heap.push { cls := .type "tuple_iterator", data := .fields #[.ref l, .int 0 0] }) (o := { cls := .type "enumerate", data := .fields #[.none, .bool false, .ref s.heap.objs.size, rawInt 0, .none, .none] }) rfl
    rw [hz] at this; exact this
  show _ ∧ _
  rw [hz]
  exact ⟨⟨_, he, rfl⟩, h _ he ⟨_, Heap.get?_push_of_some _ (Heap.get?_push_size _ rfl), rfl, rfl⟩ (by rw [Heap.size_push, hz]) fun b o x => Heap.get?_push_of_some _ (Heap.get?_push_of_some _ x)⟩
noncomputable def iEnu (K : PySem.W.Frag) (tl : TE) : TI := fun σ H R => tl σ H fun x H1 => ∃ a, x = .ref a ∧ ((∃ xs, SqL K H1 a xs) ∧ R (Ien (Itl K a)) H1 ∨ (∃ xs, SqT K H1 a xs) ∧ R (Ien (Itt K a)) H1)
theorem pi_enum {l : Expr} {tl : TE} {elts : List Expr} {x1} {tp p pos : Pos} (hg : Gl X "enumerate") (hm : X.mg "enumerate" = none) (hv : bootBuiltins "enumerate" = some (.type "enumerate")) (hl : PE X l tl) (hs : starEach [l] X.env = [(false, eval l X.env)] := by rfl) :
    PI X (.Tuple elts x1 tp) (.Call (.Name "enumerate" p) [l] [] pos) (iEnu X.K tl) := by
  intro pins s σ H R I h
  refine Call_ (ld_blt I hg hm hv (PyProof.Rows.callWith_type1 (thn (pa_cons hl pa_nil hs pos pins s σ H (fun vs H1 => match vs with
    | [x] => ∃ a, x = .ref a ∧ ((∃ xs, SqL X.K H1 a xs) ∧ R (Ien (Itl X.K a)) H1 ∨ (∃ xs, SqT X.K H1 a xs) ∧ R (Ien (Itt X.K a)) H1)
    | _ => False) I h) fun us s1 ⟨vs, H1, I1, r1, q1⟩ => ?_) hs rfl))
  dsimp only at q1
  split at q1
  case h_2 => exact q1.elim
  obtain ⟨a, e, q⟩ := q1
  subst e
  cases r1 with
  | cons r rr =>
    cases rr
    cases r
    have fin : ∀ h' : Heap, (∀ b o, s1.heap.get? b = some o → h'.get? b = some o) → ∀ b ∈ [s1.heap.objs.size + 1, s1.heap.objs.size], FpOk X pins H1 b := fun h' kp b hb => by
      have hb : b = s1.heap.objs.size + 1 ∨ b = s1.heap.objs.size := by simpa using hb
      rcases hb with rfl | rfl
      · exact I1.fpOk (Nat.le_succ _) (I1.hok.fresh (Nat.le_succ _))
      · exact I1.fpOk (Nat.le_refl _) (I1.hok.fresh (Nat.le_refl _))
    have hne : s1.heap.objs.size + 1 ≠ s1.heap.objs.size := Nat.succ_ne_self _
    rcases q with ⟨⟨xs, hq⟩, q⟩ | ⟨⟨xs, hq⟩, q⟩
    · obtain ⟨its, rv, pl, hz⟩ := I1.list hq
      refine call_enumerate_list pl.isList fun h' e1 i1 z1 kp => ?_
      refine wpAny_pyIter_enum (s := { s1 with heap := h' }) e1 ?_
      exact ⟨_, [s1.heap.objs.size + 1, s1.heap.objs.size], _, _, H1, rfl, I1.kept (t' := s1.toks) kp, turn_enumL a _ _ hne, ⟨⟨_, e1⟩, i1⟩, fin h' kp, q⟩
    · obtain ⟨its, rv, pl, hz⟩ := I1.tuple hq
      refine call_enumT (show s1.heap.IsTuple a its.toArray from pl) fun h' e1 i1 z1 kp => ?_
      refine wpAny_pyIter_enum (s := { s1 with heap := h' }) e1 ?_
      exact ⟨_, [s1.heap.objs.size + 1, s1.heap.objs.size], _, _, H1, rfl, I1.kept (t' := s1.toks) kp, turn_enumT a _ _ hne, ⟨⟨_, e1⟩, i1⟩, fin h' kp, q⟩
noncomputable def enumD (ds : List D) : List D := ds.zipIdx.map fun p => .tup [.int (p.2 : Nat), p.1]
theorem enumD_len (ds : List D) : (enumD ds).length = ds.length := by simp [enumD]
theorem enumD_at {ds : List D} {i : Nat} {d : D} (h : (enumD ds)[i]? = some d) : ∃ y, ds[i]? = some y ∧ d = .tup [.int i, y] := by
  unfold enumD at h
  rw [List.getElem?_map, List.getElem?_zipIdx] at h
  cases e : ds[i]? with
  | none => rw [e] at h; cases h
  | some y =>
    rw [e] at h
    refine ⟨y, rfl, ?_⟩
    have := Option.some.inj h
    rw [← this]
    simp
@[simp] noncomputable def iEnum (φ : FE) : FI := fun δ μ => (φ δ μ).bind fun p => match p.1 with
  | .tup ds => some (enumD ds, yes, p.2)
  | .fz ds => some (enumD ds, yes, p.2)
  | .loc n => match p.2[n]? with
    | some (.lst ds) => some (enumD ds, stays n ds, p.2)
    | _ => none
  | _ => none
theorem enum_is {K : PySem.W.Frag} {J : It} {ρ : List Addr} {H : Hp} {ds : List D} {ok : Mem → Bool} (h : ItIs K J ρ H ds ok) : ItIs K (Ien J) ρ H (enumD ds) ok := by
  refine ⟨fun ρ' H' μ' i x R o hi => h.go ρ' H' μ' i x R o (by rw [enumD_len] at hi; exact hi), fun ρ' H' μ' i x H'' d x' R o e ⟨p, y, e1, hp, e2, yl⟩ => ?_, fun ρ' H' μ' x R o => by rw [enumD_len]; exact h.stop ρ' H' μ' x R o⟩
  obtain ⟨z, ez, rfl⟩ := enumD_at e
  obtain ⟨_, _, rz⟩ := h.yld ρ' H' μ' i y H' z x' R o ez yl
  subst e1 e2
  exact ⟨Ext.new hp, R.newTup hp, .tup upd_same (.cons .int (.cons (rz.ext (Ext.new hp)) .nil))⟩
theorem mi_enum {a : Expr} {φ : FE} {elts : List Expr} {x1} {tp p pos : Pos} (hm : X.mg "enumerate" = none) (hv : bootBuiltins "enumerate" = some (.type "enumerate")) (h : ME X a φ) (hg : Gl X "enumerate" := by rfl) (hs : starEach [a] X.env = [(false, eval a X.env)] := by rfl) :
    MI X (.Tuple elts x1 tp) (.Call (.Name "enumerate" p) [a] [] pos) (iEnum φ) :=
  mi_of (pi_enum hg hm hv h hs) fun ρ δ μ σ H ds ok μ' R A e k => by
    obtain ⟨⟨x, μ1⟩, e1, e⟩ := bind_inv e
    refine ⟨ρ, δ, μ, x, μ1, A, e1, fun ρ1 H1 v1 x1 R1 r1 => ?_⟩
    dsimp only at e
    split at e
    · cases e
      obtain ⟨a, vs, rfl, e2, q2⟩ := r1.tup_inv
      exact ⟨a, rfl, .inr ⟨⟨vs, SqT.of e2⟩, k ρ1 H1 _ x1 R1 (enum_is (itt_is e2 q2))⟩⟩
    · cases e
      obtain ⟨a, vs, rfl, e2, q2⟩ := r1.fz_inv
      exact ⟨a, rfl, .inl ⟨⟨vs, e2.sq⟩, k ρ1 H1 _ x1 R1 (enum_is (itl_is fun ρ' H' μ' x _ _ => ⟨vs, (x.fz e2).sq, q2.ext x⟩))⟩⟩
    · split at e
      · rename_i hm
        cases e
        obtain ⟨a, rfl, e2⟩ := r1.loc_inv
        obtain ⟨vs, e3, q3⟩ := R1.at_ _ _ _ e2 hm
        refine ⟨a, rfl, .inl ⟨⟨vs, SqL.of e3⟩, k ρ1 H1 _ x1 R1 (enum_is (itl_is fun ρ' H' μ'' x R' o => ?_))⟩⟩
        obtain ⟨vs', e4, q4⟩ := R'.at_ _ _ _ (x.get e2) (stays_iff.mp o)
        exact ⟨vs', SqL.of e4, q4⟩
      · cases e
    · cases e
end
end M
set_option Elab.async false
set_option linter.all false
set_option maxRecDepth 100000
set_option autoImplicit false
namespace M
open PySem PySem.Spec PyProof.Rows L2
section
variable {X : Cx} {a b c e : Expr} {es : List Expr} {φ ψ χ : FE} {pos : Pos}
@[simp] noncomputable def fMeth0 (g : GM) (φ : FE) : FE := fun δ μ => (φ δ μ).bind fun p => match p.1 with
  | .loc n => match p.2[n]? with
    | some (.lst _) => g (.loc n) [] p.2
    | _ => none
  | _ => none
theorem me_meth0 {o : Expr} {name : Str} {id : String} {g : GM} {apos : Pos} (slot : Slot "list" name id) (hty : typeOf (.builtin id) = pure (.type "method_descriptor")) (hm : MtG X id g) (ho : ME X o φ)
    (hbase : attributeBase o name X.env (eval o X.env) = eval o X.env := by rfl) (hline : (apos.endLine == pos.line) = true := by rfl) : ME X (.Call (.Attribute o name apos) [] [] pos) (fMeth0 g φ) :=
  me_of (pe_bm0 PySem.F.plainAttrs_list slot hty hm ho hbase hline) fun ρ δ μ σ H d μ' Q A e k => by
    obtain ⟨⟨x, μ1⟩, e1, e⟩ := bind_inv e
    refine ⟨ρ, δ, μ, x, μ1, A, e1, fun ρ1 H1 v x1 R1 r1 => ?_⟩
    dsimp only at e
    split at e
    · split at e
      · rename_i hm'
        obtain ⟨a, rfl, ea⟩ := r1.loc_inv
        obtain ⟨vs, e3, q3⟩ := R1.at_ _ _ _ ea hm'
        exact ⟨.inl ⟨rfl, vs, SqL.of e3⟩, ρ1, _, [], μ1, d, μ', r1, .nil, R1, e, fun ρ3 H3 v3 x3 R3 r3 => k ρ3 H3 v3 (x1.trans x3) R3 r3⟩
      · cases e
    · cases e
@[simp] noncomputable def gClear : GM := fun x ds μ => match x, ds with
  | .loc n, [] => match μ[n]? with
    | some (.lst _) => some (.non, μ.set n (.lst []))
    | _ => none
  | _, _ => none
theorem mtG_clear : MtG X "list.clear" gClear := by
  refine MtG.of fun pins s σ H x xs v us Q I rx rs ρ dx ds μ d μ' r1 r2 R e k => ?_
  unfold gClear at e
  split at e
  · split at e
    · rename_i hm
      cases e
      obtain ⟨a, rfl, ea⟩ := r1.loc_inv
      obtain ⟨vs, e3, q3⟩ := R.at_ _ _ _ ea hm
      have hmu : Mut (H a) := by rw [e3]; trivial
      exact mt_clear pins s σ H _ _ v us Q I rx rs ⟨a, vs, rfl, r2.nil_inv, e3, k ρ _ _ (Ext.wr hmu) (R.wr hmu ea ⟨_, upd_same, .nil⟩) .non⟩
    · cases e
  · cases e
theorem me_clear {o : Expr} {apos : Pos} (ho : ME X o φ) (hbase : attributeBase o "clear" X.env (eval o X.env) = eval o X.env := by rfl) (hline : (apos.endLine == pos.line) = true := by rfl) : ME X (.Call (.Attribute o "clear" apos) [] [] pos) (fMeth0 gClear φ) :=
  me_meth0 PySem.F.slot_list_clear PySem.F.type_list_clear mtG_clear ho hbase hline
@[simp] noncomputable def gCount : GM := fun x ds μ => match x, ds with
  | .loc n, [d] => match μ[n]? with
    | some (.lst xs) => bif flatD d && xs.all flatD then some (.int (xs.countP fun y => eqF y d : Nat), μ) else none
    | _ => none
  | _, _ => none
theorem count_eqU {x : V} : ∀ {xs : List V} {us : List Value}, Vals xs us → xs.all flatV = true → us.countP (eqU x) = xs.countP fun y => eqV y x
  | _, _, .nil, _ => rfl
  | y :: xs, u :: us, .cons r t, f => by
    rw [List.all_cons, Bool.and_eq_true] at f
    rw [List.countP_cons, List.countP_cons, eqU_of r f.1, count_eqU t f.2]
theorem count_rep {K : PySem.W.Frag} {ρ : List Addr} {H : Hp} {x : D} {v : V} (rx : RepV K ρ H x v) (fx : flatD x = true) : ∀ {ds : List D} {vs : List V}, RepVs K ρ H ds vs → ds.all flatD = true → (vs.countP fun y => eqV y v) = ds.countP fun d => eqF d x
  | [], _, r, _ => by rw [r.nil_inv]; rfl
  | d :: ds, _, r, f => by
    obtain ⟨w, ws, rfl, r1, r2⟩ := r.cons_inv
    rw [List.all_cons, Bool.and_eq_true] at f
    rw [List.countP_cons, List.countP_cons, count_rep rx fx r2 f.2, eqF_rep r1 rx f.1 fx]
theorem mtG_count : MtG X "list.count" gCount := by
  refine MtG.of fun pins s σ H x xs v us Q I rx rs ρ dx ds μ d μ' r1 r2 R e k => ?_
  unfold gCount at e
  split at e
  · split at e
    · rename_i hm
      obtain ⟨h1, e⟩ := bif_inv e
      rw [Bool.and_eq_true] at h1
      cases e
      obtain ⟨a, rfl, ea⟩ := r1.loc_inv
      obtain ⟨vs, e3, q3⟩ := R.at_ _ _ _ ea hm
      obtain ⟨w, r, rfl, q1, q2⟩ := r2.cons_inv
      rw [q2.nil_inv] at rs
      obtain ⟨u, rfl, ru⟩ := vals1 rs
      cases rx
      obtain ⟨z, its, n, rv, hl, el⟩ := I.lstM e3
      obtain ⟨fv, _⟩ := in_rep q1 h1.1 q3 h1.2
      refine call_meets PySem.F.slot_list_count ⟨_, el, rfl⟩ PySem.F.entry_list_count (PySem.F.args_list_count_2 _ _) (SeqAt.list_countAt a its.toArray n _ _ u (eqU w)) ⟨el, fun y hy => mem_eqAt ru (flat_rep q1 h1.1) rv fv y (by simpa using hy), ?_⟩
      refine ⟨.int _, H, I.tok _, ⟨_, rfl⟩, ?_⟩
      rw [show its.toArray.toList = its by simp, count_eqU rv fv, count_rep q1 h1.1 q3 h1.2]
      exact k ρ H _ Ext.refl R .int
    · cases e
  · cases e
theorem me_count {o : Expr} {ψ : FA} {apos : Pos} (ho : ME X o φ) (ha : MAn X (e :: es) ψ)
    (hbase : attributeBase o "count" X.env (eval o X.env) = eval o X.env := by rfl)
    (hfew : ((backTo pos (starEach (e :: es) X.env)).all (fun x => !x.1) && (backToKw pos (keywordEach [] X.env)).all (fun x => x.1.isSome)
      && decide ((e :: es).length + ([] : List Keyword).length + (if ([] : List Keyword).isEmpty then 0 else 1) < 30)) = true := by rfl)
    (hline : (apos.endLine == pos.line) = true := by rfl) (hs : starEach (e :: es) X.env = (false, eval e X.env) :: starEach es X.env := by rfl) (hplain : (backTo pos (starEach es X.env)).any (·.1) = false := by rfl) :
    ME X (.Call (.Attribute o "count" apos) (e :: es) [] pos) (fMeth gCount φ ψ) := me_meth PySem.F.slot_list_count PySem.F.type_list_count mtG_count ho ha hbase hfew hline hs hplain
end
end M
set_option Elab.async false
set_option linter.all false
set_option maxRecDepth 100000
set_option autoImplicit false
namespace M
open PySem PySem.Spec PyProof.Rows L2
section
variable {X : Cx} {a b c e : Expr} {es : List Expr} {φ ψ χ : FE} {pos : Pos}
end
end M
set_option Elab.async false
set_option linter.all false
set_option maxRecDepth 100000
namespace L2
open PySem PySem.Spec PyProof.Rows
section
variable {κ : Type} [DecidableEq κ]
end
end L2
set_option Elab.async false
set_option linter.all false
set_option maxRecDepth 100000
set_option autoImplicit false
namespace M
open PySem PySem.Spec PyProof.Rows L2
section
variable {K : PySem.W.Frag} {ρ : List Addr} {H : Hp} {μ : Mem}
end
section
variable {X : Cx} {a b c e : Expr} {es : List Expr} {φ ψ χ : FE} {pos : Pos}
end
end M
set_option Elab.async false
set_option linter.all false
set_option maxRecDepth 100000
set_option autoImplicit false
namespace M
open PySem PySem.Spec PyProof.Rows L2
section
variable {X : Cx} {a b c e : Expr} {es : List Expr} {φ ψ χ : FE} {pos : Pos}
end
end M
set_option Elab.async false
set_option linter.all false
set_option maxRecDepth 100000
set_option autoImplicit false
namespace M
open PySem PySem.Spec PyProof.Rows L2
section
variable {X : Cx} {a b c e : Expr} {es : List Expr} {φ ψ χ : FE} {pos : Pos} {tg : Expr}
end
end M
set_option Elab.async false
set_option linter.all false
set_option maxRecDepth 100000
set_option autoImplicit false
namespace M
open PySem PySem.Spec PyProof.Rows L2
section
variable {prog : Program} {w : World} {A : Around} {E : Value → Shared → Prop} {s : Shared}
end
section
variable {X : Cx} {a b c e : Expr} {es : List Expr} {φ ψ χ : FE} {pos pos2 p1 p2 : Pos}
end
end M
set_option Elab.async false
set_option linter.all false
set_option maxRecDepth 100000
set_option autoImplicit false
namespace M
open PySem PySem.Spec PyProof.Rows L2
section
variable {X : Cx}
end
end M
set_option Elab.async false
set_option linter.all false
set_option maxRecDepth 100000
set_option autoImplicit false
namespace M
open PySem PySem.Spec PyProof.Rows L2
section
variable {prog : Program} {w : World} {A : Around} {E : Value → Shared → Prop} {s : Shared}
end
section
variable {X : Cx} {e : Expr} {te : TE} {φ : FE} {stp : Expr} {ts : TO} {pos p2 : Pos}
end
end M
set_option Elab.async false
set_option linter.all false
set_option maxRecDepth 100000
set_option autoImplicit false
namespace M
open PySem PySem.Spec PyProof.Rows L2
noncomputable def lowI : List Int → Int
  | [] => 0
  | [n] => n
  | n :: m :: r => if n ≤ lowI (m :: r) then n else lowI (m :: r)
theorem lowI_is : ∀ {ns : List Int}, 0 < ns.length → lowI ns ∈ ns ∧ ∀ a ∈ ns, lowI ns ≤ a
  | [], h => absurd h (Nat.lt_irrefl _)
  | [n], _ => ⟨by simp [lowI], by simp [lowI]⟩
  | n :: m :: r, _ => by
    obtain ⟨h1, h2⟩ := lowI_is (ns := m :: r) (by simp)
    unfold lowI
    split
    · rename_i h
      refine ⟨List.mem_cons_self, fun a ha => ?_⟩
      rcases List.mem_cons.mp ha with rfl | ha
      · exact Int.le_refl _
      · exact Int.le_trans h (h2 a ha)
    · rename_i h
      refine ⟨List.mem_cons_of_mem _ h1, fun a ha => ?_⟩
      rcases List.mem_cons.mp ha with rfl | ha
      · omega
      · exact h2 a ha
section
variable {prog : Program} {w : World} {A : Around} {E : Value → Shared → Prop} {s : Shared}
theorem min_listK {l : Addr} {vs : List Value} {ns : List Int} {Q : Value → Shared → Prop} (hh : A.handled = none) (hl : s.heap.IsList l vs.toArray) (hi : IntsAre vs ns) (hne : 0 < ns.length)
    (h : ∀ h' M (t : Tok) tk, (∀ b o, s.heap.get? b = some o → h'.get? b = some o) → M ∈ ns → (∀ a, a ∈ ns → M ≤ a) → Q (.int M t) { s with heap := h', toks := tk }) : wpAny (model prog w) A (call (.builtin "min") [.ref l]) Q E s := by
  obtain ⟨xs, e⟩ := hi.allInts.items
  have hns : ns = xs.toList.map (·.1) := by
    rw [← hi.numsOf, ← nums_intItems, ← e]
  have hsz : 0 < xs.size := by
    have h3 := hne; rw [hns, List.length_map, Array.length_toList] at h3; exact h3
  rw [e] at hl
  refine min_intList hh hl hsz fun v h' tk hv hk => ?_
  obtain ⟨t, rfl⟩ := intItems_at hv
  obtain ⟨h1, h2⟩ := argBest_lt (numAt xs) (xs.size - 1)
  refine h _ _ t tk hk ?_ fun a ha => ?_
  · rw [hns, numAt_eq]; exact getD_mem (by rw [List.length_map, Array.length_toList]; omega)
  · rw [hns] at ha
    obtain ⟨j, hj, rfl⟩ := mem_getD ha
    rw [List.length_map, Array.length_toList] at hj
    rw [← numAt_eq]; exact h2 j (by omega)
end
section
variable {X : Cx}
noncomputable def gMin1 : GL := fun ds μ => match ds with
  | [.loc n] => match μ[n]? with
    | some (.lst xs) => (intsD xs).bind fun ns => bif decide (0 < ns.length) then some (.int (lowI ns), μ) else none
    | _ => none
  | _ => none
theorem callM_min1 (hc : X.calm = true) : CallM X (.builtin "min") gMin1 := by
  refine CallM.of fun pins s σ H xs us Q I r ρ ds μ d μ' r1 R e k => ?_
  unfold gMin1 at e
  split at e
  · split at e
    · rename_i hm
      obtain ⟨ns, e2, e⟩ := bind_inv e
      obtain ⟨hp, e⟩ := bif_inv e
      have hp := of_decide_eq_true hp
      cases e
      rw [intsD_inv e2] at hm
      obtain ⟨v, rr, rfl, q1, q2⟩ := r1.cons_inv
      obtain ⟨a, rfl, ea⟩ := q1.loc_inv
      obtain ⟨vs, e3, q3⟩ := R.at_ _ _ _ ea hm
      rw [rep_ints q3] at e3
      rw [q2.nil_inv] at r
      obtain ⟨u, rfl, ru⟩ := vals1 r
      cases ru
      obtain ⟨its, rv, pl, hz⟩ := I.list (SqL.of (K := X.K) e3)
      refine min_listK (I.ok.hd hc) pl.isList (intsAre_of rv) hp fun h' M t tk hk hM hle => ?_
      obtain ⟨h1, h2⟩ := lowI_is hp
      have eM : M = lowI ns := Int.le_antisymm (hle _ h1) (h2 _ hM)
      subst eM
      exact ⟨.int _, H, I.kept (t' := tk) hk, ⟨t, rfl⟩, k ρ H _ Ext.refl R .int⟩
    · cases e
  · cases e
end
end M
set_option Elab.async false
set_option linter.all false
set_option maxRecDepth 100000
set_option autoImplicit false
namespace M
open PySem PySem.Spec PyProof.Rows L2
section
variable {X : Cx}
end
end M
set_option Elab.async false
set_option linter.all false
set_option maxRecDepth 100000
set_option autoImplicit false
namespace M
open PySem PySem.Spec PyProof.Rows L2
section
variable {X : Cx} {a b c e : Expr} {es : List Expr} {φ ψ χ : FE} {pos p2 : Pos}
end
end M
set_option Elab.async false
set_option linter.all false
set_option maxRecDepth 100000
set_option autoImplicit false
namespace M
open PySem PySem.Spec PyProof.Rows L2
section
variable {prog : Program} {w : World} {A : Around} {E : Value → Shared → Prop} {s : Shared}
end
section
variable {X : Cx} {pos : Pos}
end
end M
set_option Elab.async false
set_option linter.all false
set_option maxRecDepth 100000
set_option autoImplicit false
namespace M
open PySem PySem.Spec PyProof.Rows L2
theorem get_old {μ g : Mem} {n : Nat} (h : n < μ.length) : (μ ++ g)[n]? = μ[n]? := List.getElem?_append_left h
theorem get_old' {μ g : Mem} {n : Nat} {o : LObj} (h : μ[n]? = some o) : (μ ++ g)[n]? = some o := by
  rw [get_old (List.getElem?_eq_some_iff.mp h).1]; exact h
mutual
theorem eqv_refl : ∀ p : PyData, p.canLay0 = true → PyData.eqv p p = true
  | .none, _ => rfl
  | .bool b, _ => by simp [PyData.eqv]
  | .int b, _ => by simp [PyData.eqv]
  | .str b, _ => by simp [PyData.eqv]
  | .list xs, h => by
    unfold PyData.eqv
    exact eqvAll_refl xs (by simpa [PyData.canLay0] using h)
  | .tuple xs, h => by
    unfold PyData.eqv
    exact eqvAll_refl xs (by simpa [PyData.canLay0] using h)
  | .dict _, h => by simp [PyData.canLay0] at h
theorem eqvAll_refl : ∀ ps : List PyData, PyData.canLayAll0 ps = true → PyData.eqvAll ps ps = true
  | [], _ => rfl
  | p :: ps, h => by
    simp only [PyData.canLayAll0, Bool.and_eq_true] at h
    unfold PyData.eqvAll
    rw [eqv_refl p h.1, eqvAll_refl ps h.2]
    rfl
end
theorem gNe_same {x y : D} {μ : Mem} {p : PyData} (h1 : toP μ 8 x = some p) (h2 : toP μ 8 y = some p) : gNe x y μ = some (.bl false, μ) := by
  unfold gNe
  rw [h1, h2]
  simp [eqv_refl p (toP_shape 8 x p h1).1]
theorem law_sp {K : PySem.W.Frag} {F : FF} {H : Hp} {a : Addr} {ns : List Int} (hF : ∃ μ', F [.fz (ns.map D.int)] [] = some (.bl true, μ')) (hO : Only H) (hS : SqL K H a (ns.map V.int)) : spM K 1 F [.ref a] H (fun v _ => v = .bl true) fun _ _ _ => False := by
  obtain ⟨μ', e⟩ := hF
  have fz : FzL K H a (ns.map V.int) := by
    rcases hS with (h | ⟨o, h⟩) | h
    · rcases hO a with z | ⟨o, xs, z⟩
      · rw [h] at z; cases z
      · rw [h] at z; cases z
    · exact .inl ⟨o, h⟩
    · exact .inr h
  have hints : ∀ ns : List Int, RepVs K [] H (ns.map D.int) (ns.map V.int) := fun ns => by
    induction ns with
    | nil => exact .nil
    | cons i r ih => exact .cons .int ih
  exact ⟨rfl, [], [.fz (ns.map D.int)], [], .bl true, μ', .cons (.fz fz (hints ns)) .nil, ⟨List.nodup_nil, rfl, fun n a o h1 _ => by simp at h1⟩, e, fun ρ' H' v _ _ r => r.bl_inv⟩
end M
namespace M
open PySem PySem.Spec PyProof.Rows L2
end M
set_option Elab.async false
set_option linter.all false
set_option maxRecDepth 100000
set_option autoImplicit false
namespace M
open PySem PySem.Spec PyProof.Rows L2
structure WE (φ : FE) (δ : Loc) (μ : Mem) (Q : D → Mem → Prop) : Prop where
  ex : ∃ d μ', φ δ μ = some (d, μ') ∧ Q d μ'
structure WT (φ : FT) (δ : Loc) (μ : Mem) (Q : Bool → Mem → Prop) : Prop where
  ex : ∃ d μ', φ δ μ = some (d, μ') ∧ Q d μ'
structure WA (φ : FA) (δ : Loc) (μ : Mem) (Q : List D → Mem → Prop) : Prop where
  ex : ∃ d μ', φ δ μ = some (d, μ') ∧ Q d μ'
structure WO (φ : FO) (δ : Loc) (μ : Mem) (Q : Option Int → Mem → Prop) : Prop where
  ex : ∃ d μ', φ δ μ = some (d, μ') ∧ Q d μ'
structure W2 (g : G2) (x y : D) (μ : Mem) (Q : D → Mem → Prop) : Prop where
  ex : ∃ d μ', g x y μ = some (d, μ') ∧ Q d μ'
structure WF (F : FF) (ds : List D) (μ : Mem) (Q : D → Mem → Prop) : Prop where
  ex : ∃ d μ', F ds μ = some (d, μ') ∧ Q d μ'
structure WM (g : GM) (x : D) (ds : List D) (μ : Mem) (Q : D → Mem → Prop) : Prop where
  ex : ∃ d μ', g x ds μ = some (d, μ') ∧ Q d μ'
structure WI (i : FI) (δ : Loc) (μ : Mem) (Q : List D → (Mem → Bool) → Mem → Prop) : Prop where
  ex : ∃ ds ok μ', i δ μ = some (ds, ok, μ') ∧ Q ds ok μ'
structure WG (g : FG) (d : D) (δ : Loc) (μ : Mem) (Q : Loc → Mem → Prop) : Prop where
  ex : ∃ δ' μ', g d δ μ = some (δ', μ') ∧ Q δ' μ'
structure WGs (g : FGs) (ds : List D) (δ : Loc) (μ : Mem) (Q : Loc → Mem → Prop) : Prop where
  ex : ∃ δ' μ', g ds δ μ = some (δ', μ') ∧ Q δ' μ'
structure WL (g : FG) (c : FT) (φ : FE) (ok : Mem → Bool) (δ : Loc) (xs ys : List D) (μ : Mem) (Q : D → Mem → Prop) : Prop where
  ex : ∃ d μ', lcIt g c φ ok δ xs ys μ = some (d, μ') ∧ Q d μ'
noncomputable def Ek (nx : Loc → Mem → Prop) (rt : D → Mem → Prop) (bk ct : Loc → Mem → Prop) : Out → Prop
  | .next δ μ => nx δ μ
  | .ret d μ => rt d μ
  | .brk δ μ => bk δ μ
  | .cont δ μ => ct δ μ
  | .exc _ _ _ => False
structure WS (ψ : FS) (δ : Loc) (μ : Mem) (nx : Loc → Mem → Prop) (rt : D → Mem → Prop) (bk ct : Loc → Mem → Prop) : Prop where
  ex : ∃ o, ψ δ μ = some o ∧ Ek nx rt bk ct o
structure WFor (g : FG) (body : FS) (ok : Mem → Bool) (xs : List D) (δ : Loc) (μ : Mem) (nx : Loc → Mem → Prop) (rt : D → Mem → Prop) : Prop where
  ex : ∃ o, forIt g body ok xs δ μ = some o ∧ Ek nx rt (fun _ _ => False) (fun _ _ => False) o
noncomputable def Keep (μ μ' : Mem) : Prop := ∀ (n : Nat) (o : LObj), μ[n]? = some o → μ'[n]? = some o
theorem Keep.refl {μ : Mem} : Keep μ μ := fun _ _ h => h
theorem Keep.trans {μ μ1 μ2 : Mem} (a : Keep μ μ1) (b : Keep μ1 μ2) : Keep μ μ2 := fun n o h => b n o (a n o h)
theorem Keep.app {μ g : Mem} : Keep μ (μ ++ g) := fun _ _ h => get_old' h
theorem Keep.to {μ μ1 g : Mem} (a : Keep μ μ1) : Keep μ (μ1 ++ g) := a.trans .app
theorem Keep.len {μ μ' : Mem} (a : Keep μ μ') : μ.length ≤ μ'.length := by
  rcases Nat.lt_or_ge μ'.length μ.length with h | h
  · have := a μ'.length μ[μ'.length] (by simp [h])
    simp at this
  · exact h
theorem get_new {μ : Mem} {o : LObj} : (μ ++ [o])[μ.length]? = some o := by simp
theorem lt_of_get {μ : Mem} {n : Nat} {o : LObj} (h : μ[n]? = some o) : n < μ.length := (List.getElem?_eq_some_iff.mp h).1
theorem get_set_ne {μ : Mem} {n m : Nat} {o o' : LObj} (h : μ[n]? = some o) (hne : m ≠ n) : (μ.set m o')[n]? = some o := by
  rw [List.getElem?_set_ne hne]; exact h
theorem get_set_eq {μ : Mem} {n : Nat} {o o' : LObj} (h : μ[n]? = some o) : (μ.set n o')[n]? = some o' := by
  rw [List.getElem?_set_self (lt_of_get h)]
theorem items_loc {μ : Mem} {n : Nat} {ds : List D} (h : μ[n]? = some (.lst ds)) : items μ (.loc n) = some ds := by simp [h]
section
variable {φ ψ χ : FE} {g g2 : G2} {δ : Loc} {μ : Mem} {Q : D → Mem → Prop} {i j : Int} {d x y : D} {ds xs : List D}
theorem w_var {n : Nat} (h : δ[n]? = some (some d)) (q : Q d μ) : WE (fVar n) δ μ Q := ⟨d, μ, by simp [h], q⟩
theorem w_c (q : Q d μ) : WE (fC d) δ μ Q := ⟨d, μ, rfl, q⟩
theorem w_bin (h : WE φ δ μ fun x μ1 => WE ψ δ μ1 fun y μ2 => W2 g x y μ2 Q) : WE (fBin g φ ψ) δ μ Q := by
  obtain ⟨x, μ1, e1, y, μ2, e2, d, μ3, e3, q⟩ := h
  exact ⟨d, μ3, by simp [e1, e2, e3], q⟩
theorem w_and (h : WE φ δ μ fun x μ1 => ∃ b, x = .bl b ∧ (b = true → WE ψ δ μ1 Q) ∧ (b = false → Q (.bl false) μ1)) : WE (fAnd φ ψ) δ μ Q := by
  obtain ⟨x, μ1, e1, b, rfl, h1, h2⟩ := h
  cases b with
  | true => obtain ⟨d, μ2, e2, q⟩ := h1 rfl; exact ⟨d, μ2, by simp [e1, e2], q⟩
  | false => exact ⟨_, μ1, by simp [e1], h2 rfl⟩
theorem w_or (h : WE φ δ μ fun x μ1 => ∃ b, x = .bl b ∧ (b = false → WE ψ δ μ1 Q) ∧ (b = true → Q (.bl true) μ1)) : WE (fOr φ ψ) δ μ Q := by
  obtain ⟨x, μ1, e1, b, rfl, h1, h2⟩ := h
  cases b with
  | false => obtain ⟨d, μ2, e2, q⟩ := h1 rfl; exact ⟨d, μ2, by simp [e1, e2], q⟩
  | true => exact ⟨_, μ1, by simp [e1], h2 rfl⟩
theorem w_not (h : WE φ δ μ fun x μ1 => ∃ b, x = .bl b ∧ Q (.bl (!b)) μ1) : WE (fNot φ) δ μ Q := by
  obtain ⟨x, μ1, e1, b, rfl, q⟩ := h
  exact ⟨_, μ1, by simp [e1], q⟩
theorem w_neg (h : WE φ δ μ fun x μ1 => ∃ i, x = .int i ∧ Q (.int (-i)) μ1) : WE (fNeg φ) δ μ Q := by
  obtain ⟨x, μ1, e1, b, rfl, q⟩ := h
  exact ⟨_, μ1, by simp [e1], q⟩
theorem w_tup {α : FA} (h : WA α δ μ fun ds μ1 => Q (.tup ds) μ1) : WE (fTup α) δ μ Q := by
  obtain ⟨x, μ1, e1, q⟩ := h
  exact ⟨_, μ1, by simp [e1], q⟩
theorem w_lst {α : FA} (h : WA α δ μ fun ds μ1 => Q (.loc μ1.length) (μ1 ++ [.lst ds])) : WE (fLst α) δ μ Q := by
  obtain ⟨x, μ1, e1, q⟩ := h
  exact ⟨_, _, by simp [e1] <;> rfl, q⟩
theorem w_emp (h : Q (.loc μ.length) (μ ++ [.dct []])) : WE fEmp δ μ Q := ⟨_, _, rfl, h⟩
theorem w_pno {R : Option Int → Mem → Prop} (q : R none μ) : WO pNo δ μ R := ⟨_, _, rfl, q⟩
theorem w_pyes {R : Option Int → Mem → Prop} (h : WE φ δ μ fun x μ1 => ∃ i, x = .int i ∧ R (some i) μ1) : WO (pYes φ) δ μ R := by
  obtain ⟨x, μ1, e1, i, rfl, q⟩ := h
  exact ⟨_, _, by simp [e1] <;> rfl, q⟩
theorem w_call {F : FF} {α : FA} (h : WA α δ μ fun ds μ1 => WF F ds μ1 Q) : WE (fCall F α) δ μ Q := by
  obtain ⟨ds, μ1, e1, d, μ2, e2, q⟩ := h
  exact ⟨d, μ2, by simp [e1, e2], q⟩
theorem w_meth {m : GM} {α : FA} (h : WE φ δ μ fun x μ1 => ∃ n xs, x = .loc n ∧ μ1[n]? = some (.lst xs) ∧ WA α δ μ1 fun ds μ2 => WM m (.loc n) ds μ2 Q) : WE (fMeth m φ α) δ μ Q := by
  obtain ⟨x, μ1, e1, n, xs, rfl, e2, ds, μ2, e3, d, μ3, e4, q⟩ := h
  exact ⟨d, μ3, by simp [e1, e2, e3, e4], q⟩
theorem w_lc {n : Nat} {fr : List Nat} {it : FI} {tg : FG} {c : FT} (h : WI it δ μ fun ds ok μ1 => few ds = true ∧ WL tg c φ ok (δC n fr δ) ds [] μ1 Q) : WE (fLC n fr it tg c φ) δ μ Q := by
  obtain ⟨ds, ok, μ1, e1, hf, d, μ2, e2, q⟩ := h
  exact ⟨d, μ2, by unfold fLC; simp only [e1, Option.bind_some, hf, cond_true]; exact e2, q⟩
theorem w_test {R : Bool → Mem → Prop} (h : WE φ δ μ fun x μ1 => ∃ b, x = .bl b ∧ R b μ1) : WT (fTest φ) δ μ R := by
  obtain ⟨x, μ1, e1, b, rfl, q⟩ := h
  exact ⟨_, _, by simp [e1] <;> rfl, q⟩
theorem w_andT {c e : FT} {R : Bool → Mem → Prop} (h : WT c δ μ fun b μ1 => (b = true → WT e δ μ1 R) ∧ (b = false → R false μ1)) : WT (tAndT c e) δ μ R := by
  obtain ⟨b, μ1, e1, h1, h2⟩ := h
  cases b with
  | true => obtain ⟨d, μ2, e2, q⟩ := h1 rfl; exact ⟨d, μ2, by simp [e1, e2], q⟩
  | false => exact ⟨_, μ1, by simp [e1], h2 rfl⟩
theorem w_orT {c e : FT} {R : Bool → Mem → Prop} (h : WT c δ μ fun b μ1 => (b = false → WT e δ μ1 R) ∧ (b = true → R true μ1)) : WT (tOrT c e) δ μ R := by
  obtain ⟨b, μ1, e1, h1, h2⟩ := h
  cases b with
  | false => obtain ⟨d, μ2, e2, q⟩ := h1 rfl; exact ⟨d, μ2, by simp [e1, e2], q⟩
  | true => exact ⟨_, μ1, by simp [e1], h2 rfl⟩
theorem w_notT {c : FT} {R : Bool → Mem → Prop} (h : WT c δ μ fun b μ1 => R (!b) μ1) : WT (tNotT c) δ μ R := by
  obtain ⟨b, μ1, e1, q⟩ := h
  exact ⟨_, _, by simp [e1] <;> rfl, q⟩
theorem w_yes {R : Bool → Mem → Prop} (q : R true μ) : WT cYes δ μ R := ⟨_, _, rfl, q⟩
theorem w_nil {R : List D → Mem → Prop} (q : R [] μ) : WA aNil δ μ R := ⟨_, _, rfl, q⟩
theorem w_cons {α : FA} {R : List D → Mem → Prop} (h : WE φ δ μ fun x μ1 => WA α δ μ1 fun xs μ2 => R (x :: xs) μ2) : WA (aCons φ α) δ μ R := by
  obtain ⟨x, μ1, e1, xs, μ2, e2, q⟩ := h
  exact ⟨_, _, by simp [e1, e2] <;> rfl, q⟩
theorem w_add (q : Q (.int (i + j)) μ) : W2 gAdd (.int i) (.int j) μ Q := ⟨_, _, rfl, q⟩
theorem w_addL {l m : Nat} {as bs : List D} (h1 : μ[l]? = some (.lst as)) (h2 : μ[m]? = some (.lst bs)) (h : as.length + bs.length ≤ 1000000) (q : Q (.loc μ.length) (μ ++ [.lst (as ++ bs)])) : W2 gAdd (.loc l) (.loc m) μ Q := ⟨_, _, by simp [h1, h2, h] <;> rfl, q⟩
theorem w_sub (q : Q (.int (i - j)) μ) : W2 gSub (.int i) (.int j) μ Q := ⟨_, _, rfl, q⟩
theorem w_mul (h : mulOk i j = true) (q : Q (.int (i * j)) μ) : W2 gMul (.int i) (.int j) μ Q := ⟨_, _, by simp [gMul, h] <;> rfl, q⟩
theorem w_mod (h : 0 < j) (q : Q (.int (i % j)) μ) : W2 gMod (.int i) (.int j) μ Q := ⟨_, _, by simp [h] <;> rfl, q⟩
theorem w_div (h : 0 < j) (h' : j < 1606938044258990275541962092341162602522202993782792835301376) (q : Q (.int (i / j)) μ) : W2 gDiv (.int i) (.int j) μ Q := ⟨_, _, by simp [h, h'] <;> rfl, q⟩
theorem w_pow (h : 0 ≤ j) (h1 : j ≤ 100000) (h2 : i.natAbs < 1606938044258990275541962092341162602522202993782792835301376) (q : Q (.int (i ^ j.toNat)) μ) : W2 gPow (.int i) (.int j) μ Q := ⟨_, _, by simp only [gPow]; rw [decide_eq_true ⟨h, h1, h2⟩]; rfl, q⟩
theorem w_cmp {r : Int → Int → Bool} (q : Q (.bl (r i j)) μ) : W2 (gCmp r) (.int i) (.int j) μ Q := ⟨_, _, rfl, q⟩
theorem w_ix (h : items μ x = some xs) (h2 : atI xs i = some d) (q : Q d μ) : W2 gIx x (.int i) μ Q := ⟨_, _, by show ((items μ x).bind fun ds => (atI ds i).bind fun d => some (d, μ)) = _; rw [h, Option.bind_some, h2, Option.bind_some], q⟩
theorem w_eqI (q : Q (.bl (i == j)) μ) : W2 gEq (.int i) (.int j) μ Q := ⟨_, _, by simp [gEq, toP, PyData.eqv] <;> rfl, q⟩
theorem w_neI (q : Q (.bl (!(i == j))) μ) : W2 gNe (.int i) (.int j) μ Q := ⟨_, _, by simp [gNe, toP, PyData.eqv] <;> rfl, q⟩
theorem w_neS {p : PyData} (h1 : toP μ 8 x = some p) (h2 : toP μ 8 y = some p) (q : Q (.bl false) μ) : W2 gNe x y μ Q := ⟨_, _, gNe_same h1 h2, q⟩
theorem w_eq {p p' : PyData} (h1 : toP μ 8 x = some p) (h2 : toP μ 8 y = some p') (q : Q (.bl (PyData.eqv p p')) μ) : W2 gEq x y μ Q := ⟨_, _, by simp [gEq, h1, h2] <;> rfl, q⟩
theorem w_ne {p p' : PyData} (h1 : toP μ 8 x = some p) (h2 : toP μ 8 y = some p') (q : Q (.bl (!PyData.eqv p p')) μ) : W2 gNe x y μ Q := ⟨_, _, by simp [gNe, h1, h2] <;> rfl, q⟩
theorem w_isB {a b : Bool} (q : Q (.bl (a == b)) μ) : W2 gIs (.bl a) (.bl b) μ Q := ⟨_, _, rfl, q⟩
theorem w_isNotB {a b : Bool} (q : Q (.bl (a != b)) μ) : W2 gIsNot (.bl a) (.bl b) μ Q := ⟨_, _, rfl, q⟩
theorem w_in (h : items μ y = some xs) (h1 : flatD x = true) (h2 : xs.all flatD = true) (q : Q (.bl (xs.any fun d => eqF d x)) μ) : W2 gIn x y μ Q := ⟨_, _, by simp only [gIn, h, Option.bind_some, h1, h2, Bool.and_self, cond_true], q⟩
theorem w_notIn (h : items μ y = some xs) (h1 : flatD x = true) (h2 : xs.all flatD = true) (q : Q (.bl (!xs.any fun d => eqF d x)) μ) : W2 gNotIn x y μ Q := ⟨_, _, by simp only [gNotIn, h, Option.bind_some, h1, h2, Bool.and_self, cond_true], q⟩
theorem w_len (h : items μ x = some xs) (q : Q (.int xs.length) μ) : WF gLen [x] μ Q := ⟨_, _, by show ((items μ x).bind fun xs => some (D.int xs.length, μ)) = _; rw [h, Option.bind_some], q⟩
theorem w_list (h : items μ x = some xs) (q : Q (.loc μ.length) (μ ++ [.lst xs])) : WF gList [x] μ Q := ⟨_, _, by show ((items μ x).bind fun xs => some (D.loc μ.length, μ ++ [LObj.lst xs])) = _; rw [h, Option.bind_some], q⟩
theorem w_tuple (h : items μ x = some xs) (q : Q (.tup xs) μ) : WF gTuple [x] μ Q := by
  refine ⟨_, _, ?_, q⟩
  cases x <;> first | (cases h; rfl) | (simp only [gTuple, h]; rfl)
theorem w_isi {c t : Ty} (h : tyOf μ x = some t) (q : Q (.bl (isTy t c)) μ) : WF (gIsi c) [x, .ty c.name] μ Q := ⟨_, _, by simp only [gIsi, beq_self_eq_true, cond_true, h, Option.bind_some], q⟩
theorem w_append {n : Nat} (h : μ[n]? = some (.lst xs)) (hl : xs.length ≤ 1000000) (q : Q .non (μ.set n (.lst (xs ++ [d])))) : WM gAppend (.loc n) [d] μ Q := ⟨_, _, by simp [h, hl] <;> rfl, q⟩
theorem w_def {F : FF} {N : List Str} {p : FS} (hF : F = fun ds μ => retOf (p (startD N ds) μ)) (h : WS p (startD N ds) μ (fun _ μ' => Q .non μ') Q (fun _ _ => False) fun _ _ => False) : WF F ds μ Q := by
  subst hF
  obtain ⟨o, e, k⟩ := h
  cases o with
  | next δ' μ' => exact ⟨_, _, by rw [e]; rfl, k⟩
  | ret d μ' => exact ⟨_, _, by rw [e]; rfl, k⟩
  | brk _ _ => exact k.elim
  | cont _ _ => exact k.elim
  | exc _ _ _ => exact k.elim
theorem w_range {α : FA} {R : List D → (Mem → Bool) → Mem → Prop} (h : WA α δ μ fun ds μ1 => ∃ j : Int, ds = [.int j] ∧ -(2 ^ 62) ≤ j ∧ j < 2 ^ 62 ∧ R ((List.range j.toNat).map fun (k : Nat) => .int k) yes μ1) : WI (iRange α) δ μ R := by
  obtain ⟨ds, μ1, e1, j, rfl, h1, h2, q⟩ := h
  refine ⟨_, _, _, ?_, q⟩
  unfold iRange
  simp only [e1, Option.bind_some]
  rw [decide_eq_true ⟨h1, h2⟩]
  rfl
theorem w_seq {R : List D → (Mem → Bool) → Mem → Prop} (h : WE φ δ μ fun x μ1 => (∃ ds, x = .tup ds ∧ R ds yes μ1) ∨ (∃ ds, x = .fz ds ∧ R ds yes μ1) ∨ ∃ n ds, x = .loc n ∧ μ1[n]? = some (.lst ds) ∧ R ds (stays n ds) μ1) : WI (iSeq φ) δ μ R := by
  obtain ⟨x, μ1, e1, ⟨ds, rfl, q⟩ | ⟨ds, rfl, q⟩ | ⟨n, ds, rfl, e2, q⟩⟩ := h
  · exact ⟨_, _, _, by simp [e1] <;> rfl, q⟩
  · exact ⟨_, _, _, by simp [e1] <;> rfl, q⟩
  · exact ⟨_, _, _, by simp [e1, e2] <;> rfl, q⟩
theorem w_gn {n : Nat} {R : Loc → Mem → Prop} (q : R (δ.set n (some d)) μ) : WG (gN n) d δ μ R := ⟨_, _, rfl, q⟩
theorem w_gt {n : Nat} {gs : FGs} {R : Loc → Mem → Prop} (hl : ds.length = n) (h : WGs gs ds δ μ R) : WG (gT n gs) (.tup ds) δ μ R := by
  obtain ⟨δ', μ', e, q⟩ := h
  exact ⟨δ', μ', by simp [hl, e], q⟩
theorem w_gt2 {gs : FGs} {R : Loc → Mem → Prop} {a b : D} (h : WGs gs [a, b] δ μ R) : WG (gT 2 gs) (.tup [a, b]) δ μ R := w_gt rfl h
theorem w_gt3 {gs : FGs} {R : Loc → Mem → Prop} {a b c : D} (h : WGs gs [a, b, c] δ μ R) : WG (gT 3 gs) (.tup [a, b, c]) δ μ R := w_gt rfl h
theorem w_gsn {R : Loc → Mem → Prop} (q : R δ μ) : WGs gsNil [] δ μ R := ⟨_, _, rfl, q⟩
theorem w_gsc {t : FG} {gs : FGs} {R : Loc → Mem → Prop} (h : WG t d δ μ fun δ1 μ1 => WGs gs ds δ1 μ1 R) : WGs (gsCons t gs) (d :: ds) δ μ R := by
  obtain ⟨δ1, μ1, e1, δ2, μ2, e2, q⟩ := h
  exact ⟨δ2, μ2, by simp [e1, e2], q⟩
end
section
variable {φ ψ : FE} {δ : Loc} {μ : Mem} {nx : Loc → Mem → Prop} {rt : D → Mem → Prop} {bk ct : Loc → Mem → Prop} {p q : FS}
theorem w_skip (h : nx δ μ) : WS sSkip δ μ nx rt bk ct := ⟨.next δ μ, rfl, h⟩
theorem w_then (h : WS p δ μ (fun δ' μ' => WS q δ' μ' nx rt bk ct) rt bk ct) : WS (sSeq p q) δ μ nx rt bk ct := by
  obtain ⟨o, e, k⟩ := h
  cases o with
  | next δ' μ' => obtain ⟨o2, e2, k2⟩ := k; exact ⟨o2, by simp [e, e2], k2⟩
  | ret d μ' => exact ⟨.ret d μ', by simp only [sSeq, e], k⟩
  | brk d μ' => exact ⟨.brk d μ', by simp only [sSeq, e], k⟩
  | cont d μ' => exact ⟨.cont d μ', by simp only [sSeq, e], k⟩
  | exc _ _ _ => exact k.elim
theorem w_set {n : Nat} (h : WE φ δ μ fun d μ' => nx (δ.set n (some d)) μ') : WS (sSet n φ) δ μ nx rt bk ct := by
  obtain ⟨d, μ', e, k⟩ := h
  exact ⟨.next _ _, by simp only [sSet, e, Option.bind_some], k⟩
theorem w_asg {g : FG} (h : WE φ δ μ fun d μ1 => WG g d δ μ1 nx) : WS (sAsg φ g) δ μ nx rt bk ct := by
  obtain ⟨d, μ1, e, δ', μ2, e2, k⟩ := h
  exact ⟨.next _ _, by simp only [sAsg, e, Option.bind_some, e2], k⟩
theorem w_expr (h : WE φ δ μ fun _ μ' => nx δ μ') : WS (sExpr φ) δ μ nx rt bk ct := by
  obtain ⟨d, μ', e, k⟩ := h
  exact ⟨.next _ _, by simp only [sExpr, e, Option.bind_some], k⟩
theorem w_ret (h : WE φ δ μ rt) : WS (sRet φ) δ μ nx rt bk ct := by
  obtain ⟨d, μ', e, k⟩ := h
  exact ⟨.ret _ _, by simp only [sRet, e, Option.bind_some], k⟩
theorem w_if {c : FT} (h : WT c δ μ fun b μ1 => (b = true → WS p δ μ1 nx rt bk ct) ∧ (b = false → WS q δ μ1 nx rt bk ct)) : WS (sIf c p q) δ μ nx rt bk ct := by
  obtain ⟨b, μ1, e, h1, h2⟩ := h
  cases b with
  | true => obtain ⟨o, e2, k⟩ := h1 rfl; exact ⟨o, by simp [e, e2], k⟩
  | false => obtain ⟨o, e2, k⟩ := h2 rfl; exact ⟨o, by simp [e, e2], k⟩
theorem w_for {it : FI} {g : FG} {body : FS} (h : WI it δ μ fun ds ok μ1 => WFor g body ok ds δ μ1 nx rt) : WS (sFor it g body) δ μ nx rt bk ct := by
  obtain ⟨ds, ok, μ1, e, o, e2, k⟩ := h
  refine ⟨o, by simp only [sFor, e, Option.bind_some]; exact e2, ?_⟩
  cases o with
  | next _ _ => exact k
  | ret _ _ => exact k
  | brk _ _ => exact k.elim
  | cont _ _ => exact k.elim
  | exc _ _ _ => exact k.elim
theorem w_loop {g : FG} {body : FS} {ok : Mem → Bool} {nx : Loc → Mem → Prop} {rt : D → Mem → Prop} (I : Nat → Loc → Mem → Prop) : ∀ {xs : List D} {n : Nat} {δ : Loc} {μ : Mem}, I n δ μ → (∀ m δ μ, I m δ μ → ok μ = true) →
    (∀ (m : Nat) (x : D) (δ : Loc) (μ : Mem), xs[m]? = some x → I (n + m) δ μ → WG g x δ μ fun δ1 μ1 => WS body δ1 μ1 (I (n + m + 1)) rt nx (I (n + m + 1))) → (∀ δ μ, I (n + xs.length) δ μ → nx δ μ) → WFor g body ok xs δ μ nx rt
  | [], n, δ, μ, h0, hok, _, hend => ⟨.next δ μ, by simp only [forIt, hok _ _ _ h0, cond_true], hend δ μ h0⟩
  | x :: xs, n, δ, μ, h0, hok, hs, hend => by
    obtain ⟨δ1, μ1, e1, o, e2, k⟩ := hs 0 x δ μ rfl h0
    cases o with
    | next δ2 μ2 =>
      obtain ⟨o3, e3, k3⟩ := w_loop I (xs := xs) (n := n + 1) (δ := δ2) (μ := μ2) k hok (fun m y δ μ hy hI => by
        have := hs (m + 1) y δ μ (by simpa using hy) (by rw [show n + (m + 1) = n + 1 + m by omega]; exact hI)
        rw [show n + (m + 1) = n + 1 + m by omega] at this
        exact this) (fun δ μ hI => hend δ μ (by rw [List.length_cons, show n + (xs.length + 1) = n + 1 + xs.length by omega]; exact hI))
      exact ⟨o3, by simp only [forIt, hok _ _ _ h0, cond_true, e1, Option.bind_some, e2]; exact e3, k3⟩
    | cont δ2 μ2 =>
      obtain ⟨o3, e3, k3⟩ := w_loop I (xs := xs) (n := n + 1) (δ := δ2) (μ := μ2) k hok (fun m y δ μ hy hI => by
        have := hs (m + 1) y δ μ (by simpa using hy) (by rw [show n + (m + 1) = n + 1 + m by omega]; exact hI)
        rw [show n + (m + 1) = n + 1 + m by omega] at this
        exact this) (fun δ μ hI => hend δ μ (by rw [List.length_cons, show n + (xs.length + 1) = n + 1 + xs.length by omega]; exact hI))
      exact ⟨o3, by simp only [forIt, hok _ _ _ h0, cond_true, e1, Option.bind_some, e2]; exact e3, k3⟩
    | brk δ2 μ2 => exact ⟨.next δ2 μ2, by simp only [forIt, hok _ _ _ h0, cond_true, e1, Option.bind_some, e2], k⟩
    | ret d μ2 => exact ⟨.ret d μ2, by simp only [forIt, hok _ _ _ h0, cond_true, e1, Option.bind_some, e2], k⟩
    | exc _ _ _ => exact k.elim
end
theorem w_comp {g : FG} {c : FT} {φ : FE} {ok : Mem → Bool} {δ : Loc} {Q : D → Mem → Prop} (I : Nat → List D → Mem → Prop) : ∀ {xs ys : List D} {n : Nat} {μ : Mem}, I n ys μ → (∀ m ys μ, I m ys μ → ok μ = true) →
    (∀ (m : Nat) (x : D) (ys : List D) (μ : Mem), xs[m]? = some x → I (n + m) ys μ → WG g x δ μ fun δ1 μ1 => WT c δ1 μ1 fun b μ2 => (b = true → WE φ δ1 μ2 fun d μ3 => I (n + m + 1) (ys ++ [d]) μ3) ∧ (b = false → I (n + m + 1) ys μ2)) →
    (∀ ys μ, I (n + xs.length) ys μ → Q (.loc μ.length) (μ ++ [.lst ys])) → WL g c φ ok δ xs ys μ Q
  | [], ys, n, μ, h0, hok, _, hend => ⟨_, _, by simp only [lcIt, hok _ _ _ h0, cond_true], hend ys μ h0⟩
  | x :: xs, ys, n, μ, h0, hok, hs, hend => by
    obtain ⟨δ1, μ1, e1, b, μ2, e2, ht, hf⟩ := hs 0 x ys μ rfl h0
    have step : ∀ ys2 μ3, I (n + 1) ys2 μ3 → WL g c φ ok δ xs ys2 μ3 Q := fun ys2 μ3 h => w_comp I (n := n + 1) h hok (fun m y ys μ hy hI => by
        have := hs (m + 1) y ys μ (by simpa using hy) (by rw [show n + (m + 1) = n + 1 + m by omega]; exact hI)
        rw [show n + (m + 1) = n + 1 + m by omega] at this
        exact this) (fun ys μ hI => hend ys μ (by rw [List.length_cons, show n + (xs.length + 1) = n + 1 + xs.length by omega]; exact hI))
    cases b with
    | true =>
      obtain ⟨d, μ3, e3, h3⟩ := ht rfl
      obtain ⟨d', μ4, e4, q⟩ := step _ _ h3
      exact ⟨d', μ4, by simp only [lcIt, hok _ _ _ h0, cond_true, e1, Option.bind_some, e2, e3]; exact e4, q⟩
    | false =>
      obtain ⟨d', μ4, e4, q⟩ := step _ _ (hf rfl)
      exact ⟨d', μ4, by simp only [lcIt, hok _ _ _ h0, cond_true, e1, Option.bind_some, e2, cond_false]; exact e4, q⟩
theorem w_loop0 {g : FG} {body : FS} {ok : Mem → Bool} {nx : Loc → Mem → Prop} {rt : D → Mem → Prop} {xs : List D} {δ : Loc} {μ : Mem} (I : Nat → Loc → Mem → Prop) (h0 : I 0 δ μ) (hok : ∀ m δ μ, I m δ μ → ok μ = true)
    (hs : ∀ (m : Nat) (x : D) (δ : Loc) (μ : Mem), xs[m]? = some x → I m δ μ → WG g x δ μ fun δ1 μ1 => WS body δ1 μ1 (I (m + 1)) rt nx (I (m + 1))) (hend : ∀ δ μ, I xs.length δ μ → nx δ μ) : WFor g body ok xs δ μ nx rt :=
  w_loop I (n := 0) h0 hok (fun m x δ μ hx h => by
    rw [Nat.zero_add] at h ⊢
    exact hs m x δ μ hx h) (fun δ μ h => hend δ μ (by rw [Nat.zero_add] at h; exact h))
theorem w_comp0 {g : FG} {c : FT} {φ : FE} {ok : Mem → Bool} {δ : Loc} {Q : D → Mem → Prop} {xs : List D} {μ : Mem} (I : Nat → List D → Mem → Prop) (h0 : I 0 [] μ) (hok : ∀ m ys μ, I m ys μ → ok μ = true)
    (hs : ∀ (m : Nat) (x : D) (ys : List D) (μ : Mem), xs[m]? = some x → I m ys μ → WG g x δ μ fun δ1 μ1 => WT c δ1 μ1 fun b μ2 => (b = true → WE φ δ1 μ2 fun d μ3 => I (m + 1) (ys ++ [d]) μ3) ∧ (b = false → I (m + 1) ys μ2))
    (hend : ∀ ys μ, I xs.length ys μ → Q (.loc μ.length) (μ ++ [.lst ys])) : WL g c φ ok δ xs [] μ Q :=
  w_comp I (n := 0) h0 hok (fun m x ys μ hx h => by
    rw [Nat.zero_add] at h ⊢
    exact hs m x ys μ hx h) (fun ys μ h => hend ys μ (by rw [Nat.zero_add] at h; exact h))
theorem range_at {j m : Nat} {x : D} (h : ((List.range j).map fun (k : Nat) => D.int k)[m]? = some x) : m < j ∧ x = .int m := by
  have h1 := (List.getElem?_eq_some_iff.mp h).1
  simp at h1
  refine ⟨h1, ?_⟩
  simp [h1] at h
  exact h.symm
theorem w_pureE {α : Type} {g : FG} {c : FT} {φ : FE} {ok : Mem → Bool} {δ : Loc} {Q : D → Mem → Prop} {μ : Mem} (e : α → D) (l : List α) (f : α → D) (p : α → Bool) (hok : ∀ μ', Keep μ μ' → ok μ' = true)
    (hs : ∀ x ∈ l, ∀ μ', Keep μ μ' → WG g (e x) δ μ' fun δ1 μ1 => WT c δ1 μ1 fun b μ2 => b = p x ∧ Keep μ μ2 ∧ (b = true → WE φ δ1 μ2 fun d μ3 => d = f x ∧ Keep μ μ3))
    (hq : ∀ μ', Keep μ μ' → Q (.loc μ'.length) (μ' ++ [.lst ((l.filter p).map f)])) : WL g c φ ok δ (l.map e) [] μ Q := by
  refine w_comp0 (fun m ys μ' => Keep μ μ' ∧ ys = ((l.take m).filter p).map f) ⟨.refl, by simp⟩ (fun m ys μ' h => hok μ' h.1) (fun m x ys μ' hx h => ?_) (fun ys μ' h => ?_)
  · rw [List.getElem?_map] at hx
    cases hy : l[m]? with
    | none => rw [hy] at hx; cases hx
    | some y =>
      rw [hy] at hx
      cases hx
      obtain ⟨δ1, μ1, e1, b, μ2, e2, hb, k2, h3⟩ := hs y (List.mem_of_getElem? hy) μ' h.1
      have ht : l.take (m + 1) = l.take m ++ [y] := by
        rw [List.take_succ, hy]
        rfl
      refine ⟨δ1, μ1, e1, b, μ2, e2, fun hb1 => ?_, fun hb1 => ⟨k2, ?_⟩⟩
      · obtain ⟨d, μ3, e3, rfl, k3⟩ := h3 hb1
        refine ⟨_, _, e3, k3, ?_⟩
        rw [ht, List.filter_append, List.map_append, ← h.2, List.filter_cons_of_pos (by rw [← hb, hb1])]
        rfl
      · rw [ht, List.filter_append, List.map_append, ← h.2, List.filter_cons_of_neg (by rw [← hb, hb1]; exact Bool.false_ne_true)]
        simp
  · rw [List.length_map, List.take_length] at h
    rw [h.2]
    exact hq μ' h.1
theorem w_mapE {α : Type} {g : FG} {φ : FE} {ok : Mem → Bool} {δ : Loc} {Q : D → Mem → Prop} {μ : Mem} (e : α → D) (l : List α) (f : α → D) (hok : ∀ μ', Keep μ μ' → ok μ' = true)
    (hs : ∀ x ∈ l, ∀ μ', Keep μ μ' → WG g (e x) δ μ' fun δ1 μ1 => WE φ δ1 μ1 fun d μ3 => d = f x ∧ Keep μ μ3 ∧ Keep μ μ1)
    (hq : ∀ μ', Keep μ μ' → Q (.loc μ'.length) (μ' ++ [.lst (l.map f)])) : WL g cYes φ ok δ (l.map e) [] μ Q :=
  w_pureE e l f (fun _ => true) hok (fun x hx μ' k => by
    obtain ⟨δ1, μ1, e1, d, μ3, e3, h1, h2, h3⟩ := hs x hx μ' k
    exact ⟨δ1, μ1, e1, true, μ1, rfl, rfl, h3, fun _ => ⟨d, μ3, e3, h1, h2⟩⟩) (fun μ' k => by rw [List.filter_eq_self.mpr (fun _ _ => rfl)]; exact hq μ' k)
theorem few_of {ds : List D} (h : ds.length ≤ 1000000) : few ds = true := decide_eq_true h
theorem stays_of {n : Nat} {ds : List D} {μ μ' : Mem} (h : μ[n]? = some (.lst ds)) (k : Keep μ μ') : stays n ds μ' = true := stays_iff.mpr (k n _ h)
end M
set_option Elab.async false
set_option linter.all false
set_option maxRecDepth 100000
set_option autoImplicit false
namespace M
open PySem PySem.Spec PyProof.Rows L2
structure KB (L : List Nat) (μ μ' : Mem) : Prop where
  len : μ.length ≤ μ'.length
  at_ : ∀ (n : Nat) (o : LObj), n ∉ L → μ[n]? = some o → μ'[n]? = some o
section
variable {L : List Nat} {μ μ1 μ2 μ' : Mem} {n : Nat} {o : LObj}
theorem KB.refl : KB L μ μ := ⟨Nat.le_refl _, fun _ _ _ h => h⟩
theorem KB.trans (a : KB L μ μ1) (b : KB L μ1 μ2) : KB L μ μ2 := ⟨Nat.le_trans a.len b.len, fun n o h e => b.at_ n o h (a.at_ n o h e)⟩
theorem KB.app {g : Mem} (a : KB L μ μ1) : KB L μ (μ1 ++ g) := ⟨by simp; have := a.len; omega, fun n o h e => get_old' (a.at_ n o h e)⟩
theorem KB.set {m : Nat} (a : KB L μ μ1) (h : m ∈ L ∨ μ.length ≤ m) : KB L μ (μ1.set m o) := ⟨by simp; exact a.len, fun n o' hn e => by
  rw [List.getElem?_set_ne]
  · exact a.at_ n o' hn e
  · rintro rfl
    rcases h with h | h
    · exact hn h
    · exact absurd (lt_of_get e) (by omega)⟩
theorem KB.of_keep (a : Keep μ μ') : KB L μ μ' := ⟨a.len, fun n o _ e => a n o e⟩
end
section
variable {φ ψ χ : FE} {g g2 : G2} {δ : Loc} {μ : Mem} {Q : D → Mem → Prop} {i j : Int} {d x y : D} {ds xs : List D}
theorem w_lrange (h : WE φ δ μ fun x μ1 => ∃ j : Int, x = .int j ∧ (-(2 ^ 62) ≤ j ∧ j ≤ 1000000) ∧ Q (.loc μ1.length) (μ1 ++ [.lst ((List.range j.toNat).map fun (k : Nat) => .int k)])) : WE (fLRange φ) δ μ Q := by
  obtain ⟨x, μ1, e1, j, rfl, h1, q⟩ := h
  exact ⟨_, _, by simp only [fLRange, e1, Option.bind_some]; rw [decide_eq_true h1]; rfl, q⟩
theorem w_intI (q : Q (.int i) μ) : WF gInt [.int i] μ Q := ⟨_, _, rfl, q⟩
theorem w_intB {b : Bool} (q : Q (.int (if b then 1 else 0)) μ) : WF gInt [.bl b] μ Q := ⟨_, _, rfl, q⟩
theorem w_min2 (q : Q (.int (if j < i then j else i)) μ) : WF gMin2 [.int i, .int j] μ Q := ⟨_, _, rfl, q⟩
theorem w_max2 (q : Q (.int (if j > i then j else i)) μ) : WF gMax2 [.int i, .int j] μ Q := ⟨_, _, rfl, q⟩
theorem w_ifE {c : FT} (h : WT c δ μ fun b μ1 => (b = true → WE φ δ μ1 Q) ∧ (b = false → WE ψ δ μ1 Q)) : WE (fIf c φ ψ) δ μ Q := by
  obtain ⟨b, μ1, e, h1, h2⟩ := h
  cases b with
  | true => obtain ⟨d, μ2, e2, k⟩ := h1 rfl; exact ⟨d, μ2, by simp [e, e2], k⟩
  | false => obtain ⟨d, μ2, e2, k⟩ := h2 rfl; exact ⟨d, μ2, by simp [e, e2], k⟩
theorem w_slL {lo hi : FO} (h : WE φ δ μ fun x μ1 => WO lo δ μ1 fun l μ2 => WO hi δ μ2 fun u μ3 => ∃ n ds, x = .loc n ∧ μ3[n]? = some (.lst ds) ∧ Q (.loc μ3.length) (μ3 ++ [.lst (cutD ds l u)])) : WE (fSl φ lo hi) δ μ Q := by
  obtain ⟨x, μ1, e1, l, μ2, e2, u, μ3, e3, n, ds, rfl, e4, q⟩ := h
  exact ⟨_, _, by simp [e1, e2, e3, e4] <;> rfl, q⟩
theorem w_gat {R : Loc → Mem → Prop} (h : WE φ δ μ fun x μ1 => WE ψ δ μ1 fun y μ2 => ∃ (n : Nat) (i : Int) (zs : List D), x = .loc n ∧ y = .int i ∧ μ2[n]? = some (.lst zs) ∧ (0 ≤ i ∧ i < zs.length) ∧ R δ (μ2.set n (.lst (zs.set i.toNat d)))) : WG (gAt φ ψ) d δ μ R := by
  obtain ⟨x, μ1, e1, y, μ2, e2, n, i, zs, rfl, rfl, e3, hi, q⟩ := h
  have e4 : ixN zs.length i = some i.toNat := by unfold ixN; rw [if_pos hi.1, if_pos hi.2]
  exact ⟨_, _, by simp [e1, e2, e3, e4] <;> rfl, q⟩
end
end M
set_option Elab.async false
set_option linter.all false
set_option maxRecDepth 100000
set_option autoImplicit false
namespace M
open PySem PySem.Spec PyProof.Rows L2
noncomputable abbrev nat (S : List Nat) : List D := S.map fun (k : Nat) => D.int k
theorem nat_map {α : Type} (f : α → Nat) (l : List α) : nat (l.map f) = l.map fun a => D.int (f a : Nat) := List.map_map
theorem nat_set (S : List Nat) (i k : Nat) : nat (S.set i k) = (nat S).set i (.int k) := List.map_set
class Enc (α : Type) where
  d : α → D
  p : α → PyData
  dep : Nat
  rd : ∀ (μ : Mem) (n : Nat) (a : α), toP μ (n + dep) (d a) = some (p a)
  eq : ∀ a b : α, PyData.eqv (p a) (p b) = true ↔ a = b
noncomputable instance : Enc Int := ⟨.int, .int, 1, fun _ _ _ => rfl, fun a b => by simp [PyData.eqv]⟩
noncomputable instance : Enc Nat := ⟨fun (k : Nat) => .int k, fun (k : Nat) => .int k, 1, fun _ _ _ => rfl, fun a b => by simp [PyData.eqv]; omega⟩
noncomputable instance : Enc Bool := ⟨.bl, .bool, 1, fun _ _ _ => rfl, fun a b => by simp [PyData.eqv]⟩
noncomputable abbrev onD : Option Nat → D
  | none => .non
  | some k => .int k
noncomputable instance : Enc (Option Nat) := ⟨onD, fun | none => .none | some k => .int k, 1, fun _ _ a => by cases a <;> rfl, fun a b => by cases a <;> cases b <;> simp [PyData.eqv]; omega⟩
theorem eqvAll_map {α : Type} [Enc α] : ∀ xs ys : List α, PyData.eqvAll (xs.map Enc.p) (ys.map Enc.p) = true ↔ xs = ys
  | [], [] => by simp [PyData.eqvAll]
  | [], y :: ys => by simp [PyData.eqvAll]
  | x :: xs, [] => by simp [PyData.eqvAll]
  | x :: xs, y :: ys => by
    rw [List.map_cons, List.map_cons, PyData.eqvAll, Bool.and_eq_true, Enc.eq, eqvAll_map xs ys, List.cons.injEq]
theorem rdAll {α : Type} [Enc α] (μ : Mem) (n : Nat) : ∀ xs : List α, (xs.map Enc.d).mapM (toP μ (n + Enc.dep α)) = some (xs.map Enc.p)
  | [] => rfl
  | x :: xs => by rw [List.map_cons, List.mapM_cons, rdAll μ n xs, Enc.rd]; rfl
noncomputable instance instEncList {α : Type} [Enc α] : Enc (List α) := ⟨fun xs => .tup (xs.map Enc.d), fun xs => .tuple (xs.map Enc.p), Enc.dep α + 1, fun μ n xs => by
    show ((xs.map Enc.d).mapM (toP μ (n + Enc.dep α))).bind (fun ps => some (PyData.tuple ps)) = _
    rw [rdAll]; rfl, fun a b => by rw [PyData.eqv]; exact eqvAll_map a b⟩
theorem toP_more {μ : Mem} {α : Type} [Enc α] (a : α) (h : Enc.dep α ≤ 8) : toP μ 8 (Enc.d a) = some (Enc.p a) := by
  have := Enc.rd μ (8 - Enc.dep α) a
  rw [Nat.sub_add_cancel h] at this
  exact this
theorem bool_iff {b : Bool} {p : Prop} [Decidable p] (h : b = true ↔ p) : b = decide p := by
  cases b <;> simp_all
section
variable {φ ψ χ : FE} {g g2 : G2} {δ : Loc} {μ : Mem} {Q : D → Mem → Prop} {i j : Int} {d x y : D} {ds xs : List D} {α : Type} [Enc α] [DecidableEq α]
theorem w_eqE (a b : α) (q : Q (.bl (decide (a = b))) μ) (hx : x = Enc.d a := by rfl) (hy : y = Enc.d b := by rfl) (h : Enc.dep α ≤ 8 := by decide) : W2 gEq x y μ Q := by
  subst hx hy
  exact w_eq (toP_more a h) (toP_more b h) (by rw [bool_iff (Enc.eq a b)]; exact q)
theorem w_neE (a b : α) (q : Q (.bl (!decide (a = b))) μ) (hx : x = Enc.d a := by rfl) (hy : y = Enc.d b := by rfl) (h : Enc.dep α ≤ 8 := by decide) : W2 gNe x y μ Q := by
  subst hx hy
  exact w_ne (toP_more a h) (toP_more b h) (by rw [bool_iff (Enc.eq a b)]; exact q)
theorem toP_list {n : Nat} (as : List α) (e : μ[n]? = some (.lst (as.map Enc.d))) (h : Enc.dep α ≤ 7) : toP μ 8 (.loc n) = some (.list (as.map Enc.p)) := by
  show (match μ[n]? with
      | some (.lst ds) => (ds.mapM (toP μ 7)).bind fun ps => some (PyData.list ps)
      | _ => none) = _
  rw [e]
  show ((as.map Enc.d).mapM (toP μ 7)).bind (fun ps => some (PyData.list ps)) = _
  have := rdAll μ (7 - Enc.dep α) as
  rw [Nat.sub_add_cancel h] at this
  rw [this]; rfl
theorem w_eqL (as bs : List α) {m n : Nat} (e1 : μ[m]? = some (.lst (as.map Enc.d))) (e2 : μ[n]? = some (.lst (bs.map Enc.d))) (q : Q (.bl (decide (as = bs))) μ) (h : Enc.dep α ≤ 7 := by decide) : W2 gEq (.loc m) (.loc n) μ Q :=
  w_eq (toP_list as e1 h) (toP_list bs e2 h) (by rw [PyData.eqv, bool_iff (eqvAll_map as bs)]; exact q)
theorem flat_nat (S : List Nat) : (nat S).all flatD = true := List.all_eq_true.mpr fun x hx => by
  obtain ⟨k, _, rfl⟩ := List.mem_map.mp hx
  rfl
theorem any_nat (k : Nat) : ∀ S : List Nat, ((nat S).any fun d => eqF d (.int k)) = decide (k ∈ S) := fun S => by
  refine bool_iff ?_
  rw [List.any_eq_true]
  constructor
  · rintro ⟨x, hx, e⟩
    obtain ⟨j, hj, rfl⟩ := List.mem_map.mp hx
    have h1 : (j : Int) = k := by simpa [eqF] using e
    have h2 : j = k := by omega
    exact h2 ▸ hj
  · intro h
    exact ⟨.int k, List.mem_map.mpr ⟨k, h, rfl⟩, by simp [eqF]⟩
theorem flat_on (S : List (Option Nat)) : (S.map onD).all flatD = true := List.all_eq_true.mpr fun x hx => by
  obtain ⟨k, _, rfl⟩ := List.mem_map.mp hx
  cases k <;> rfl
theorem eqF_on (a b : Option Nat) : eqF (onD a) (onD b) = decide (a = b) := by
  cases a <;> cases b <;> simp [onD, eqF]
  rename_i a b
  by_cases h : a = b
  · simp [h]
  · simp [h]
    omega
end
end M
set_option Elab.async false
set_option linter.all false
set_option maxRecDepth 100000
set_option autoImplicit false
namespace M
open PySem PySem.Spec PyProof.Rows L2
section
variable {φ ψ χ : FE} {g g2 : G2} {δ : Loc} {μ : Mem} {Q : D → Mem → Prop} {i j : Int} {d x y : D} {ds xs : List D}
theorem w_enum {R : List D → (Mem → Bool) → Mem → Prop} (h : WE φ δ μ fun x μ1 => (∃ ds, x = .tup ds ∧ R (enumD ds) yes μ1) ∨ (∃ ds, x = .fz ds ∧ R (enumD ds) yes μ1) ∨ ∃ n ds, x = .loc n ∧ μ1[n]? = some (.lst ds) ∧ R (enumD ds) (stays n ds) μ1) : WI (iEnum φ) δ μ R := by
  obtain ⟨x, μ1, e1, ⟨ds, rfl, q⟩ | ⟨ds, rfl, q⟩ | ⟨n, ds, rfl, e2, q⟩⟩ := h
  · exact ⟨_, _, _, by simp [e1] <;> rfl, q⟩
  · exact ⟨_, _, _, by simp [e1] <;> rfl, q⟩
  · exact ⟨_, _, _, by simp [e1, e2] <;> rfl, q⟩
theorem enumD_turn {α : Type} {f : α → D} {xs : List α} {m : Nat} {x : D} (h : (enumD (xs.map f))[m]? = some x) : ∃ y, xs[m]? = some y ∧ x = .tup [.int m, f y] := by
  obtain ⟨z, hz, rfl⟩ := enumD_at h
  rw [List.getElem?_map] at hz
  cases e : xs[m]? with
  | none => rw [e] at hz; cases hz
  | some y => rw [e] at hz; cases hz; exact ⟨y, rfl, rfl⟩
theorem w_meth0 {m : GM} (h : WE φ δ μ fun x μ1 => ∃ n xs, x = .loc n ∧ μ1[n]? = some (.lst xs) ∧ WM m (.loc n) [] μ1 Q) : WE (fMeth0 m φ) δ μ Q := by
  obtain ⟨x, μ1, e1, n, xs, rfl, e2, d, μ3, e4, q⟩ := h
  exact ⟨d, μ3, by simp [e1, e2, e4], q⟩
theorem w_clear {n : Nat} (h : μ[n]? = some (.lst xs)) (q : Q .non (μ.set n (.lst []))) : WM gClear (.loc n) [] μ Q := ⟨_, _, by simp [h] <;> rfl, q⟩
theorem w_count {n : Nat} (h : μ[n]? = some (.lst xs)) (h1 : flatD d = true) (h2 : xs.all flatD = true) (q : Q (.int (xs.countP fun y => eqF y d : Nat)) μ) : WM gCount (.loc n) [d] μ Q := ⟨_, _, by simp only [gCount, h, h1, h2, Bool.and_self, cond_true], q⟩
end
section
variable {φ ψ : FE} {δ : Loc} {μ : Mem} {nx : Loc → Mem → Prop} {rt : D → Mem → Prop} {bk ct : Loc → Mem → Prop} {p q : FS}
end
theorem enumD_range {α : Type} (f : α → D) (xs : List α) (d : α) : enumD (xs.map f) = (List.range xs.length).map fun (k : Nat) => .tup [.int k, f (xs.getD k d)] := by
  refine List.ext_getElem? fun i => ?_
  unfold enumD
  simp only [List.getElem?_map, List.getElem?_zipIdx]
  by_cases h : i < xs.length
  · simp [h]
  · simp [h]
theorem w_isiI {i : Int} {μ : Mem} {Q : D → Mem → Prop} (q : Q (.bl true) μ) : WF (gIsi .int) [.int i, .ty "int"] μ Q := w_isi (c := .int) (t := .int) rfl q
theorem w_isiIB {i : Int} {μ : Mem} {Q : D → Mem → Prop} (q : Q (.bl false) μ) : WF (gIsi .bl) [.int i, .ty "bool"] μ Q := w_isi (c := .bl) (t := .int) rfl q
noncomputable abbrev oiD : Option Int → D
  | none => .non
  | some k => .int k
noncomputable instance : Enc (Option Int) := ⟨oiD, fun | none => .none | some k => .int k, 1, fun _ _ a => by cases a <;> rfl, fun a b => by cases a <;> cases b <;> simp [PyData.eqv]⟩
noncomputable def isNon : D → Bool
  | .non => true
  | _ => false
theorem w_isN {d : D} {μ : Mem} {Q : D → Mem → Prop} (h : flatD d = true) (q : Q (.bl (isNon d)) μ) : W2 gIs d .non μ Q := by
  cases d <;> first | exact ⟨_, _, rfl, q⟩ | cases h
theorem w_isNotN {d : D} {μ : Mem} {Q : D → Mem → Prop} (h : flatD d = true) (q : Q (.bl (!isNon d)) μ) : W2 gIsNot d .non μ Q := by
  cases d <;> first | exact ⟨_, _, rfl, q⟩ | cases h
theorem flat_onD (a : Option Nat) : flatD (onD a) = true := by cases a <;> rfl
noncomputable def cntD (ds : List D) (h : Nat) : Nat := ds.countP fun y => eqF y (.int h)
theorem cntD_on (lay : List (Option Nat)) (h : Nat) : cntD (lay.map onD) h = lay.count (some h) := by
  unfold cntD List.count
  rw [List.countP_map]
  congr 1
  funext a
  have := eqF_on a (some h)
  show eqF (onD a) (onD (some h)) = _
  rw [this]
  exact (Bool.beq_eq_decide_eq a (some h)).symm
theorem w_countOn {n : Nat} {lay : List (Option Nat)} {h : Nat} {μ : Mem} {Q : D → Mem → Prop} (e : μ[n]? = some (.lst (lay.map onD))) (q : Q (.int (lay.count (some h) : Nat)) μ) : WM gCount (.loc n) [.int h] μ Q :=
  w_count e rfl (flat_on lay) (by rw [show (lay.map onD).countP (fun y => eqF y (.int h)) = lay.count (some h) from cntD_on lay h]; exact q)
theorem find_range {n m : Nat} {p : Nat → Bool} (h : p m = true) (hlt : m < n) (hb : ∀ j < m, p j = false) : (List.range n).find? p = some m := by
  rw [List.find?_eq_some_iff_append]
  refine ⟨h, List.range m, (List.range' (m + 1) (n - m - 1)), ?_, fun a ha => by simp [hb a (by simpa using ha)]⟩
  have : List.range n = List.range m ++ List.range' m (n - m) := by
    have e : n = m + (n - m) := by omega
    have := List.range'_append_1 (s := 0) (m := m) (n := n - m)
    rw [← e] at this
    rw [List.range_eq_range', List.range_eq_range', ← this]
    simp
  rw [this, show n - m = (n - m - 1) + 1 by omega, List.range'_succ]
  simp
theorem find_none {n : Nat} {p : Nat → Bool} (h : ∀ j < n, p j = false) : (List.range n).find? p = none := by
  rw [List.find?_eq_none]
  intro x hx
  rw [h x (by simpa using hx)]
  exact Bool.false_ne_true
end M
set_option Elab.async false
set_option linter.all false
set_option maxRecDepth 100000
set_option autoImplicit false
namespace M
open PySem PySem.Spec PyProof.Rows L2
section
variable {φ ψ χ : FE} {g g2 : G2} {δ : Loc} {μ : Mem} {Q : D → Mem → Prop} {i j : Int} {d x y : D} {ds xs : List D} {kvs : List (Int × D)} {n : Nat}
end
end M
set_option Elab.async false
set_option linter.all false
set_option maxRecDepth 100000
set_option autoImplicit false
namespace P
open PySem PySem.Spec PyProof.Rows L2 M
noncomputable def top (i : Nat) : Stmt := PySem.Challenge.pw_keynests_k24_rows_pushed.main.body.getD i (.Pass ⟨0, 0, 0, 0⟩)
noncomputable def kit : Kit := [((none, .own "NoPush"), false), ((none, .ty "ValueError"), false), ((none, .own "Full"), false), ((none, .own "NoFit"), false), ((none, .own "NoKey"), false), ((none, .own "NoPairs"), false), ((none, .own "NoRow"), false), ((none, .own "NoRule"), false), ((none, .own "NoText"), false), ((none, .own "Twice"), false), ((some "NoPush", .own "NoPush"), true), ((some "NoPush", .ty "ValueError"), true), ((some "NoPush", .own "Full"), false), ((some "NoPush", .own "NoFit"), false), ((some "NoPush", .own "NoKey"), false), ((some "NoPush", .own "NoPairs"), false), ((some "NoPush", .own "NoRow"), false), ((some "NoPush", .own "NoRule"), false), ((some "NoPush", .own "NoText"), false), ((some "NoPush", .own "Twice"), false)]
noncomputable def N__law_at : List Str := ["_law_script", "_law_k", "_law_cell", "_law_number"]
noncomputable def p__law_at : FS := (sSeq (sIf (fTest (fBin (gCmp fun i j => decide (i < j)) (fVar 1) (fCall gLen (aCons (fVar 0) aNil)))) (sRet (fBin gIx (fVar 0) (fVar 1))) sSkip) (sSeq (sSet 2 (fC (.int 7))) (sSeq (sIf (fTest (fBin (gCmp fun i j => decide (j < i)) (fCall gLen (aCons (fVar 0) aNil)) (fC (.int 0)))) (sSet 2 (fBin gMod (fBin gIx (fVar 0) (fBin gMod (fVar 1) (fCall gLen (aCons (fVar 0) aNil)))) (fC (.int 2147483629)))) sSkip) (sSeq (sSet 3 (fBin gMod (fBin gAdd (fBin gAdd (fBin gMul (fVar 2) (fC (.int 48271))) (fBin gMul (fVar 1) (fC (.int 104729)))) (fC (.int 11))) (fC (.int 2147483647)))) (sRet (fBin gMod (fBin gMul (fVar 3) (fBin gAdd (fBin gAdd (fBin gMod (fVar 3) (fC (.int 65521))) (fVar 1)) (fC (.int 3)))) (fC (.int 2147483629))))))))
noncomputable def F__law_at : FF := fun ds μ => retOf (p__law_at (startD N__law_at ds) μ)
noncomputable def N__law_pen : List Str := ["_law_script", "_law_k", "_law_cell"]
noncomputable def p__law_pen : FS := (sSeq (sSet 2 (fCall F__law_at (aCons (fVar 0) (aCons (fVar 1) aNil)))) (sSeq (sIf (fTest (fBin gEq (fBin gMod (fVar 2) (fC (.int 2))) (fC (.int 0)))) (sRet (fLst (aCons (fBin gDiv (fVar 2) (fC (.int 2))) (aCons (fC (.int 0)) aNil)))) sSkip) (sRet (fLst (aCons (fBin gMod (fBin gDiv (fVar 2) (fC (.int 2))) (fC (.int 2147483629))) (aCons (fC (.int 1)) aNil))))))
noncomputable def F__law_pen : FF := fun ds μ => retOf (p__law_pen (startD N__law_pen ds) μ)
noncomputable def N__law_take : List Str := ["_law_pen_here", "_law_size", "_law_found"]
noncomputable def p__law_take : FS := (sSeq (sIf (fTest (fBin gEq (fBin gIx (fVar 0) (fC (.int 1))) (fC (.int 0)))) (sSeq (sSet 2 (fBin gMod (fBin gIx (fVar 0) (fC (.int 0))) (fVar 1))) (sSeq (sAsg (fBin gDiv (fBin gIx (fVar 0) (fC (.int 0))) (fVar 1)) (gAt (fVar 0) (fC (.int 0)))) (sRet (fVar 2)))) sSkip) (sSeq (sAsg (fBin gMod (fBin gAdd (fBin gAdd (fBin gMul (fBin gIx (fVar 0) (fC (.int 0))) (fC (.int 48271))) (fC (.int 12345))) (fBin gIx (fVar 0) (fC (.int 1)))) (fC (.int 2147483647))) (gAt (fVar 0) (fC (.int 0)))) (sSeq (sAsg (fBin gAdd (fBin gIx (fVar 0) (fC (.int 1))) (fC (.int 1))) (gAt (fVar 0) (fC (.int 1)))) (sRet (fBin gMod (fBin gMod (fBin gMul (fBin gIx (fVar 0) (fC (.int 0))) (fBin gAdd (fBin gMod (fBin gIx (fVar 0) (fC (.int 0))) (fC (.int 65521))) (fC (.int 7)))) (fC (.int 2147483629))) (fVar 1))))))
noncomputable def F__law_take : FF := fun ds μ => retOf (p__law_take (startD N__law_take ds) μ)
noncomputable def e__law_web_0 : FE := (fCall F__law_take (aCons (fVar 1) (aCons (fVar 2) aNil)))
noncomputable def b__law_web_0 : FS := (sExpr (fMeth gAppend (fVar 6) (aCons (fCall gTuple (aCons (fLC 1 [0, 2] (iRange (aCons (fBin gAdd (fC (.int 2)) (fCall F__law_take (aCons (fVar 0) (aCons (fC (.int 2)) aNil)))) aNil)) (gN 0) cYes e__law_web_0) aNil)) aNil)))
noncomputable def e__law_web_1 : FE := (fCall F__law_take (aCons (fVar 1) (aCons (fVar 2) aNil)))
noncomputable def N__law_web : List Str := ["_law_pen_here", "_law_great", "_law_nests", "_law_many", "_law_widest", "_law_rooms", "_law_keys", "_law_key"]
noncomputable def p__law_web : FS := (sSeq (sSet 2 (fBin gAdd (fC (.int 1)) (fCall F__law_take (aCons (fVar 0) (aCons (fBin gIx (fLst (aCons (fC (.int 6)) (aCons (fC (.int 10)) aNil))) (fVar 1)) aNil))))) (sSeq (sSet 3 (fCall F__law_take (aCons (fVar 0) (aCons (fBin gIx (fLst (aCons (fC (.int 11)) (aCons (fC (.int 31)) aNil))) (fVar 1)) aNil)))) (sSeq (sSet 4 (fBin gIx (fLst (aCons (fC (.int 2)) (aCons (fC (.int 3)) (aCons (fC (.int 10)) aNil)))) (fCall F__law_take (aCons (fVar 0) (aCons (fC (.int 3)) aNil))))) (sSeq (sSet 5 (fCall gTuple (aCons (fLC 1 [0, 4] (iRange (aCons (fVar 2) aNil)) (gN 0) cYes e__law_web_1) aNil))) (sSeq (sSet 6 (fLst aNil)) (sSeq (sFor (iRange (aCons (fVar 3) aNil)) (gN 7) b__law_web_0) (sRet (fTup (aCons (fVar 5) (aCons (fCall gTuple (aCons (fVar 6) aNil)) aNil))))))))))
noncomputable def F__law_web : FF := fun ds μ => retOf (p__law_web (startD N__law_web ds) μ)
noncomputable def N__law_drawn_web : List Str := ["_law_script", "_law_k", "_law_pen_here", "_law_web_here", "_law_rooms"]
noncomputable def p__law_drawn_web : FS := (sSeq (sSet 2 (fCall F__law_pen (aCons (fVar 0) (aCons (fVar 1) aNil)))) (sSeq (sSet 3 (fCall F__law_web (aCons (fVar 2) (aCons (fCall gInt (aCons (fBin gEq (fCall F__law_take (aCons (fVar 2) (aCons (fC (.int 8)) aNil))) (fC (.int 7))) aNil)) aNil)))) (sSeq (sIf (fTest (fBin gNe (fCall F__law_take (aCons (fVar 2) (aCons (fC (.int 8)) aNil))) (fC (.int 5)))) (sRet (fVar 3)) sSkip) (sSeq (sSet 4 (fCall gList (aCons (fBin gIx (fVar 3) (fC (.int 0))) aNil))) (sSeq (sAsg (fBin gIx (fLst (aCons (fC (.int 10)) (aCons (fC (.int 40)) (aCons (fBin gPow (fC (.int 10)) (fC (.int 50))) aNil)))) (fCall F__law_take (aCons (fVar 2) (aCons (fC (.int 3)) aNil)))) (gAt (fVar 4) (fCall F__law_take (aCons (fVar 2) (aCons (fCall gLen (aCons (fVar 4) aNil)) aNil))))) (sRet (fTup (aCons (fCall gTuple (aCons (fVar 4) aNil)) (aCons (fBin gIx (fVar 3) (fC (.int 1))) aNil)))))))))
noncomputable def F__law_drawn_web : FF := fun ds μ => retOf (p__law_drawn_web (startD N__law_drawn_web ds) μ)
noncomputable def b__law_laying_0 : FS := (sSeq (sSet 5 (fBin gIx (fVar 4) (fCall F__law_take (aCons (fVar 0) (aCons (fCall gLen (aCons (fVar 4) aNil)) aNil))))) (sIf (tAndT (fTest (fBin (gCmp fun i j => decide (j < i)) (fBin gIx (fVar 2) (fVar 5)) (fC (.int 0)))) (fTest (fBin (gCmp fun i j => decide (j < i)) (fCall F__law_take (aCons (fVar 0) (aCons (fC (.int 5)) aNil))) (fC (.int 0))))) (sSeq (sAsg (fBin gSub (fBin gIx (fVar 2) (fVar 5)) (fC (.int 1))) (gAt (fVar 2) (fVar 5))) (sExpr (fMeth gAppend (fVar 3) (aCons (fVar 5) aNil)))) (sExpr (fMeth gAppend (fVar 3) (aCons (fC .non) aNil)))))
noncomputable def N__law_laying : List Str := ["_law_pen_here", "_law_web_here", "_law_room", "_law_laying_here", "_law_nests_of", "_law_nest"]
noncomputable def p__law_laying : FS := (sSeq (sSet 2 (fCall gList (aCons (fBin gIx (fVar 1) (fC (.int 0))) aNil))) (sSeq (sSet 3 (fLst aNil)) (sSeq (sFor (iSeq (fBin gIx (fVar 1) (fC (.int 1)))) (gN 4) b__law_laying_0) (sRet (fVar 3)))))
noncomputable def F__law_laying : FF := fun ds μ => retOf (p__law_laying (startD N__law_laying ds) μ)
noncomputable def e__law_case_0 : FE := (fVar 0)
noncomputable def c__law_case_0 : FT := (fTest (fBin gIs (fBin gIx (fVar 1) (fVar 0)) (fC .non)))
noncomputable def N__law_case : List Str := ["_law_script", "_law_k", "_law_web_here", "_law_laying_here", "_law_free"]
noncomputable def p__law_case : FS := (sSeq (sSet 2 (fCall F__law_drawn_web (aCons (fVar 0) (aCons (fVar 1) aNil)))) (sSeq (sSet 3 (fCall F__law_laying (aCons (fCall F__law_pen (aCons (fVar 0) (aCons (fBin gAdd (fVar 1) (fC (.int 1))) aNil))) (aCons (fVar 2) aNil)))) (sSeq (sSet 4 (fLC 1 [3] (iRange (aCons (fCall gLen (aCons (fVar 3) aNil)) aNil)) (gN 0) c__law_case_0 e__law_case_0)) (sSeq (sIf (fTest (fBin gEq (fVar 4) (fLst aNil))) (sRet (fC .non)) sSkip) (sRet (fTup (aCons (fVar 2) (aCons (fVar 3) (aCons (fBin gIx (fVar 4) (fBin gMod (fCall F__law_at (aCons (fVar 0) (aCons (fBin gAdd (fVar 1) (fC (.int 2))) aNil))) (fCall gLen (aCons (fVar 4) aNil)))) aNil)))))))))
noncomputable def F__law_case : FF := fun ds μ => retOf (p__law_case (startD N__law_case ds) μ)
noncomputable def N__law_bent : List Str := ["_law_pen_here", "_law_row_here", "_law_way", "_law_at_here", "_law_one", "_law_nest", "_law_far", "_law_some"]
noncomputable def p__law_bent : FS := (sSeq (sSet 2 (fCall F__law_take (aCons (fVar 0) (aCons (fC (.int 9)) aNil)))) (sSeq (sIf (tOrT (fTest (fBin gEq (fVar 1) (fLst aNil))) (fTest (fBin (gCmp fun i j => decide (i < j)) (fVar 2) (fC (.int 3))))) (sRet (fVar 1)) sSkip) (sSeq (sSet 3 (fCall F__law_take (aCons (fVar 0) (aCons (fCall gLen (aCons (fVar 1) aNil)) aNil)))) (sSeq (sAsg (fBin gIx (fVar 1) (fVar 3)) (gT 2 (gsCons (gN 4) (gsCons (gN 5) gsNil)))) (sSeq (sSet 6 (fBin gIx (fLst (aCons (fBin gSub (fCall F__law_take (aCons (fVar 0) (aCons (fC (.int 32)) aNil))) (fC (.int 1))) (aCons (fBin gAdd (fBin gPow (fC (.int 10)) (fC (.int 50))) (fVar 3)) (aCons (fBin gSub (fNeg (fC (.int 1))) (fCall F__law_take (aCons (fVar 0) (aCons (fC (.int 99)) aNil)))) aNil)))) (fCall F__law_take (aCons (fVar 0) (aCons (fC (.int 3)) aNil))))) (sSeq (sSet 7 (fLst (aCons (fLst (aCons (fTup (aCons (fVar 6) (aCons (fVar 5) aNil))) aNil)) (aCons (fLst (aCons (fTup (aCons (fVar 4) (aCons (fVar 6) aNil))) aNil)) (aCons (fLst aNil) (aCons (fLst (aCons (fBin gIx (fVar 1) (fVar 3)) (aCons (fBin gIx (fVar 1) (fVar 3)) aNil))) (aCons (fLst (aCons (fBin gIx (fVar 1) (fVar 3)) (aCons (fTup (aCons (fVar 4) (aCons (fVar 6) aNil))) aNil))) (aCons (fLst (aCons (fTup (aCons (fVar 5) (aCons (fVar 4) aNil))) aNil)) aNil)))))))) (sRet (fBin gAdd (fBin gAdd (fSl (fVar 1) pNo (pYes (fVar 3))) (fBin gIx (fVar 7) (fBin gSub (fVar 2) (fC (.int 3))))) (fSl (fVar 1) (pYes (fBin gAdd (fVar 3) (fC (.int 1)))) pNo)))))))))
noncomputable def F__law_bent : FF := fun ds μ => retOf (p__law_bent (startD N__law_bent ds) μ)
noncomputable def b__law_behind_0 : FS := (sAsg (fVar 4) (gAt (fVar 2) (fVar 3)))
noncomputable def N__law_behind : List Str := ["_law_laying_here", "_law_row_here", "_law_found", "_law_one", "_law_nest"]
noncomputable def p__law_behind : FS := (sSeq (sSet 2 (fCall gList (aCons (fVar 0) aNil))) (sSeq (sFor (iSeq (fVar 1)) (gT 2 (gsCons (gN 3) (gsCons (gN 4) gsNil))) b__law_behind_0) (sRet (fVar 2))))
noncomputable def F__law_behind : FF := fun ds μ => retOf (p__law_behind (startD N__law_behind ds) μ)
noncomputable def b__law_at_fault_0 : FS := (sIf (fTest (fBin gIsNot (fVar 7) (fC .non))) (sAsg (fBin gSub (fBin gIx (fVar 8) (fVar 7)) (fC (.int 1))) (gAt (fVar 8) (fVar 7))) sSkip)
noncomputable def b__law_at_fault_1 : FS := (sSeq (sAsg (fBin gIx (fVar 3) (fVar 5)) (gT 2 (gsCons (gN 6) (gsCons (gN 7) gsNil)))) (sSeq (sIf (tOrT (fTest (fBin (gCmp fun i j => decide (i < j)) (fVar 6) (fC (.int 0)))) (tOrT (fTest (fBin (gCmp fun i j => decide (j ≤ i)) (fVar 6) (fCall gLen (aCons (fVar 1) aNil)))) (fTest (fBin gIn (fVar 6) (fVar 4))))) (sRet (fVar 5)) sSkip) (sSeq (sIf (tOrT (tAndT (fTest (fBin gEq (fVar 5) (fC (.int 0)))) (fTest (fBin gNe (fVar 6) (fVar 2)))) (tAndT (fTest (fBin (gCmp fun i j => decide (j < i)) (fVar 5) (fC (.int 0)))) (fTest (fBin gNe (fBin gIx (fVar 1) (fVar 6)) (fBin gIx (fBin gIx (fVar 3) (fBin gSub (fVar 5) (fC (.int 1)))) (fC (.int 1))))))) (sRet (fVar 5)) sSkip) (sSeq (sIf (tOrT (fTest (fBin gNotIn (fVar 7) (fBin gIx (fBin gIx (fVar 0) (fC (.int 1))) (fVar 6)))) (fTest (fBin gEq (fVar 7) (fBin gIx (fVar 1) (fVar 6))))) (sRet (fVar 5)) sSkip) (sExpr (fMeth gAppend (fVar 4) (aCons (fVar 6) aNil)))))))
noncomputable def N__law_at_fault : List Str := ["_law_web_here", "_law_laying_here", "_law_key", "_law_row_here", "_law_seen", "_law_at_here", "_law_one", "_law_nest", "_law_room", "_law_behind_here"]
noncomputable def p__law_at_fault : FS := (sSeq (sSet 4 (fLst aNil)) (sSeq (sFor (iRange (aCons (fCall gLen (aCons (fVar 3) aNil)) aNil)) (gN 5) b__law_at_fault_1) (sSeq (sSet 8 (fCall gList (aCons (fBin gIx (fVar 0) (fC (.int 0))) aNil))) (sSeq (sSet 9 (fCall F__law_behind (aCons (fVar 1) (aCons (fVar 3) aNil)))) (sSeq (sFor (iSeq (fVar 9)) (gN 7) b__law_at_fault_0) (sSeq (sIf (tOrT (fTest (fBin gEq (fVar 3) (fLst aNil))) (fTest (fBin (gCmp fun i j => decide (i < j)) (fCall gMin1 (aCons (fVar 8) aNil)) (fC (.int 0))))) (sRet (fCall gLen (aCons (fVar 3) aNil))) sSkip) (sRet (fC .non))))))))
noncomputable def F__law_at_fault : FF := fun ds μ => retOf (p__law_at_fault (startD N__law_at_fault ds) μ)
noncomputable def e_left_0 : FE := (fBin gSub (fVar 1) (fMeth gCount (fVar 2) (aCons (fVar 0) aNil)))
noncomputable def N_left : List Str := ["web", "laying"]
noncomputable def p_left : FS := (sRet (fLC 2 [1] (iEnum (fBin gIx (fVar 0) (fC (.int 0)))) (gT 2 (gsCons (gN 0) (gsCons (gN 1) gsNil))) cYes e_left_0))
noncomputable def F_left : FF := fun ds μ => retOf (p_left (startD N_left ds) μ)
noncomputable def b_fault_0 : FS := (sIf (fTest (fBin (gCmp fun i j => decide (i < j)) (fVar 4) (fC (.int 0)))) (sRet (fTup (aCons (fC (.str "room")) (aCons (fVar 3) aNil)))) sSkip)
noncomputable def b_fault_1 : FS := (sIf (tAndT (fTest (fBin gIsNot (fVar 3) (fC .non))) (fTest (fBin gNotIn (fVar 3) (fBin gIx (fBin gIx (fVar 0) (fC (.int 1))) (fVar 2))))) (sRet (fTup (aCons (fC (.str "home")) (aCons (fVar 2) aNil)))) sSkip)
noncomputable def N_fault : List Str := ["web", "laying", "key", "nest", "room"]
noncomputable def p_fault : FS := (sSeq (sFor (iEnum (fVar 1)) (gT 2 (gsCons (gN 2) (gsCons (gN 3) gsNil))) b_fault_1) (sSeq (sFor (iEnum (fCall F_left (aCons (fVar 0) (aCons (fVar 1) aNil)))) (gT 2 (gsCons (gN 3) (gsCons (gN 4) gsNil))) b_fault_0) (sRet (fC .non))))
noncomputable def F_fault : FF := fun ds μ => retOf (p_fault (startD N_fault ds) μ)
noncomputable def e_is_push_0 : FE := (fBin gIx (fVar 0) (fC (.int 0)))
noncomputable def N_is_push : List Str := ["web", "laying", "row", "at", "key"]
noncomputable def p_is_push : FS := (sSeq (sSet 4 (fBin gIx (fBin gIx (fVar 2) (fVar 3)) (fC (.int 0)))) (sSeq (sIf (tOrT (fTest (fBin (gCmp fun i j => decide (i < j)) (fVar 4) (fC (.int 0)))) (fTest (fBin (gCmp fun i j => decide (j ≤ i)) (fVar 4) (fCall gLen (aCons (fVar 1) aNil))))) (sRet (fC (.bl false))) sSkip) (sSeq (sIf (tOrT (fTest (fBin gNotIn (fBin gIx (fBin gIx (fVar 2) (fVar 3)) (fC (.int 1))) (fBin gIx (fBin gIx (fVar 0) (fC (.int 1))) (fVar 4)))) (fTest (fBin gEq (fBin gIx (fBin gIx (fVar 2) (fVar 3)) (fC (.int 1))) (fBin gIx (fVar 1) (fVar 4))))) (sRet (fC (.bl false))) sSkip) (sRet (fBin gNotIn (fVar 4) (fLC 1 [] (iSeq (fSl (fVar 2) pNo (pYes (fVar 3)))) (gN 0) cYes e_is_push_0))))))
noncomputable def F_is_push : FF := fun ds μ => retOf (p_is_push (startD N_is_push ds) μ)
noncomputable def N_follows : List Str := ["laying", "key", "row", "at"]
noncomputable def p_follows : FS := (sSeq (sIf (fTest (fBin gEq (fVar 3) (fC (.int 0)))) (sRet (fBin gEq (fBin gIx (fBin gIx (fVar 2) (fC (.int 0))) (fC (.int 0))) (fVar 1))) sSkip) (sRet (fBin gEq (fBin gIx (fVar 0) (fBin gIx (fBin gIx (fVar 2) (fVar 3)) (fC (.int 0)))) (fBin gIx (fBin gIx (fVar 2) (fBin gSub (fVar 3) (fC (.int 1)))) (fC (.int 1))))))
noncomputable def F_follows : FF := fun ds μ => retOf (p_follows (startD N_follows ds) μ)
noncomputable def b_pushed_0 : FS := (sSeq (sIf (tNotT (tAndT (fTest (fCall F_is_push (aCons (fVar 0) (aCons (fVar 1) (aCons (fVar 3) (aCons (fVar 5) aNil)))))) (fTest (fCall F_follows (aCons (fVar 1) (aCons (fVar 2) (aCons (fVar 3) (aCons (fVar 5) aNil)))))))) (sRaiseI "NoPush" "at" (aCons (fVar 5) aNil)) sSkip) (sAsg (fBin gIx (fVar 6) (fC (.int 1))) (gAt (fVar 4) (fBin gIx (fVar 6) (fC (.int 0))))))
noncomputable def N_pushed : List Str := ["web", "laying", "key", "row", "behind", "at", "push"]
noncomputable def p_pushed : FS := (sSeq (sSet 4 (fCall gList (aCons (fVar 1) aNil))) (sSeq (sFor (iEnum (fVar 3)) (gT 2 (gsCons (gN 5) (gsCons (gN 6) gsNil))) b_pushed_0) (sSeq (sIf (tOrT (fTest (fBin gEq (fCall gLen (aCons (fVar 3) aNil)) (fC (.int 0)))) (fTest (fBin gIsNot (fCall F_fault (aCons (fVar 0) (aCons (fVar 4) aNil))) (fC .non)))) (sRaiseI "NoPush" "at" (aCons (fCall gLen (aCons (fVar 3) aNil)) aNil)) sSkip) (sRet (fVar 4)))))
noncomputable def F_pushed : FX := fun ds μ => retX (p_pushed (startD N_pushed ds) μ)
noncomputable def N__law_heard : List Str := ["_law_web_here", "_law_laying_here", "_law_key", "_law_row_here", "_law_caught", "_law_found", "e", "_law_others"]
noncomputable def p__law_heard : FS := (sSeq (sSet 4 (fC .non)) (sSeq (sSet 5 (fC .non)) (sSeq (sTry (sSetX 5 F_pushed (aCons (fVar 0) (aCons (fVar 1) (aCons (fVar 2) (aCons (fVar 3) aNil))))) (hAs 6 [("NoPush", true)] (sSet 4 (fVar 6)) hNone)) (sSeq (sIf (fTest (fBin gIs (fVar 4) (fC .non))) (sRet (fTup (aCons (fC (.str "told")) (aCons (fVar 5) aNil)))) sSkip) (sSeq (sSet 7 (fCall (gAsk kit) (aCons (fVar 4) (aCons (fTup (aCons (fC (.own "Full")) (aCons (fC (.own "NoFit")) (aCons (fC (.own "NoKey")) (aCons (fC (.own "NoPairs")) (aCons (fC (.own "NoRow")) (aCons (fC (.own "NoRule")) (aCons (fC (.own "NoText")) (aCons (fC (.own "Twice")) aNil))))))))) aNil)))) (sSeq (sIf (tOrT (tNotT (fTest (fCall (gAsk kit) (aCons (fVar 4) (aCons (fC (.own "NoPush")) aNil))))) (tOrT (tNotT (fTest (fCall (gAsk kit) (aCons (fVar 4) (aCons (fC (.ty "ValueError")) aNil))))) (fTest (fVar 7)))) (sRet (fTup (aCons (fC (.str "other")) (aCons (fC .non) aNil)))) sSkip) (sSeq (sIf (tOrT (tNotT (fTest (fCall (gIsi .int) (aCons (fAt "NoPush" "at" (fVar 4)) (aCons (fC (.ty "int")) aNil))))) (fTest (fCall (gIsi .bl) (aCons (fAt "NoPush" "at" (fVar 4)) (aCons (fC (.ty "bool")) aNil))))) (sRet (fTup (aCons (fC (.str "other")) (aCons (fC .non) aNil)))) sSkip) (sRet (fTup (aCons (fC (.str "refused")) (aCons (fAt "NoPush" "at" (fVar 4)) aNil)))))))))))
noncomputable def F__law_heard : FF := fun ds μ => retOf (p__law_heard (startD N__law_heard ds) μ)
noncomputable def e__law_row_0 : FE := (fVar 0)
noncomputable def e__law_row_1 : FE := (fVar 0)
noncomputable def c__law_row_0 : FT := (fTest (fBin gNotIn (fVar 0) (fLC 2 [] (iSeq (fVar 1)) (gT 2 (gsCons (gN 0) (gsCons (gN 1) gsNil))) cYes e__law_row_0)))
noncomputable def e__law_row_2 : FE := (fVar 0)
noncomputable def c__law_row_1 : FT := (fTest (fBin gEq (fBin gIx (fVar 1) (fVar 0)) (fVar 2)))
noncomputable def b__law_row_0 : FS := (sSeq (sSet 8 (fBin gIx (fBin gIx (fBin gIx (fVar 1) (fC (.int 1))) (fVar 6)) (fCall F__law_take (aCons (fVar 0) (aCons (fCall gLen (aCons (fBin gIx (fBin gIx (fVar 1) (fC (.int 1))) (fVar 6)) aNil)) aNil))))) (sSeq (sExpr (fMeth gAppend (fVar 5) (aCons (fTup (aCons (fVar 6) (aCons (fVar 8) aNil))) aNil))) (sSeq (sSet 9 (fLC 1 [2, 8] (iRange (aCons (fCall gLen (aCons (fVar 2) aNil)) aNil)) (gN 0) c__law_row_1 e__law_row_2)) (sSeq (sIf (tNotT (fTest (fVar 4))) (sSet 9 (fLC 1 [5] (iSeq (fVar 9)) (gN 0) c__law_row_0 e__law_row_1)) sSkip) (sSeq (sIf (fTest (fBin gEq (fVar 9) (fLst aNil))) (sRet (fVar 5)) sSkip) (sSet 6 (fBin gIx (fVar 9) (fCall F__law_take (aCons (fVar 0) (aCons (fCall gLen (aCons (fVar 9) aNil)) aNil))))))))))
noncomputable def N__law_row : List Str := ["_law_pen_here", "_law_web_here", "_law_laying_here", "_law_key", "_law_again", "_law_row_here", "_law_one", "_law_turn", "_law_nest", "_law_there"]
noncomputable def p__law_row : FS := (sSeq (sSet 4 (fBin gEq (fCall F__law_take (aCons (fVar 0) (aCons (fC (.int 3)) aNil))) (fC (.int 0)))) (sSeq (sSet 5 (fLst aNil)) (sSeq (sSet 6 (fVar 3)) (sSeq (sFor (iRange (aCons (fCall F__law_take (aCons (fVar 0) (aCons (fC (.int 14)) aNil))) aNil)) (gN 7) b__law_row_0) (sRet (fVar 5))))))
noncomputable def F__law_row : FF := fun ds μ => retOf (p__law_row (startD N__law_row ds) μ)
noncomputable def b_law_0 : FS := (sSeq (sSet 6 (fCall F__law_pen (aCons (fVar 0) (aCons (fBin gAdd (fC (.int 3)) (fVar 5)) aNil)))) (sSeq (sSet 7 (fCall F__law_bent (aCons (fVar 6) (aCons (fCall F__law_row (aCons (fVar 6) (aCons (fVar 2) (aCons (fVar 3) (aCons (fVar 4) aNil))))) aNil)))) (sSeq (sSet 8 (fCall F__law_at_fault (aCons (fVar 2) (aCons (fVar 3) (aCons (fVar 4) (aCons (fVar 7) aNil)))))) (sSeq (sSet 9 (fTup (aCons (fC (.str "refused")) (aCons (fVar 8) aNil)))) (sSeq (sIf (fTest (fBin gIs (fVar 8) (fC .non))) (sSet 9 (fTup (aCons (fC (.str "told")) (aCons (fCall F__law_behind (aCons (fVar 3) (aCons (fVar 7) aNil))) aNil)))) sSkip) (sSeq (sSet 10 (fTup (aCons (fCall gList (aCons (fVar 3) aNil)) (aCons (fCall gList (aCons (fVar 7) aNil)) aNil)))) (sSeq (sSet 11 (fCall F__law_heard (aCons (fVar 2) (aCons (fBin gIx (fVar 10) (fC (.int 0))) (aCons (fVar 4) (aCons (fBin gIx (fVar 10) (fC (.int 1))) aNil)))))) (sSeq (sIf (tOrT (fTest (fBin gNe (fVar 11) (fVar 9))) (fTest (fBin gNe (fVar 10) (fTup (aCons (fVar 3) (aCons (fVar 7) aNil)))))) (sRet (fC (.bl false))) sSkip) (sIf (fTest (fBin gEq (fBin gIx (fVar 11) (fC (.int 0))) (fC (.str "told")))) (sSeq (sExpr (fMeth0 gClear (fBin gIx (fVar 11) (fC (.int 1))))) (sIf (fTest (fBin gNe (fCall F__law_heard (aCons (fVar 2) (aCons (fBin gIx (fVar 10) (fC (.int 0))) (aCons (fVar 4) (aCons (fBin gIx (fVar 10) (fC (.int 1))) aNil))))) (fVar 9))) (sRet (fC (.bl false))) sSkip)) sSkip)))))))))
noncomputable def N_law : List Str := ["_law_script", "_law_case_here", "_law_web_here", "_law_laying_here", "_law_key", "_law_k", "_law_pen_here", "_law_row_here", "_law_at_here", "_law_due", "_law_handed", "_law_found"]
noncomputable def p_law : FS := (sSeq (sSet 1 (fCall F__law_case (aCons (fVar 0) (aCons (fC (.int 0)) aNil)))) (sSeq (sIf (fTest (fBin gIs (fVar 1) (fC .non))) (sRet (fC (.bl true))) sSkip) (sSeq (sAsg (fVar 1) (gT 3 (gsCons (gN 2) (gsCons (gN 3) (gsCons (gN 4) gsNil))))) (sSeq (sFor (iRange (aCons (fC (.int 6)) aNil)) (gN 5) b_law_0) (sRet (fC (.bl true)))))))
noncomputable def F_law : FF := fun ds μ => retOf (p_law (startD N_law ds) μ)
structure Txt (K : PySem.W.Frag) (mg : Str → Option Value) : Prop where
  x_NoPush : ∃ C, PySem.W.nsIn K mainGlobals "NoPush" = some (some (.ref C)) ∧ mg "NoPush" = some (.ref C) ∧ PySem.W.ktsIn K C "BaseException" = true
  x_NestError : ∃ C, PySem.W.nsIn K mainGlobals "NestError" = some (some (.ref C)) ∧ mg "NestError" = some (.ref C) ∧ PySem.W.ktsIn K C "BaseException" = true
  x_Twice : ∃ C, PySem.W.nsIn K mainGlobals "Twice" = some (some (.ref C)) ∧ mg "Twice" = some (.ref C) ∧ PySem.W.ktsIn K C "BaseException" = true
  x_NoText : ∃ C, PySem.W.nsIn K mainGlobals "NoText" = some (some (.ref C)) ∧ mg "NoText" = some (.ref C) ∧ PySem.W.ktsIn K C "BaseException" = true
  x_NoRule : ∃ C, PySem.W.nsIn K mainGlobals "NoRule" = some (some (.ref C)) ∧ mg "NoRule" = some (.ref C) ∧ PySem.W.ktsIn K C "BaseException" = true
  x_NoRow : ∃ C, PySem.W.nsIn K mainGlobals "NoRow" = some (some (.ref C)) ∧ mg "NoRow" = some (.ref C) ∧ PySem.W.ktsIn K C "BaseException" = true
  x_NoPairs : ∃ C, PySem.W.nsIn K mainGlobals "NoPairs" = some (some (.ref C)) ∧ mg "NoPairs" = some (.ref C) ∧ PySem.W.ktsIn K C "BaseException" = true
  x_NoKey : ∃ C, PySem.W.nsIn K mainGlobals "NoKey" = some (some (.ref C)) ∧ mg "NoKey" = some (.ref C) ∧ PySem.W.ktsIn K C "BaseException" = true
  x_NoFit : ∃ C, PySem.W.nsIn K mainGlobals "NoFit" = some (some (.ref C)) ∧ mg "NoFit" = some (.ref C) ∧ PySem.W.ktsIn K C "BaseException" = true
  x_Full : ∃ C, PySem.W.nsIn K mainGlobals "Full" = some (some (.ref C)) ∧ mg "Full" = some (.ref C) ∧ PySem.W.ktsIn K C "BaseException" = true
  s_NestError : ∀ C, PySem.W.nsIn K mainGlobals "NestError" = some (some (.ref C)) → Subs K C [("NoPush", true)]
  kit : KitOk K kit
  a_NoPush : AtC K "NoPush" "at"
  n_ValueError : mg "ValueError" = none
  n_bool : mg "bool" = none
  n_enumerate : mg "enumerate" = none
  n_int : mg "int" = none
  n_isinstance : mg "isinstance" = none
  n_len : mg "len" = none
  n_list : mg "list" = none
  n_min : mg "min" = none
  n_range : mg "range" = none
  n_tuple : mg "tuple" = none
theorem bb_ValueError : bootBuiltins "ValueError" = some (.type "ValueError") := by decide +kernel
theorem bb_bool : bootBuiltins "bool" = some (.type "bool") := by decide +kernel
theorem bb_enumerate : bootBuiltins "enumerate" = some (.type "enumerate") := by decide +kernel
theorem bb_int : bootBuiltins "int" = some (.type "int") := by decide +kernel
theorem bb_isinstance : bootBuiltins "isinstance" = some (.builtin "isinstance") := by decide +kernel
theorem bb_len : bootBuiltins "len" = some (.builtin "len") := by decide +kernel
theorem bb_list : bootBuiltins "list" = some (.type "list") := by decide +kernel
theorem bb_min : bootBuiltins "min" = some (.builtin "min") := by decide +kernel
theorem bb_tuple : bootBuiltins "tuple" = some (.type "tuple") := by decide +kernel
section
variable {P : Program} {w : World} {K : PySem.W.Frag} {mg : Str → Option Value} {base : Heap}
set_option maxHeartbeats 4000000
noncomputable abbrev s_init_NoPush : Stmt := clsFn (top 9)
noncomputable abbrev ps_init_NoPush : List Str := ["self", "at"]
theorem sc_init_NoPush : FnScope ps_init_NoPush ps_init_NoPush (defScope s_init_NoPush) := ⟨rfl, rfl, rfl, by decide +kernel, rfl, by decide +kernel, by decide +kernel⟩
theorem okf_init_NoPush {C NE fI : Addr} {fd : FuncData} (B : IniAt K mg "NoPush" "at" "NoPush.__init__" s_init_NoPush ps_init_NoPush C NE fI fd) : FnOk P w K mg base CX0 1 fI fd ps_init_NoPush (spI C "at") := by
  refine B.fn.ok (k := 0) sc_init_NoPush (fun vs H Q E ⟨e, n, h, _⟩ => by rw [h]; rfl) (fun cdv A outer s H vs Q E hr ⟨e, n, hv, hlog, he, hq⟩ => ⟨_, pss_cons (ps_expr (pe_base B.ex B.ne (pa_cons (pv 0) (pa_cons (pe_fstr (pv 1)) pa_nil)))) (pss_one (ps_storeX B.ex (pv 0) (pv 1))), ?_⟩)
  subst hv
  exact ⟨_, rfl, _, rfl, n, rfl, hlog, fun y => ⟨e, _, rfl, he, _, rfl, _, rfl, e, rfl, he, fun p hp hpe => hq p hp hpe⟩⟩
noncomputable abbrev s__law_at : Stmt := top 19
noncomputable abbrev ps__law_at : List Str := ["_law_script", "_law_k"]
theorem sc__law_at : FnScope N__law_at ps__law_at (defScope s__law_at) := ⟨rfl, rfl, rfl, by decide +kernel, rfl, by decide +kernel, by decide +kernel⟩
theorem okf__law_at (T : Txt K mg) {f : Addr} {fd : FuncData} (B : FnAt K mg "_law_at" s__law_at ps__law_at f fd) : FnOk P w K mg base CX0 1 f fd ps__law_at (spM K 2 F__law_at) := by
  refine fnM B.fn sc__law_at rfl (fun cdv A outer s H E hr => ⟨p__law_at, ?_, fun _ _ _ _ _ e => e⟩)
  have hu := hr.units
  exact (mss_cons (ms_if (mt_cmp opM_lt (mv 1) (me_callB callM_len T.n_len bb_len (man_cons (mv 0) man_nil))) (mss_one (ms_ret (me_ix (mv 0) (mv 1)))) mss_nil) (mss_cons (ms_set 2 me_int (hN := sc__law_at.nd)) (mss_cons (ms_if (mt_cmp opM_gt (me_callB callM_len T.n_len bb_len (man_cons (mv 0) man_nil)) me_int) (mss_one (ms_set 2 (me_op opM_mod (me_ix (mv 0) (me_op opM_mod (mv 1) (me_callB callM_len T.n_len bb_len (man_cons (mv 0) man_nil)))) me_int) (hN := sc__law_at.nd))) mss_nil) (mss_cons (ms_set 3 (me_op opM_mod (me_op opM_add (me_op opM_add (me_op opM_mul (mv 2) me_int) (me_op opM_mul (mv 1) me_int)) me_int) me_int) (hN := sc__law_at.nd)) (mss_one (ms_ret (me_op opM_mod (me_op opM_mul (mv 3) (me_op opM_add (me_op opM_add (me_op opM_mod (mv 3) me_int) (mv 1)) me_int)) me_int)))))))
noncomputable abbrev s__law_pen : Stmt := top 20
noncomputable abbrev ps__law_pen : List Str := ["_law_script", "_law_k"]
theorem sc__law_pen : FnScope N__law_pen ps__law_pen (defScope s__law_pen) := ⟨rfl, rfl, rfl, by decide +kernel, rfl, by decide +kernel, by decide +kernel⟩
theorem okf__law_pen (T : Txt K mg) {f__law_at : Addr} {fd__law_at : FuncData} (B__law_at : FnAt K mg "_law_at" s__law_at ps__law_at f__law_at fd__law_at) (ok__law_at : FnOk P w K mg base CX0 1 f__law_at fd__law_at ps__law_at (spM K 2 F__law_at)) {f : Addr} {fd : FuncData} (B : FnAt K mg "_law_pen" s__law_pen ps__law_pen f fd) : FnOk P w K mg base CX0 2 f fd ps__law_pen (spM K 2 F__law_pen) := by
  refine fnM B.fn sc__law_pen rfl (fun cdv A outer s H E hr => ⟨p__law_pen, ?_, fun _ _ _ _ _ e => e⟩)
  have hu := hr.units
  exact (mss_cons (ms_set 2 (mcall B__law_at ok__law_at hr (man_cons (mv 0) (man_cons (mv 1) man_nil))) (hN := sc__law_pen.nd)) (mss_cons (ms_if (mt_cmp (opM_eq hu) (me_op opM_mod (mv 2) me_int) me_int) (mss_one (ms_ret (me_lst (man_cons (me_op opM_div (mv 2) me_int) (man_cons me_int man_nil))))) mss_nil) (mss_one (ms_ret (me_lst (man_cons (me_op opM_mod (me_op opM_div (mv 2) me_int) me_int) (man_cons me_int man_nil)))))))
noncomputable abbrev s__law_take : Stmt := top 21
noncomputable abbrev ps__law_take : List Str := ["_law_pen_here", "_law_size"]
theorem sc__law_take : FnScope N__law_take ps__law_take (defScope s__law_take) := ⟨rfl, rfl, rfl, by decide +kernel, rfl, by decide +kernel, by decide +kernel⟩
theorem okf__law_take (T : Txt K mg) {f : Addr} {fd : FuncData} (B : FnAt K mg "_law_take" s__law_take ps__law_take f fd) : FnOk P w K mg base CX0 1 f fd ps__law_take (spM K 2 F__law_take) := by
  refine fnM B.fn sc__law_take rfl (fun cdv A outer s H E hr => ⟨p__law_take, ?_, fun _ _ _ _ _ e => e⟩)
  have hu := hr.units
  exact (mss_cons (ms_if (mt_cmp (opM_eq hu) (me_ix (mv 0) me_int) me_int) (mss_cons (ms_set 2 (me_op opM_mod (me_ix (mv 0) me_int) (mv 1)) (hN := sc__law_take.nd)) (mss_cons (ms_asg (me_op opM_div (me_ix (mv 0) me_int) (mv 1)) (mg_at (mv 0) me_int)) (mss_one (ms_ret (mv 2))))) mss_nil) (mss_cons (ms_asg (me_op opM_mod (me_op opM_add (me_op opM_add (me_op opM_mul (me_ix (mv 0) me_int) me_int) me_int) (me_ix (mv 0) me_int)) me_int) (mg_at (mv 0) me_int)) (mss_cons (ms_asg (me_op opM_add (me_ix (mv 0) me_int) me_int) (mg_at (mv 0) me_int)) (mss_one (ms_ret (me_op opM_mod (me_op opM_mod (me_op opM_mul (me_ix (mv 0) me_int) (me_op opM_add (me_op opM_mod (me_ix (mv 0) me_int) me_int) me_int)) me_int) (mv 1)))))))
noncomputable abbrev s__law_web : Stmt := top 22
noncomputable abbrev ps__law_web : List Str := ["_law_pen_here", "_law_great"]
theorem sc__law_web : FnScope N__law_web ps__law_web (defScope s__law_web) := ⟨rfl, rfl, rfl, by decide +kernel, rfl, by decide +kernel, by decide +kernel⟩
theorem okf__law_web (T : Txt K mg) {f__law_take : Addr} {fd__law_take : FuncData} (B__law_take : FnAt K mg "_law_take" s__law_take ps__law_take f__law_take fd__law_take) (ok__law_take : FnOk P w K mg base CX0 1 f__law_take fd__law_take ps__law_take (spM K 2 F__law_take)) {f : Addr} {fd : FuncData} (B : FnAt K mg "_law_web" s__law_web ps__law_web f fd) : FnOk P w K mg base CX0 2 f fd ps__law_web (spM K 2 F__law_web) := by
  refine fnM B.fn sc__law_web rfl (fun cdv A outer s H E hr => ⟨p__law_web, ?_, fun _ _ _ _ _ e => e⟩)
  have hu := hr.units
  exact (mss_cons (ms_set 2 (me_op opM_add me_int (mcall B__law_take ok__law_take hr (man_cons (mv 0) (man_cons (me_ix (me_lst (man_cons me_int (man_cons me_int man_nil))) (mv 1)) man_nil)))) (hN := sc__law_web.nd)) (mss_cons (ms_set 3 (mcall B__law_take ok__law_take hr (man_cons (mv 0) (man_cons (me_ix (me_lst (man_cons me_int (man_cons me_int man_nil))) (mv 1)) man_nil))) (hN := sc__law_web.nd)) (mss_cons (ms_set 4 (me_ix (me_lst (man_cons me_int (man_cons me_int (man_cons me_int man_nil)))) (mcall B__law_take ok__law_take hr (man_cons (mv 0) (man_cons me_int man_nil)))) (hN := sc__law_web.nd)) (mss_cons (ms_set 5 (me_callT callM_tuple T.n_tuple bb_tuple (man_cons (mlc ["_law_nest"] [0, 4] (mi_range T.n_range (man_cons (mv 2) man_nil)) (fun _ _ _ _ _ => (mgc_name 0 (hN := nodup_of (by rfl)))) (fun _ _ _ _ _ => mf_nil) (fun _ _ _ _ _ => (mcall B__law_take ok__law_take hr (man_cons (mv 1) (man_cons (mv 2) man_nil)))) (fr_cons ⟨_, rfl, rfl⟩ (fr_cons ⟨_, rfl, rfl⟩ fr_nil))) man_nil)) (hN := sc__law_web.nd)) (mss_cons (ms_set 6 (me_lst man_nil) (hN := sc__law_web.nd)) (mss_cons (ms_for (mi_range T.n_range (man_cons (mv 3) man_nil)) (mg_name 7 (hN := sc__law_web.nd)) (mss_one (ms_expr (me_append (mv 6) (man_cons (me_callT callM_tuple T.n_tuple bb_tuple (man_cons (mlc ["_law_way"] [0, 2] (mi_range T.n_range (man_cons (me_op opM_add me_int (mcall B__law_take ok__law_take hr (man_cons (mv 0) (man_cons me_int man_nil)))) man_nil)) (fun _ _ _ _ _ => (mgc_name 0 (hN := nodup_of (by rfl)))) (fun _ _ _ _ _ => mf_nil) (fun _ _ _ _ _ => (mcall B__law_take ok__law_take hr (man_cons (mv 1) (man_cons (mv 2) man_nil)))) (fr_cons ⟨_, rfl, rfl⟩ (fr_cons ⟨_, rfl, rfl⟩ fr_nil))) man_nil)) man_nil))))) (mss_one (ms_ret (me_tup (man_cons (mv 5) (man_cons (me_callT callM_tuple T.n_tuple bb_tuple (man_cons (mv 6) man_nil)) man_nil)))))))))))
noncomputable abbrev s__law_drawn_web : Stmt := top 23
noncomputable abbrev ps__law_drawn_web : List Str := ["_law_script", "_law_k"]
theorem sc__law_drawn_web : FnScope N__law_drawn_web ps__law_drawn_web (defScope s__law_drawn_web) := ⟨rfl, rfl, rfl, by decide +kernel, rfl, by decide +kernel, by decide +kernel⟩
theorem okf__law_drawn_web (T : Txt K mg) {f__law_pen : Addr} {fd__law_pen : FuncData} (B__law_pen : FnAt K mg "_law_pen" s__law_pen ps__law_pen f__law_pen fd__law_pen) (ok__law_pen : FnOk P w K mg base CX0 2 f__law_pen fd__law_pen ps__law_pen (spM K 2 F__law_pen)) {f__law_web : Addr} {fd__law_web : FuncData} (B__law_web : FnAt K mg "_law_web" s__law_web ps__law_web f__law_web fd__law_web) (ok__law_web : FnOk P w K mg base CX0 2 f__law_web fd__law_web ps__law_web (spM K 2 F__law_web)) {f__law_take : Addr} {fd__law_take : FuncData} (B__law_take : FnAt K mg "_law_take" s__law_take ps__law_take f__law_take fd__law_take) (ok__law_take : FnOk P w K mg base CX0 1 f__law_take fd__law_take ps__law_take (spM K 2 F__law_take)) {f : Addr} {fd : FuncData} (B : FnAt K mg "_law_drawn_web" s__law_drawn_web ps__law_drawn_web f fd) : FnOk P w K mg base CX0 3 f fd ps__law_drawn_web (spM K 2 F__law_drawn_web) := by
  refine fnM B.fn sc__law_drawn_web rfl (fun cdv A outer s H E hr => ⟨p__law_drawn_web, ?_, fun _ _ _ _ _ e => e⟩)
  have hu := hr.units
  exact (mss_cons (ms_set 2 (mcall B__law_pen ok__law_pen hr (man_cons (mv 0) (man_cons (mv 1) man_nil))) (hN := sc__law_drawn_web.nd)) (mss_cons (ms_set 3 (mcall B__law_web ok__law_web hr (man_cons (mv 2) (man_cons (me_callT callM_int T.n_int bb_int (man_cons (me_cmp (opM_eq hu) (mcall B__law_take ok__law_take hr (man_cons (mv 2) (man_cons me_int man_nil))) me_int) man_nil)) man_nil))) (hN := sc__law_drawn_web.nd)) (mss_cons (ms_if (mt_cmp (opM_ne hu) (mcall B__law_take ok__law_take hr (man_cons (mv 2) (man_cons me_int man_nil))) me_int) (mss_one (ms_ret (mv 3))) mss_nil) (mss_cons (ms_set 4 (me_callT callM_list T.n_list bb_list (man_cons (me_ix (mv 3) me_int) man_nil)) (hN := sc__law_drawn_web.nd)) (mss_cons (ms_asg (me_ix (me_lst (man_cons me_int (man_cons me_int (man_cons (me_op opM_pow me_int me_int) man_nil)))) (mcall B__law_take ok__law_take hr (man_cons (mv 2) (man_cons me_int man_nil)))) (mg_at (mv 4) (mcall B__law_take ok__law_take hr (man_cons (mv 2) (man_cons (me_callB callM_len T.n_len bb_len (man_cons (mv 4) man_nil)) man_nil))))) (mss_one (ms_ret (me_tup (man_cons (me_callT callM_tuple T.n_tuple bb_tuple (man_cons (mv 4) man_nil)) (man_cons (me_ix (mv 3) me_int) man_nil))))))))))
noncomputable abbrev s__law_laying : Stmt := top 24
noncomputable abbrev ps__law_laying : List Str := ["_law_pen_here", "_law_web_here"]
theorem sc__law_laying : FnScope N__law_laying ps__law_laying (defScope s__law_laying) := ⟨rfl, rfl, rfl, by decide +kernel, rfl, by decide +kernel, by decide +kernel⟩
theorem okf__law_laying (T : Txt K mg) {f__law_take : Addr} {fd__law_take : FuncData} (B__law_take : FnAt K mg "_law_take" s__law_take ps__law_take f__law_take fd__law_take) (ok__law_take : FnOk P w K mg base CX0 1 f__law_take fd__law_take ps__law_take (spM K 2 F__law_take)) {f : Addr} {fd : FuncData} (B : FnAt K mg "_law_laying" s__law_laying ps__law_laying f fd) : FnOk P w K mg base CX0 2 f fd ps__law_laying (spM K 2 F__law_laying) := by
  refine fnM B.fn sc__law_laying rfl (fun cdv A outer s H E hr => ⟨p__law_laying, ?_, fun _ _ _ _ _ e => e⟩)
  have hu := hr.units
  exact (mss_cons (ms_set 2 (me_callT callM_list T.n_list bb_list (man_cons (me_ix (mv 1) me_int) man_nil)) (hN := sc__law_laying.nd)) (mss_cons (ms_set 3 (me_lst man_nil) (hN := sc__law_laying.nd)) (mss_cons (ms_for (mi_seq (me_ix (mv 1) me_int)) (mg_name 4 (hN := sc__law_laying.nd)) (mss_cons (ms_set 5 (me_ix (mv 4) (mcall B__law_take ok__law_take hr (man_cons (mv 0) (man_cons (me_callB callM_len T.n_len bb_len (man_cons (mv 4) man_nil)) man_nil)))) (hN := sc__law_laying.nd)) (mss_one (ms_if (MW.mt (mw_and (mt_cmp opM_gt (me_ix (mv 2) (mv 5)) me_int) (mw_and1 (mt_cmp opM_gt (mcall B__law_take ok__law_take hr (man_cons (mv 0) (man_cons me_int man_nil))) me_int)))) (mss_cons (ms_asg (me_op opM_sub (me_ix (mv 2) (mv 5)) me_int) (mg_at (mv 2) (mv 5))) (mss_one (ms_expr (me_append (mv 3) (man_cons (mv 5) man_nil))))) (mss_one (ms_expr (me_append (mv 3) (man_cons me_non man_nil)))))))) (mss_one (ms_ret (mv 3))))))
noncomputable abbrev s__law_case : Stmt := top 25
noncomputable abbrev ps__law_case : List Str := ["_law_script", "_law_k"]
theorem sc__law_case : FnScope N__law_case ps__law_case (defScope s__law_case) := ⟨rfl, rfl, rfl, by decide +kernel, rfl, by decide +kernel, by decide +kernel⟩
theorem okf__law_case (T : Txt K mg) {f__law_drawn_web : Addr} {fd__law_drawn_web : FuncData} (B__law_drawn_web : FnAt K mg "_law_drawn_web" s__law_drawn_web ps__law_drawn_web f__law_drawn_web fd__law_drawn_web) (ok__law_drawn_web : FnOk P w K mg base CX0 3 f__law_drawn_web fd__law_drawn_web ps__law_drawn_web (spM K 2 F__law_drawn_web)) {f__law_laying : Addr} {fd__law_laying : FuncData} (B__law_laying : FnAt K mg "_law_laying" s__law_laying ps__law_laying f__law_laying fd__law_laying) (ok__law_laying : FnOk P w K mg base CX0 2 f__law_laying fd__law_laying ps__law_laying (spM K 2 F__law_laying)) {f__law_pen : Addr} {fd__law_pen : FuncData} (B__law_pen : FnAt K mg "_law_pen" s__law_pen ps__law_pen f__law_pen fd__law_pen) (ok__law_pen : FnOk P w K mg base CX0 2 f__law_pen fd__law_pen ps__law_pen (spM K 2 F__law_pen)) {f__law_at : Addr} {fd__law_at : FuncData} (B__law_at : FnAt K mg "_law_at" s__law_at ps__law_at f__law_at fd__law_at) (ok__law_at : FnOk P w K mg base CX0 1 f__law_at fd__law_at ps__law_at (spM K 2 F__law_at)) {f : Addr} {fd : FuncData} (B : FnAt K mg "_law_case" s__law_case ps__law_case f fd) : FnOk P w K mg base CX0 4 f fd ps__law_case (spM K 2 F__law_case) := by
  refine fnM B.fn sc__law_case rfl (fun cdv A outer s H E hr => ⟨p__law_case, ?_, fun _ _ _ _ _ e => e⟩)
  have hu := hr.units
  exact (mss_cons (ms_set 2 (mcall B__law_drawn_web ok__law_drawn_web hr (man_cons (mv 0) (man_cons (mv 1) man_nil))) (hN := sc__law_case.nd)) (mss_cons (ms_set 3 (mcall B__law_laying ok__law_laying hr (man_cons (mcall B__law_pen ok__law_pen hr (man_cons (mv 0) (man_cons (me_op opM_add (mv 1) me_int) man_nil))) (man_cons (mv 2) man_nil))) (hN := sc__law_case.nd)) (mss_cons (mslc 4 ["_law_key"] [3] (mi_range T.n_range (man_cons (me_callB callM_len T.n_len bb_len (man_cons (mv 3) man_nil)) man_nil)) (fun _ _ _ _ _ => (mgc_name 0 (hN := nodup_of (by rfl)))) (fun _ _ _ _ _ => (mf_one (mt_cmp opM_is (me_ix (mv 1) (mv 0)) me_non))) (fun _ _ _ _ _ => (mv 0)) (fr_cons ⟨_, rfl, rfl⟩ fr_nil) sc__law_case.nd) (mss_cons (ms_if (mt_cmp (opM_eq hu) (mv 4) (me_lst man_nil)) (mss_one (ms_ret me_non)) mss_nil) (mss_one (ms_ret (me_tup (man_cons (mv 2) (man_cons (mv 3) (man_cons (me_ix (mv 4) (me_op opM_mod (mcall B__law_at ok__law_at hr (man_cons (mv 0) (man_cons (me_op opM_add (mv 1) me_int) man_nil))) (me_callB callM_len T.n_len bb_len (man_cons (mv 4) man_nil)))) man_nil))))))))))
noncomputable abbrev s__law_bent : Stmt := top 29
noncomputable abbrev ps__law_bent : List Str := ["_law_pen_here", "_law_row_here"]
theorem sc__law_bent : FnScope N__law_bent ps__law_bent (defScope s__law_bent) := ⟨rfl, rfl, rfl, by decide +kernel, rfl, by decide +kernel, by decide +kernel⟩
theorem okf__law_bent (T : Txt K mg) {f__law_take : Addr} {fd__law_take : FuncData} (B__law_take : FnAt K mg "_law_take" s__law_take ps__law_take f__law_take fd__law_take) (ok__law_take : FnOk P w K mg base CX0 1 f__law_take fd__law_take ps__law_take (spM K 2 F__law_take)) {f : Addr} {fd : FuncData} (B : FnAt K mg "_law_bent" s__law_bent ps__law_bent f fd) : FnOk P w K mg base CX0 2 f fd ps__law_bent (spM K 2 F__law_bent) := by
  refine fnM B.fn sc__law_bent rfl (fun cdv A outer s H E hr => ⟨p__law_bent, ?_, fun _ _ _ _ _ e => e⟩)
  have hu := hr.units
  exact (mss_cons (ms_set 2 (mcall B__law_take ok__law_take hr (man_cons (mv 0) (man_cons me_int man_nil))) (hN := sc__law_bent.nd)) (mss_cons (ms_if (MW.mt (mw_or (mt_cmp (opM_eq hu) (mv 1) (me_lst man_nil)) (mw_or1 (mt_cmp opM_lt (mv 2) me_int)))) (mss_one (ms_ret (mv 1))) mss_nil) (mss_cons (ms_set 3 (mcall B__law_take ok__law_take hr (man_cons (mv 0) (man_cons (me_callB callM_len T.n_len bb_len (man_cons (mv 1) man_nil)) man_nil))) (hN := sc__law_bent.nd)) (mss_cons (ms_asg (me_ix (mv 1) (mv 3)) (mg_tup (mgs_cons (mg_name 4 (hN := sc__law_bent.nd)) (mgs_cons (mg_name 5 (hN := sc__law_bent.nd)) mgs_nil)))) (mss_cons (ms_set 6 (me_ix (me_lst (man_cons (me_op opM_sub (mcall B__law_take ok__law_take hr (man_cons (mv 0) (man_cons me_int man_nil))) me_int) (man_cons (me_op opM_add (me_op opM_pow me_int me_int) (mv 3)) (man_cons (me_op opM_sub (me_neg me_int) (mcall B__law_take ok__law_take hr (man_cons (mv 0) (man_cons me_int man_nil)))) man_nil)))) (mcall B__law_take ok__law_take hr (man_cons (mv 0) (man_cons me_int man_nil)))) (hN := sc__law_bent.nd)) (mss_cons (ms_set 7 (me_lst (man_cons (me_lst (man_cons (me_tup (man_cons (mv 6) (man_cons (mv 5) man_nil))) man_nil)) (man_cons (me_lst (man_cons (me_tup (man_cons (mv 4) (man_cons (mv 6) man_nil))) man_nil)) (man_cons (me_lst man_nil) (man_cons (me_lst (man_cons (me_ix (mv 1) (mv 3)) (man_cons (me_ix (mv 1) (mv 3)) man_nil))) (man_cons (me_lst (man_cons (me_ix (mv 1) (mv 3)) (man_cons (me_tup (man_cons (mv 4) (man_cons (mv 6) man_nil))) man_nil))) (man_cons (me_lst (man_cons (me_tup (man_cons (mv 5) (man_cons (mv 4) man_nil))) man_nil)) man_nil))))))) (hN := sc__law_bent.nd)) (mss_one (ms_ret (me_op opM_add (me_op opM_add (me_sl (mv 1) mp_no (mp_yes (mv 3))) (me_ix (mv 7) (me_op opM_sub (mv 2) me_int))) (me_sl (mv 1) (mp_yes (me_op opM_add (mv 3) me_int)) mp_no))))))))))
noncomputable abbrev s__law_behind : Stmt := top 27
noncomputable abbrev ps__law_behind : List Str := ["_law_laying_here", "_law_row_here"]
theorem sc__law_behind : FnScope N__law_behind ps__law_behind (defScope s__law_behind) := ⟨rfl, rfl, rfl, by decide +kernel, rfl, by decide +kernel, by decide +kernel⟩
theorem okf__law_behind (T : Txt K mg) {f : Addr} {fd : FuncData} (B : FnAt K mg "_law_behind" s__law_behind ps__law_behind f fd) : FnOk P w K mg base CX0 1 f fd ps__law_behind (spM K 2 F__law_behind) := by
  refine fnM B.fn sc__law_behind rfl (fun cdv A outer s H E hr => ⟨p__law_behind, ?_, fun _ _ _ _ _ e => e⟩)
  have hu := hr.units
  exact (mss_cons (ms_set 2 (me_callT callM_list T.n_list bb_list (man_cons (mv 0) man_nil)) (hN := sc__law_behind.nd)) (mss_cons (ms_for (mi_seq (mv 1)) (mg_tup (mgs_cons (mg_name 3 (hN := sc__law_behind.nd)) (mgs_cons (mg_name 4 (hN := sc__law_behind.nd)) mgs_nil))) (mss_one (ms_asg (mv 4) (mg_at (mv 2) (mv 3))))) (mss_one (ms_ret (mv 2)))))
noncomputable abbrev s__law_at_fault : Stmt := top 26
noncomputable abbrev ps__law_at_fault : List Str := ["_law_web_here", "_law_laying_here", "_law_key", "_law_row_here"]
theorem sc__law_at_fault : FnScope N__law_at_fault ps__law_at_fault (defScope s__law_at_fault) := ⟨rfl, rfl, rfl, by decide +kernel, rfl, by decide +kernel, by decide +kernel⟩
theorem okf__law_at_fault (T : Txt K mg) {f__law_behind : Addr} {fd__law_behind : FuncData} (B__law_behind : FnAt K mg "_law_behind" s__law_behind ps__law_behind f__law_behind fd__law_behind) (ok__law_behind : FnOk P w K mg base CX0 1 f__law_behind fd__law_behind ps__law_behind (spM K 2 F__law_behind)) {f : Addr} {fd : FuncData} (B : FnAt K mg "_law_at_fault" s__law_at_fault ps__law_at_fault f fd) : FnOk P w K mg base CX0 2 f fd ps__law_at_fault (spM K 4 F__law_at_fault) := by
  refine fnM B.fn sc__law_at_fault rfl (fun cdv A outer s H E hr => ⟨p__law_at_fault, ?_, fun _ _ _ _ _ e => e⟩)
  have hu := hr.units
  exact (mss_cons (ms_set 4 (me_lst man_nil) (hN := sc__law_at_fault.nd)) (mss_cons (ms_for (mi_range T.n_range (man_cons (me_callB callM_len T.n_len bb_len (man_cons (mv 3) man_nil)) man_nil)) (mg_name 5 (hN := sc__law_at_fault.nd)) (mss_cons (ms_asg (me_ix (mv 3) (mv 5)) (mg_tup (mgs_cons (mg_name 6 (hN := sc__law_at_fault.nd)) (mgs_cons (mg_name 7 (hN := sc__law_at_fault.nd)) mgs_nil)))) (mss_cons (ms_if (MW.mt (mw_or (mt_cmp opM_lt (mv 6) me_int) (mw_or (mt_cmp opM_ge (mv 6) (me_callB callM_len T.n_len bb_len (man_cons (mv 1) man_nil))) (mw_or1 (mt_cmp opM_in (mv 6) (mv 4)))))) (mss_one (ms_ret (mv 5))) mss_nil) (mss_cons (ms_if (MW.mt (mw_or (MW.mt (mw_and (mt_cmp (opM_eq hu) (mv 5) me_int) (mw_and1 (mt_cmp (opM_ne hu) (mv 6) (mv 2))))) (mw_or1 (MW.mt (mw_and (mt_cmp opM_gt (mv 5) me_int) (mw_and1 (mt_cmp (opM_ne hu) (me_ix (mv 1) (mv 6)) (me_ix (me_ix (mv 3) (me_op opM_sub (mv 5) me_int)) me_int)))))))) (mss_one (ms_ret (mv 5))) mss_nil) (mss_cons (ms_if (MW.mt (mw_or (mt_cmp opM_notIn (mv 7) (me_ix (me_ix (mv 0) me_int) (mv 6))) (mw_or1 (mt_cmp (opM_eq hu) (mv 7) (me_ix (mv 1) (mv 6)))))) (mss_one (ms_ret (mv 5))) mss_nil) (mss_one (ms_expr (me_append (mv 4) (man_cons (mv 6) man_nil))))))))) (mss_cons (ms_set 8 (me_callT callM_list T.n_list bb_list (man_cons (me_ix (mv 0) me_int) man_nil)) (hN := sc__law_at_fault.nd)) (mss_cons (ms_set 9 (mcall B__law_behind ok__law_behind hr (man_cons (mv 1) (man_cons (mv 3) man_nil))) (hN := sc__law_at_fault.nd)) (mss_cons (ms_for (mi_seq (mv 9)) (mg_name 7 (hN := sc__law_at_fault.nd)) (mss_one (ms_if (mt_cmp opM_isNot (mv 7) me_non) (mss_one (ms_asg (me_op opM_sub (me_ix (mv 8) (mv 7)) me_int) (mg_at (mv 8) (mv 7)))) mss_nil))) (mss_cons (ms_if (MW.mt (mw_or (mt_cmp (opM_eq hu) (mv 3) (me_lst man_nil)) (mw_or1 (mt_cmp opM_lt (me_callB (callM_min1 rfl) T.n_min bb_min (man_cons (mv 8) man_nil)) me_int)))) (mss_one (ms_ret (me_callB callM_len T.n_len bb_len (man_cons (mv 3) man_nil)))) mss_nil) (mss_one (ms_ret me_non))))))))
noncomputable abbrev s_left : Stmt := top 12
noncomputable abbrev ps_left : List Str := ["web", "laying"]
theorem sc_left : FnScope N_left ps_left (defScope s_left) := ⟨rfl, rfl, rfl, by decide +kernel, rfl, by decide +kernel, by decide +kernel⟩
theorem okf_left (T : Txt K mg) {f : Addr} {fd : FuncData} (B : FnAt K mg "left" s_left ps_left f fd) : FnOk P w K mg base CX0 1 f fd ps_left (spM K 2 F_left) := by
  refine fnM B.fn sc_left rfl (fun cdv A outer s H E hr => ⟨p_left, ?_, fun _ _ _ _ _ e => e⟩)
  have hu := hr.units
  exact (mss_one (ms_ret (mlc ["nest", "room"] [1] (mi_enum T.n_enumerate bb_enumerate (me_ix (mv 0) me_int)) (fun _ _ _ _ _ => (mgc_tup (mgcs_cons (mgc_name 0 (hN := nodup_of (by rfl))) (mgcs_cons (mgc_name 1 (hN := nodup_of (by rfl))) mgcs_nil)))) (fun _ _ _ _ _ => mf_nil) (fun _ _ _ _ _ => (me_op opM_sub (mv 1) (me_count (mv 2) (man_cons (mv 0) man_nil)))) (fr_cons ⟨_, rfl, rfl⟩ fr_nil))))
noncomputable abbrev s_fault : Stmt := top 13
noncomputable abbrev ps_fault : List Str := ["web", "laying"]
theorem sc_fault : FnScope N_fault ps_fault (defScope s_fault) := ⟨rfl, rfl, rfl, by decide +kernel, rfl, by decide +kernel, by decide +kernel⟩
theorem okf_fault (T : Txt K mg) {f_left : Addr} {fd_left : FuncData} (B_left : FnAt K mg "left" s_left ps_left f_left fd_left) (ok_left : FnOk P w K mg base CX0 1 f_left fd_left ps_left (spM K 2 F_left)) {f : Addr} {fd : FuncData} (B : FnAt K mg "fault" s_fault ps_fault f fd) : FnOk P w K mg base CX0 2 f fd ps_fault (spM K 2 F_fault) := by
  refine fnM B.fn sc_fault rfl (fun cdv A outer s H E hr => ⟨p_fault, ?_, fun _ _ _ _ _ e => e⟩)
  have hu := hr.units
  exact (mss_cons (ms_for (mi_enum T.n_enumerate bb_enumerate (mv 1)) (mg_tup (mgs_cons (mg_name 2 (hN := sc_fault.nd)) (mgs_cons (mg_name 3 (hN := sc_fault.nd)) mgs_nil))) (mss_one (ms_if (MW.mt (mw_and (mt_cmp opM_isNot (mv 3) me_non) (mw_and1 (mt_cmp opM_notIn (mv 3) (me_ix (me_ix (mv 0) me_int) (mv 2)))))) (mss_one (ms_ret (me_tup (man_cons me_str (man_cons (mv 2) man_nil))))) mss_nil))) (mss_cons (ms_for (mi_enum T.n_enumerate bb_enumerate (mcall B_left ok_left hr (man_cons (mv 0) (man_cons (mv 1) man_nil)))) (mg_tup (mgs_cons (mg_name 3 (hN := sc_fault.nd)) (mgs_cons (mg_name 4 (hN := sc_fault.nd)) mgs_nil))) (mss_one (ms_if (mt_cmp opM_lt (mv 4) me_int) (mss_one (ms_ret (me_tup (man_cons me_str (man_cons (mv 3) man_nil))))) mss_nil))) (mss_one (ms_ret me_non))))
noncomputable abbrev s_is_push : Stmt := top 15
noncomputable abbrev ps_is_push : List Str := ["web", "laying", "row", "at"]
theorem sc_is_push : FnScope N_is_push ps_is_push (defScope s_is_push) := ⟨rfl, rfl, rfl, by decide +kernel, rfl, by decide +kernel, by decide +kernel⟩
theorem okf_is_push (T : Txt K mg) {f : Addr} {fd : FuncData} (B : FnAt K mg "is_push" s_is_push ps_is_push f fd) : FnOk P w K mg base CX0 1 f fd ps_is_push (spM K 4 F_is_push) := by
  refine fnM B.fn sc_is_push rfl (fun cdv A outer s H E hr => ⟨p_is_push, ?_, fun _ _ _ _ _ e => e⟩)
  have hu := hr.units
  exact (mss_cons (ms_set 4 (me_ix (me_ix (mv 2) (mv 3)) me_int) (hN := sc_is_push.nd)) (mss_cons (ms_if (MW.mt (mw_or (mt_cmp opM_lt (mv 4) me_int) (mw_or1 (mt_cmp opM_ge (mv 4) (me_callB callM_len T.n_len bb_len (man_cons (mv 1) man_nil)))))) (mss_one (ms_ret me_bl)) mss_nil) (mss_cons (ms_if (MW.mt (mw_or (mt_cmp opM_notIn (me_ix (me_ix (mv 2) (mv 3)) me_int) (me_ix (me_ix (mv 0) me_int) (mv 4))) (mw_or1 (mt_cmp (opM_eq hu) (me_ix (me_ix (mv 2) (mv 3)) me_int) (me_ix (mv 1) (mv 4)))))) (mss_one (ms_ret me_bl)) mss_nil) (mss_one (ms_ret (me_cmp opM_notIn (mv 4) (mlc ["push"] [] (mi_seq (me_sl (mv 2) mp_no (mp_yes (mv 3)))) (fun _ _ _ _ _ => (mgc_name 0 (hN := nodup_of (by rfl)))) (fun _ _ _ _ _ => mf_nil) (fun _ _ _ _ _ => (me_ix (mv 0) me_int)) fr_nil)))))))
noncomputable abbrev s_follows : Stmt := top 16
noncomputable abbrev ps_follows : List Str := ["laying", "key", "row", "at"]
theorem sc_follows : FnScope N_follows ps_follows (defScope s_follows) := ⟨rfl, rfl, rfl, by decide +kernel, rfl, by decide +kernel, by decide +kernel⟩
theorem okf_follows (T : Txt K mg) {f : Addr} {fd : FuncData} (B : FnAt K mg "follows" s_follows ps_follows f fd) : FnOk P w K mg base CX0 1 f fd ps_follows (spM K 4 F_follows) := by
  refine fnM B.fn sc_follows rfl (fun cdv A outer s H E hr => ⟨p_follows, ?_, fun _ _ _ _ _ e => e⟩)
  have hu := hr.units
  exact (mss_cons (ms_if (mt_cmp (opM_eq hu) (mv 3) me_int) (mss_one (ms_ret (me_cmp (opM_eq hu) (me_ix (me_ix (mv 2) me_int) me_int) (mv 1)))) mss_nil) (mss_one (ms_ret (me_cmp (opM_eq hu) (me_ix (mv 0) (me_ix (me_ix (mv 2) (mv 3)) me_int)) (me_ix (me_ix (mv 2) (me_op opM_sub (mv 3) me_int)) me_int)))))
noncomputable abbrev s_pushed : Stmt := top 17
noncomputable abbrev ps_pushed : List Str := ["web", "laying", "key", "row"]
theorem sc_pushed : FnScope N_pushed ps_pushed (defScope s_pushed) := ⟨rfl, rfl, rfl, by decide +kernel, rfl, by decide +kernel, by decide +kernel⟩
theorem okf_pushed (T : Txt K mg) {f_fault : Addr} {fd_fault : FuncData} (B_fault : FnAt K mg "fault" s_fault ps_fault f_fault fd_fault) (ok_fault : FnOk P w K mg base CX0 2 f_fault fd_fault ps_fault (spM K 2 F_fault)) {f_is_push : Addr} {fd_is_push : FuncData} (B_is_push : FnAt K mg "is_push" s_is_push ps_is_push f_is_push fd_is_push) (ok_is_push : FnOk P w K mg base CX0 1 f_is_push fd_is_push ps_is_push (spM K 4 F_is_push)) {f_follows : Addr} {fd_follows : FuncData} (B_follows : FnAt K mg "follows" s_follows ps_follows f_follows fd_follows) (ok_follows : FnOk P w K mg base CX0 1 f_follows fd_follows ps_follows (spM K 4 F_follows)) {C_NoPush NE_NoPush fI_NoPush : Addr} {fd_init_NoPush : FuncData} (B_init_NoPush : IniAt K mg "NoPush" "at" "NoPush.__init__" s_init_NoPush ps_init_NoPush C_NoPush NE_NoPush fI_NoPush fd_init_NoPush) (ok_init_NoPush : FnOk P w K mg base CX0 1 fI_NoPush fd_init_NoPush ps_init_NoPush (spI C_NoPush "at")) {f : Addr} {fd : FuncData} (B : FnAt K mg "pushed" s_pushed ps_pushed f fd) : FnOk P w K mg base (CXq P w) 3 f fd ps_pushed (spX K 4 F_pushed) := by
  refine fnX B.fn sc_pushed rfl (fun cdv A outer s H E hr => ⟨p_pushed, ?_, fun _ _ _ _ e => e⟩)
  have hu := hr.units
  exact (mss_cons (ms_set 4 (me_callT callM_list T.n_list bb_list (man_cons (mv 1) man_nil)) (hN := sc_pushed.nd)) (mss_cons (ms_for (mi_enum T.n_enumerate bb_enumerate (mv 3)) (mg_tup (mgs_cons (mg_name 5 (hN := sc_pushed.nd)) (mgs_cons (mg_name 6 (hN := sc_pushed.nd)) mgs_nil))) (mss_cons (ms_if (mt_not (MW.mt (mw_and (mt_val (mcall B_is_push ok_is_push hr (man_cons (mv 0) (man_cons (mv 1) (man_cons (mv 3) (man_cons (mv 5) man_nil)))))) (mw_and1 (mt_val (mcall B_follows ok_follows hr (man_cons (mv 1) (man_cons (mv 2) (man_cons (mv 3) (man_cons (mv 5) man_nil)))))))))) (mss_one (ms_raiseI B_init_NoPush.nm B_init_NoPush.ex ok_init_NoPush B_init_NoPush.bd hr (man_cons (mv 5) man_nil))) mss_nil) (mss_one (ms_asg (me_ix (mv 6) me_int) (mg_at (mv 4) (me_ix (mv 6) me_int)))))) (mss_cons (ms_if (MW.mt (mw_or (mt_cmp (opM_eq hu) (me_callB callM_len T.n_len bb_len (man_cons (mv 3) man_nil)) me_int) (mw_or1 (mt_cmp opM_isNot (mcall B_fault ok_fault hr (man_cons (mv 0) (man_cons (mv 4) man_nil))) me_non)))) (mss_one (ms_raiseI B_init_NoPush.nm B_init_NoPush.ex ok_init_NoPush B_init_NoPush.bd hr (man_cons (me_callB callM_len T.n_len bb_len (man_cons (mv 3) man_nil)) man_nil))) mss_nil) (mss_one (ms_ret (mv 4))))))
noncomputable abbrev s__law_heard : Stmt := top 30
noncomputable abbrev ps__law_heard : List Str := ["_law_web_here", "_law_laying_here", "_law_key", "_law_row_here"]
theorem sc__law_heard : FnScope N__law_heard ps__law_heard (defScope s__law_heard) := ⟨rfl, rfl, rfl, by decide +kernel, rfl, by decide +kernel, by decide +kernel⟩
theorem okf__law_heard (T : Txt K mg) {f_pushed : Addr} {fd_pushed : FuncData} (B_pushed : FnAt K mg "pushed" s_pushed ps_pushed f_pushed fd_pushed) (ok_pushed : FnOk P w K mg base (CXq P w) 3 f_pushed fd_pushed ps_pushed (spX K 4 F_pushed)) {f : Addr} {fd : FuncData} (B : FnAt K mg "_law_heard" s__law_heard ps__law_heard f fd) : FnOk P w K mg base CX0 4 f fd ps__law_heard (spM K 4 F__law_heard) := by
  obtain ⟨C_NoPush, n_NoPush, m_NoPush, k_NoPush⟩ := T.x_NoPush
  obtain ⟨C_NestError, n_NestError, m_NestError, k_NestError⟩ := T.x_NestError
  obtain ⟨C_Twice, n_Twice, m_Twice, k_Twice⟩ := T.x_Twice
  obtain ⟨C_NoText, n_NoText, m_NoText, k_NoText⟩ := T.x_NoText
  obtain ⟨C_NoRule, n_NoRule, m_NoRule, k_NoRule⟩ := T.x_NoRule
  obtain ⟨C_NoRow, n_NoRow, m_NoRow, k_NoRow⟩ := T.x_NoRow
  obtain ⟨C_NoPairs, n_NoPairs, m_NoPairs, k_NoPairs⟩ := T.x_NoPairs
  obtain ⟨C_NoKey, n_NoKey, m_NoKey, k_NoKey⟩ := T.x_NoKey
  obtain ⟨C_NoFit, n_NoFit, m_NoFit, k_NoFit⟩ := T.x_NoFit
  obtain ⟨C_Full, n_Full, m_Full, k_Full⟩ := T.x_Full
  refine fnM B.fn sc__law_heard rfl (fun cdv A outer s H E hr => ⟨p__law_heard, ?_, fun _ _ _ _ _ e => e⟩)
  have hu := hr.units
  exact (mss_cons (ms_set 4 me_non (hN := sc__law_heard.nd)) (mss_cons (ms_set 5 me_non (hN := sc__law_heard.nd)) (mss_cons (ms_try (px_one (px_set 5 B_pushed ok_pushed hr (man_cons (mv 0) (man_cons (mv 1) (man_cons (mv 2) (man_cons (mv 3) man_nil)))) (hN := sc__law_heard.nd))) (mh_as 6 [("NoPush", true)] n_NestError k_NestError (T.s_NestError C_NestError n_NestError) (fun _ => (mss_one (ms_set 4 (mv 6) (hN := sc__law_heard.nd)))) mh_none (hN := sc__law_heard.nd))) (mss_cons (ms_if (mt_cmp opM_is (mv 4) me_non) (mss_one (ms_ret (me_tup (man_cons me_str (man_cons (mv 5) man_nil))))) mss_nil) (mss_cons (ms_set 7 (me_callB (callM_ask T.kit) T.n_isinstance bb_isinstance (man_cons (mv 4) (man_cons (me_tup (man_cons (me_own n_Full m_Full) (man_cons (me_own n_NoFit m_NoFit) (man_cons (me_own n_NoKey m_NoKey) (man_cons (me_own n_NoPairs m_NoPairs) (man_cons (me_own n_NoRow m_NoRow) (man_cons (me_own n_NoRule m_NoRule) (man_cons (me_own n_NoText m_NoText) (man_cons (me_own n_Twice m_Twice) man_nil))))))))) man_nil))) (hN := sc__law_heard.nd)) (mss_cons (ms_if (MW.mt (mw_or (mt_not (mt_val (me_callB (callM_ask T.kit) T.n_isinstance bb_isinstance (man_cons (mv 4) (man_cons (me_own n_NoPush m_NoPush) man_nil))))) (mw_or (mt_not (mt_val (me_callB (callM_ask T.kit) T.n_isinstance bb_isinstance (man_cons (mv 4) (man_cons (me_gty T.n_ValueError bb_ValueError) man_nil))))) (mw_or1 (mt_val (mv 7)))))) (mss_one (ms_ret (me_tup (man_cons me_str (man_cons me_non man_nil))))) mss_nil) (mss_cons (ms_if (MW.mt (mw_or (mt_not (mt_val (me_callB (callM_isi .int) T.n_isinstance bb_isinstance (man_cons (me_at T.a_NoPush (mv 4)) (man_cons (me_gty T.n_int bb_int) man_nil))))) (mw_or1 (mt_val (me_callB (callM_isi .bl) T.n_isinstance bb_isinstance (man_cons (me_at T.a_NoPush (mv 4)) (man_cons (me_gty T.n_bool bb_bool) man_nil))))))) (mss_one (ms_ret (me_tup (man_cons me_str (man_cons me_non man_nil))))) mss_nil) (mss_one (ms_ret (me_tup (man_cons me_str (man_cons (me_at T.a_NoPush (mv 4)) man_nil))))))))))))
noncomputable abbrev s__law_row : Stmt := top 28
noncomputable abbrev ps__law_row : List Str := ["_law_pen_here", "_law_web_here", "_law_laying_here", "_law_key"]
theorem sc__law_row : FnScope N__law_row ps__law_row (defScope s__law_row) := ⟨rfl, rfl, rfl, by decide +kernel, rfl, by decide +kernel, by decide +kernel⟩
theorem okf__law_row (T : Txt K mg) {f__law_take : Addr} {fd__law_take : FuncData} (B__law_take : FnAt K mg "_law_take" s__law_take ps__law_take f__law_take fd__law_take) (ok__law_take : FnOk P w K mg base CX0 1 f__law_take fd__law_take ps__law_take (spM K 2 F__law_take)) {f : Addr} {fd : FuncData} (B : FnAt K mg "_law_row" s__law_row ps__law_row f fd) : FnOk P w K mg base CX0 2 f fd ps__law_row (spM K 4 F__law_row) := by
  refine fnM B.fn sc__law_row rfl (fun cdv A outer s H E hr => ⟨p__law_row, ?_, fun _ _ _ _ _ e => e⟩)
  have hu := hr.units
  exact (mss_cons (ms_set 4 (me_cmp (opM_eq hu) (mcall B__law_take ok__law_take hr (man_cons (mv 0) (man_cons me_int man_nil))) me_int) (hN := sc__law_row.nd)) (mss_cons (ms_set 5 (me_lst man_nil) (hN := sc__law_row.nd)) (mss_cons (ms_set 6 (mv 3) (hN := sc__law_row.nd)) (mss_cons (ms_for (mi_range T.n_range (man_cons (mcall B__law_take ok__law_take hr (man_cons (mv 0) (man_cons me_int man_nil))) man_nil)) (mg_name 7 (hN := sc__law_row.nd)) (mss_cons (ms_set 8 (me_ix (me_ix (me_ix (mv 1) me_int) (mv 6)) (mcall B__law_take ok__law_take hr (man_cons (mv 0) (man_cons (me_callB callM_len T.n_len bb_len (man_cons (me_ix (me_ix (mv 1) me_int) (mv 6)) man_nil)) man_nil)))) (hN := sc__law_row.nd)) (mss_cons (ms_expr (me_append (mv 5) (man_cons (me_tup (man_cons (mv 6) (man_cons (mv 8) man_nil))) man_nil))) (mss_cons (mslc 9 ["_law_other"] [2, 8] (mi_range T.n_range (man_cons (me_callB callM_len T.n_len bb_len (man_cons (mv 2) man_nil)) man_nil)) (fun _ _ _ _ _ => (mgc_name 0 (hN := nodup_of (by rfl)))) (fun _ _ _ _ _ => (mf_one (mt_cmp (opM_eq hu) (me_ix (mv 1) (mv 0)) (mv 2)))) (fun _ _ _ _ _ => (mv 0)) (fr_cons ⟨_, rfl, rfl⟩ (fr_cons ⟨_, rfl, rfl⟩ fr_nil)) sc__law_row.nd) (mss_cons (ms_if (mt_not (mt_val (mv 4))) (mss_one (mslc 9 ["_law_other"] [5] (mi_seq (mv 9)) (fun _ _ _ _ _ => (mgc_name 0 (hN := nodup_of (by rfl)))) (fun _ _ _ _ _ => (mf_one (mt_cmp opM_notIn (mv 0) (mlc ["_law_a", "_law_b"] [] (mi_seq (mv 1)) (fun _ _ _ _ _ => (mgc_tup (mgcs_cons (mgc_name 0 (hN := nodup_of (by rfl))) (mgcs_cons (mgc_name 1 (hN := nodup_of (by rfl))) mgcs_nil)))) (fun _ _ _ _ _ => mf_nil) (fun _ _ _ _ _ => (mv 0)) fr_nil)))) (fun _ _ _ _ _ => (mv 0)) (fr_cons ⟨_, rfl, rfl⟩ fr_nil) sc__law_row.nd)) mss_nil) (mss_cons (ms_if (mt_cmp (opM_eq hu) (mv 9) (me_lst man_nil)) (mss_one (ms_ret (mv 5))) mss_nil) (mss_one (ms_set 6 (me_ix (mv 9) (mcall B__law_take ok__law_take hr (man_cons (mv 0) (man_cons (me_callB callM_len T.n_len bb_len (man_cons (mv 9) man_nil)) man_nil)))) (hN := sc__law_row.nd))))))))) (mss_one (ms_ret (mv 5)))))))
noncomputable abbrev s_law : Stmt := top 31
noncomputable abbrev ps_law : List Str := ["_law_script"]
theorem sc_law : FnScope N_law ps_law (defScope s_law) := ⟨rfl, rfl, rfl, by decide +kernel, rfl, by decide +kernel, by decide +kernel⟩
theorem okf_law (T : Txt K mg) {f__law_case : Addr} {fd__law_case : FuncData} (B__law_case : FnAt K mg "_law_case" s__law_case ps__law_case f__law_case fd__law_case) (ok__law_case : FnOk P w K mg base CX0 4 f__law_case fd__law_case ps__law_case (spM K 2 F__law_case)) {f__law_pen : Addr} {fd__law_pen : FuncData} (B__law_pen : FnAt K mg "_law_pen" s__law_pen ps__law_pen f__law_pen fd__law_pen) (ok__law_pen : FnOk P w K mg base CX0 2 f__law_pen fd__law_pen ps__law_pen (spM K 2 F__law_pen)) {f__law_bent : Addr} {fd__law_bent : FuncData} (B__law_bent : FnAt K mg "_law_bent" s__law_bent ps__law_bent f__law_bent fd__law_bent) (ok__law_bent : FnOk P w K mg base CX0 2 f__law_bent fd__law_bent ps__law_bent (spM K 2 F__law_bent)) {f__law_at_fault : Addr} {fd__law_at_fault : FuncData} (B__law_at_fault : FnAt K mg "_law_at_fault" s__law_at_fault ps__law_at_fault f__law_at_fault fd__law_at_fault) (ok__law_at_fault : FnOk P w K mg base CX0 2 f__law_at_fault fd__law_at_fault ps__law_at_fault (spM K 4 F__law_at_fault)) {f__law_heard : Addr} {fd__law_heard : FuncData} (B__law_heard : FnAt K mg "_law_heard" s__law_heard ps__law_heard f__law_heard fd__law_heard) (ok__law_heard : FnOk P w K mg base CX0 4 f__law_heard fd__law_heard ps__law_heard (spM K 4 F__law_heard)) {f__law_row : Addr} {fd__law_row : FuncData} (B__law_row : FnAt K mg "_law_row" s__law_row ps__law_row f__law_row fd__law_row) (ok__law_row : FnOk P w K mg base CX0 2 f__law_row fd__law_row ps__law_row (spM K 4 F__law_row)) {f__law_behind : Addr} {fd__law_behind : FuncData} (B__law_behind : FnAt K mg "_law_behind" s__law_behind ps__law_behind f__law_behind fd__law_behind) (ok__law_behind : FnOk P w K mg base CX0 1 f__law_behind fd__law_behind ps__law_behind (spM K 2 F__law_behind)) {f : Addr} {fd : FuncData} (B : FnAt K mg "law" s_law ps_law f fd) : FnOk P w K mg base CX0 5 f fd ps_law (spM K 1 F_law) := by
  refine fnM B.fn sc_law rfl (fun cdv A outer s H E hr => ⟨p_law, ?_, fun _ _ _ _ _ e => e⟩)
  have hu := hr.units
  exact (mss_cons (ms_set 1 (mcall B__law_case ok__law_case hr (man_cons (mv 0) (man_cons me_int man_nil))) (hN := sc_law.nd)) (mss_cons (ms_if (mt_cmp opM_is (mv 1) me_non) (mss_one (ms_ret me_bl)) mss_nil) (mss_cons (ms_asg (mv 1) (mg_tup (mgs_cons (mg_name 2 (hN := sc_law.nd)) (mgs_cons (mg_name 3 (hN := sc_law.nd)) (mgs_cons (mg_name 4 (hN := sc_law.nd)) mgs_nil))))) (mss_cons (ms_for (mi_range T.n_range (man_cons me_int man_nil)) (mg_name 5 (hN := sc_law.nd)) (mss_cons (ms_set 6 (mcall B__law_pen ok__law_pen hr (man_cons (mv 0) (man_cons (me_op opM_add me_int (mv 5)) man_nil))) (hN := sc_law.nd)) (mss_cons (ms_set 7 (mcall B__law_bent ok__law_bent hr (man_cons (mv 6) (man_cons (mcall B__law_row ok__law_row hr (man_cons (mv 6) (man_cons (mv 2) (man_cons (mv 3) (man_cons (mv 4) man_nil))))) man_nil))) (hN := sc_law.nd)) (mss_cons (ms_set 8 (mcall B__law_at_fault ok__law_at_fault hr (man_cons (mv 2) (man_cons (mv 3) (man_cons (mv 4) (man_cons (mv 7) man_nil))))) (hN := sc_law.nd)) (mss_cons (ms_set 9 (me_tup (man_cons me_str (man_cons (mv 8) man_nil))) (hN := sc_law.nd)) (mss_cons (ms_if (mt_cmp opM_is (mv 8) me_non) (mss_one (ms_set 9 (me_tup (man_cons me_str (man_cons (mcall B__law_behind ok__law_behind hr (man_cons (mv 3) (man_cons (mv 7) man_nil))) man_nil))) (hN := sc_law.nd))) mss_nil) (mss_cons (ms_set 10 (me_tup (man_cons (me_callT callM_list T.n_list bb_list (man_cons (mv 3) man_nil)) (man_cons (me_callT callM_list T.n_list bb_list (man_cons (mv 7) man_nil)) man_nil))) (hN := sc_law.nd)) (mss_cons (ms_set 11 (mcall B__law_heard ok__law_heard hr (man_cons (mv 2) (man_cons (me_ix (mv 10) me_int) (man_cons (mv 4) (man_cons (me_ix (mv 10) me_int) man_nil))))) (hN := sc_law.nd)) (mss_cons (ms_if (MW.mt (mw_or (mt_cmp (opM_ne hu) (mv 11) (mv 9)) (mw_or1 (mt_cmp (opM_ne hu) (mv 10) (me_tup (man_cons (mv 3) (man_cons (mv 7) man_nil))))))) (mss_one (ms_ret me_bl)) mss_nil) (mss_one (ms_if (mt_cmp (opM_eq hu) (me_ix (mv 11) me_int) me_str) (mss_cons (ms_expr (me_clear (me_ix (mv 11) me_int))) (mss_one (ms_if (mt_cmp (opM_ne hu) (mcall B__law_heard ok__law_heard hr (man_cons (mv 2) (man_cons (me_ix (mv 10) me_int) (man_cons (mv 4) (man_cons (me_ix (mv 10) me_int) man_nil))))) (mv 9)) (mss_one (ms_ret me_bl)) mss_nil))) mss_nil))))))))))) (mss_one (ms_ret me_bl))))))
end
end P
set_option Elab.async false
set_option linter.all false
set_option maxRecDepth 100000
set_option autoImplicit false
namespace P
open PySem PySem.Spec PyProof.Rows L2 M
set_option maxHeartbeats 4000000
theorem cut_pre {xs : List D} {i : Nat} : M.cutD xs none (some (i : Int)) = xs.take i := by
  unfold M.cutD
  rw [HT.sIx_none, HT.sIx_nat, List.drop_zero, Nat.sub_zero]
  rcases Nat.le_total i xs.length with h | h
  · rw [Nat.min_eq_left h]
  · rw [Nat.min_eq_right h, List.take_length, List.take_of_length_le h]
theorem cut_post {xs : List D} {i : Nat} : M.cutD xs (some (i : Int)) none = xs.drop i := by
  unfold M.cutD
  rw [HT.sIx_none, HT.sIx_nat]
  rcases Nat.le_total i xs.length with h | h
  · rw [Nat.min_eq_left h, List.take_of_length_le (by simp)]
  · rw [Nat.min_eq_right h, Nat.sub_self, List.take_zero, List.drop_eq_nil_of_le h]
local macro_rules | `(tactic| walk_at "w") => `(tactic| first
  | refine w_then ?_ | refine w_set ?_ | refine w_asg ?_ | refine w_ret ?_ | refine w_expr ?_ | refine w_if ?_ | refine w_skip ?_ | refine w_for ?_
  | refine w_var rfl ?_ | refine w_c ?_ | refine w_bin ?_ | refine w_call ?_ | refine w_cons ?_ | refine w_nil ?_ | refine w_tup ?_ | refine w_lst ?_ | refine w_emp ?_ | refine w_pno ?_ | refine w_pyes ?_ | refine w_and ?_ | refine w_or ?_ | refine w_not ?_ | refine w_neg ?_ | refine w_meth ?_ | refine w_lc ?_ | refine w_lrange ?_ | refine w_ifE ?_
  | refine w_test ?_ | refine w_andT ?_ | refine w_orT ?_ | refine w_notT ?_ | refine w_yes ?_ | refine w_range ?_ | refine w_gn ?_ | refine w_gt2 ?_ | refine w_gt3 ?_ | refine w_gsc ?_ | refine w_gsn ?_
  | refine w_add ?_ | refine w_sub ?_ | refine w_mod (by first | decide | omega) ?_ | refine w_div (by first | decide | omega) (by first | decide | omega) ?_ | refine w_cmp ?_ | refine w_eqI ?_ | refine w_neI ?_ | refine w_isB ?_ | refine w_isNotB ?_ | refine w_pow (by decide) (by decide) (by decide) ?_ | refine w_intI ?_ | refine w_intB ?_ | refine w_min2 ?_ | refine w_max2 ?_
  | refine w_len rfl ?_ | refine w_list rfl ?_ | refine w_tuple rfl ?_ | with_reducible refine ⟨_, rfl, ?_⟩)
local macro_rules | `(tactic| walk_at "om") => `(tactic| first | omega | (simp only [List.length_map, List.length_range, Int.toNat_natCast, List.length_append, List.length_cons, List.length_nil] at *; omega) | (simp <;> omega))
structure WebA (L : Int) (rooms : List Int) (ks : List (List Int)) : Prop where
  rl : 1 ≤ rooms.length ∧ rooms.length ≤ 10
  rn : ∀ r ∈ rooms, 0 ≤ r
  kl : ks.length ≤ L
  kn : ∀ k ∈ ks, (2 ≤ k.length ∧ k.length ≤ 3) ∧ ∀ i ∈ k, 0 ≤ i ∧ i < rooms.length
theorem atI_at {ds : List D} {i : Int} (h0 : 0 ≤ i) (h1 : i < ds.length) : ∃ d, d ∈ ds ∧ ds[i.toNat]? = some d ∧ atI ds i = some d := by
  have hi : i.toNat < ds.length := by omega
  refine ⟨ds[i.toNat], List.getElem_mem hi, by simp [hi], ?_⟩
  have := atI_nat (xs := ds) (j := i.toNat) (v := ds[i.toNat]) (by simp [hi])
  rw [Int.toNat_of_nonneg h0] at this
  exact this
theorem ints_of {p : Int → Prop} : ∀ ds : List D, (∀ d ∈ ds, ∃ i : Int, d = .int i ∧ p i) → ∃ ns : List Int, ds = ns.map .int ∧ ∀ r ∈ ns, p r := fun ds => by
  induction ds with
  | nil => exact fun _ => ⟨[], rfl, by simp⟩
  | cons d ds ih =>
    intro h
    obtain ⟨ns, rfl, q⟩ := ih fun x hx => h x (List.mem_cons_of_mem _ hx)
    obtain ⟨i, rfl, hi⟩ := h d List.mem_cons_self
    exact ⟨i :: ns, rfl, by simp; exact ⟨hi, q⟩⟩
noncomputable def PenB (μ : Mem) (l : Nat) : Prop := ∃ c f : Int, μ[l]? = some (.lst [.int c, .int f])
theorem PenB.kb {μ μ' : Mem} {L : List Nat} {l : Nat} (h : PenB μ l) (k : KB L μ μ') (hl : l ∉ L) : PenB μ' l := by
  obtain ⟨c, f, e⟩ := h
  exact ⟨c, f, k.at_ _ _ hl e⟩
theorem PenB.app {μ g : Mem} {l : Nat} (h : PenB μ l) : PenB (μ ++ g) l := h.kb (L := []) (KB.refl.app) (by simp)
theorem PenB.keep {μ μ' : Mem} {l : Nat} (h : PenB μ l) (k : Keep μ μ') : PenB μ' l := h.kb (L := []) (KB.of_keep k) (by simp)
theorem PenB.lt {μ : Mem} {l : Nat} (h : PenB μ l) : l < μ.length := by
  obtain ⟨c, f, e⟩ := h
  exact lt_of_get e
theorem PenB.set {μ : Mem} {l m : Nat} {o : LObj} (h : PenB μ l) (hne : m ≠ l) : PenB (μ.set m o) l := by
  obtain ⟨c, f, e⟩ := h
  exact ⟨c, f, get_set_ne e hne⟩
theorem wf_atB {ns : List Int} {k : Int} {μ : Mem} {Q : D → Mem → Prop} (h0 : 0 ≤ k) (h1 : k ≤ 1000) (q : ∀ v : Int, Q (.int v) μ) : WF F__law_at [.fz (ns.map .int), .int k] μ Q := by
  refine w_def rfl ?_
  show WS p__law_at [some (.fz (ns.map .int)), some (.int k), none, none] μ _ _ _ _
  unfold p__law_at
  have rest : ∀ c : Int, WS (sSeq (sSet 3 (fBin gMod (fBin gAdd (fBin gAdd (fBin gMul (fVar 2) (fC (.int 48271))) (fBin gMul (fVar 1) (fC (.int 104729)))) (fC (.int 11))) (fC (.int 2147483647)))) (sRet (fBin gMod (fBin gMul (fVar 3) (fBin gAdd (fBin gAdd (fBin gMod (fVar 3) (fC (.int 65521))) (fVar 1)) (fC (.int 3)))) (fC (.int 2147483629))))) [some (.fz (ns.map .int)), some (.int k), some (.int c), none] μ (fun _ μ' => Q .non μ') Q (fun _ _ => False) fun _ _ => False := fun c => by
    refine w_then (w_set (w_bin (w_bin (w_bin (w_bin (w_var rfl (w_c (w_mul (by unfold mulOk; simp) (w_bin (w_var rfl (w_c (w_mul (by unfold mulOk; simp) (w_add (w_c (w_add (w_c (w_mod (by omega) ?_)))))))))))))))))
    refine w_ret (w_bin (w_bin (w_var rfl (w_bin (w_bin (w_bin (w_var rfl (w_c (w_mod (by omega) (w_var rfl (w_add (w_c (w_add (w_mul ?_ (w_c (w_mod (by omega) (q _)))))))))))))))))
    generalize (c * 48271 + k * 104729 + 11) % 2147483647 = x
    have h1 : 0 ≤ x % 65521 := Int.emod_nonneg _ (by omega)
    have h2 : x % 65521 < 65521 := Int.emod_lt_of_pos _ (by omega)
    unfold mulOk
    simp
    omega
  refine w_then (w_if (w_test (w_bin (w_var rfl (w_call (w_cons (w_var rfl (w_nil (w_len rfl (w_cmp ⟨_, rfl, fun h => ?_, fun h => w_skip ?_⟩))))))))))
  · have h := of_decide_eq_true h
    obtain ⟨d, hm, _, ha⟩ := atI_at (ds := ns.map .int) h0 h
    obtain ⟨v, _, rfl⟩ := List.mem_map.mp hm
    exact w_ret (w_bin (w_var rfl (w_var rfl (w_ix rfl ha (q v)))))
  · refine w_then (w_set (w_c ?_))
    refine w_then (w_if (w_test (w_bin (w_call (w_cons (w_var rfl (w_nil (w_len rfl (w_c (w_cmp ⟨_, rfl, fun h2 => ?_, fun h2 => w_skip (rest _)⟩))))))))))
    have h2 := of_decide_eq_true h2
    obtain ⟨d, hm, _, ha⟩ := atI_at (ds := ns.map .int) (i := k % ((ns.map D.int).length : Int)) (Int.emod_nonneg _ (by omega)) (Int.emod_lt_of_pos _ h2)
    obtain ⟨v, _, rfl⟩ := List.mem_map.mp hm
    exact w_set (w_bin (w_bin (w_var rfl (w_bin (w_var rfl (w_call (w_cons (w_var rfl (w_nil (w_len rfl (w_mod h2 (w_ix rfl ha (w_c (w_mod (by omega) (rest _)))))))))))))))
theorem wf_penB {ns : List Int} {k : Int} {μ : Mem} {Q : D → Mem → Prop} (h0 : 0 ≤ k) (h1 : k ≤ 1000) (q : ∀ μ', Keep μ μ' → PenB μ' μ.length → μ'.length = μ.length + 1 → Q (.loc μ.length) μ') : WF F__law_pen [.fz (ns.map .int), .int k] μ Q := by
  refine w_def rfl ?_
  unfold p__law_pen
  repeat walk_at "w"
  refine wf_atB h0 h1 fun v => ?_
  repeat walk_at "w"
  refine ⟨fun _ => ?_, fun _ => ?_⟩
  · repeat walk_at "w"
    exact q _ .app ⟨_, _, get_new⟩ (by simp)
  · repeat walk_at "w"
    exact q _ .app ⟨_, _, get_new⟩ (by simp)
theorem wf_takeB {μ : Mem} {l : Nat} {s : Int} {Q : D → Mem → Prop} (h : PenB μ l) (h0 : 0 < s) (h1 : s < 1606938044258990275541962092341162602522202993782792835301376)
    (q : ∀ v μ', 0 ≤ v → v < s → KB [l] μ μ' → μ'.length = μ.length → PenB μ' l → Q (.int v) μ') : WF F__law_take [.loc l, .int s] μ Q := by
  obtain ⟨c, f, e⟩ := h
  have hlt := lt_of_get e
  have kb : ∀ o, KB [l] μ (μ.set l o) := fun o => KB.refl.set (.inl (by simp))
  refine w_def rfl ?_
  show WS p__law_take [some (.loc l), some (.int s), none] μ _ _ _ _
  unfold p__law_take
  have gs : ∀ {ν : Mem} {o : LObj}, ν[l]? = some o → ∀ o', (ν.set l o')[l]? = some o' := fun h o' => get_set_eq h
  have ix0 : ∀ {ν : Mem} {a b : Int} {Q : D → Mem → Prop}, ν[l]? = some (.lst [.int a, .int b]) → Q (.int a) ν → W2 gIx (.loc l) (.int 0) ν Q := fun g q => w_ix (items_loc g) rfl q
  have ix1 : ∀ {ν : Mem} {a b : Int} {Q : D → Mem → Prop}, ν[l]? = some (.lst [.int a, .int b]) → Q (.int b) ν → W2 gIx (.loc l) (.int 1) ν Q := fun g q => w_ix (items_loc g) rfl q
  refine w_then (w_if (w_test (w_bin (w_bin (w_var rfl (w_c (ix1 e (w_c (w_eqI ⟨_, rfl, fun hf => ?_, fun hf => w_skip ?_⟩)))))))))
  · refine w_then (w_set (w_bin (w_bin (w_var rfl (w_c (ix0 e (w_var rfl (w_mod h0 ?_))))))))
    refine w_then (w_asg (w_bin (w_bin (w_var rfl (w_c (ix0 e (w_var rfl (w_div h0 h1 ?_))))))))
    refine w_gat (w_var rfl (w_c ⟨_, _, _, rfl, rfl, e, ⟨by omega, by simp⟩, ?_⟩))
    refine w_ret (w_var rfl ?_)
    exact q _ _ (Int.emod_nonneg _ (by omega)) (Int.emod_lt_of_pos _ h0) (kb _) (by simp) ⟨_, _, get_set_eq e⟩
  · refine w_then (w_asg (w_bin (w_bin (w_bin (w_bin (w_bin (w_var rfl (w_c (ix0 e (w_c (w_mul (by unfold mulOk; simp) (w_c (w_add (w_bin (w_var rfl (w_c (ix1 e (w_add (w_c (w_mod (by omega) ?_))))))))))))))))))))
    refine w_gat (w_var rfl (w_c ⟨_, _, _, rfl, rfl, e, ⟨by omega, by simp⟩, ?_⟩))
    have hx0 : 0 ≤ (c * 48271 + 12345 + f) % 2147483647 := Int.emod_nonneg _ (by omega)
    have hx1 : (c * 48271 + 12345 + f) % 2147483647 < 2147483647 := Int.emod_lt_of_pos _ (by omega)
    show WS _ _ (μ.set l (.lst [.int ((c * 48271 + 12345 + f) % 2147483647), .int f])) _ _ _ _
    generalize (c * 48271 + 12345 + f) % 2147483647 = x at hx0 hx1
    have e2 := gs e (.lst [.int x, .int f])
    have hl2 : (μ.set l (.lst [.int x, .int f])).length = μ.length := by simp
    have kb2 := kb (.lst [.int x, .int f])
    generalize μ.set l (.lst [.int x, .int f]) = ν at e2 hl2 kb2
    refine w_then (w_asg (w_bin (w_bin (w_var rfl (w_c (ix1 e2 (w_c (w_add ?_))))))))
    refine w_gat (w_var rfl (w_c ⟨_, _, _, rfl, rfl, e2, ⟨by omega, by simp⟩, ?_⟩))
    show WS _ _ (ν.set l (.lst [.int x, .int (f + 1)])) _ _ _ _
    have e3 := gs e2 (.lst [.int x, .int (f + 1)])
    refine w_ret (w_bin (w_bin (w_bin (w_bin (w_var rfl (w_c (ix0 e3 (w_bin (w_bin (w_bin (w_var rfl (w_c (ix0 e3 (w_c (w_mod (by omega) (w_c (w_add (w_mul ?_ (w_c (w_mod (by omega) (w_var rfl (w_mod h0 ?_))))))))))))))))))))))
    · have h1 : 0 ≤ x % 65521 := Int.emod_nonneg _ (by omega)
      have h2 : x % 65521 < 65521 := Int.emod_lt_of_pos _ (by omega)
      unfold mulOk
      simp
      omega
    · exact q _ _ (Int.emod_nonneg _ (by omega)) (Int.emod_lt_of_pos _ h0) (kb2.trans (KB.refl.set (.inl (by simp)))) (by simp [hl2]) ⟨_, _, e3⟩
noncomputable abbrev tn (ns : List Nat) : D := .tup (nat ns)
noncomputable abbrev wn (R : List Nat) (K : List (List Nat)) : D := .tup [tn R, .tup (K.map tn)]
structure Wb (L : Nat) (R : List Nat) (K : List (List Nat)) : Prop where
  rl : 1 ≤ R.length ∧ R.length ≤ 10
  kl : K.length ≤ L
  kn : ∀ k ∈ K, (2 ≤ k.length ∧ k.length ≤ 3) ∧ ∀ h ∈ k, h < R.length
theorem nats_of : ∀ {ns : List Int}, (∀ n ∈ ns, 0 ≤ n) → ns.map D.int = nat (ns.map Int.toNat) := fun {ns} h => by
  rw [nat_map]
  refine List.map_congr_left fun n hn => ?_
  show D.int n = D.int (n.toNat : Nat)
  rw [Int.toNat_of_nonneg (h n hn)]
theorem Wb.key {L : Nat} {R : List Nat} {K : List (List Nat)} (w : Wb L R K) {k : Nat} (h : k < K.length) : (2 ≤ (K.getD k []).length ∧ (K.getD k []).length ≤ 3) ∧ ∀ x ∈ K.getD k [], x < R.length := by
  have : K.getD k [] = K[k] := by simp [h]
  rw [this]
  exact w.kn _ (List.getElem_mem h)
theorem w_rooms {R : List Nat} {K : List (List Nat)} {μ : Mem} {Q : D → Mem → Prop} (q : Q (tn R) μ) : W2 gIx (wn R K) (.int 0) μ Q := w_ix rfl (show atI [tn R, .tup (K.map tn)] 0 = some (tn R) from rfl) q
theorem w_keys {R : List Nat} {K : List (List Nat)} {μ : Mem} {Q : D → Mem → Prop} (q : Q (.tup (K.map tn)) μ) : W2 gIx (wn R K) (.int 1) μ Q := w_ix rfl (show atI [tn R, .tup (K.map tn)] 1 = some (.tup (K.map tn)) from rfl) q
theorem w_key {K : List (List Nat)} {k : Nat} {μ : Mem} {Q : D → Mem → Prop} (h : k < K.length) (q : Q (tn (K.getD k [])) μ) : W2 gIx (.tup (K.map tn)) (.int k) μ Q :=
  w_ix rfl (atI_nat (v := tn (K.getD k [])) (by simp [h])) q
theorem w_drawsB {l s : Nat} {m : Nat} {μ : Mem} {φ : FE} {δ : M.Loc} {Q : D → Mem → Prop} (hp : PenB μ l)
    (he : ∀ (k : Nat) (μ' : Mem) (Q' : D → Mem → Prop), PenB μ' l → KB [l] μ μ' → (∀ v μ'', 0 ≤ v → v < (s : Int) → KB [l] μ' μ'' → PenB μ'' l → Q' (.int v) μ'') → WE φ (δ.set 0 (some (.int k))) μ' Q')
    (q : ∀ (S : List Nat) (μ' : Mem), S.length = m → (∀ h ∈ S, h < s) → KB [l] μ μ' → PenB μ' l → Q (.loc μ'.length) (μ' ++ [.lst (nat S)])) :
    WL (gN 0) cYes φ yes δ ((List.range m).map fun (k : Nat) => .int k) [] μ Q := by
  refine w_comp0 (fun i ys μ' => KB [l] μ μ' ∧ PenB μ' l ∧ ys.length = i ∧ ∀ d ∈ ys, ∃ j : Int, d = .int j ∧ (0 ≤ j ∧ j < s)) ⟨.refl, hp, rfl, by simp⟩ (fun _ _ _ _ => rfl) ?_ ?_
  · rintro i x ys μ' hx ⟨k, p, hl, hy⟩
    obtain ⟨hi, rfl⟩ := range_at hx
    refine w_gn (w_yes ⟨fun _ => ?_, fun hf => (by cases hf)⟩)
    refine he i μ' _ p k fun v μ'' a b k' p' => ⟨k.trans k', p', by simp [hl], fun d hd => ?_⟩
    rcases List.mem_append.mp hd with hd | hd
    · exact hy d hd
    · exact ⟨v, by simpa using hd, a, b⟩
  · rintro ys μ' ⟨k, p, hl, hy⟩
    obtain ⟨js, rfl, hj⟩ := ints_of ys hy
    simp only [List.length_map, List.length_range] at hl
    rw [nats_of fun n hn => (hj n hn).1]
    refine q (js.map Int.toNat) μ' (by simpa using hl) (fun h hh => ?_) k p
    obtain ⟨j, hj', rfl⟩ := List.mem_map.mp hh
    have := hj j hj'
    omega
theorem wf_webB {μ : Mem} {l : Nat} {g : Int} {Q : D → Mem → Prop} (h : PenB μ l) (hg : g = 0 ∨ g = 1)
    (q : ∀ R K μ', Wb 30 R K → (∀ r ∈ R, r < 10) → KB [l] μ μ' → PenB μ' l → Q (wn R K) μ') : WF F__law_web [.loc l, .int g] μ Q := by
  have pick : ∀ {a b : Int} {ν : Mem} {Q : D → Mem → Prop}, (∀ c, c = a ∨ c = b → Q (.int c) (ν ++ [.lst [.int a, .int b]])) → W2 gIx (.loc ν.length) (.int g) (ν ++ [.lst [.int a, .int b]]) Q := fun {a b ν Q} q => by
    rcases hg with rfl | rfl
    · exact w_ix (items_loc get_new) rfl (q _ (.inl rfl))
    · exact w_ix (items_loc get_new) rfl (q _ (.inr rfl))
  refine w_def rfl ?_
  show WS p__law_web [some (.loc l), some (.int g), none, none, none, none, none, none] μ _ _ _ _
  unfold p__law_web
  refine w_then (w_set (w_bin (w_c (w_call (w_cons (w_var rfl (w_cons (w_bin (w_lst (w_cons (w_c (w_cons (w_c (w_nil (w_var rfl (pick fun c hc => w_nil ?_))))))))))))))))
  refine wf_takeB h.app (by omega) (by omega) fun n μ1 a1 b1 k1 e1 p1 => w_add ?_
  have hn : 1 ≤ 1 + n ∧ 1 + n ≤ 10 := by omega
  have k1' := (KB.refl (L := [l]) (μ := μ)).app.trans k1
  clear hc a1 b1
  refine w_then (w_set (w_call (w_cons (w_var rfl (w_cons (w_bin (w_lst (w_cons (w_c (w_cons (w_c (w_nil (w_var rfl (pick fun c hc => w_nil ?_))))))))))))))
  refine wf_takeB p1.app (by omega) (by omega) fun m μ2 a2 b2 k2 e2 p2 => ?_
  have hm : 0 ≤ m ∧ m ≤ 30 := by omega
  have k2' := k1'.app.trans k2
  clear hc a2 b2
  refine w_then (w_set (w_bin (w_lst (w_cons (w_c (w_cons (w_c (w_cons (w_c (w_nil (w_call (w_cons (w_var rfl (w_cons (w_c (w_nil ?_))))))))))))))))
  refine wf_takeB p2.app (by omega) (by omega) fun x μ3 a3 b3 k3 e3 p3 => ?_
  have k3' := k2'.app.trans k3
  have hl2 := p2.lt
  have g3 : μ3[μ2.length]? = some (.lst [.int 2, .int 3, .int 10]) := k3.at_ _ _ (by simp; omega) get_new
  obtain ⟨d, hd, _, ha⟩ := atI_at (ds := [D.int 2, .int 3, .int 10]) a3 (by simpa using b3)
  refine w_ix (items_loc g3) ha ?_
  obtain ⟨wd, rfl, hw⟩ : ∃ wd : Nat, d = .int wd ∧ 2 ≤ wd ∧ wd ≤ 10 := by
    simp only [List.mem_cons, List.not_mem_nil, or_false] at hd
    rcases hd with e | e | e
    · exact ⟨2, e, by omega⟩
    · exact ⟨3, e, by omega⟩
    · exact ⟨10, e, by omega⟩
  obtain ⟨N, hN⟩ : ∃ N : Nat, (1 + n : Int) = N := ⟨(1 + n).toNat, by omega⟩
  rw [hN] at hn ⊢
  refine w_then (w_set (w_call (w_cons (w_lc (w_range (w_cons (w_var rfl (w_nil ⟨_, rfl, by omega, by omega, few_of (by simp; omega), ?_⟩))))))))
  rw [Int.toNat_natCast]
  refine w_drawsB (s := wd) (m := N) p3 (fun k μ' Q' p' k' q' => ?_) fun R μ4 hRl hR k4 p4 => w_nil (w_tuple (items_loc get_new) ?_)
  · unfold e__law_web_1
    exact w_call (w_cons (w_var rfl (w_cons (w_var rfl (w_nil (wf_takeB p' (by omega) (by omega) fun v μ'' a b k'' e'' p'' => q' v μ'' a b k'' p''))))))
  have k4' := (k3'.trans k4).app (g := [.lst (nat R)])
  have p4' := p4.app (g := [.lst (nat R)])
  have hlen4 := k4'.len
  generalize μ4 ++ [LObj.lst (nat R)] = μ5 at k4' p4' hlen4
  refine w_then (w_set (w_lst (w_nil ?_)))
  refine w_then (w_for (w_range (w_cons (w_var rfl (w_nil ⟨_, rfl, by omega, by omega, ?_⟩)))))
  have hl5 := p4'.lt
  refine w_loop0 (fun i δ ν => ∃ (K : List (List Nat)) (y : Option D), δ = [some (.loc l), some (.int g), some (.int N), some (.int m), some (.int wd), some (tn R), some (.loc μ5.length), y] ∧ K.length = i ∧ (∀ k ∈ K, (2 ≤ k.length ∧ k.length ≤ 3) ∧ ∀ h ∈ k, h < N) ∧ KB [l] μ ν ∧ PenB ν l ∧ ν[μ5.length]? = some (.lst (K.map tn)))
    ⟨[], _, rfl, rfl, by simp, k4'.app, p4'.app, get_new⟩ (fun _ _ _ _ => rfl) ?_ ?_
  · rintro i z δ ν hz ⟨K, y, rfl, hKl, hK, kk, pp, gg⟩
    obtain ⟨hi, rfl⟩ := range_at hz
    refine w_gn ?_
    unfold b__law_web_0
    refine w_expr (w_meth (w_var rfl ⟨_, _, rfl, gg, ?_⟩))
    refine w_cons (w_call (w_cons (w_lc (w_range (w_cons (w_bin (w_c (w_call (w_cons (w_var rfl (w_cons (w_c (w_nil ?_)))))))))))))
    refine wf_takeB pp (by omega) (by omega) fun v ν1 a b k1 e1 p1 => w_add (w_nil ⟨_, rfl, by omega, by omega, few_of (by simp; omega), ?_⟩)
    refine w_drawsB (s := N) p1 (fun k μ' Q' p' k' q' => ?_) fun S ν2 hSl hS k2 p2 => w_nil (w_tuple (items_loc get_new) (w_nil ?_))
    · unfold e__law_web_0
      exact w_call (w_cons (w_var rfl (w_cons (w_var rfl (w_nil (wf_takeB p' (by omega) (by omega) fun v μ'' a b k'' e'' p'' => q' v μ'' a b k'' p''))))))
    have g2 : (ν2 ++ [LObj.lst (nat S)])[μ5.length]? = some (.lst (K.map tn)) := get_old' ((k1.trans k2).at_ _ _ (by simp; omega) gg)
    refine w_append g2 (by rw [List.length_map]; omega) ?_
    refine ⟨K ++ [S], _, rfl, by simp [hKl], fun k hk => ?_, ((kk.trans (k1.trans k2)).app).set (.inr (by omega)), (p2.app).set (by omega), ?_⟩
    · rcases List.mem_append.mp hk with hk | hk
      · exact hK k hk
      · rw [List.mem_singleton.mp hk]; exact ⟨by omega, hS⟩
    · rw [get_set_eq g2, List.map_append]; rfl
  · rintro δ ν ⟨K, y, rfl, hKl, hK, kk, pp, gg⟩
    simp only [List.length_map, List.length_range] at hKl
    refine w_ret (w_tup (w_cons (w_var rfl (w_cons (w_call (w_cons (w_var rfl (w_nil (w_tuple (items_loc gg) (w_nil ?_))))))))))
    refine q R K ν ⟨by omega, by omega, fun k hk => ?_⟩ (fun r hr => by have := hR r hr; omega) kk pp
    rw [hRl]
    exact hK k hk
theorem wf_drawnweb {ns : List Int} {k : Int} {μ : Mem} {Q : D → Mem → Prop} (h0 : 0 ≤ k) (h1 : k ≤ 1000)
    (q : ∀ R K μ', Wb 30 R K → Keep μ μ' → Q (wn R K) μ') : WF F__law_drawn_web [.fz (ns.map .int), .int k] μ Q := by
  refine w_def rfl ?_
  show WS p__law_drawn_web [some (.fz (ns.map .int)), some (.int k), none, none, none] μ _ _ _ _
  unfold p__law_drawn_web
  refine w_then (w_set (w_call (w_cons (w_var rfl (w_cons (w_var rfl (w_nil ?_)))))))
  refine wf_penB h0 h1 fun μ1 k1 p1 e1 => ?_
  refine w_then (w_set (w_call (w_cons (w_var rfl (w_cons (w_call (w_cons (w_bin (w_call (w_cons (w_var rfl (w_cons (w_c (w_nil ?_))))))))))))))
  refine wf_takeB p1 (by omega) (by omega) fun v μ2 a2 b2 k2 e2 p2 => w_c (w_eqI (w_nil (w_intB (w_nil ?_))))
  refine wf_webB p2 (by cases (v == 7) <;> simp) fun R K μ3 w hR k3 p3 => ?_
  have hrl := w.rl
  have kk : ∀ {ν : Mem}, KB [μ.length] μ1 ν → Keep μ ν := fun {ν} k i o e => k.at_ _ _ (by have := lt_of_get e; simp; omega) (k1 i o e)
  have k13 := k2.trans k3
  refine w_then (w_if (w_test (w_bin (w_call (w_cons (w_var rfl (w_cons (w_c (w_nil ?_)))))))))
  refine wf_takeB p3 (by omega) (by omega) fun v2 μ4 a4 b4 k4 e4 p4 => w_c (w_neI ⟨_, rfl, fun _ => w_ret (w_var rfl ?_), fun _ => w_skip ?_⟩)
  · exact q R K μ4 w (kk (k13.trans k4))
  have k14 := k13.trans k4
  refine w_then (w_set (w_call (w_cons (w_bin (w_var rfl (w_c (w_rooms (w_nil (w_list rfl ?_)))))))))
  have hl4 := p4.lt
  refine w_then (w_asg (w_bin (w_lst (w_cons (w_c (w_cons (w_c (w_cons (w_bin (w_c (w_c (w_pow (by decide) (by decide) (by decide) (w_nil (w_call (w_cons (w_var rfl (w_cons (w_c (w_nil ?_)))))))))))))))))))
  refine wf_takeB p4.app.app (by omega) (by omega) fun v3 μ5 a5 b5 k5 e5 p5 => ?_
  have g5 : μ5[(μ4 ++ [LObj.lst (nat R)]).length]? = some (.lst [.int 10, .int 40, .int (10 ^ (50 : Int).toNat)]) := k5.at_ _ _ (by simp; omega) get_new
  have gR : μ5[μ4.length]? = some (.lst (nat R)) := k5.at_ _ _ (by simp; omega) (get_old' get_new)
  obtain ⟨d, hd, _, ha⟩ := atI_at (ds := [D.int 10, .int 40, .int (10 ^ (50 : Int).toNat)]) a5 (by simpa using b5)
  refine w_ix (items_loc g5) ha ?_
  obtain ⟨z, rfl⟩ : ∃ z : Nat, d = .int z := by
    simp only [List.mem_cons, List.not_mem_nil, or_false] at hd
    rcases hd with e | e | e
    · exact ⟨10, e⟩
    · exact ⟨40, e⟩
    · exact ⟨10 ^ 50, by rw [e]; rfl⟩
  refine w_gat (w_var rfl (w_call (w_cons (w_var rfl (w_cons (w_call (w_cons (w_var rfl (w_nil (w_len (items_loc gR) (w_nil ?_)))))))))))
  rw [List.length_map]
  refine wf_takeB p5 (by omega) (by omega) fun v4 μ6 a6 b6 k6 e6 p6 => ?_
  have gR6 : μ6[μ4.length]? = some (.lst (nat R)) := k6.at_ _ _ (by simp; omega) gR
  refine ⟨_, _, _, rfl, rfl, gR6, ⟨a6, by rw [List.length_map]; exact b6⟩, ?_⟩
  rw [← nat_set]
  have g7 := get_set_eq (o' := LObj.lst (nat (R.set v4.toNat z))) gR6
  have k7 : KB [μ.length] μ1 (μ6.set μ4.length (.lst (nat (R.set v4.toNat z)))) := (((k14.app).app.trans (k5.trans k6))).set (.inr k14.len)
  refine w_ret (w_tup (w_cons (w_call (w_cons (w_var rfl (w_nil (w_tuple (items_loc g7) (w_cons (w_bin (w_var rfl (w_c (w_keys (w_nil ?_)))))))))))))
  refine q (R.set v4.toNat z) K _ ⟨by simpa using hrl, w.kl, fun k hk => by simpa using w.kn k hk⟩ (kk k7)
structure RightL (R : List Nat) (K : List (List Nat)) (lay : List (Option Nat)) : Prop where
  len : lay.length = K.length
  home : ∀ k h, lay[k]? = some (some h) → h ∈ K.getD k []
  room : ∀ h, lay.count (some h) ≤ R.getD h 0
noncomputable def restN (R : List Nat) (lay : List (Option Nat)) : List Nat := R.zipIdx.map fun p => p.1 - lay.count (some p.2)
theorem restN_get {R : List Nat} {lay : List (Option Nat)} {h : Nat} (hh : h < R.length) : (restN R lay)[h]? = some (R.getD h 0 - lay.count (some h)) := by
  unfold restN
  rw [List.getElem?_map, List.getElem?_zipIdx]
  simp [hh]
theorem restN_len (R : List Nat) (lay : List (Option Nat)) : (restN R lay).length = R.length := by simp [restN]
theorem restN_snoc {R : List Nat} {lay : List (Option Nat)} {h : Nat} (hh : h < R.length) : (restN R lay).set h (R.getD h 0 - lay.count (some h) - 1) = restN R (lay ++ [some h]) := by
  refine List.ext_getElem? fun i => ?_
  by_cases hi : i < R.length
  · by_cases e : h = i
    · subst e
      rw [List.getElem?_set_self (by rw [restN_len]; exact hh), restN_get hh, List.count_append]
      simp
      omega
    · rw [List.getElem?_set_ne e, restN_get hi, restN_get hi, List.count_append]
      simp [e]
  · rw [List.getElem?_eq_none (by simp [restN_len]; omega), List.getElem?_eq_none (by simp [restN_len]; omega)]
theorem restN_none {R : List Nat} {lay : List (Option Nat)} : restN R (lay ++ [none]) = restN R lay := by
  unfold restN
  refine List.map_congr_left fun p _ => ?_
  rw [List.count_append]
  simp
theorem wf_layingB {L : Nat} {R : List Nat} {K : List (List Nat)} {l : Nat} {μ : Mem} {Q : D → Mem → Prop} (w : Wb L R K) (hL : L ≤ 100) (h : PenB μ l)
    (q : ∀ (lay : List (Option Nat)) (n : Nat) (μ' : Mem), RightL R K lay → KB [l] μ μ' → PenB μ' l → μ.length ≤ n → μ'[n]? = some (.lst (lay.map onD)) → Q (.loc n) μ') : WF F__law_laying [.loc l, wn R K] μ Q := by
  have hkl := w.kl
  have hrl := w.rl
  have hll := h.lt
  refine w_def rfl ?_
  show WS p__law_laying [some (.loc l), some (wn R K), none, none, none, none] μ _ _ _ _
  unfold p__law_laying
  refine w_then (w_set (w_call (w_cons (w_bin (w_var rfl (w_c (w_rooms (w_nil (w_list rfl ?_)))))))))
  refine w_then (w_set (w_lst (w_nil ?_)))
  refine w_then (w_for (w_seq (w_bin (w_var rfl (w_c (w_keys (.inl ⟨_, rfl, ?_⟩)))))))
  have hl1 : (μ ++ [LObj.lst (nat R)]).length = μ.length + 1 := by simp
  have e0 : restN R [] = R := by
    refine List.ext_getElem? fun i => ?_
    by_cases hi : i < R.length
    · rw [restN_get hi]; simp [hi]
    · rw [List.getElem?_eq_none (by simp [restN_len]; omega), List.getElem?_eq_none (by omega)]
  refine w_loop0 (fun m δ μ' => ∃ (lay : List (Option Nat)) (a b : Option D), δ = [some (.loc l), some (wn R K), some (.loc μ.length), some (.loc (μ.length + 1)), a, b] ∧ lay.length = m ∧ (∀ k h, lay[k]? = some (some h) → h ∈ K.getD k []) ∧ (∀ h, lay.count (some h) ≤ R.getD h 0) ∧
    μ'[μ.length]? = some (.lst (nat (restN R lay))) ∧ μ'[μ.length + 1]? = some (.lst (lay.map onD)) ∧ KB [l] μ μ' ∧ PenB μ' l)
    ⟨[], none, none, by rw [hl1]; rfl, rfl, by simp, by simp, by rw [e0]; exact get_old' get_new, by rw [← hl1]; exact get_new, KB.refl.app.app, h.app.app⟩ (fun _ _ _ _ => rfl) ?_ ?_
  · rintro m x δ μ2 hx ⟨lay, a, b, rfl, hlay, hh, hr, g1, g2, k2, p2⟩
    rw [List.getElem?_map] at hx
    cases hy : K[m]? with
    | none => rw [hy] at hx; cases hx
    | some key =>
      rw [hy] at hx
      cases hx
      have hm : m < K.length := (List.getElem?_eq_some_iff.mp hy).1
      have hkey : K.getD m [] = key := by rw [List.getD_eq_getElem?_getD, hy]; rfl
      obtain ⟨hkl2, hkn⟩ := w.key hm
      rw [hkey] at hkl2 hkn
      have fin : ∀ (o : Option Nat) (z : Option D) (μ5 : Mem), (∀ h, o = some h → h ∈ key ∧ lay.count (some h) < R.getD h 0) → KB [l] μ μ5 → PenB μ5 l → μ5[μ.length]? = some (.lst (nat (restN R (lay ++ [o])))) → μ5[μ.length + 1]? = some (.lst (lay.map onD ++ [onD o])) →
          ∃ (lay : List (Option Nat)) (a b : Option D), [some (.loc l), some (wn R K), some (.loc μ.length), some (.loc (μ.length + 1)), some (tn key), z] = [some (.loc l), some (wn R K), some (.loc μ.length), some (.loc (μ.length + 1)), a, b] ∧ lay.length = m + 1 ∧ (∀ k h, lay[k]? = some (some h) → h ∈ K.getD k []) ∧ (∀ h, lay.count (some h) ≤ R.getD h 0) ∧
            μ5[μ.length]? = some (.lst (nat (restN R lay))) ∧ μ5[μ.length + 1]? = some (.lst (lay.map onD)) ∧ KB [l] μ μ5 ∧ PenB μ5 l := fun o z μ5 ho k5 p5 ga gb => by
        refine ⟨lay ++ [o], _, _, rfl, by simp [hlay], fun k h' e => ?_, fun h' => ?_, ga, by rw [gb]; simp, k5, p5⟩
        · by_cases hk : k < lay.length
          · rw [List.getElem?_append_left hk] at e
            exact hh k h' e
          · rw [List.getElem?_append_right (by omega)] at e
            have hk0 : k - lay.length = 0 := by
              have := (List.getElem?_eq_some_iff.mp e).1
              simp at this
              omega
            rw [hk0] at e
            have e : o = some h' := by simpa using e
            rw [show k = m by omega, hkey]
            exact (ho h' e).1
        · rw [List.count_append]
          by_cases e : o = some h'
          · have := (ho h' e).2
            rw [e, List.count_singleton_self]
            omega
          · have := hr h'
            rw [List.count_cons_of_ne e]
            simpa using this
      have skip : ∀ (z : Option D) (μ5 : Mem) {rt : D → Mem → Prop} {bk ct : M.Loc → Mem → Prop}, KB [l] μ2 μ5 → PenB μ5 l → WS (sExpr (fMeth gAppend (fVar 3) (aCons (fC .non) aNil))) [some (.loc l), some (wn R K), some (.loc μ.length), some (.loc (μ.length + 1)), some (tn key), z] μ5
          (fun δ μ' => ∃ (lay : List (Option Nat)) (a b : Option D), δ = [some (.loc l), some (wn R K), some (.loc μ.length), some (.loc (μ.length + 1)), a, b] ∧ lay.length = m + 1 ∧ (∀ k h, lay[k]? = some (some h) → h ∈ K.getD k []) ∧ (∀ h, lay.count (some h) ≤ R.getD h 0) ∧
            μ'[μ.length]? = some (.lst (nat (restN R lay))) ∧ μ'[μ.length + 1]? = some (.lst (lay.map onD)) ∧ KB [l] μ μ' ∧ PenB μ' l) rt bk ct := fun z μ5 {rt bk ct} k5 p5 => by
        have gb := k5.at_ _ _ (by simp; omega) g2
        have ga := k5.at_ _ _ (by simp; omega) g1
        refine w_expr (w_meth (w_var rfl ⟨_, _, rfl, gb, w_cons (w_c (w_nil (w_append gb (by rw [List.length_map]; omega) ?_)))⟩))
        exact fin none z _ (by simp) ((k2.trans k5).set (.inr (by omega))) (p5.set (by omega)) (by rw [restN_none]; exact get_set_ne ga (by omega)) (get_set_eq gb)
      refine w_gn ?_
      unfold b__law_laying_0
      refine w_then (w_set (w_bin (w_var rfl (w_call (w_cons (w_var rfl (w_cons (w_call (w_cons (w_var rfl (w_nil (w_len rfl (w_nil ?_)))))))))))))
      rw [List.length_map]
      refine wf_takeB p2 (by omega) (by omega) fun st μ3 a3 b3 k3 e3 p3 => ?_
      obtain ⟨d, hd, _, ha⟩ := atI_at (ds := nat key) a3 (by rw [List.length_map]; exact b3)
      refine w_ix rfl ha ?_
      obtain ⟨h0, hmem, rfl⟩ := List.mem_map.mp hd
      have hr0 := hkn h0 hmem
      have g13 := k3.at_ _ _ (by simp; omega) g1
      refine w_if (w_andT (w_test (w_bin (w_bin (w_var rfl (w_var rfl (w_ix (items_loc g13) (atI_nat (v := .int ((R.getD h0 0 - lay.count (some h0) : Nat))) (by rw [List.getElem?_map, restN_get hr0]; rfl)) (w_c (w_cmp ⟨_, rfl, fun hb => ?_, fun hb => ⟨fun hc => (by cases hc), fun _ => skip _ μ3 k3 p3⟩⟩)))))))))
      have hb := of_decide_eq_true hb
      refine w_test (w_bin (w_call (w_cons (w_var rfl (w_cons (w_c (w_nil ?_))))))) 
      refine wf_takeB p3 (by omega) (by omega) fun v μ4 a4 b4 k4 e4 p4 => w_c (w_cmp ⟨_, rfl, fun hb2 => ?_, fun _ => skip _ μ4 (k3.trans k4) p4⟩)
      have g14 := k4.at_ _ _ (by simp; omega) g13
      have g24 := (k3.trans k4).at_ _ _ (by simp; omega) g2
      refine w_then (w_asg (w_bin (w_bin (w_var rfl (w_var rfl (w_ix (items_loc g14) (atI_nat (v := .int ((R.getD h0 0 - lay.count (some h0) : Nat))) (by rw [List.getElem?_map, restN_get hr0]; rfl)) (w_c (w_sub ?_))))))))
      refine w_gat (w_var rfl (w_var rfl ⟨_, _, _, rfl, rfl, g14, ⟨by omega, by rw [List.length_map, restN_len]; omega⟩, ?_⟩))
      have hset : (nat (restN R lay)).set (Int.toNat (h0 : Int)) (.int ((R.getD h0 0 - lay.count (some h0) : Nat) - 1)) = nat (restN R (lay ++ [some h0])) := by
        rw [← restN_snoc hr0, nat_set, Int.toNat_natCast]
        congr 2
        omega
      rw [hset]
      have g24' := get_set_ne (o' := LObj.lst (nat (restN R (lay ++ [some h0])))) g24 (by omega : μ.length ≠ μ.length + 1)
      refine w_expr (w_meth (w_var rfl ⟨_, _, rfl, g24', w_cons (w_var rfl (w_nil (w_append g24' (by rw [List.length_map]; omega) ?_)))⟩))
      refine fin (some h0) _ _ (fun h e => ?_) (((k2.trans (k3.trans k4)).set (.inr (by omega))).set (.inr (by omega))) ((p4.set (by omega)).set (by omega)) (get_set_ne (get_set_eq g14) (by omega)) (get_set_eq g24')
      cases e
      exact ⟨hmem, by omega⟩
  · rintro δ μ2 ⟨lay, a, b, rfl, hlay, hh, hr, g1, g2, k2, p2⟩
    rw [List.length_map] at hlay
    refine w_ret (w_var rfl ?_)
    exact q lay _ μ2 ⟨hlay, hh, hr⟩ k2 p2 (by omega) g2
noncomputable def freeN (lay : List (Option Nat)) : List Nat := (List.range lay.length).filter fun k => isNon (onD (lay.getD k none))
theorem wf_case {ns : List Int} {k : Int} {μ : Mem} {Q : D → Mem → Prop} (h0 : 0 ≤ k) (h1 : k ≤ 900) (qn : ∀ μ', Keep μ μ' → Q .non μ')
    (q : ∀ (R : List Nat) (K : List (List Nat)) (lay : List (Option Nat)) (n key : Nat) (μ' : Mem), Wb 30 R K → RightL R K lay → key < K.length → lay.getD key none = none → Keep μ μ' → μ.length ≤ n → μ'[n]? = some (.lst (lay.map onD)) → Q (.tup [wn R K, .loc n, .int key]) μ') : WF F__law_case [.fz (ns.map .int), .int k] μ Q := by
  refine w_def rfl ?_
  show WS p__law_case [some (.fz (ns.map .int)), some (.int k), none, none, none] μ _ _ _ _
  unfold p__law_case
  refine w_then (w_set (w_call (w_cons (w_var rfl (w_cons (w_var rfl (w_nil ?_)))))))
  refine wf_drawnweb h0 (by omega) fun R K μ1 w k1 => ?_
  have hkl := w.kl
  refine w_then (w_set (w_call (w_cons (w_call (w_cons (w_var rfl (w_cons (w_bin (w_var rfl (w_c (w_add (w_nil ?_))))))))))))
  refine wf_penB (by omega) (by omega) fun μ2 k2 p2 e2 => w_cons (w_var rfl (w_nil ?_))
  refine wf_layingB w (by omega) p2 fun lay n μ3 r k3 p3 hn g3 => ?_
  have k13 : Keep μ1 μ3 := fun i o e => k3.at_ _ _ (by have := lt_of_get e; simp; omega) (k2 i o e)
  have hlen := r.len
  refine w_then (w_set (w_lc (w_range (w_cons (w_call (w_cons (w_var rfl (w_nil (w_len (items_loc g3) (w_nil ⟨_, rfl, by omega, by rw [List.length_map]; omega, few_of (by simp; omega), ?_⟩))))))))))
  rw [Int.toNat_natCast, List.length_map]
  refine w_pureE (fun (k : Nat) => D.int k) (List.range lay.length) (fun (k : Nat) => D.int k) (fun k => isNon (onD (lay.getD k none))) (fun _ _ => rfl) (fun k hk μ' kp => ?_) (fun μ4 k4 => ?_)
  · have hk : k < lay.length := by simpa using hk
    refine w_gn ?_
    unfold c__law_case_0 e__law_case_0
    exact w_test (w_bin (w_bin (w_var rfl (w_var rfl (w_ix (items_loc (kp _ _ g3)) (atI_nat (v := onD (lay.getD k none)) (by simp [hk])) (w_c (w_isN (flat_onD _) ⟨_, rfl, rfl, kp, fun _ => w_var rfl ⟨rfl, kp⟩⟩)))))))
  · have g4 : (μ4 ++ [LObj.lst (nat (freeN lay))])[μ4.length]? = some (.lst (nat (freeN lay))) := get_new
    have kk : Keep μ (μ4 ++ [LObj.lst (nat (freeN lay))]) := k1.trans (k13.trans k4.to)
    refine w_then (w_if (w_test (w_bin (w_var rfl (w_lst (w_nil ?_))))))
    refine w_eqL (α := Nat) (freeN lay) [] (get_old' g4) get_new ⟨_, rfl, fun _ => w_ret (w_c (qn _ kk.to)), fun h => w_skip ?_⟩
    have h : freeN lay ≠ [] := of_decide_eq_false h
    have hpos : 0 < (freeN lay).length := List.length_pos_iff.mpr h
    refine w_ret (w_tup (w_cons (w_var rfl (w_cons (w_var rfl (w_cons (w_bin (w_var rfl (w_bin (w_call (w_cons (w_var rfl (w_cons (w_bin (w_var rfl (w_c (w_add (w_nil ?_))))))))))))))))))
    refine wf_atB (by omega) (by omega) fun v => w_call (w_cons (w_var rfl (w_nil (w_len (items_loc (get_old' g4)) ?_))))
    rw [List.length_map]
    refine w_mod (by omega) ?_
    obtain ⟨d, hd, _, ha⟩ := atI_at (ds := nat (freeN lay)) (i := v % ((freeN lay).length : Int)) (Int.emod_nonneg _ (by omega)) (by rw [List.length_map]; exact Int.emod_lt_of_pos _ (by omega))
    refine w_ix (items_loc (get_old' g4)) ha (w_nil ?_)
    obtain ⟨key, hkey, rfl⟩ := List.mem_map.mp hd
    have hk1 := (List.mem_filter.mp hkey).1
    have hk2 := (List.mem_filter.mp hkey).2
    refine q R K lay n key _ w r (by simpa [hlen] using hk1) ?_ kk.to (by have := k1.len; omega) ((k4.to.to) _ _ g3)
    cases e : lay.getD key none with
    | none => rfl
    | some h => rw [e] at hk2; cases hk2
structure Shut (R : List Nat) (K : List (List Nat)) (lay : List (Option Nat)) (C : List Nat) : Prop where
  keys : ∀ k ∈ C, k < K.length
  full : ∀ k ∈ C, ∀ h ∈ K.getD k [], R.getD h 0 ≤ lay.count (some h)
  lies : ∀ k ∈ C, ∀ h ∈ K.getD k [], ∀ o, lay.getD o none = some h → o ∈ C
structure RowOk (K : List (List Nat)) (lay : List (Option Nat)) (key : Nat) (row : List (Nat × Nat)) : Prop where
  first : ∃ h r, row = (key, h) :: r
  mem : ∀ p ∈ row, p.1 < K.length ∧ p.2 ∈ K.getD p.1 [] ∧ lay.getD p.1 none ≠ some p.2
  link : ∀ i p q, row[i]? = some p → row[i + 1]? = some q → lay.getD q.1 none = some p.2
  nd : (row.map (·.1)).Nodup
noncomputable def pushL (lay : List (Option Nat)) (row : List (Nat × Nat)) : List (Option Nat) := row.foldl (fun l p => l.set p.1 (some p.2)) lay
theorem pushL_len (row : List (Nat × Nat)) : ∀ lay : List (Option Nat), (pushL lay row).length = lay.length := by
  induction row with
  | nil => intro lay; rfl
  | cons p row ih => intro lay; show (pushL (lay.set p.1 (some p.2)) row).length = _; rw [ih]; simp
theorem pushL_snoc (lay : List (Option Nat)) (row : List (Nat × Nat)) (p : Nat × Nat) : pushL lay (row ++ [p]) = (pushL lay row).set p.1 (some p.2) := by
  unfold pushL
  rw [List.foldl_append]
  rfl
noncomputable def leftI (R : List Nat) (lay : List (Option Nat)) : List Int := (List.range R.length).map fun h => (R.getD h 0 : Int) - (lay.count (some h) : Nat)
theorem wf_left {L : Nat} {R : List Nat} {K : List (List Nat)} {lay : List (Option Nat)} {n : Nat} {μ : Mem} {Q : D → Mem → Prop} (w : Wb L R K) (hn : μ[n]? = some (.lst (lay.map onD))) (q : ∀ (l : Nat) (μ' : Mem), Keep μ μ' → μ.length ≤ l → μ'[l]? = some (.lst ((leftI R lay).map .int)) → Q (.loc l) μ') : WF F_left [wn R K, .loc n] μ Q := by
  have hrl := w.rl
  refine w_def rfl ?_
  show WS p_left [some (wn R K), some (.loc n)] μ _ _ _ _
  unfold p_left
  repeat walk_at "w"
  refine w_enum ?_
  repeat walk_at "w"
  refine w_rooms (.inl ⟨_, rfl, few_of (by rw [enumD_len, List.length_map]; omega), ?_⟩)
  rw [enumD_range (fun (k : Nat) => D.int k) R 0]
  refine w_mapE (fun (k : Nat) => .tup [.int k, .int (R.getD k 0 : Nat)]) (List.range R.length) (fun (k : Nat) => D.int ((R.getD k 0 : Int) - (lay.count (some k) : Nat))) (fun _ _ => rfl) (fun k hk μ' kp => ?_) (fun μ' kp => ?_)
  · repeat walk_at "w"
    refine ⟨_, _, rfl, kp _ _ hn, ?_⟩
    repeat walk_at "w"
    refine w_countOn (kp _ _ hn) ?_
    repeat walk_at "w"
    exact ⟨rfl, kp, kp⟩
  · refine q _ _ kp.to kp.len ?_
    rw [get_new]
    unfold leftI
    rw [List.map_map]
    rfl
noncomputable def homeB (K : List (List Nat)) (ds : List D) (k : Nat) : Bool := !isNon (ds.getD k .non) && !((nat (K.getD k [])).any fun y => eqF y (ds.getD k .non))
noncomputable def roomB (R : List Nat) (ds : List D) (h : Nat) : Bool := decide ((R.getD h 0 : Nat) < (cntD ds h : Int))
noncomputable def faultD (R : List Nat) (K : List (List Nat)) (ds : List D) : D := match (List.range K.length).find? (homeB K ds) with
  | some k => .tup [.str "home", .int k]
  | none => match (List.range R.length).find? (roomB R ds) with
    | some h => .tup [.str "room", .int h]
    | none => .non
theorem wf_leftD {L : Nat} {R : List Nat} {K : List (List Nat)} {ds : List D} {n : Nat} {μ : Mem} {Q : D → Mem → Prop} (w : Wb L R K) (hf : ds.all flatD = true) (hn : μ[n]? = some (.lst ds)) (q : ∀ (l : Nat) (μ' : Mem), Keep μ μ' → μ.length ≤ l → μ'[l]? = some (.lst (((List.range R.length).map fun h => (R.getD h 0 : Int) - (cntD ds h : Nat)).map .int)) → Q (.loc l) μ') : WF F_left [wn R K, .loc n] μ Q := by
  have hrl := w.rl
  refine w_def rfl ?_
  show WS p_left [some (wn R K), some (.loc n)] μ _ _ _ _
  unfold p_left
  repeat walk_at "w"
  refine w_enum ?_
  repeat walk_at "w"
  refine w_rooms (.inl ⟨_, rfl, few_of (by rw [enumD_len, List.length_map]; omega), ?_⟩)
  rw [enumD_range (fun (k : Nat) => D.int k) R 0]
  refine w_mapE (fun (k : Nat) => .tup [.int k, .int (R.getD k 0 : Nat)]) (List.range R.length) (fun (k : Nat) => D.int ((R.getD k 0 : Int) - (cntD ds k : Nat))) (fun _ _ => rfl) (fun k hk μ' kp => ?_) (fun μ' kp => ?_)
  · repeat walk_at "w"
    refine ⟨_, _, rfl, kp _ _ hn, ?_⟩
    repeat walk_at "w"
    refine w_count (kp _ _ hn) rfl hf ?_
    repeat walk_at "w"
    exact ⟨rfl, kp, kp⟩
  · refine q _ _ kp.to kp.len ?_
    rw [get_new, List.map_map]
    rfl
theorem flat_get {ds : List D} (hf : ds.all flatD = true) {k : Nat} {d : D} (h : ds[k]? = some d) : flatD d = true := List.all_eq_true.mp hf d (List.mem_of_getElem? h)
theorem wf_fault {L : Nat} {R : List Nat} {K : List (List Nat)} {ds : List D} {n : Nat} {μ : Mem} {Q : D → Mem → Prop} (w : Wb L R K) (hf : ds.all flatD = true) (hl : ds.length = K.length) (hn : μ[n]? = some (.lst ds)) (q : ∀ (μ' : Mem), Keep μ μ' → Q (faultD R K ds) μ') : WF F_fault [wn R K, .loc n] μ Q := by
  have hrl := w.rl
  refine w_def rfl ?_
  show WS p_fault [some (wn R K), some (.loc n), none, none, none] μ _ _ _ _
  unfold p_fault
  refine w_then (w_for (w_enum (w_var rfl (.inr (.inr ⟨n, _, rfl, hn, ?_⟩)))))
  refine w_loop0 (fun m δ μ' => ∃ a b : Option D, δ = [some (wn R K), some (.loc n), a, b, none] ∧ μ' = μ ∧ ∀ j < m, homeB K ds j = false) ⟨_, _, rfl, rfl, by simp⟩ (fun m δ μ' h => by obtain ⟨_, _, _, rfl, _⟩ := h; exact stays_of hn .refl) ?_ ?_
  · rintro m x δ μ' hx ⟨a, b, rfl, rfl, hb⟩
    obtain ⟨y, hy, rfl⟩ := enumD_at hx
    have hm : m < ds.length := (List.getElem?_eq_some_iff.mp hy).1
    have hfy := flat_get hf hy
    have hgy : ds.getD m .non = y := by rw [List.getD_eq_getElem?_getD, hy]; rfl
    have hgo : homeB K ds m = false → ∀ j < m + 1, homeB K ds j = false := fun h j hj => by
      by_cases e : j = m
      · subst e; exact h
      · exact hb j (by omega)
    repeat walk_at "w"
    refine w_isNotN hfy ?_
    repeat walk_at "w"
    refine ⟨fun h1 => ?_, fun h1 => ⟨fun hc => (by cases hc), fun _ => ?_⟩⟩
    · repeat walk_at "w"
      refine w_keys ?_
      repeat walk_at "w"
      refine w_key (by omega) ?_
      refine w_notIn rfl hfy (flat_nat _) ?_
      repeat walk_at "w"
      refine ⟨fun h2 => ?_, fun h2 => ?_⟩
      · repeat walk_at "w"
        have hh : homeB K ds m = true := by
          unfold homeB
          rw [hgy, h1, h2]; rfl
        have := q μ' .refl
        unfold faultD at this
        rw [find_range hh (by omega) hb] at this
        exact this
      · repeat walk_at "w"
        refine ⟨_, _, rfl, rfl, hgo ?_⟩
        unfold homeB
        rw [hgy, h2, Bool.and_false]
    · repeat walk_at "w"
      refine ⟨_, _, rfl, rfl, hgo ?_⟩
      unfold homeB
      rw [hgy, h1, Bool.false_and]
  · rintro δ μ' ⟨a, b, rfl, rfl, hb⟩
    rw [enumD_len, hl] at hb
    refine w_then (w_for (w_enum (w_call (w_cons (w_var rfl (w_cons (w_var rfl (w_nil ?_))))))))
    refine wf_leftD w hf hn fun l μ1 k1 hl1 g1 => .inr (.inr ⟨l, _, rfl, g1, ?_⟩)
    rw [enumD_range D.int _ 0]
    refine w_loop0 (fun m δ μ' => ∃ a b c : Option D, δ = [some (wn R K), some (.loc n), a, b, c] ∧ μ' = μ1 ∧ ∀ j < m, roomB R ds j = false) ⟨_, _, _, rfl, rfl, by simp⟩ (fun m δ μ' h => by obtain ⟨_, _, _, _, rfl, _⟩ := h; exact stays_of g1 .refl) ?_ ?_
    · rintro m x δ μ2 hx ⟨a, b, c, rfl, rfl, hr⟩
      have hm : m < R.length := by
        have := (List.getElem?_eq_some_iff.mp hx).1
        simpa using this
      have ex : x = .tup [.int m, .int ((R.getD m 0 : Int) - (cntD ds m : Nat))] := by
        rw [List.getElem?_map] at hx
        simp [hm] at hx
        rw [← hx]
        simp [hm]
      subst ex
      repeat walk_at "w"
      have hdec : decide ((R.getD m 0 : Int) - (cntD ds m : Nat) < 0) = roomB R ds m := by
        unfold roomB
        exact decide_eq_decide.mpr (by omega)
      rw [hdec]
      refine ⟨fun h1 => ?_, fun h1 => ?_⟩
      · repeat walk_at "w"
        have := q μ2 k1
        unfold faultD at this
        rw [find_none hb, find_range h1 hm hr] at this
        exact this
      · repeat walk_at "w"
        refine ⟨_, _, _, rfl, rfl, fun j hj => ?_⟩
        by_cases e : j = m
        · subst e; exact h1
        · exact hr j (by omega)
    · rintro δ μ2 ⟨a, b, c, rfl, rfl, hr⟩
      simp only [List.length_map, List.length_range] at hr
      repeat walk_at "w"
      have := q μ2 k1
      unfold faultD at this
      rw [find_none hb, find_none hr] at this
      exact this
structure WX (F : FX) (ds : List D) (μ : Mem) (Q : D → Mem → Prop) : Prop where
  ex : ∃ d μ', F ds μ = some (.ok d μ') ∧ Q d μ'
theorem w_askO {tb : Kit} {n : Nat} {c s : Str} {fs : List (Str × D)} {b : Bool} {μ : Mem} {Q : D → Mem → Prop} (h : μ[n]? = some (.exc c fs)) (ha : tb.lookup (some c, CN.own s) = some b) (q : Q (.bl b) μ) : WF (gAsk tb) [.loc n, .own s] μ Q := ⟨_, _, by simp only [gAsk, askOf, h, Option.bind_some, ask1, nmOf, ha], q⟩
theorem w_askY {tb : Kit} {n : Nat} {c : Str} {s : String} {fs : List (Str × D)} {b : Bool} {μ : Mem} {Q : D → Mem → Prop} (h : μ[n]? = some (.exc c fs)) (ha : tb.lookup (some c, CN.ty s) = some b) (q : Q (.bl b) μ) : WF (gAsk tb) [.loc n, .ty s] μ Q := ⟨_, _, by simp only [gAsk, askOf, h, Option.bind_some, ask1, nmOf, ha], q⟩
theorem w_askT {tb : Kit} {n : Nat} {c : Str} {d : D} {ds : List D} {fs : List (Str × D)} {b : Bool} {μ : Mem} {Q : D → Mem → Prop} (h : μ[n]? = some (.exc c fs)) (ha : askAny tb (some c) (d :: ds) = some b) (q : Q (.bl b) μ) : WF (gAsk tb) [.loc n, .tup (d :: ds)] μ Q := ⟨_, _, by simp only [gAsk, askOf, h, Option.bind_some, ha], q⟩
noncomputable def OutX (nx : M.Loc → Mem → Prop) (rt : D → Mem → Prop) (ex : Str → List (Str × D) → Mem → Prop) : Out → Prop
  | .next δ μ => nx δ μ
  | .ret d μ => rt d μ
  | .exc c fs μ => ex c fs μ
  | _ => False
structure WXs (p : FS) (δ : M.Loc) (μ : Mem) (nx : M.Loc → Mem → Prop) (rt : D → Mem → Prop) (ex : Str → List (Str × D) → Mem → Prop) : Prop where
  ex : ∃ o, p δ μ = some o ∧ OutX nx rt ex o
section
variable {p q : FS} {δ : M.Loc} {μ : Mem} {nx : M.Loc → Mem → Prop} {rt : D → Mem → Prop} {ex : Str → List (Str × D) → Mem → Prop}
theorem x_of (h : WS p δ μ nx rt (fun _ _ => False) fun _ _ => False) : WXs p δ μ nx rt ex := by
  obtain ⟨o, e, k⟩ := h
  cases o with
  | next _ _ => exact ⟨_, e, k⟩
  | ret _ _ => exact ⟨_, e, k⟩
  | brk _ _ => exact k.elim
  | cont _ _ => exact k.elim
  | exc _ _ _ => exact k.elim
theorem x_then (h : WXs p δ μ (fun δ' μ' => WXs q δ' μ' nx rt ex) rt ex) : WXs (sSeq p q) δ μ nx rt ex := by
  obtain ⟨o, e, k⟩ := h
  cases o with
  | next δ' μ' => obtain ⟨o2, e2, k2⟩ := k; exact ⟨o2, by simp [e, e2], k2⟩
  | ret d μ' => exact ⟨.ret d μ', by simp only [sSeq, e], k⟩
  | exc c fs μ' => exact ⟨.exc c fs μ', by simp only [sSeq, e], k⟩
  | brk _ _ => exact k.elim
  | cont _ _ => exact k.elim
theorem x_if {c : FT} (h : WT c δ μ fun b μ1 => (b = true → WXs p δ μ1 nx rt ex) ∧ (b = false → WXs q δ μ1 nx rt ex)) : WXs (sIf c p q) δ μ nx rt ex := by
  obtain ⟨b, μ1, e, h1, h2⟩ := h
  cases b with
  | true => obtain ⟨o, e2, k⟩ := h1 rfl; exact ⟨o, by simp [e, e2], k⟩
  | false => obtain ⟨o, e2, k⟩ := h2 rfl; exact ⟨o, by simp [e, e2], k⟩
theorem x_raise {φ : FA} {c f : Str} (h : WA φ δ μ fun ds μ1 => ∃ n : Int, ds = [.int n] ∧ n.natAbs < 1000000 ∧ ex c [(f, .int n)] μ1) : WXs (sRaiseI c f φ) δ μ nx rt ex := by
  obtain ⟨ds, μ1, e, n, rfl, hn, k⟩ := h
  exact ⟨.exc c [(f, .int n)] μ1, by simp only [sRaiseI, e, Option.bind_some, if_pos hn], k⟩
theorem x_for {it : FI} {g : FG} {body : FS} (h : WI it δ μ fun ds ok μ1 => ∃ o, forIt g body ok ds δ μ1 = some o ∧ OutX nx rt ex o) : WXs (sFor it g body) δ μ nx rt ex := by
  obtain ⟨ds, ok, μ1, e, o, e2, k⟩ := h
  exact ⟨o, by simp only [sFor, e, Option.bind_some]; exact e2, k⟩
end
theorem x_loop {g : FG} {body : FS} {ok : Mem → Bool} {nx : M.Loc → Mem → Prop} {rt : D → Mem → Prop} {ex : Str → List (Str × D) → Mem → Prop} (I : Nat → M.Loc → Mem → Prop) : ∀ {xs : List D} {n : Nat} {δ : M.Loc} {μ : Mem}, I n δ μ → (∀ m δ μ, I m δ μ → ok μ = true) →
    (∀ (m : Nat) (x : D) (δ : M.Loc) (μ : Mem), xs[m]? = some x → I (n + m) δ μ → WG g x δ μ fun δ1 μ1 => WXs body δ1 μ1 (I (n + m + 1)) rt ex) → (∀ δ μ, I (n + xs.length) δ μ → nx δ μ) → ∃ o, forIt g body ok xs δ μ = some o ∧ OutX nx rt ex o
  | [], n, δ, μ, h0, hok, _, hend => ⟨.next δ μ, by simp only [forIt, hok _ _ _ h0, cond_true], hend δ μ h0⟩
  | x :: xs, n, δ, μ, h0, hok, hs, hend => by
    obtain ⟨δ1, μ1, e1, o, e2, k⟩ := hs 0 x δ μ rfl h0
    cases o with
    | next δ2 μ2 =>
      obtain ⟨o3, e3, k3⟩ := x_loop I (xs := xs) (n := n + 1) (δ := δ2) (μ := μ2) k hok (fun m y δ μ hy hI => by
        have := hs (m + 1) y δ μ (by simpa using hy) (by rw [show n + (m + 1) = n + 1 + m by omega]; exact hI)
        rw [show n + (m + 1) = n + 1 + m by omega] at this
        exact this) (fun δ μ hI => hend δ μ (by rw [List.length_cons, show n + (xs.length + 1) = n + 1 + xs.length by omega]; exact hI))
      exact ⟨o3, by simp only [forIt, hok _ _ _ h0, cond_true, e1, Option.bind_some, e2]; exact e3, k3⟩
    | ret d μ2 => exact ⟨.ret d μ2, by simp only [forIt, hok _ _ _ h0, cond_true, e1, Option.bind_some, e2], k⟩
    | exc c fs μ2 => exact ⟨.exc c fs μ2, by simp only [forIt, hok _ _ _ h0, cond_true, e1, Option.bind_some, e2], k⟩
    | brk _ _ => exact k.elim
    | cont _ _ => exact k.elim
structure WXr (F : FX) (ds : List D) (μ : Mem) (Q : D → Mem → Prop) (ex : Str → List (Str × D) → Mem → Prop) : Prop where
  ex : (∃ d μ', F ds μ = some (.ok d μ') ∧ Q d μ') ∨ ∃ c fs μ', F ds μ = some (.exc c fs μ') ∧ ex c fs μ'
theorem x_def {F : FX} {N : List Str} {p : FS} {ds : List D} {μ : Mem} {Q : D → Mem → Prop} {ex : Str → List (Str × D) → Mem → Prop} (hF : F = fun ds μ => retX (p (startD N ds) μ)) (h : WXs p (startD N ds) μ (fun _ μ' => Q .non μ') Q ex) : WXr F ds μ Q ex := by
  subst hF
  obtain ⟨o, e, k⟩ := h
  cases o with
  | next δ' μ' => exact ⟨.inl ⟨_, _, by rw [e]; rfl, k⟩⟩
  | ret d μ' => exact ⟨.inl ⟨_, _, by rw [e]; rfl, k⟩⟩
  | exc c fs μ' => exact ⟨.inr ⟨_, _, _, by rw [e]; rfl, k⟩⟩
  | brk _ _ => exact k.elim
  | cont _ _ => exact k.elim
theorem w_trySet {F : FX} {φ : FA} {i j : Nat} {tb : List (Str × Bool)} {q : FS} {η : FH} {δ : M.Loc} {μ : Mem} {nx : M.Loc → Mem → Prop} {rt : D → Mem → Prop} {bk ct : M.Loc → Mem → Prop} (h : WA φ δ μ fun ds μ1 => WXr F ds μ1 (fun d μ' => nx (δ.set i (some d)) μ')
    (fun c fs μ' => tb.lookup c = some true ∧ WS q (δ.set j (some (.loc μ'.length))) (μ' ++ [.exc c fs]) (fun δ' μ'' => nx (δ'.set j none) μ'') rt (fun _ _ => False) (fun _ _ => False))) : WS (sTry (sSetX i F φ) (hAs j tb q η)) δ μ nx rt bk ct := by
  obtain ⟨ds, μ1, e1, ⟨d, μ', e2, k⟩ | ⟨c, fs, μ', e2, ht, o, e3, k⟩⟩ := h
  · exact ⟨.next _ μ', by simp [e1, e2], k⟩
  · cases o with
    | next δ' μ2 => exact ⟨.next _ μ2, by simp only [sTry, sSetX, outX, e1, Option.bind_some, e2, hAs, ht, e3, behind], k⟩
    | ret d μ2 => exact ⟨.ret d μ2, by simp only [sTry, sSetX, outX, e1, Option.bind_some, e2, hAs, ht, e3, behind], k⟩
    | brk _ _ => exact k.elim
    | cont _ _ => exact k.elim
    | exc _ _ _ => exact k.elim
theorem w_fat {c f : Str} {φ : FE} {δ : M.Loc} {μ : Mem} {Q : D → Mem → Prop} (h : WE φ δ μ fun x μ1 => ∃ n fs d, x = .loc n ∧ μ1[n]? = some (.exc c fs) ∧ fs.lookup f = some d ∧ Q d μ1) : WE (fAt c f φ) δ μ Q := by
  obtain ⟨x, μ1, e1, n, fs, d, rfl, e2, e3, q⟩ := h
  exact ⟨d, μ1, by simp only [fAt, e1, Option.bind_some, e2, if_true, e3], q⟩
noncomputable abbrev iD (p : Int × Int) : D := .tup [.int p.1, .int p.2]
noncomputable def oi (a : Option Nat) : Option Int := a.map fun (n : Nat) => (n : Int)
theorem onD_oi (a : Option Nat) : onD a = oiD (oi a) := by cases a <;> rfl
theorem on_ix {lay : List (Option Nat)} {k : Nat} (h : k < lay.length) : atI (lay.map onD) (k : Int) = some (onD (lay.getD k none)) := atI_nat (by simp [h])
theorem iD_ix {row : List (Int × Int)} {i : Nat} {p : Int × Int} (e : row[i]? = some p) : atI (row.map iD) (i : Int) = some (iD p) := atI_nat (by rw [List.getElem?_map, e]; rfl)
theorem on_set (lay : List (Option Nat)) (k h : Nat) : (lay.set k (some h)).map onD = (lay.map onD).set k (.int h) := List.map_set
theorem any_ints (S : List Int) (j : Int) : ((S.map D.int).any fun y => eqF y (.int j)) = decide (j ∈ S) := by
  refine bool_iff ?_
  rw [List.any_map, List.any_eq_true]
  simp only [Function.comp, decide_eq_true_iff]
  constructor
  · rintro ⟨x, hx, e⟩
    have e : (x == j) = true := e
    rw [← beq_iff_eq.mp e]
    exact hx
  · intro h
    exact ⟨j, h, beq_self_eq_true j⟩
noncomputable def homesI (K : List (List Nat)) (k : Nat) : List Int := (K.getD k []).map fun (h : Nat) => (h : Int)
theorem homesI_mem {K : List (List Nat)} {k : Nat} {j : Int} (h : j ∈ homesI K k) : ∃ b : Nat, j = b ∧ b ∈ K.getD k [] := by
  obtain ⟨b, hb, rfl⟩ := List.mem_map.mp h
  exact ⟨b, rfl, hb⟩
theorem nat_homesI (K : List (List Nat)) (k : Nat) : nat (K.getD k []) = (homesI K k).map D.int := by
  unfold homesI
  rw [List.map_map]
  rfl
structure OkAt (K : List (List Nat)) (lay : List (Option Nat)) (key : Nat) (row : List (Int × Int)) (i : Nat) (p : Int × Int) : Prop where
  lo : 0 ≤ p.1
  hi : p.1 < lay.length
  new : p.1 ∉ (row.take i).map (·.1)
  fol : (i = 0 → p.1 = key) ∧ (i ≠ 0 → oi (lay.getD p.1.toNat none) = some (row.getD (i - 1) (0, 0)).2)
  home : p.2 ∈ homesI K p.1.toNat
  ne : some p.2 ≠ oi (lay.getD p.1.toNat none)
noncomputable def AllOk (K : List (List Nat)) (lay : List (Option Nat)) (key : Nat) (row : List (Int × Int)) (m : Nat) : Prop := ∀ j p, j < m → row[j]? = some p → OkAt K lay key row j p
noncomputable def rowN (row : List (Int × Int)) : List (Nat × Nat) := row.map fun p => (p.1.toNat, p.2.toNat)
noncomputable def over (R : List Nat) (l : List (Option Nat)) : Prop := ∃ h, h < R.length ∧ R.getD h 0 < l.count (some h)
inductive AtF (R : List Nat) (K : List (List Nat)) (lay : List (Option Nat)) (key : Nat) (row : List (Int × Int)) : Option Nat → Prop
  | bad (i : Nat) (p : Int × Int) : row[i]? = some p → AllOk K lay key row i → ¬ OkAt K lay key row i p → AtF R K lay key row (some i)
  | full : AllOk K lay key row row.length → (row = [] ∨ over R (pushL lay (rowN row))) → AtF R K lay key row (some row.length)
  | fine : AllOk K lay key row row.length → row ≠ [] → ¬ over R (pushL lay (rowN row)) → AtF R K lay key row none
theorem AtF.one {R : List Nat} {K : List (List Nat)} {lay : List (Option Nat)} {key : Nat} {row : List (Int × Int)} {a b : Option Nat} (h1 : AtF R K lay key row a) (h2 : AtF R K lay key row b) : a = b := by
  cases h1 with
  | bad i p e1 a1 n1 =>
    have hi := (List.getElem?_eq_some_iff.mp e1).1
    cases h2 with
    | bad j q e2 a2 n2 =>
      by_cases h : i < j
      · exact absurd (a2 i p h e1) n1
      · by_cases h' : j < i
        · exact absurd (a1 j q h' e2) n2
        · rw [show i = j by omega]
    | full a2 _ => exact absurd (a2 i p hi e1) n1
    | fine a2 _ _ => exact absurd (a2 i p hi e1) n1
  | full a1 c1 =>
    cases h2 with
    | bad j q e2 a2 n2 => exact absurd (a1 j q (List.getElem?_eq_some_iff.mp e2).1 e2) n2
    | full _ _ => rfl
    | fine _ c2 c3 => exact (c1.elim c2 c3).elim
  | fine a1 c1 c1' =>
    cases h2 with
    | bad j q e2 a2 n2 => exact absurd (a1 j q (List.getElem?_eq_some_iff.mp e2).1 e2) n2
    | full _ c2 => exact (c2.elim c1 c1').elim
    | fine _ _ _ => rfl
theorem AllOk.snoc {K : List (List Nat)} {lay : List (Option Nat)} {key : Nat} {row : List (Int × Int)} {m : Nat} {p : Int × Int} (h : AllOk K lay key row m) (e : row[m]? = some p) (o : OkAt K lay key row m p) : AllOk K lay key row (m + 1) := fun j q hj e2 => by
  by_cases z : j = m
  · subst z
    rw [e] at e2
    cases e2
    exact o
  · exact h j q (by omega) e2
theorem wf_ispushI {L : Nat} {R : List Nat} {K : List (List Nat)} {lay : List (Option Nat)} {n r i : Nat} {row : List (Int × Int)} {p : Int × Int} {μ : Mem} {Q : D → Mem → Prop} (w : Wb L R K) (hlen : lay.length = K.length) (hn : μ[n]? = some (.lst (lay.map onD))) (hr : μ[r]? = some (.lst (row.map iD))) (hrl : row.length ≤ 1000) (e : row[i]? = some p)
    (q : ∀ (b : Bool) (μ' : Mem), Keep μ μ' → (b = true ↔ (0 ≤ p.1 ∧ p.1 < lay.length ∧ p.2 ∈ homesI K p.1.toNat ∧ some p.2 ≠ oi (lay.getD p.1.toNat none) ∧ p.1 ∉ (row.take i).map (·.1))) → Q (.bl b) μ') : WF F_is_push [wn R K, .loc n, .loc r, .int i] μ Q := by
  have hi := (List.getElem?_eq_some_iff.mp e).1
  obtain ⟨p1, p2⟩ := p
  have nope : (false = true ↔ (0 ≤ p1 ∧ p1 < (lay.length : Int) ∧ p2 ∈ homesI K p1.toNat ∧ some p2 ≠ oi (lay.getD p1.toNat none) ∧ p1 ∉ (row.take i).map (·.1))) ↔ ¬ (0 ≤ p1 ∧ p1 < (lay.length : Int) ∧ p2 ∈ homesI K p1.toNat ∧ some p2 ≠ oi (lay.getD p1.toNat none) ∧ p1 ∉ (row.take i).map (·.1)) := ⟨fun h z => (by cases h.mpr z), fun h => ⟨fun z => (by cases z), fun z => (h z).elim⟩⟩
  refine w_def rfl ?_
  show WS p_is_push [some (wn R K), some (.loc n), some (.loc r), some (.int i), none] μ _ _ _ _
  unfold p_is_push
  refine w_then (w_set (w_bin (w_bin (w_var rfl (w_var rfl (w_ix (items_loc hr) (iD_ix e) (w_c (w_ix rfl rfl ?_))))))))
  refine w_then (w_if (w_orT (w_test (w_bin (w_var rfl (w_c (w_cmp ⟨_, rfl, fun h1 => ?_, fun h1 => ⟨fun _ => w_ret (w_c (q false μ .refl (nope.mpr ?_))), fun hc => (by cases hc)⟩⟩)))))))
  case refine_2 =>
    have := of_decide_eq_true h1
    rintro ⟨z, _⟩
    omega
  have h1 := of_decide_eq_false h1
  refine w_test (w_bin (w_var rfl (w_call (w_cons (w_var rfl (w_nil (w_len (items_loc hn) (w_cmp ⟨_, rfl, fun h2 => w_ret (w_c (q false μ .refl (nope.mpr ?_))), fun h2 => w_skip ?_⟩))))))))
  · have := of_decide_eq_true h2
    rw [List.length_map] at this
    rintro ⟨_, z, _⟩
    omega
  have h2 := of_decide_eq_false h2
  rw [List.length_map] at h2
  obtain ⟨a, rfl⟩ := Int.eq_ofNat_of_zero_le (show 0 ≤ p1 by omega)
  have ha : a < K.length := by omega
  rw [Int.toNat_natCast] at nope q
  refine w_then (w_if (w_orT (w_test (w_bin (w_bin (w_bin (w_var rfl (w_var rfl (w_ix (items_loc hr) (iD_ix e) (w_c (w_ix rfl rfl (w_bin (w_bin (w_var rfl (w_c (w_keys (w_var rfl (w_key ha (w_notIn rfl rfl (flat_nat _) ⟨_, rfl, fun h3 => ?_, fun h3 => ⟨fun _ => w_ret (w_c (q false μ .refl (nope.mpr ?_))), fun hc => (by cases hc)⟩⟩)))))))))))))))))))
  case refine_2 =>
    rw [nat_homesI, any_ints] at h3
    rintro ⟨_, _, z, _⟩
    rw [decide_eq_true z] at h3
    cases h3
  have h3 : p2 ∈ homesI K a := by
    rw [nat_homesI, any_ints] at h3
    by_cases z : p2 ∈ homesI K a
    · exact z
    · rw [decide_eq_false z] at h3; cases h3
  refine w_test (w_bin (w_bin (w_bin (w_var rfl (w_var rfl (w_ix (items_loc hr) (iD_ix e) (w_c (w_ix rfl rfl (w_bin (w_var rfl (w_var rfl (w_ix (items_loc hn) (on_ix (by omega)) (w_eqE (α := Option Int) (some p2) (oi (lay.getD a none)) ⟨_, rfl, fun h4 => w_ret (w_c (q false μ .refl (nope.mpr ?_))), fun h4 => w_skip ?_⟩ rfl (onD_oi _))))))))))))))
  · rintro ⟨_, _, _, z, _⟩
    exact z (of_decide_eq_true h4)
  have h4 := of_decide_eq_false h4
  refine w_ret (w_bin (w_var rfl (w_lc (w_seq (w_slL (w_var rfl (w_pno (w_pyes (w_var rfl ⟨_, rfl, _, _, rfl, hr, .inr (.inr ⟨_, _, rfl, get_new, ?_, ?_⟩)⟩)))))))))
  · rw [cut_pre]; exact few_of (by rw [List.length_take, List.length_map]; omega)
  rw [cut_pre, ← List.map_take]
  refine w_mapE iD (row.take i) (fun x => .int x.1) (fun μ' k => stays_of get_new k) (fun x hx μ' kp => ?_) (fun μ' kp => ?_)
  · unfold e_is_push_0
    exact w_gn (w_bin (w_var rfl (w_c (w_ix rfl rfl ⟨rfl, kp, kp⟩))))
  · have e2 : ((row.take i).map fun x => D.int x.1) = ((row.take i).map (·.1)).map D.int := by rw [List.map_map]; rfl
    rw [e2]
    refine w_notIn (items_loc get_new) rfl (List.all_eq_true.mpr fun x hx => by obtain ⟨k, _, rfl⟩ := List.mem_map.mp hx; rfl) ?_
    rw [any_ints]
    refine q _ _ (Keep.app.trans kp.to) ?_
    constructor
    · intro z
      refine ⟨by omega, by omega, h3, h4, fun y => ?_⟩
      rw [decide_eq_true y] at z
      cases z
    · rintro ⟨_, _, _, _, z⟩
      rw [decide_eq_false z]
      rfl
theorem wf_followsI {lay : List (Option Nat)} {key n r i a : Nat} {row : List (Int × Int)} {p2 : Int} {μ : Mem} {Q : D → Mem → Prop} (hn : μ[n]? = some (.lst (lay.map onD))) (hr : μ[r]? = some (.lst (row.map iD))) (e : row[i]? = some ((a : Int), p2)) (ha : a < lay.length)
    (q : ∀ b : Bool, (b = true ↔ ((i = 0 → (a : Int) = key) ∧ (i ≠ 0 → oi (lay.getD a none) = some (row.getD (i - 1) (0, 0)).2))) → Q (.bl b) μ) : WF F_follows [.loc n, .int key, .loc r, .int i] μ Q := by
  refine w_def rfl ?_
  show WS p_follows [some (.loc n), some (.int key), some (.loc r), some (.int i)] μ _ _ _ _
  unfold p_follows
  refine w_then (w_if (w_test (w_bin (w_var rfl (w_c (w_eqI ⟨_, rfl, fun h1 => ?_, fun h1 => w_skip ?_⟩))))))
  · have hi : i = 0 := by have := beq_iff_eq.mp h1; omega
    subst hi
    refine w_ret (w_bin (w_bin (w_bin (w_var rfl (w_c (w_ix (items_loc hr) (iD_ix (i := 0) e) (w_c (w_ix rfl rfl (w_var rfl (w_eqI ?_))))))))))
    refine q _ ⟨fun z => ⟨fun _ => beq_iff_eq.mp z, fun z => absurd rfl z⟩, fun z => beq_iff_eq.mpr (z.1 rfl)⟩
  · cases i with
    | zero => exact absurd h1 (by decide)
    | succ j =>
      have hj : j < row.length := by
        have := (List.getElem?_eq_some_iff.mp e).1
        omega
      have ej : row[j]? = some row[j] := by simp [hj]
      have eg : row.getD j (0, 0) = row[j] := by simp [hj]
      refine w_ret (w_bin (w_bin (w_var rfl (w_bin (w_bin (w_var rfl (w_var rfl (w_ix (items_loc hr) (iD_ix e) (w_c (w_ix rfl rfl (w_ix (items_loc hn) (on_ix ha) (w_bin (w_bin (w_var rfl (w_bin (w_var rfl (w_c (w_sub ?_))))))))))))))))))
      rw [show ((j + 1 : Nat) : Int) - 1 = (j : Int) by omega]
      refine w_ix (items_loc hr) (iD_ix ej) (w_c (w_ix rfl rfl (w_eqE (α := Option Int) (oi (lay.getD a none)) (some (row[j]).2) ?_ (onD_oi _) rfl)))
      refine q _ ⟨fun z => ⟨fun y => (by omega), fun _ => ?_⟩, fun z => decide_eq_true ?_⟩
      · rw [Nat.add_sub_cancel, eg]; exact of_decide_eq_true z
      · have := z.2 (by omega)
        rw [Nat.add_sub_cancel, eg] at this
        exact this
noncomputable instance : Enc (Int × Int) := ⟨iD, fun p => .tuple [.int p.1, .int p.2], 2, fun _ _ _ => rfl, fun a b => by
  obtain ⟨a1, a2⟩ := a
  obtain ⟨b1, b2⟩ := b
  simp [PyData.eqv, PyData.eqvAll]⟩
theorem w_eqR {m n : Nat} {row row' : List (Int × Int)} {μ : Mem} {Q : D → Mem → Prop} (e1 : μ[m]? = some (.lst (row.map iD))) (e2 : μ[n]? = some (.lst (row'.map iD))) (q : Q (.bl (decide (row = row'))) μ) : W2 gEq (.loc m) (.loc n) μ Q := w_eqL row row' e1 e2 q
theorem leftI_at {R : List Nat} {lay : List (Option Nat)} {h : Nat} (hh : h < R.length) : atI ((leftI R lay).map D.int) (h : Int) = some (.int ((R.getD h 0 : Int) - (lay.count (some h) : Nat))) := atI_nat (by unfold leftI; simp [hh])
theorem leftI_0 (R : List Nat) : nat R = (leftI R []).map D.int := by
  refine List.ext_getElem? fun i => ?_
  unfold leftI
  by_cases hi : i < R.length
  · simp [hi]
  · rw [List.getElem?_eq_none (by simp; omega), List.getElem?_eq_none (by simp; omega)]
theorem leftI_snoc {R : List Nat} {lay : List (Option Nat)} {h : Nat} (hh : h < R.length) : ((leftI R lay).map D.int).set h (.int ((R.getD h 0 : Int) - (lay.count (some h) : Nat) - 1)) = (leftI R (lay ++ [some h])).map D.int := by
  refine List.ext_getElem? fun i => ?_
  unfold leftI
  by_cases hi : i < R.length
  · by_cases e : h = i
    · subst e
      rw [List.getElem?_set_self (by simpa using hh)]
      simp only [List.getElem?_map, List.getElem?_range hi, Option.map_some, List.count_append, List.count_singleton_self]
      congr 2
      omega
    · rw [List.getElem?_set_ne e]
      simp only [List.getElem?_map, List.getElem?_range hi, Option.map_some, List.count_append]
      rw [List.count_cons_of_ne (by simpa using e)]
      simp
  · rw [List.getElem?_eq_none (by simp; omega), List.getElem?_eq_none (by simp; omega)]
theorem leftI_none {R : List Nat} {lay : List (Option Nat)} : leftI R (lay ++ [none]) = leftI R lay := by
  unfold leftI
  refine List.map_congr_left fun p _ => ?_
  rw [List.count_append]
  simp
theorem w_roomloop {R : List Nat} {lay : List (Option Nat)} {n l rv nv : Nat} {body : FS} {δ : M.Loc} {μ : Mem} {nx : M.Loc → Mem → Prop} {rt : D → Mem → Prop}
    (hb : body = sIf (fTest (fBin gIsNot (fVar nv) (fC .non))) (sAsg (fBin gSub (fBin gIx (fVar rv) (fVar nv)) (fC (.int 1))) (gAt (fVar rv) (fVar nv))) sSkip) (hne : nv ≠ rv) (hrv : δ[rv]? = some (some (.loc l))) (hnv : nv < δ.length)
    (hlay : ∀ h, some h ∈ lay → h < R.length) (hl : μ[l]? = some (.lst (nat R))) (hnl : n ≠ l) (hn : μ[n]? = some (.lst (lay.map onD)))
    (q : ∀ (δ' : M.Loc) (μ' : Mem), (δ' = δ ∨ ∃ x, δ' = δ.set nv (some x)) → (∀ a o, a ≠ l → μ[a]? = some o → μ'[a]? = some o) → μ'.length = μ.length → μ'[l]? = some (.lst ((leftI R lay).map .int)) → nx δ' μ') : WFor (gN nv) body (stays n (lay.map onD)) (lay.map onD) δ μ nx rt := by
  refine w_loop0 (fun m δ' ν => (δ' = δ ∨ ∃ x, δ' = δ.set nv (some x)) ∧ (∀ a o, a ≠ l → μ[a]? = some o → ν[a]? = some o) ∧ ν.length = μ.length ∧ ν[l]? = some (.lst ((leftI R (lay.take m)).map .int))) ⟨.inl rfl, fun _ _ _ e => e, rfl, by rw [hl, List.take_zero, leftI_0]⟩ (fun m δ' ν ⟨_, k, _⟩ => stays_iff.mpr (k n _ hnl hn)) ?_ ?_
  · rintro m x δ' ν hx ⟨hd, k, hlen, g⟩
    rw [List.getElem?_map] at hx
    cases hy : lay[m]? with
    | none => rw [hy] at hx; cases hx
    | some o =>
      rw [hy] at hx
      cases hx
      have htk : lay.take (m + 1) = lay.take m ++ [o] := by rw [List.take_succ, hy]; rfl
      have hlen' : δ'.length = δ.length := by rcases hd with rfl | ⟨x, rfl⟩ <;> simp
      have e1 : (δ'.set nv (some (onD o)))[nv]? = some (some (onD o)) := List.getElem?_set_self (by omega)
      have e2 : (δ'.set nv (some (onD o)))[rv]? = some (some (.loc l)) := by
        rw [List.getElem?_set_ne hne]
        rcases hd with rfl | ⟨x, rfl⟩
        · exact hrv
        · rw [List.getElem?_set_ne hne]; exact hrv
      have hd2 : (δ'.set nv (some (onD o)) = δ ∨ ∃ x, δ'.set nv (some (onD o)) = δ.set nv (some x)) := by
        rcases hd with rfl | ⟨x, rfl⟩
        · exact .inr ⟨_, rfl⟩
        · exact .inr ⟨onD o, by rw [List.set_set]⟩
      refine w_gn ?_
      rw [hb]
      refine w_if (w_test (w_bin (w_var e1 (w_c (w_isNotN (flat_onD _) ⟨_, rfl, fun h1 => ?_, fun h1 => w_skip ⟨hd2, k, hlen, ?_⟩⟩)))))
      · cases o with
        | none => cases h1
        | some h =>
          have hh := hlay h (List.mem_of_getElem? hy)
          refine w_asg (w_bin (w_bin (w_var e2 (w_var e1 (w_ix (items_loc g) (leftI_at hh) (w_c (w_sub ?_)))))))
          refine w_gat (w_var e2 (w_var e1 ⟨_, _, _, rfl, rfl, g, ⟨by omega, by unfold leftI; simp; omega⟩, ?_⟩))
          rw [Int.toNat_natCast, leftI_snoc hh]
          refine ⟨hd2, fun a o ha e => get_set_ne (k a o ha e) (Ne.symm ha), by rw [List.length_set]; exact hlen, ?_⟩
          rw [get_set_eq g, htk]
      · cases o with
        | none => rw [g, htk, leftI_none]
        | some h => cases h1
  · rintro δ' ν ⟨hd, k, hlen, g⟩
    rw [List.length_map, List.take_length] at g
    exact q δ' ν hd k hlen g
theorem rowN_get {row : List (Int × Int)} {m a b : Nat} (e : row[m]? = some ((a : Int), (b : Int))) : (rowN row).take (m + 1) = (rowN row).take m ++ [(a, b)] := by
  rw [List.take_succ]
  unfold rowN
  rw [List.getElem?_map, e]
  rfl
theorem push_homes {R : List Nat} {K : List (List Nat)} {lay : List (Option Nat)} {key : Nat} {row : List (Int × Int)} (rt : RightL R K lay) : ∀ {m : Nat}, m ≤ row.length → AllOk K lay key row m → ∀ k h, (pushL lay ((rowN row).take m))[k]? = some (some h) → h ∈ K.getD k []
  | 0, _, _, k, h, e => rt.home k h e
  | m + 1, hm, ok, k, h, e => by
    obtain ⟨⟨p1, p2⟩, ep⟩ : ∃ p, row[m]? = some p := ⟨_, List.getElem?_eq_getElem (show m < row.length by omega)⟩
    have o := ok m _ (Nat.lt_succ_self m) ep
    obtain ⟨a, rfl⟩ := Int.eq_ofNat_of_zero_le (show 0 ≤ p1 from o.lo)
    obtain ⟨b, eb, hb⟩ := homesI_mem o.home
    have eb : p2 = b := eb
    subst eb
    have hb : b ∈ K.getD a [] := hb
    rw [rowN_get ep, pushL_snoc] at e
    by_cases z : k = a
    · subst z
      rw [List.getElem?_set_self (by
        have := (List.getElem?_eq_some_iff.mp e).1
        simpa using this)] at e
      cases e
      exact hb
    · rw [List.getElem?_set_ne (Ne.symm z)] at e
      exact push_homes rt (by omega) (fun j p hj => ok j p (by omega)) k h e
theorem fault_over {R : List Nat} {K : List (List Nat)} {l : List (Option Nat)} (hlen : l.length = K.length) (hh : ∀ k h, l[k]? = some (some h) → h ∈ K.getD k []) : isNon (faultD R K (l.map onD)) = false ↔ over R l := by
  have h1 : (List.range K.length).find? (homeB K (l.map onD)) = none := find_none fun k hk => by
    unfold homeB
    have e : (l.map onD).getD k .non = onD (l.getD k none) := by
      have hk' : k < l.length := by omega
      simp [hk']
    rw [e]
    cases e2 : l.getD k none with
    | none => rfl
    | some h =>
      have hm : h ∈ K.getD k [] := hh k h (by
        have hk' : k < l.length := by omega
        simp [hk'] at e2
        simp [hk', e2])
      show (_ && !((nat (K.getD k [])).any fun y => eqF y (.int h))) = false
      rw [any_nat, decide_eq_true hm, Bool.not_true, Bool.and_false]
  unfold faultD
  rw [h1]
  cases e : (List.range R.length).find? (roomB R (l.map onD)) with
  | some h =>
    have h2 := List.find?_some e
    have h3 := List.mem_of_find?_eq_some e
    refine ⟨fun _ => ⟨h, by simpa using h3, ?_⟩, fun _ => rfl⟩
    unfold roomB at h2
    rw [cntD_on] at h2
    have := of_decide_eq_true h2
    omega
  | none =>
    refine ⟨fun z => (by cases z), fun ⟨h, hr, hc⟩ => ?_⟩
    have := List.find?_eq_none.mp e h (by simpa using hr)
    unfold roomB at this
    rw [cntD_on] at this
    exact absurd (decide_eq_true (by omega)) this
theorem fault_tup (R : List Nat) (K : List (List Nat)) (ds : List D) : faultD R K ds = .non ∨ ∃ es, faultD R K ds = .tup es := by
  unfold faultD
  split
  · exact .inr ⟨_, rfl⟩
  · split
    · exact .inr ⟨_, rfl⟩
    · exact .inl rfl
theorem w_isNotF {R : List Nat} {K : List (List Nat)} {ds : List D} {μ : Mem} {Q : D → Mem → Prop} (q : Q (.bl (!isNon (faultD R K ds))) μ) : W2 gIsNot (faultD R K ds) .non μ Q := by
  rcases fault_tup R K ds with e | ⟨es, e⟩
  · rw [e] at q ⊢
    exact ⟨_, _, rfl, q⟩
  · rw [e] at q ⊢
    exact ⟨_, _, rfl, q⟩
theorem wx_pushed {L : Nat} {R : List Nat} {K : List (List Nat)} {lay : List (Option Nat)} {key n r : Nat} {row : List (Int × Int)} {μ : Mem} {Q : D → Mem → Prop} {ex : Str → List (Str × D) → Mem → Prop} (w : Wb L R K) (hL : L ≤ 1000) (rt : RightL R K lay) (hn : μ[n]? = some (.lst (lay.map onD))) (hr : μ[r]? = some (.lst (row.map iD))) (hrl : row.length ≤ 1000)
    (q : ∀ (l : Nat) (μ' : Mem), Keep μ μ' → μ.length ≤ l → μ'[l]? = some (.lst ((pushL lay (rowN row)).map onD)) → AtF R K lay key row none → Q (.loc l) μ')
    (x : ∀ (i : Nat) (μ' : Mem), Keep μ μ' → AtF R K lay key row (some i) → ex "NoPush" [("at", .int i)] μ') : WXr F_pushed [wn R K, .loc n, .int key, .loc r] μ Q ex := by
  have hkl := w.kl
  have hlen := rt.len
  refine x_def rfl ?_
  show WXs p_pushed [some (wn R K), some (.loc n), some (.int key), some (.loc r), none, none, none] μ _ _ _
  unfold p_pushed
  refine x_then (x_of (w_set (w_call (w_cons (w_var rfl (w_nil (w_list (items_loc hn) ?_)))))))
  refine x_then (x_for (w_enum (w_var rfl (.inr (.inr ⟨r, _, rfl, get_old' hr, ?_⟩)))))
  refine x_loop (n := 0) (fun m δ ν => ∃ x y : Option D, δ = [some (wn R K), some (.loc n), some (.int key), some (.loc r), some (.loc μ.length), x, y] ∧ Keep μ ν ∧ AllOk K lay key row m ∧ ν[μ.length]? = some (.lst ((pushL lay ((rowN row).take m)).map onD))) ⟨_, _, rfl, .app, fun j p hj => absurd hj (Nat.not_lt_zero j), get_new⟩ (fun m δ ν ⟨_, _, _, k, _⟩ => stays_of hr k) ?_ ?_
  · intro m x0 δ ν hx hI
    rw [Nat.zero_add] at hI ⊢
    obtain ⟨a0, b0, rfl, kp, ok, g⟩ := hI
    obtain ⟨⟨p1, p2⟩, ep, rfl⟩ := enumD_turn hx
    have hm := (List.getElem?_eq_some_iff.mp ep).1
    have bad : ∀ (ν1 : Mem) {nx : M.Loc → Mem → Prop} {rt' : D → Mem → Prop}, Keep μ ν1 → ¬ OkAt K lay key row m (p1, p2) → WXs (sRaiseI "NoPush" "at" (aCons (fVar 5) aNil)) [some (wn R K), some (.loc n), some (.int key), some (.loc r), some (.loc μ.length), some (.int m), some (iD (p1, p2))] ν1 nx rt' ex := fun ν1 {nx rt'} k1 hb =>
      x_raise (w_cons (w_var rfl (w_nil ⟨m, rfl, by omega, x m ν1 k1 (.bad m _ ep ok hb)⟩)))
    refine w_gt2 (w_gsc (w_gn (w_gsc (w_gn (w_gsn ?_)))))
    unfold b_pushed_0
    refine x_then (x_if (w_notT (w_andT (w_test (w_call (w_cons (w_var rfl (w_cons (w_var rfl (w_cons (w_var rfl (w_cons (w_var rfl (w_nil ?_))))))))))))))
    refine wf_ispushI w hlen (kp _ _ hn) (kp _ _ hr) hrl ep fun b1 μ1 k1 hb1 => ⟨_, rfl, fun hb => ?_, fun hb => ⟨fun _ => bad μ1 (kp.trans k1) fun o => ?_, fun hc => (by cases hc)⟩⟩
    case refine_2 =>
      rw [hb] at hb1
      exact Bool.noConfusion (hb1.mpr ⟨o.lo, o.hi, o.home, o.ne, o.new⟩)
    obtain ⟨h1, h2, h3, h4, h5⟩ := hb1.mp hb
    obtain ⟨a, rfl⟩ := Int.eq_ofNat_of_zero_le (show 0 ≤ p1 from h1)
    obtain ⟨b, eb, hbm⟩ := homesI_mem h3
    have eb : p2 = b := eb
    subst eb
    have ha : a < lay.length := by
      have h2 : ((a : Nat) : Int) < lay.length := h2
      omega
    refine w_test (w_call (w_cons (w_var rfl (w_cons (w_var rfl (w_cons (w_var rfl (w_cons (w_var rfl (w_nil ?_))))))))))
    refine wf_followsI ((kp.trans k1) _ _ hn) ((kp.trans k1) _ _ hr) ep ha fun b2 hb2 => ⟨_, rfl, fun hb' => bad μ1 (kp.trans k1) fun o => ?_, fun hb' => x_of (w_skip ?_)⟩
    · rw [hb2.mpr o.fol] at hb'
      cases hb'
    have hb2t : b2 = true := by cases b2 with | true => rfl | false => cases hb'
    have o : OkAt K lay key row m ((a : Int), (b : Int)) := ⟨h1, h2, h5, hb2.mp hb2t, h3, h4⟩
    have g1 := k1 _ _ g
    refine x_of (w_asg (w_bin (w_var rfl (w_c (w_ix rfl rfl ?_)))))
    refine w_gat (w_var rfl (w_bin (w_var rfl (w_c (w_ix rfl rfl ⟨_, _, _, rfl, rfl, g1, ⟨by omega, ?_⟩, ?_⟩)))))
    · rw [List.length_map, pushL_len]; omega
    · refine ⟨_, _, rfl, fun i o e => get_set_ne (k1 _ _ (kp i o e)) (Nat.ne_of_gt (lt_of_get e)), ok.snoc ep o, ?_⟩
      rw [get_set_eq g1, rowN_get ep, pushL_snoc, on_set]
      rfl
  · intro δ ν hI
    rw [Nat.zero_add] at hI
    obtain ⟨a0, b0, rfl, kp, ok, g⟩ := hI
    rw [enumD_len, List.length_map] at ok g
    have hl : (rowN row).take row.length = rowN row := List.take_of_length_le (by unfold rowN; simp)
    have hh := push_homes rt (Nat.le_refl _) ok
    rw [hl] at g hh
    have fin : ∀ (ν1 : Mem) {nx : M.Loc → Mem → Prop} {rt' : D → Mem → Prop}, Keep μ ν1 → (row = [] ∨ over R (pushL lay (rowN row))) → WXs (sRaiseI "NoPush" "at" (aCons (fCall gLen (aCons (fVar 3) aNil)) aNil)) [some (wn R K), some (.loc n), some (.int key), some (.loc r), some (.loc μ.length), a0, b0] ν1 nx rt' ex := fun ν1 {nx rt'} k1 hb =>
      x_raise (w_cons (w_call (w_cons (w_var rfl (w_nil (w_len (items_loc (k1 _ _ hr)) (w_nil ⟨_, rfl, by rw [List.length_map]; omega, by rw [List.length_map]; exact x row.length ν1 k1 (.full ok hb)⟩)))))))
    refine x_then (x_if (w_orT (w_test (w_bin (w_call (w_cons (w_var rfl (w_nil (w_len (items_loc (kp _ _ hr)) (w_c (w_eqI ⟨_, rfl, fun h1 => ?_, fun h1 => ⟨fun _ => fin ν kp (.inl ?_), fun hc => (by cases hc)⟩⟩)))))))))))
    case refine_2 =>
      have := beq_iff_eq.mp h1
      rw [List.length_map] at this
      exact List.length_eq_zero_iff.mp (by omega)
    have hne : row ≠ [] := by
      rintro rfl
      cases h1
    refine w_test (w_bin (w_call (w_cons (w_var rfl (w_cons (w_var rfl (w_nil ?_)))))))
    refine wf_fault w (flat_on _) (by rw [List.length_map, pushL_len]; exact hlen) g fun μ1 k1 => ?_
    have fo := fault_over (R := R) (by rw [pushL_len]; exact hlen) hh
    refine w_c (w_isNotF ⟨_, rfl, fun h2 => fin μ1 (kp.trans k1) (.inr (fo.mp ?_)), fun h2 => x_of (w_skip (x_of (w_ret (w_var rfl ?_))))⟩)
    · cases e : isNon (faultD R K ((pushL lay (rowN row)).map onD)) with
      | false => rfl
      | true => rw [e] at h2; cases h2
    · refine q _ _ (kp.trans k1) (Nat.le_refl _) (k1 _ _ g) (.fine ok hne fun z => ?_)
      rw [fo.mpr z] at h2
      cases h2
theorem wf_behindI {lay : List (Option Nat)} {row : List (Int × Int)} {n r : Nat} {μ : Mem} {Q : D → Mem → Prop} (hn : μ[n]? = some (.lst (lay.map onD))) (hr : μ[r]? = some (.lst (row.map iD))) (hm : ∀ p ∈ row, 0 ≤ p.1 ∧ p.1 < lay.length ∧ 0 ≤ p.2) (q : ∀ (l : Nat) (μ' : Mem), Keep μ μ' → μ.length ≤ l → μ'[l]? = some (.lst ((pushL lay (rowN row)).map onD)) → Q (.loc l) μ') : WF F__law_behind [.loc n, .loc r] μ Q := by
  refine w_def rfl ?_
  show WS p__law_behind [some (.loc n), some (.loc r), none, none, none] μ _ _ _ _
  unfold p__law_behind
  refine w_then (w_set (w_call (w_cons (w_var rfl (w_nil (w_list (items_loc hn) ?_))))))
  refine w_then (w_for (w_seq (w_var rfl (.inr (.inr ⟨r, _, rfl, get_old' hr, ?_⟩)))))
  have hrl := lt_of_get hr
  refine w_loop0 (fun i δ ν => ∃ x y : Option D, δ = [some (.loc n), some (.loc r), some (.loc μ.length), x, y] ∧ Keep μ ν ∧ ν[μ.length]? = some (.lst ((pushL lay ((rowN row).take i)).map onD))) ⟨_, _, rfl, .app, get_new⟩ (fun _ _ _ ⟨_, _, _, k, _⟩ => stays_of hr k) ?_ ?_
  · rintro i z δ ν hz ⟨x, y, rfl, k, g⟩
    rw [List.getElem?_map] at hz
    cases ep : row[i]? with
    | none => rw [ep] at hz; cases hz
    | some p =>
      rw [ep] at hz
      cases hz
      obtain ⟨p1, p2⟩ := p
      obtain ⟨h1, h2, h3⟩ := hm _ (List.mem_of_getElem? ep)
      obtain ⟨a, rfl⟩ := Int.eq_ofNat_of_zero_le (show 0 ≤ p1 from h1)
      obtain ⟨b, rfl⟩ := Int.eq_ofNat_of_zero_le (show 0 ≤ p2 from h3)
      have ha : a < lay.length := by
        have h2 : ((a : Nat) : Int) < lay.length := h2
        omega
      refine w_gt2 (w_gsc (w_gn (w_gsc (w_gn (w_gsn ?_)))))
      unfold b__law_behind_0
      refine w_asg (w_var rfl (w_gat (w_var rfl (w_var rfl ⟨_, _, _, rfl, rfl, g, ⟨by omega, by rw [List.length_map, pushL_len]; omega⟩, ?_⟩))))
      refine ⟨_, _, rfl, fun a o e => get_set_ne (k a o e) (Nat.ne_of_gt (lt_of_get e)), ?_⟩
      rw [get_set_eq g, rowN_get ep, pushL_snoc, on_set]
      rfl
  · rintro δ ν ⟨x, y, rfl, k, g⟩
    have hl : (rowN row).take row.length = rowN row := List.take_of_length_le (by unfold rowN; simp)
    rw [List.length_map, hl] at g
    exact w_ret (w_var rfl (q _ _ k (Nat.le_refl _) g))
theorem AllOk.mem {K : List (List Nat)} {lay : List (Option Nat)} {key : Nat} {row : List (Int × Int)} (ok : AllOk K lay key row row.length) : ∀ p ∈ row, 0 ≤ p.1 ∧ p.1 < lay.length ∧ 0 ≤ p.2 := fun p hp => by
  obtain ⟨i, hi, e⟩ := List.mem_iff_getElem.mp hp
  have o := ok i p hi (by rw [List.getElem?_eq_getElem hi, e])
  obtain ⟨b, eb, _⟩ := homesI_mem o.home
  exact ⟨o.lo, o.hi, by omega⟩
theorem wf_atfaultI {L : Nat} {R : List Nat} {K : List (List Nat)} {lay : List (Option Nat)} {key n r : Nat} {row : List (Int × Int)} {μ : Mem} {Q : D → Mem → Prop} (w : Wb L R K) (hL : L ≤ 1000) (rt : RightL R K lay) (hn : μ[n]? = some (.lst (lay.map onD))) (hr : μ[r]? = some (.lst (row.map iD))) (hrl : row.length ≤ 1000)
    (q : ∀ (f : Option Nat) (μ' : Mem), Keep μ μ' → AtF R K lay key row f → Q (onD f) μ') : WF F__law_at_fault [wn R K, .loc n, .int key, .loc r] μ Q := by
  have hrl' := w.rl
  have hkl := w.kl
  have hlen := rt.len
  have hnl := lt_of_get hn
  have hrlt := lt_of_get hr
  refine w_def rfl ?_
  show WS p__law_at_fault [some (wn R K), some (.loc n), some (.int key), some (.loc r), none, none, none, none, none, none] μ _ _ _ _
  unfold p__law_at_fault
  refine w_then (w_set (w_lst (w_nil ?_)))
  refine w_then (w_for (w_range (w_cons (w_call (w_cons (w_var rfl (w_nil (w_len (items_loc (get_old' hr)) (w_nil ⟨_, rfl, by omega, by rw [List.length_map]; omega, ?_⟩)))))))))
  rw [Int.toNat_natCast, List.length_map]
  refine w_loop0 (fun i δ ν => ∃ x y z : Option D, δ = [some (wn R K), some (.loc n), some (.int key), some (.loc r), some (.loc μ.length), x, y, z, none, none] ∧ Keep μ ν ∧ AllOk K lay key row i ∧ ν[μ.length]? = some (.lst (((row.take i).map (·.1)).map D.int))) ⟨_, _, _, rfl, .app, fun j p hj => absurd hj (Nat.not_lt_zero j), get_new⟩ (fun _ _ _ _ => rfl) ?_ ?_
  · rintro i x0 δ ν hx ⟨x, y, z, rfl, k, ok, g⟩
    obtain ⟨hi, rfl⟩ := range_at hx
    obtain ⟨⟨p1, p2⟩, ep⟩ : ∃ p, row[i]? = some p := ⟨_, List.getElem?_eq_getElem hi⟩
    have htk : row.take (i + 1) = row.take i ++ [(p1, p2)] := by rw [List.take_succ, ep]; rfl
    have bad : ∀ {nx : M.Loc → Mem → Prop} {bk ct : M.Loc → Mem → Prop}, ¬ OkAt K lay key row i (p1, p2) → WS (sRet (fVar 5)) [some (wn R K), some (.loc n), some (.int key), some (.loc r), some (.loc μ.length), some (.int i), some (.int p1), some (.int p2), none, none] ν nx Q bk ct := fun {nx bk ct} hb => w_ret (w_var rfl (q (some i) ν k (.bad i _ ep ok hb)))
    refine w_gn ?_
    unfold b__law_at_fault_1
    refine w_then (w_asg (w_bin (w_var rfl (w_var rfl (w_ix (items_loc (k _ _ hr)) (iD_ix ep) (w_gt2 (w_gsc (w_gn (w_gsc (w_gn (w_gsn ?_)))))))))))
    refine w_then (w_if (w_orT (w_test (w_bin (w_var rfl (w_c (w_cmp ⟨_, rfl, fun h1 => ?_, fun h => ⟨fun _ => bad fun o => ?_, fun hc => (by cases hc)⟩⟩)))))))
    case refine_2 =>
      have := of_decide_eq_true h
      have z : 0 ≤ p1 := o.lo
      omega
    have h1 := of_decide_eq_false h1
    refine w_orT (w_test (w_bin (w_var rfl (w_call (w_cons (w_var rfl (w_nil (w_len (items_loc (k _ _ hn)) (w_cmp ⟨_, rfl, fun h2 => ?_, fun h => ⟨fun _ => bad fun o => ?_, fun hc => (by cases hc)⟩⟩)))))))))
    case refine_2 =>
      have := of_decide_eq_true h
      rw [List.length_map] at this
      have z : p1 < lay.length := o.hi
      omega
    have h2 := of_decide_eq_false h2
    rw [List.length_map] at h2
    refine w_test (w_bin (w_var rfl (w_var rfl (w_in (items_loc g) rfl (List.all_eq_true.mpr fun x hx => by obtain ⟨k, _, rfl⟩ := List.mem_map.mp hx; rfl) ?_))))
    rw [any_ints]
    refine ⟨_, rfl, fun h => bad fun o => o.new (of_decide_eq_true h), fun h3 => w_skip ?_⟩
    have h3 := of_decide_eq_false h3
    obtain ⟨a, rfl⟩ := Int.eq_ofNat_of_zero_le (show 0 ≤ p1 by omega)
    have ha : a < lay.length := by omega
    have third : ∀ {bk ct : M.Loc → Mem → Prop}, ((i = 0 → (a : Int) = key) ∧ (i ≠ 0 → oi (lay.getD a none) = some (row.getD (i - 1) (0, 0)).2)) → WS (sSeq (sIf (tOrT (fTest (fBin gNotIn (fVar 7) (fBin gIx (fBin gIx (fVar 0) (fC (.int 1))) (fVar 6)))) (fTest (fBin gEq (fVar 7) (fBin gIx (fVar 1) (fVar 6))))) (sRet (fVar 5)) sSkip) (sExpr (fMeth gAppend (fVar 4) (aCons (fVar 6) aNil)))) [some (wn R K), some (.loc n), some (.int key), some (.loc r), some (.loc μ.length), some (.int i), some (.int a), some (.int p2), none, none] ν (fun δ ν => ∃ x y z : Option D, δ = [some (wn R K), some (.loc n), some (.int key), some (.loc r), some (.loc μ.length), x, y, z, none, none] ∧ Keep μ ν ∧ AllOk K lay key row (i + 1) ∧ ν[μ.length]? = some (.lst (((row.take (i + 1)).map (·.1)).map D.int))) Q bk ct := fun {bk ct} hf => by
      refine w_then (w_if (w_orT (w_test (w_bin (w_var rfl (w_bin (w_bin (w_var rfl (w_c (w_keys (w_var rfl (w_key (by omega) (w_notIn rfl rfl (flat_nat _) ?_)))))))))))))
      rw [nat_homesI, any_ints]
      refine ⟨_, rfl, fun h4 => ?_, fun h => ⟨fun _ => bad fun o => ?_, fun hc => (by cases hc)⟩⟩
      case refine_2 =>
        have z : p2 ∈ homesI K a := o.home
        rw [decide_eq_true z] at h
        cases h
      have h4 : p2 ∈ homesI K a := by
        by_cases z : p2 ∈ homesI K a
        · exact z
        · rw [decide_eq_false z] at h4; cases h4
      refine w_test (w_bin (w_var rfl (w_bin (w_var rfl (w_var rfl (w_ix (items_loc (k _ _ hn)) (on_ix (lay := lay) (k := a) ha) (w_eqE (α := Option Int) (some p2) (oi (lay.getD a none)) ⟨_, rfl, fun h => bad fun o => o.ne (of_decide_eq_true h), fun h5 => w_skip ?_⟩ rfl (onD_oi _))))))))
      have h5 := of_decide_eq_false h5
      refine w_expr (w_meth (w_var rfl ⟨_, _, rfl, g, w_cons (w_var rfl (w_nil (w_append g (by simp; omega) ?_)))⟩))
      refine ⟨_, _, _, rfl, fun a o e => get_set_ne (k a o e) (Nat.ne_of_gt (lt_of_get e)), ok.snoc ep ⟨by omega, by omega, h3, hf, h4, h5⟩, ?_⟩
      rw [get_set_eq g, htk, List.map_append, List.map_append]
      rfl
    refine w_then ?_
    have sec : WT (tAndT (fTest (fBin (gCmp fun i j => decide (j < i)) (fVar 5) (fC (.int 0)))) (fTest (fBin gNe (fBin gIx (fVar 1) (fVar 6)) (fBin gIx (fBin gIx (fVar 3) (fBin gSub (fVar 5) (fC (.int 1)))) (fC (.int 1)))))) [some (wn R K), some (.loc n), some (.int key), some (.loc r), some (.loc μ.length), some (.int i), some (.int a), some (.int p2), none, none] ν fun b μ1 => (b = false ↔ (i ≠ 0 → oi (lay.getD a none) = some (row.getD (i - 1) (0, 0)).2)) ∧ μ1 = ν := by
      refine w_andT (w_test (w_bin (w_var rfl (w_c (w_cmp ⟨_, rfl, fun h => ?_, fun h => ⟨⟨fun _ z => ?_, fun _ => rfl⟩, rfl⟩⟩)))))
      case refine_2 =>
        have := of_decide_eq_false h
        omega
      have h0 : 0 < i := by
        have := of_decide_eq_true h
        omega
      have e' : row[i - 1]? = some row[i - 1] := List.getElem?_eq_getElem (by omega)
      have eg : row.getD (i - 1) (0, 0) = row[i - 1] := by rw [List.getD_eq_getElem?_getD, e']; rfl
      have ei : ((i : Nat) : Int) - 1 = ((i - 1 : Nat) : Int) := by omega
      refine w_test (w_bin (w_bin (w_var rfl (w_var rfl (w_ix (items_loc (k _ _ hn)) (on_ix (lay := lay) (k := a) ha) (w_bin (w_bin (w_var rfl (w_bin (w_var rfl (w_c (w_sub ?_))))))))))))
      rw [ei]
      refine w_ix (items_loc (k _ _ hr)) (iD_ix e') (w_c (w_ix rfl rfl ?_))
      refine w_neE (α := Option Int) (oi (lay.getD a none)) (some (row[i - 1]).2) ⟨_, rfl, ?_, rfl⟩ (onD_oi _) rfl
      rw [eg]
      constructor
      · intro z _
        by_cases y : oi (lay.getD a none) = some (row[i - 1]).2
        · exact y
        · rw [decide_eq_false y] at z; cases z
      · intro z
        rw [decide_eq_true (z (by omega))]
        rfl
    obtain ⟨b, μ1, e1, hb, rfl⟩ := sec
    refine w_if (w_orT (w_andT (w_test (w_bin (w_var rfl (w_c (w_eqI ⟨_, rfl, fun h => ?_, fun h => ⟨fun _ => ⟨_, _, e1, fun hb' => bad fun o => ?_, fun hb' => w_skip (third ⟨fun z => ?_, hb.mp hb'⟩)⟩, fun hb => (by cases hb)⟩⟩)))))))
    case refine_2 =>
      rw [hb.mpr o.fol.2] at hb'
      cases hb'
    case refine_3 =>
      rw [z] at h
      cases h
    have h0 : i = 0 := by
      have := beq_iff_eq.mp h
      omega
    refine w_test (w_bin (w_var rfl (w_var rfl (w_neI ⟨_, rfl, fun h6 => ⟨_, _, e1, fun hb' => bad fun o => ?_, fun hb' => w_skip (third ⟨fun _ => ?_, hb.mp hb'⟩)⟩, fun h6 => ⟨fun _ => bad fun o => ?_, fun hc => (by cases hc)⟩⟩))))
    · rw [hb.mpr o.fol.2] at hb'
      cases hb'
    · by_cases z : (a : Int) = key
      · exact z
      · simp [z] at h6
    · have z : (a : Int) = key := o.fol.1 h0
      rw [z] at h6
      simp at h6
  rintro δ ν ⟨x, y, z, rfl, k, ok, g⟩
  rw [List.length_map, List.length_range] at ok
  refine w_then (w_set (w_call (w_cons (w_bin (w_var rfl (w_c (w_rooms (w_nil (w_list rfl ?_)))))))))
  have hlν := k.len
  have ka : Keep μ (ν ++ [LObj.lst (nat R)]) := k.to
  have ga : (ν ++ [LObj.lst (nat R)])[ν.length]? = some (.lst (nat R)) := get_new
  generalize ν ++ [LObj.lst (nat R)] = ν1 at ka ga
  generalize hA : ν.length = A at ga hlν
  have hAl := lt_of_get ga
  refine w_then (w_set (w_call (w_cons (w_var rfl (w_cons (w_var rfl (w_nil ?_)))))))
  refine wf_behindI (ka _ _ hn) (ka _ _ hr) ok.mem fun l ν2 k2 hl g2 => ?_
  have hh := push_homes rt (Nat.le_refl _) ok
  have hlt : (rowN row).take row.length = rowN row := List.take_of_length_le (by unfold rowN; simp)
  rw [hlt] at hh
  have hpl : (pushL lay (rowN row)).length = K.length := by rw [pushL_len]; exact hlen
  refine w_then (w_for (w_seq (w_var rfl (.inr (.inr ⟨l, _, rfl, g2, ?_⟩)))))
  refine w_roomloop (rv := 8) (nv := 7) (l := A) (R := R) rfl (by decide) rfl (by simp) (fun h hm => ?_) (k2 _ _ ga) (by omega) g2 fun δ' ν3 hd k3 hl3 g3 => ?_
  · obtain ⟨j, hj, e⟩ := List.mem_iff_getElem.mp hm
    have := hh j h (by rw [List.getElem?_eq_getElem hj, e])
    exact (w.key (by omega)).2 h this
  have hd' : ∃ x7 : Option D, δ' = [some (wn R K), some (.loc n), some (.int key), some (.loc r), some (.loc μ.length), x, y, x7, some (.loc A), some (.loc l)] := by
    rcases hd with rfl | ⟨x, rfl⟩
    · exact ⟨_, rfl⟩
    · exact ⟨_, rfl⟩
  obtain ⟨x7, rfl⟩ := hd'
  have kall : Keep μ ν3 := fun a o e => k3 a o (by have := lt_of_get e; omega) (k2 _ _ (ka a o e))
  have full : ∀ (ν4 : Mem) {nx : M.Loc → Mem → Prop} {bk ct : M.Loc → Mem → Prop}, Keep μ ν4 → (row = [] ∨ over R (pushL lay (rowN row))) → WS (sRet (fCall gLen (aCons (fVar 3) aNil))) [some (wn R K), some (.loc n), some (.int key), some (.loc r), some (.loc μ.length), x, y, x7, some (.loc A), some (.loc l)] ν4 nx Q bk ct := fun ν4 {nx bk ct} k4 hb => by
    refine w_ret (w_call (w_cons (w_var rfl (w_nil (w_len (items_loc (k4 _ _ hr)) ?_)))))
    rw [List.length_map]
    exact q (some row.length) ν4 k4 (.full ok hb)
  refine w_then (w_if (w_orT (w_test (w_bin (w_var rfl (w_lst (w_nil (w_eqR (row' := []) (get_old' (kall _ _ hr)) get_new ⟨_, rfl, fun h => ?_, fun h => ⟨fun _ => full _ kall.to (.inl (of_decide_eq_true h)), fun hc => (by cases hc)⟩⟩))))))))
  have hne := of_decide_eq_false h
  have hpos : 0 < (leftI R (pushL lay (rowN row))).length := by unfold leftI; simp; omega
  have g4 : (ν3 ++ [LObj.lst []])[A]? = some (.lst ((leftI R (pushL lay (rowN row))).map .int)) := get_old' g3
  obtain ⟨l1, l2⟩ := lowI_is hpos
  refine w_test (w_bin (w_call (w_cons (w_var rfl (w_nil ⟨_, _, by simp only [gMin1, g4]; rw [intsD_map, Option.bind_some, decide_eq_true hpos, cond_true], w_c (w_cmp ⟨_, rfl, fun h => full _ kall.to (.inr ?_), fun h => w_skip (w_ret (w_c (q none _ kall.to (.fine ok hne fun ⟨h', hh', hc⟩ => ?_))))⟩)⟩)))))
  · obtain ⟨h', hh', e⟩ := List.mem_map.mp l1
    have := of_decide_eq_true h
    exact ⟨h', by simpa using hh', by omega⟩
  · have := of_decide_eq_false h
    have z := l2 _ (List.mem_map.mpr ⟨h', by simpa using hh', rfl⟩)
    omega
theorem wf_rowI {L : Nat} {R : List Nat} {K : List (List Nat)} {lay : List (Option Nat)} {l n key : Nat} {μ : Mem} {Q : D → Mem → Prop} (w : Wb L R K) (hL : L ≤ 1000) (hlen : lay.length = K.length) (h : PenB μ l) (hn : μ[n]? = some (.lst (lay.map onD))) (hnl : n ≠ l) (hk : key < K.length)
    (q : ∀ (row : List (Int × Int)) (r : Nat) (μ' : Mem), KB [l] μ μ' → PenB μ' l → μ.length ≤ r → μ'[r]? = some (.lst (row.map iD)) → row.length ≤ 13 → Q (.loc r) μ') : WF F__law_row [.loc l, wn R K, .loc n, .int key] μ Q := by
  have hkl := w.kl
  have hll := h.lt
  have hnlt := lt_of_get hn
  refine w_def rfl ?_
  show WS p__law_row [some (.loc l), some (wn R K), some (.loc n), some (.int key), none, none, none, none, none, none] μ _ _ _ _
  unfold p__law_row
  refine w_then (w_set (w_bin (w_call (w_cons (w_var rfl (w_cons (w_c (w_nil ?_))))))))
  refine wf_takeB h (by omega) (by omega) fun v μ1 a1 b1 k1 e1 p1 => w_c (w_eqI ?_)
  generalize (v == 0) = again
  refine w_then (w_set (w_lst (w_nil ?_)))
  refine w_then (w_set (w_var rfl ?_))
  refine w_then (w_for (w_range (w_cons (w_call (w_cons (w_var rfl (w_cons (w_c (w_nil ?_)))))))))
  refine wf_takeB p1.app (by omega) (by omega) fun tn μ2 a2 b2 k2 e2 p2 => w_nil ⟨_, rfl, by omega, by omega, ?_⟩
  have hl1 : (μ1 ++ [LObj.lst []]).length = μ1.length + 1 := by simp
  have g2 : μ2[μ1.length]? = some (.lst (([] : List (Int × Int)).map iD)) := k2.at_ _ _ (by simp; omega) get_new
  have k02 : KB [l] μ μ2 := (k1.app).trans k2
  rw [e1] at g2 ⊢
  refine w_loop0 (fun m δ ν => ∃ (row : List (Int × Int)) (one : Nat) (x y z : Option D), δ = [some (.loc l), some (wn R K), some (.loc n), some (.int key), some (.bl again), some (.loc μ.length), some (.int one), x, y, z] ∧ row.length = m ∧ one < K.length ∧ ν[μ.length]? = some (.lst (row.map iD)) ∧ KB [l] μ ν ∧ PenB ν l) ⟨[], key, _, _, _, rfl, rfl, hk, g2, k02, p2⟩ (fun _ _ _ _ => rfl) ?_ ?_
  · rintro m x0 δ ν hx ⟨row, one, x, y, z, rfl, hrow, hone, g, k, p⟩
    obtain ⟨hm, rfl⟩ := range_at hx
    have hm13 : m < 13 := by omega
    obtain ⟨hkl2, hkn⟩ := w.key hone
    refine w_gn ?_
    unfold b__law_row_0
    refine w_then (w_set (w_bin (w_bin (w_bin (w_var rfl (w_c (w_keys (w_var rfl (w_key hone (w_call (w_cons (w_var rfl (w_cons (w_call (w_cons (w_bin (w_bin (w_var rfl (w_c (w_keys (w_var rfl (w_key hone (w_nil (w_len rfl (w_nil ?_)))))))))))))))))))))))))
    rw [List.length_map]
    refine wf_takeB p (by omega) (by omega) fun st μ3 a3 b3 k3 e3 p3 => ?_
    obtain ⟨d, hd, _, ha⟩ := atI_at (ds := nat (K.getD one [])) a3 (by rw [List.length_map]; exact b3)
    refine w_ix rfl ha ?_
    obtain ⟨h0, hmem, rfl⟩ := List.mem_map.mp hd
    have g3 := k3.at_ _ _ (by simp; omega) g
    have gn3 := (k.trans k3).at_ _ _ (by simp; exact hnl) hn
    refine w_then (w_expr (w_meth (w_var rfl ⟨_, _, rfl, g3, w_cons (w_tup (w_cons (w_var rfl (w_cons (w_var rfl (w_nil (w_nil (w_append g3 (by rw [List.length_map]; omega) ?_))))))))⟩)))
    have g4 : (μ3.set μ.length (.lst (row.map iD ++ [iD ((one : Int), (h0 : Int))])))[μ.length]? = some (.lst ((row ++ [((one : Int), (h0 : Int))]).map iD)) := by rw [get_set_eq g3, List.map_append]; rfl
    have k4 : KB [l] μ (μ3.set μ.length (.lst (row.map iD ++ [iD ((one : Int), (h0 : Int))]))) := (k.trans k3).set (.inr (Nat.le_refl _))
    have p4 : PenB (μ3.set μ.length (.lst (row.map iD ++ [iD ((one : Int), (h0 : Int))]))) l := p3.set (by omega)
    show WS _ _ (μ3.set μ.length (.lst (row.map iD ++ [iD ((one : Int), (h0 : Int))]))) _ _ _ _
    generalize μ3.set μ.length (.lst (row.map iD ++ [iD ((one : Int), (h0 : Int))])) = μ4 at g4 k4 p4 ⊢
    have gn4 := k4.at_ _ _ (by simp; exact hnl) hn
    have rest : ∀ (S : List Nat) (t : Nat) (ν5 : Mem) {bk ct : M.Loc → Mem → Prop}, (∀ j ∈ S, j < K.length) → S.length ≤ 1000 → Keep μ4 ν5 → μ4.length ≤ t → ν5[t]? = some (.lst (nat S)) →
        WS (sSeq (sIf (fTest (fBin gEq (fVar 9) (fLst aNil))) (sRet (fVar 5)) sSkip) (sSet 6 (fBin gIx (fVar 9) (fCall F__law_take (aCons (fVar 0) (aCons (fCall gLen (aCons (fVar 9) aNil)) aNil)))))) [some (.loc l), some (wn R K), some (.loc n), some (.int key), some (.bl again), some (.loc μ.length), some (.int one), some (.int m), some (.int h0), some (.loc t)] ν5
          (fun δ ν => ∃ (row : List (Int × Int)) (one : Nat) (x y z : Option D), δ = [some (.loc l), some (wn R K), some (.loc n), some (.int key), some (.bl again), some (.loc μ.length), some (.int one), x, y, z] ∧ row.length = m + 1 ∧ one < K.length ∧ ν[μ.length]? = some (.lst (row.map iD)) ∧ KB [l] μ ν ∧ PenB ν l) Q bk ct := fun S t ν5 {bk ct} hS hSl k5 ht4 gt => by
      have k05 : KB [l] μ ν5 := k4.trans (.of_keep k5)
      have ht := lt_of_get gt
      refine w_then (w_if (w_test (w_bin (w_var rfl (w_lst (w_nil (w_eqL (α := Nat) S [] (get_old' gt) get_new ⟨_, rfl, fun _ => ?_, fun hb => w_skip ?_⟩)))))))
      · exact w_ret (w_var rfl (q _ μ.length _ k05.app (p4.keep k5).app (Nat.le_refl _) (get_old' (k5 _ _ g4)) (by simp; omega)))
      · have hb : S ≠ [] := of_decide_eq_false hb
        have hpos : 0 < S.length := List.length_pos_iff.mpr hb
        refine w_set (w_bin (w_var rfl (w_call (w_cons (w_var rfl (w_cons (w_call (w_cons (w_var rfl (w_nil (w_len (items_loc (get_old' gt)) (w_nil ?_))))))))))))
        rw [List.length_map]
        refine wf_takeB (p4.keep k5).app (by omega) (by omega) fun u μ6 a6 b6 k6 e6 p6 => ?_
        have htl : t ≠ l := by have := k4.len; omega
        obtain ⟨d, hd, _, ha⟩ := atI_at (ds := nat S) a6 (by rw [List.length_map]; exact b6)
        refine w_ix (items_loc (k6.at_ _ _ (by simp; exact htl) (get_old' gt))) ha ?_
        obtain ⟨o2, ho2, rfl⟩ := List.mem_map.mp hd
        exact ⟨_, o2, _, _, _, rfl, by simp; omega, hS o2 ho2, k6.at_ _ _ (by simp; omega) (get_old' (k5 _ _ g4)), (k05.app).trans k6, p6⟩
    refine w_then (w_set (w_lc (w_range (w_cons (w_call (w_cons (w_var rfl (w_nil (w_len (items_loc gn4) (w_nil ⟨_, rfl, by omega, by rw [List.length_map]; omega, few_of (by simp; omega), ?_⟩))))))))))
    rw [Int.toNat_natCast, List.length_map]
    refine w_pureE (fun (k : Nat) => D.int k) (List.range lay.length) (fun (k : Nat) => D.int k) (fun k => decide (lay.getD k none = some h0)) (fun _ _ => rfl) (fun k hk μ' kp => ?_) (fun μ5 k5 => ?_)
    · have hk : k < lay.length := by simpa using hk
      refine w_gn ?_
      unfold c__law_row_1 e__law_row_2
      exact w_test (w_bin (w_bin (w_var rfl (w_var rfl (w_ix (items_loc (kp _ _ gn4)) (on_ix hk) (w_var rfl (w_eqE (α := Option Nat) (lay.getD k none) (some h0) ⟨_, rfl, rfl, kp, fun _ => w_var rfl ⟨rfl, kp⟩⟩)))))))
    · have hS : ∀ j ∈ (List.range lay.length).filter fun k => decide (lay.getD k none = some h0), j < K.length := fun j hj => by
        have := (List.mem_filter.mp hj).1
        simpa [hlen] using this
      have hSl : ((List.range lay.length).filter fun k => decide (lay.getD k none = some h0)).length ≤ 1000 := by
        have := List.length_filter_le (fun k => decide (lay.getD k none = some h0)) (List.range lay.length)
        rw [List.length_range] at this
        omega
      have gS : (μ5 ++ [LObj.lst (((List.range lay.length).filter fun k => decide (lay.getD k none = some h0)).map fun (k : Nat) => D.int k)])[μ5.length]? = some (.lst (nat ((List.range lay.length).filter fun k => decide (lay.getD k none = some h0)))) := get_new
      have k6 : Keep μ4 (μ5 ++ [LObj.lst (((List.range lay.length).filter fun k => decide (lay.getD k none = some h0)).map fun (k : Nat) => D.int k)]) := k5.to
      generalize μ5 ++ [LObj.lst (((List.range lay.length).filter fun k => decide (lay.getD k none = some h0)).map fun (k : Nat) => D.int k)] = μ6 at gS k6 ⊢
      generalize (List.range lay.length).filter (fun k => decide (lay.getD k none = some h0)) = S at hS hSl gS
      refine w_then (w_if (w_notT (w_test (w_var rfl ⟨_, rfl, fun hb => ?_, fun hb => w_skip (rest S _ μ6 hS hSl k6 k5.len gS)⟩))))
      refine w_set (w_lc (w_seq (w_var rfl (.inr (.inr ⟨_, _, rfl, gS, few_of (by rw [List.length_map]; omega), ?_⟩)))))
      refine w_pureE (fun (k : Nat) => D.int k) S (fun (k : Nat) => D.int k) (fun (k : Nat) => !decide ((k : Int) ∈ (row ++ [((one : Int), (h0 : Int))]).map (·.1))) (fun μ' kp => stays_of gS kp) (fun k hk μ' kp => ?_) (fun μ7 k7 => ?_)
      · refine w_gn ?_
        unfold c__law_row_0 e__law_row_1
        have gr := (k6.trans kp) _ _ g4
        refine w_test (w_bin (w_var rfl (w_lc (w_seq (w_var rfl (.inr (.inr ⟨_, _, rfl, gr, few_of (by rw [List.length_map, List.length_append]; simp; omega), ?_⟩)))))))
        refine w_mapE iD (row ++ [((one : Int), (h0 : Int))]) (fun x => .int x.1) (fun μ' kq => stays_of gr kq) (fun x hx μ8 kq => ?_) (fun μ8 kq => ?_)
        · unfold e__law_row_0
          exact w_gt2 (w_gsc (w_gn (w_gsc (w_gn (w_gsn (w_var rfl ⟨rfl, kq, kq⟩))))))
        · have e2 : ((row ++ [((one : Int), (h0 : Int))]).map fun x => D.int x.1) = ((row ++ [((one : Int), (h0 : Int))]).map (·.1)).map D.int := by rw [List.map_map]; rfl
          rw [e2]
          refine w_notIn (items_loc get_new) rfl (List.all_eq_true.mpr fun x hx => by obtain ⟨k, _, rfl⟩ := List.mem_map.mp hx; rfl) ?_
          rw [any_ints]
          exact ⟨_, rfl, rfl, kp.trans kq.to, fun _ => w_var rfl ⟨rfl, kp.trans kq.to⟩⟩
      · have gf : (μ7 ++ [LObj.lst ((S.filter fun (k : Nat) => !decide ((k : Int) ∈ (row ++ [((one : Int), (h0 : Int))]).map (·.1))).map fun (k : Nat) => D.int k)])[μ7.length]? = some (.lst (nat (S.filter fun (k : Nat) => !decide ((k : Int) ∈ (row ++ [((one : Int), (h0 : Int))]).map (·.1))))) := get_new
        refine rest _ _ _ (fun j hj => hS j (List.mem_filter.mp hj).1) ?_ (k6.trans k7.to) (k6.trans k7).len gf
        have := List.length_filter_le (fun k : Nat => !decide ((k : Int) ∈ (row ++ [((one : Int), (h0 : Int))]).map (·.1))) S
        omega
  · rintro δ ν ⟨row, one, x, y, z, rfl, hrow, hone, g, k, p⟩
    rw [List.length_map, List.length_range] at hrow
    exact w_ret (w_var rfl (q _ _ _ k p (Nat.le_refl _) g (by omega)))
theorem wf_bentI {l r : Nat} {row : List (Int × Int)} {μ : Mem} {Q : D → Mem → Prop} (h : PenB μ l) (hr : μ[r]? = some (.lst (row.map iD))) (hrl : row.length ≤ 13) (hne : r ≠ l)
    (q : ∀ (row' : List (Int × Int)) (r' : Nat) (μ' : Mem), KB [l] μ μ' → μ'[r']? = some (.lst (row'.map iD)) → row'.length ≤ 15 → Q (.loc r') μ') : WF F__law_bent [.loc l, .loc r] μ Q := by
  refine w_def rfl ?_
  show WS p__law_bent [some (.loc l), some (.loc r), none, none, none, none, none, none] μ _ _ _ _
  unfold p__law_bent
  refine w_then (w_set (w_call (w_cons (w_var rfl (w_cons (w_c (w_nil ?_)))))))
  refine wf_takeB h (by omega) (by omega) fun way μ1 a1 b1 k1 e1 p1 => ?_
  have g1 := k1.at_ _ _ (by simp; exact hne) hr
  refine w_then (w_if (w_orT (w_test (w_bin (w_var rfl (w_lst (w_nil (w_eqR (row' := []) (get_old' g1) get_new ⟨_, rfl, fun h1 => ?_, fun h1 => ⟨fun _ => w_ret (w_var rfl (q row r _ k1.app (get_old' g1) (by omega))), fun hc => (by cases hc)⟩⟩))))))))
  refine w_test (w_bin (w_var rfl (w_c (w_cmp ⟨_, rfl, fun h2 => w_ret (w_var rfl (q row r _ k1.app (get_old' g1) (by omega))), fun h2 => w_skip ?_⟩))))
  have h1 := of_decide_eq_false h1
  have h2 := of_decide_eq_false h2
  have hpos : 0 < row.length := List.length_pos_iff.mpr h1
  have g2 : (μ1 ++ [LObj.lst []])[r]? = some (.lst (row.map iD)) := get_old' g1
  have k2 : KB [l] μ (μ1 ++ [LObj.lst []]) := k1.app
  have p2 : PenB (μ1 ++ [LObj.lst []]) l := p1.app
  generalize μ1 ++ [LObj.lst []] = μ2 at g2 k2 p2 ⊢
  refine w_then (w_set (w_call (w_cons (w_var rfl (w_cons (w_call (w_cons (w_var rfl (w_nil (w_len (items_loc g2) (w_nil ?_)))))))))))
  rw [List.length_map]
  refine wf_takeB p2 (by omega) (by omega) fun at_ μ3 a3 b3 k3 e3 p3 => ?_
  obtain ⟨i, rfl⟩ := Int.eq_ofNat_of_zero_le a3
  have hi : i < row.length := by omega
  obtain ⟨⟨o1, n1⟩, ep⟩ : ∃ p, row[i]? = some p := ⟨_, List.getElem?_eq_getElem hi⟩
  have g3 := k3.at_ _ _ (by simp; exact hne) g2
  refine w_then (w_asg (w_bin (w_var rfl (w_var rfl (w_ix (items_loc g3) (iD_ix ep) (w_gt2 (w_gsc (w_gn (w_gsc (w_gn (w_gsn ?_)))))))))))
  refine w_then (w_set (w_bin (w_lst (w_cons (w_bin (w_call (w_cons (w_var rfl (w_cons (w_c (w_nil ?_))))))))))) 
  refine wf_takeB p3 (by omega) (by omega) fun v4 μ4 a4 b4 k4 e4 p4 => w_c (w_sub (w_cons (w_bin (w_bin (w_c (w_c (w_pow (by decide) (by decide) (by decide) (w_var rfl (w_add (w_cons (w_bin (w_neg (w_c ⟨_, rfl, w_call (w_cons (w_var rfl (w_cons (w_c (w_nil ?_)))))⟩)))))))))))))
  refine wf_takeB p4 (by omega) (by omega) fun v5 μ5 a5 b5 k5 e5 p5 => w_sub (w_nil (w_call (w_cons (w_var rfl (w_cons (w_c (w_nil ?_))))))) 
  refine wf_takeB p5.app (by omega) (by omega) fun v6 μ6 a6 b6 k6 e6 p6 => ?_
  have hl5 : l < μ5.length := p5.lt
  obtain ⟨d, hd, _, ha⟩ := atI_at (ds := ([v4 - 1, 10 ^ (50 : Int).toNat + (i : Int), -1 - v5] : List Int).map D.int) a6 (by simpa using b6)
  refine w_ix (items_loc (k6.at_ _ _ (by simp; omega) get_new)) ha ?_
  obtain ⟨far, _, rfl⟩ := List.mem_map.mp hd
  have k26 : KB [l] μ2 μ6 := ((k3.trans k4).trans k5).app.trans k6
  have g6 := k26.at_ _ _ (by simp; exact hne) g2
  have k06 : KB [l] μ μ6 := k2.trans k26
  have ixr : ∀ {ν : Mem} {Q : D → Mem → Prop}, Keep μ6 ν → Q (iD (o1, n1)) ν → W2 gIx (.loc r) (.int i) ν Q := fun k q => w_ix (items_loc (k _ _ g6)) (iD_ix ep) q
  refine w_then (w_set (w_lst (w_cons (w_lst (w_cons (w_tup (w_cons (w_var rfl (w_cons (w_var rfl (w_nil (w_nil ?_)))))))))))) 
  refine w_cons (w_lst (w_cons (w_tup (w_cons (w_var rfl (w_cons (w_var rfl (w_nil (w_nil ?_)))))))))
  refine w_cons (w_lst (w_nil ?_))
  refine w_cons (w_lst (w_cons (w_bin (w_var rfl (w_var rfl (ixr (Keep.app.trans (Keep.app.trans .app)) (w_cons (w_bin (w_var rfl (w_var rfl (ixr (Keep.app.trans (Keep.app.trans .app)) (w_nil ?_))))))))))))
  refine w_cons (w_lst (w_cons (w_bin (w_var rfl (w_var rfl (ixr (Keep.app.trans (Keep.app.trans (Keep.app.trans .app))) (w_cons (w_tup (w_cons (w_var rfl (w_cons (w_var rfl (w_nil (w_nil ?_))))))))))))))
  refine w_cons (w_lst (w_cons (w_tup (w_cons (w_var rfl (w_cons (w_var rfl (w_nil (w_nil (w_nil ?_))))))))))
  have f1 := get_new (μ := μ6) (o := LObj.lst ([(far, n1)].map iD))
  have f2 := get_new (μ := μ6 ++ [LObj.lst ([(far, n1)].map iD)]) (o := LObj.lst ([(o1, far)].map iD))
  have f3 := get_new (μ := μ6 ++ [LObj.lst ([(far, n1)].map iD)] ++ [LObj.lst ([(o1, far)].map iD)]) (o := LObj.lst (([] : List (Int × Int)).map iD))
  have f4 := get_new (μ := μ6 ++ [LObj.lst ([(far, n1)].map iD)] ++ [LObj.lst ([(o1, far)].map iD)] ++ [LObj.lst (([] : List (Int × Int)).map iD)]) (o := LObj.lst ([(o1, n1), (o1, n1)].map iD))
  have f5 := get_new (μ := μ6 ++ [LObj.lst ([(far, n1)].map iD)] ++ [LObj.lst ([(o1, far)].map iD)] ++ [LObj.lst (([] : List (Int × Int)).map iD)] ++ [LObj.lst ([(o1, n1), (o1, n1)].map iD)]) (o := LObj.lst ([(o1, n1), (o1, far)].map iD))
  have f6 := get_new (μ := μ6 ++ [LObj.lst ([(far, n1)].map iD)] ++ [LObj.lst ([(o1, far)].map iD)] ++ [LObj.lst (([] : List (Int × Int)).map iD)] ++ [LObj.lst ([(o1, n1), (o1, n1)].map iD)] ++ [LObj.lst ([(o1, n1), (o1, far)].map iD)]) (o := LObj.lst ([(n1, o1)].map iD))
  have k7 : Keep μ6 (μ6 ++ [LObj.lst ([(far, n1)].map iD)] ++ [LObj.lst ([(o1, far)].map iD)] ++ [LObj.lst (([] : List (Int × Int)).map iD)] ++ [LObj.lst ([(o1, n1), (o1, n1)].map iD)] ++ [LObj.lst ([(o1, n1), (o1, far)].map iD)] ++ [LObj.lst ([(n1, o1)].map iD)]) := Keep.app.trans (Keep.app.trans (Keep.app.trans (Keep.app.trans (Keep.app.trans .app))))
  refine w_ret (w_bin (w_bin (w_slL (w_var rfl (w_pno (w_pyes (w_var rfl ⟨_, rfl, _, _, rfl, get_old' (k7 _ _ g6), ?_⟩)))))))
  rw [cut_pre, ← List.map_take]
  have fin : ∀ (rr : List (Int × Int)) (a : Nat) (ν : Mem) (t : Nat) {Q' : D → Mem → Prop}, rr.length ≤ 2 → Keep μ6 ν → ν[a]? = some (.lst (rr.map iD)) → ν[t]? = some (.lst ((row.take i).map iD)) → (∀ (r' : Nat) (μ' : Mem), Keep μ6 μ' → μ'[r']? = some (.lst ((row.take i ++ rr ++ row.drop (i + 1)).map iD)) → Q' (.loc r') μ') →
      W2 gAdd (.loc t) (.loc a) ν fun x μ' => WE (fSl (fVar 1) (pYes (fBin gAdd (fVar 3) (fC (.int 1)))) pNo) [some (.loc l), some (.loc r), some (.int way), some (.int i), some (.int o1), some (.int n1), some (.int far), some (.loc (μ6 ++ [LObj.lst ([(far, n1)].map iD)] ++ [LObj.lst ([(o1, far)].map iD)] ++ [LObj.lst (([] : List (Int × Int)).map iD)] ++ [LObj.lst ([(o1, n1), (o1, n1)].map iD)] ++ [LObj.lst ([(o1, n1), (o1, far)].map iD)] ++ [LObj.lst ([(n1, o1)].map iD)]).length)] μ' fun y μ'' => W2 gAdd x y μ'' Q' := fun rr a ν t {Q'} hrr kν ga gt q' => by
    have h3 : (row.take i).length ≤ 13 := by rw [List.length_take]; omega
    have h4 : (row.drop (i + 1)).length ≤ 13 := by rw [List.length_drop]; omega
    refine w_addL gt ga (by rw [List.length_map, List.length_map]; omega) ?_
    refine w_slL (w_var rfl (w_pyes (w_bin (w_var rfl (w_c (w_add ⟨_, rfl, w_pno ⟨_, _, rfl, get_old' (kν _ _ g6), ?_⟩⟩))))))
    rw [show ((i : Nat) : Int) + 1 = ((i + 1 : Nat) : Int) by omega, cut_post, ← List.map_drop]
    refine w_addL (get_old' get_new) get_new (by simp only [List.length_append, List.length_map]; omega) ?_
    refine q' _ _ (kν.to.to.to) ?_
    rw [get_new]
    simp only [List.map_append]
  obtain ⟨w3, hw3⟩ := Int.eq_ofNat_of_zero_le (show 0 ≤ way - 3 by omega)
  have small : ∀ rr : List (Int × Int), rr.length ≤ 2 → (row.take i ++ rr ++ row.drop (i + 1)).length ≤ 15 := fun rr hrr => by
    simp only [List.length_append, List.length_take, List.length_drop]
    omega
  refine w_bin (w_var rfl (w_bin (w_var rfl (w_c (w_sub ?_)))))
  rw [hw3]
  have hw6 : w3 < 6 := by omega
  refine (match w3, hw6 with
    | 0, _ => w_ix (items_loc (get_old' get_new)) rfl (fin _ _ _ _ (by simp) k7.to.to (get_old' (get_old' (get_old' (get_old' (get_old' (get_old' (get_old' f1))))))) get_new fun r' μ' k' g' => q _ r' μ' (k06.trans (.of_keep k')) g' (small _ (by simp)))
    | 1, _ => w_ix (items_loc (get_old' get_new)) rfl (fin _ _ _ _ (by simp) k7.to.to (get_old' (get_old' (get_old' (get_old' (get_old' (get_old' f2)))))) get_new fun r' μ' k' g' => q _ r' μ' (k06.trans (.of_keep k')) g' (small _ (by simp)))
    | 2, _ => w_ix (items_loc (get_old' get_new)) rfl (fin _ _ _ _ (by simp) k7.to.to (get_old' (get_old' (get_old' (get_old' (get_old' f3))))) get_new fun r' μ' k' g' => q _ r' μ' (k06.trans (.of_keep k')) g' (small _ (by simp)))
    | 3, _ => w_ix (items_loc (get_old' get_new)) rfl (fin _ _ _ _ (by simp) k7.to.to (get_old' (get_old' (get_old' (get_old' f4)))) get_new fun r' μ' k' g' => q _ r' μ' (k06.trans (.of_keep k')) g' (small _ (by simp)))
    | 4, _ => w_ix (items_loc (get_old' get_new)) rfl (fin _ _ _ _ (by simp) k7.to.to (get_old' (get_old' (get_old' f5))) get_new fun r' μ' k' g' => q _ r' μ' (k06.trans (.of_keep k')) g' (small _ (by simp)))
    | 5, _ => w_ix (items_loc (get_old' get_new)) rfl (fin _ _ _ _ (by simp) k7.to.to (get_old' (get_old' f6)) get_new fun r' μ' k' g' => q _ r' μ' (k06.trans (.of_keep k')) g' (small _ (by simp)))
    | n + 6, h => absurd h (by omega))
inductive Heard (R : List Nat) (K : List (List Nat)) (lay : List (Option Nat)) (key : Nat) (row : List (Int × Int)) (μ μ' : Mem) : D → Prop
  | no (i : Nat) : AtF R K lay key row (some i) → Heard R K lay key row μ μ' (.tup [.str "refused", .int i])
  | yes (l : Nat) : AtF R K lay key row none → μ.length ≤ l → μ'[l]? = some (.lst ((pushL lay (rowN row)).map onD)) → Heard R K lay key row μ μ' (.tup [.str "told", .loc l])
theorem wf_heardI {L : Nat} {R : List Nat} {K : List (List Nat)} {lay : List (Option Nat)} {key n r : Nat} {row : List (Int × Int)} {μ : Mem} {Q : D → Mem → Prop} (w : Wb L R K) (hL : L ≤ 1000) (rt : RightL R K lay) (hn : μ[n]? = some (.lst (lay.map onD))) (hr : μ[r]? = some (.lst (row.map iD))) (hrl : row.length ≤ 1000)
    (q : ∀ (v : D) (μ' : Mem), Keep μ μ' → Heard R K lay key row μ μ' v → Q v μ') : WF F__law_heard [wn R K, .loc n, .int key, .loc r] μ Q := by
  refine w_def rfl ?_
  show WS p__law_heard [some (wn R K), some (.loc n), some (.int key), some (.loc r), none, none, none, none] μ _ _ _ _
  unfold p__law_heard
  refine w_then (w_set (w_c ?_))
  refine w_then (w_set (w_c ?_))
  refine w_then (w_trySet (w_cons (w_var rfl (w_cons (w_var rfl (w_cons (w_var rfl (w_cons (w_var rfl (w_nil ?_))))))))))
  refine wx_pushed w hL rt hn hr hrl (fun l μ1 k1 hl g af => ?_) (fun i μ1 k1 af => ⟨rfl, w_set (w_var rfl ?_)⟩)
  · refine w_then (w_if (w_test (w_bin (w_var rfl (w_c (w_isN rfl ⟨_, rfl, fun _ => ?_, fun h => (by cases h)⟩))))))
    exact w_ret (w_tup (w_cons (w_c (w_cons (w_var rfl (w_nil (q _ μ1 k1 (.yes l af hl g))))))))
  · have g : (μ1 ++ [LObj.exc "NoPush" [("at", .int i)]])[μ1.length]? = some (.exc "NoPush" [("at", .int i)]) := get_new
    have k2 : Keep μ (μ1 ++ [LObj.exc "NoPush" [("at", .int i)]]) := k1.to
    generalize μ1 ++ [LObj.exc "NoPush" [("at", .int i)]] = μ2 at g k2 ⊢
    refine w_then (w_if (w_test (w_bin (w_var rfl (w_c ⟨_, _, rfl, _, rfl, fun h => (by cases h), fun _ => w_skip ?_⟩)))))
    refine w_then (w_set (w_call (w_cons (w_var rfl (w_cons (w_tup ?_))))))
    refine w_cons (w_c (w_cons (w_c (w_cons (w_c (w_cons (w_c (w_cons (w_c (w_cons (w_c (w_cons (w_c (w_cons (w_c (w_nil (w_nil (w_askT g (b := false) (by decide +kernel) ?_))))))))))))))))))
    refine w_then (w_if (w_orT (w_notT (w_test (w_call (w_cons (w_var rfl (w_cons (w_c (w_nil (w_askO (b := true) g (by decide +kernel) ⟨_, rfl, fun _ => ?_, fun h => (by cases h)⟩)))))))))))
    refine w_orT (w_notT (w_test (w_call (w_cons (w_var rfl (w_cons (w_c (w_nil (w_askY (b := true) g (by decide +kernel) ⟨_, rfl, fun _ => ?_, fun h => (by cases h)⟩)))))))))
    refine w_test (w_var rfl ⟨_, rfl, fun h => (by cases h), fun _ => w_skip ?_⟩)
    refine w_then (w_if (w_orT (w_notT (w_test (w_call (w_cons (w_fat (w_var rfl ⟨_, _, _, rfl, g, rfl, w_cons (w_c (w_nil (w_isiI ⟨_, rfl, fun _ => ?_, fun h => (by cases h)⟩)))⟩))))))))
    refine w_test (w_call (w_cons (w_fat (w_var rfl ⟨_, _, _, rfl, g, rfl, w_cons (w_c (w_nil (w_isiIB ⟨_, rfl, fun h => (by cases h), fun _ => w_skip ?_⟩)))⟩))))
    exact w_ret (w_tup (w_cons (w_c (w_cons (w_fat (w_var rfl ⟨_, _, _, rfl, g, rfl, w_nil (q _ μ2 k2 (.no i af))⟩))))))
theorem toP_str {s : Str} {μ : Mem} (h : PyData.strOk s = true) : toP μ 8 (.str s) = some (.str s) := by
  show (bif PyData.strOk s then some (PyData.str s) else none) = _
  rw [h]; rfl
theorem w_eqStr {a b : Str} {μ : Mem} {Q : D → Mem → Prop} (q : Q (.bl (PyData.eqv (.str a) (.str b))) μ) (ha : PyData.strOk a = true := by decide +kernel) (hb : PyData.strOk b = true := by decide +kernel) : W2 gEq (.str a) (.str b) μ Q := w_eq (toP_str ha) (toP_str hb) q
theorem toP7 {α : Type} [Enc α] {n k : Nat} {μ : Mem} (as : List α) (e : μ[n]? = some (.lst (as.map Enc.d))) (h : k + Enc.dep α = 6) : toP μ 7 (.loc n) = some (.list (as.map Enc.p)) := by
  show (match μ[n]? with
      | some (.lst ds) => (ds.mapM (toP μ 6)).bind fun ps => some (PyData.list ps)
      | _ => none) = _
  rw [e]
  show ((as.map Enc.d).mapM (toP μ 6)).bind _ = _
  rw [← h, rdAll]
  rfl
theorem toP_two {x y : D} {p q : PyData} {μ : Mem} (h1 : toP μ 7 x = some p) (h2 : toP μ 7 y = some q) : toP μ 8 (.tup [x, y]) = some (.tuple [p, q]) := by
  show ([x, y].mapM (toP μ 7)).bind _ = _
  rw [List.mapM_cons, List.mapM_cons, h1, h2]
  rfl
theorem toP7_str {s : Str} {μ : Mem} (h : PyData.strOk s = true) : toP μ 7 (.str s) = some (.str s) := by
  show (bif PyData.strOk s then some (PyData.str s) else none) = _
  rw [h]; rfl
theorem heard_same {R : List Nat} {K : List (List Nat)} {lay : List (Option Nat)} {key : Nat} {row : List (Int × Int)} {μ0 μ1 μ2 μ3 μ : Mem} {v d : D} (h1 : Heard R K lay key row μ0 μ1 v) (k1 : Keep μ1 μ) (h2 : Heard R K lay key row μ2 μ3 d) (k2 : Keep μ3 μ) : ∃ p, toP μ 8 v = some p ∧ toP μ 8 d = some p := by
  cases h1 with
  | no i a =>
    cases h2 with
    | no j b =>
      have := AtF.one a b
      cases this
      exact ⟨_, toP_two (toP7_str (by decide +kernel)) rfl, toP_two (toP7_str (by decide +kernel)) rfl⟩
    | yes l b _ _ => have := AtF.one a b; cases this
  | yes l a _ g =>
    cases h2 with
    | no j b => have := AtF.one a b; cases this
    | yes l' b _ g' => exact ⟨_, toP_two (toP7_str (by decide +kernel)) (toP7 (k := 5) _ (k1 _ _ g) rfl), toP_two (toP7_str (by decide +kernel)) (toP7 (k := 5) _ (k2 _ _ g') rfl)⟩
theorem law_true (ns : List Int) (_hn : ns.length ≤ 63) : ∃ μ', F_law [.fz (ns.map .int)] [] = some (.bl true, μ') := by
  have main : WF F_law [.fz (ns.map .int)] [] fun d _ => d = .bl true := by
    refine w_def rfl ?_
    show WS p_law [some (.fz (ns.map .int)), none, none, none, none, none, none, none, none, none, none, none] [] _ _ _ _
    unfold p_law
    refine w_then (w_set (w_call (w_cons (w_var rfl (w_cons (w_c (w_nil ?_)))))))
    refine wf_case (by omega) (by omega) (fun μ1 k1 => ?_) (fun R K lay n key μ1 w rt hk hkey k1 hn0 g1 => ?_)
    · exact w_then (w_if (w_test (w_bin (w_var rfl (w_c (w_isN rfl ⟨_, rfl, fun _ => w_ret (w_c rfl), fun h => (by cases h)⟩))))))
    have hkl := w.kl
    have hlen := rt.len
    refine w_then (w_if (w_test (w_bin (w_var rfl (w_c ⟨_, _, rfl, _, rfl, fun h => (by cases h), fun _ => w_skip ?_⟩)))))
    refine w_then (w_asg (w_var rfl (w_gt3 (w_gsc (w_gn (w_gsc (w_gn (w_gsc (w_gn (w_gsn ?_))))))))))
    refine w_then (w_for (w_range (w_cons (w_c (w_nil ⟨_, rfl, by omega, by omega, ?_⟩)))))
    refine w_loop0 (fun m δ ν => ∃ x5 x6 x7 x8 x9 x10 x11 : Option D, δ = [some (.fz (ns.map .int)), some (.tup [wn R K, .loc n, .int key]), some (wn R K), some (.loc n), some (.int key), x5, x6, x7, x8, x9, x10, x11] ∧ ν[n]? = some (.lst (lay.map onD))) ⟨_, _, _, _, _, _, _, rfl, g1⟩ (fun _ _ _ _ => rfl) ?_ ?_
    · rintro m x0 δ ν hx ⟨x5, x6, x7, x8, x9, x10, x11, rfl, gn⟩
      obtain ⟨hm, rfl⟩ := range_at hx
      have hm : m < 6 := hm
      have hnν := lt_of_get gn
      refine w_gn ?_
      unfold b_law_0
      refine w_then (w_set (w_call (w_cons (w_var rfl (w_cons (w_bin (w_c (w_var rfl (w_add (w_nil ?_))))))))))
      refine wf_penB (by omega) (by omega) fun μ2 k2 p2 e2 => ?_
      refine w_then (w_set (w_call (w_cons (w_var rfl (w_cons (w_call (w_cons (w_var rfl (w_cons (w_var rfl (w_cons (w_var rfl (w_cons (w_var rfl (w_nil ?_)))))))))))))))
      refine wf_rowI w (by omega) hlen p2 (k2 _ _ gn) (by omega) hk fun row0 r0 μ3 k3 p3 hr0 g3 hl3 => w_nil ?_
      refine wf_bentI p3 g3 hl3 (by omega) fun row r μ4 k4 g4 hl4 => ?_
      have gn4 := k4.at_ _ _ (by simp; omega) (k3.at_ _ _ (by simp; omega) (k2 _ _ gn))
      refine w_then (w_set (w_call (w_cons (w_var rfl (w_cons (w_var rfl (w_cons (w_var rfl (w_cons (w_var rfl (w_nil ?_)))))))))))
      refine wf_atfaultI w (by omega) rt gn4 g4 (by omega) fun f μ5 k5 af => ?_
      have rest : ∀ (due : D) (y8 : Option D) (μ6 : Mem) {bk ct : M.Loc → Mem → Prop}, Keep μ4 μ6 → Heard R K lay key row [] μ6 due →
          WS (sSeq (sSet 10 (fTup (aCons (fCall gList (aCons (fVar 3) aNil)) (aCons (fCall gList (aCons (fVar 7) aNil)) aNil)))) (sSeq (sSet 11 (fCall F__law_heard (aCons (fVar 2) (aCons (fBin gIx (fVar 10) (fC (.int 0))) (aCons (fVar 4) (aCons (fBin gIx (fVar 10) (fC (.int 1))) aNil)))))) (sSeq (sIf (tOrT (fTest (fBin gNe (fVar 11) (fVar 9))) (fTest (fBin gNe (fVar 10) (fTup (aCons (fVar 3) (aCons (fVar 7) aNil)))))) (sRet (fC (.bl false))) sSkip) (sIf (fTest (fBin gEq (fBin gIx (fVar 11) (fC (.int 0))) (fC (.str "told")))) (sSeq (sExpr (fMeth0 gClear (fBin gIx (fVar 11) (fC (.int 1))))) (sIf (fTest (fBin gNe (fCall F__law_heard (aCons (fVar 2) (aCons (fBin gIx (fVar 10) (fC (.int 0))) (aCons (fVar 4) (aCons (fBin gIx (fVar 10) (fC (.int 1))) aNil))))) (fVar 9))) (sRet (fC (.bl false))) sSkip)) sSkip))))
            [some (.fz (ns.map .int)), some (.tup [wn R K, .loc n, .int key]), some (wn R K), some (.loc n), some (.int key), some (.int m), some (.loc ν.length), some (.loc r), y8, some due, x10, x11] μ6
            (fun δ ν => ∃ x5 x6 x7 x8 x9 x10 x11 : Option D, δ = [some (.fz (ns.map .int)), some (.tup [wn R K, .loc n, .int key]), some (wn R K), some (.loc n), some (.int key), x5, x6, x7, x8, x9, x10, x11] ∧ ν[n]? = some (.lst (lay.map onD))) (fun d _ => d = .bl true) bk ct := fun due y8 μ6 {bk ct} k6 hd => by
        have gn6 := k6 _ _ gn4
        have gr6 := k6 _ _ g4
        refine w_then (w_set (w_tup (w_cons (w_call (w_cons (w_var rfl (w_nil (w_list (items_loc gn6) (w_cons (w_call (w_cons (w_var rfl (w_nil (w_list (items_loc (get_old' gr6)) (w_nil ?_)))))))))))))))
        have ga : (μ6 ++ [LObj.lst (lay.map onD)] ++ [LObj.lst (row.map iD)])[μ6.length]? = some (.lst (lay.map onD)) := get_old' get_new
        have gb : (μ6 ++ [LObj.lst (lay.map onD)] ++ [LObj.lst (row.map iD)])[(μ6 ++ [LObj.lst (lay.map onD)]).length]? = some (.lst (row.map iD)) := get_new
        have k7 : Keep μ6 (μ6 ++ [LObj.lst (lay.map onD)] ++ [LObj.lst (row.map iD)]) := Keep.app.trans .app
        generalize μ6 ++ [LObj.lst (lay.map onD)] ++ [LObj.lst (row.map iD)] = μ7 at ga gb k7 ⊢
        generalize (μ6 ++ [LObj.lst (lay.map onD)]).length = b at gb ⊢
        generalize μ6.length = a at ga ⊢
        refine w_then (w_set (w_call (w_cons (w_var rfl (w_cons (w_bin (w_var rfl (w_c (w_ix rfl rfl (w_cons (w_var rfl (w_cons (w_bin (w_var rfl (w_c (w_ix rfl rfl (w_nil ?_)))))))))))))))))
        refine wf_heardI w (by omega) rt ga gb (by omega) fun v μ8 k8 hv => ?_
        obtain ⟨p, e1, e2⟩ := heard_same hv .refl hd (k7.trans k8)
        refine w_then (w_if (w_orT (w_test (w_bin (w_var rfl (w_var rfl (w_neS e1 e2 ⟨_, rfl, fun _ => ?_, fun h => (by cases h)⟩)))))))
        refine w_test (w_bin (w_var rfl (w_tup (w_cons (w_var rfl (w_cons (w_var rfl (w_nil (w_neS (toP_two (toP7 (k := 5) lay (k8 _ _ ga) rfl) (toP7 (k := 4) row (k8 _ _ gb) rfl)) (toP_two (toP7 (k := 5) lay (k8 _ _ (k7 _ _ gn6)) rfl) (toP7 (k := 4) row (k8 _ _ (k7 _ _ gr6)) rfl)) ⟨_, rfl, fun h => (by cases h), fun _ => w_skip ?_⟩)))))))))
        cases hv with
        | no i a1 =>
          refine w_if (w_test (w_bin (w_bin (w_var rfl (w_c (w_ix rfl rfl (w_c (w_eqStr ⟨_, rfl, fun h => ?_, fun _ => w_skip ⟨_, _, _, _, _, _, _, rfl, k8 _ _ (k7 _ _ gn6)⟩⟩))))))))
          exact absurd h (by decide +kernel)
        | yes l a1 hl gl =>
          refine w_if (w_test (w_bin (w_bin (w_var rfl (w_c (w_ix rfl rfl (w_c (w_eqStr ⟨_, rfl, fun _ => ?_, fun h => ?_⟩))))))))
          case refine_2 => exact absurd h (by decide +kernel)
          refine w_then (w_expr (w_meth0 (w_bin (w_var rfl (w_c (w_ix rfl rfl ⟨_, _, rfl, gl, w_clear gl ?_⟩))))))
          have ne : ∀ {j : Nat} {o : LObj}, μ7[j]? = some o → (μ8.set l (.lst []))[j]? = some o := fun {j o} e => get_set_ne (k8 _ _ e) (by have := lt_of_get e; omega)
          have k9 : Keep μ7 (μ8.set l (.lst [])) := fun j o e => ne e
          generalize μ8.set l (.lst []) = μ9 at k9
          refine w_if (w_test (w_bin (w_call (w_cons (w_var rfl (w_cons (w_bin (w_var rfl (w_c (w_ix rfl rfl (w_cons (w_var rfl (w_cons (w_bin (w_var rfl (w_c (w_ix rfl rfl (w_nil ?_))))))))))))))))))
          refine wf_heardI w (by omega) rt (k9 _ _ ga) (k9 _ _ gb) (by omega) fun v2 μ10 k10 hv2 => w_var rfl ?_
          obtain ⟨p, e3, e4⟩ := heard_same hv2 .refl hd (k7.trans (k9.trans k10))
          exact w_neS e3 e4 ⟨_, rfl, fun h => (by cases h), fun _ => w_skip ⟨_, _, _, _, _, _, _, rfl, k10 _ _ (k9 _ _ (k7 _ _ gn6))⟩⟩
      refine w_then (w_set (w_tup (w_cons (w_c (w_cons (w_var rfl (w_nil ?_)))))))
      refine w_then (w_if (w_test (w_bin (w_var rfl (w_c (w_isN (flat_onD f) ⟨_, rfl, fun h => ?_, fun h => w_skip ?_⟩))))))
      · cases f with
        | some i => cases h
        | none =>
          have ok : AllOk K lay key row row.length := by cases af with | fine a _ _ => exact a
          refine w_set (w_tup (w_cons (w_c (w_cons (w_call (w_cons (w_var rfl (w_cons (w_var rfl (w_nil ?_))))))))))
          refine wf_behindI (k5 _ _ gn4) (k5 _ _ g4) ok.mem fun l μ6 k6 hl gl => w_nil ?_
          exact rest _ _ μ6 (k5.trans k6) (.yes l af (Nat.zero_le _) gl)
      · cases f with
        | none => cases h
        | some i => exact rest _ _ μ5 k5 (.no i af)
    · rintro δ ν ⟨x5, x6, x7, x8, x9, x10, x11, rfl, gn⟩
      exact w_ret (w_c rfl)
  obtain ⟨d, μ', e, rfl⟩ := main
  exact ⟨μ', e⟩
end P
set_option Elab.async false
set_option linter.all false
set_option maxRecDepth 100000
set_option autoImplicit false
namespace P
open PySem PySem.Spec PyProof.Rows L2 M
set_option maxHeartbeats 4000000
theorem ln1 {α : Type} : ∀ {us : List α}, us.length = 1 → ∃ a0, us = [a0]
  | [a0], _ => ⟨a0, rfl⟩
theorem ln2 {α : Type} : ∀ {us : List α}, us.length = 2 → ∃ a0 a1, us = [a0, a1]
  | [a0, a1], _ => ⟨a0, a1, rfl⟩
theorem ln4 {α : Type} : ∀ {us : List α}, us.length = 4 → ∃ a0 a1 a2 a3, us = [a0, a1, a2, a3]
  | [a0, a1, a2, a3], _ => ⟨a0, a1, a2, a3, rfl⟩
theorem all_mk {l : PySem.W.OpenLaw} {w : World} {K : PySem.W.Frag} {h : Heap} {mg : Str → Option Value} {fa f__law_at f__law_pen f__law_take f__law_web f__law_drawn_web f__law_laying f__law_case f__law_bent f__law_behind f__law_at_fault f_left f_fault f_is_push f_follows f_pushed f__law_heard f__law_row f_law C_NoPush C_NestError C_Twice C_NoText C_NoRule C_NoRow C_NoPairs C_NoKey C_NoFit C_Full fI_NoPush : Addr} (X : K.In h) (G : h.Ns mainGlobals mg) (hfa : mg "law" = some (.ref fa))
    {od0 an0 : Option Addr} {sl0 : Array (Option Value)} {oc0 kV0 dc0 pm0 cd0 ct0 : Value} (a0 : PySem.W.nsIn K mainGlobals "_law_at" = some (some (.ref f__law_at))) (l0 : K.lookup f__law_at = some ⟨oc0, od0, .func (PySem.W.fnOf "_law_at" "_law_at" (defArgs s__law_at) (defBody s__law_at) (defScope s__law_at) .none kV0 dc0 pm0 an0 cd0 ct0), sl0⟩) (c0 : PySem.W.codeIn K cd0 "_law_at" = true) (k0 : PySem.W.keepIn K (.ref f__law_at) = true)
    {od1 an1 : Option Addr} {sl1 : Array (Option Value)} {oc1 kV1 dc1 pm1 cd1 ct1 : Value} (a1 : PySem.W.nsIn K mainGlobals "_law_pen" = some (some (.ref f__law_pen))) (l1 : K.lookup f__law_pen = some ⟨oc1, od1, .func (PySem.W.fnOf "_law_pen" "_law_pen" (defArgs s__law_pen) (defBody s__law_pen) (defScope s__law_pen) .none kV1 dc1 pm1 an1 cd1 ct1), sl1⟩) (c1 : PySem.W.codeIn K cd1 "_law_pen" = true) (k1 : PySem.W.keepIn K (.ref f__law_pen) = true)
    {od2 an2 : Option Addr} {sl2 : Array (Option Value)} {oc2 kV2 dc2 pm2 cd2 ct2 : Value} (a2 : PySem.W.nsIn K mainGlobals "_law_take" = some (some (.ref f__law_take))) (l2 : K.lookup f__law_take = some ⟨oc2, od2, .func (PySem.W.fnOf "_law_take" "_law_take" (defArgs s__law_take) (defBody s__law_take) (defScope s__law_take) .none kV2 dc2 pm2 an2 cd2 ct2), sl2⟩) (c2 : PySem.W.codeIn K cd2 "_law_take" = true) (k2 : PySem.W.keepIn K (.ref f__law_take) = true)
    {od3 an3 : Option Addr} {sl3 : Array (Option Value)} {oc3 kV3 dc3 pm3 cd3 ct3 : Value} (a3 : PySem.W.nsIn K mainGlobals "_law_web" = some (some (.ref f__law_web))) (l3 : K.lookup f__law_web = some ⟨oc3, od3, .func (PySem.W.fnOf "_law_web" "_law_web" (defArgs s__law_web) (defBody s__law_web) (defScope s__law_web) .none kV3 dc3 pm3 an3 cd3 ct3), sl3⟩) (c3 : PySem.W.codeIn K cd3 "_law_web" = true) (k3 : PySem.W.keepIn K (.ref f__law_web) = true)
    {od4 an4 : Option Addr} {sl4 : Array (Option Value)} {oc4 kV4 dc4 pm4 cd4 ct4 : Value} (a4 : PySem.W.nsIn K mainGlobals "_law_drawn_web" = some (some (.ref f__law_drawn_web))) (l4 : K.lookup f__law_drawn_web = some ⟨oc4, od4, .func (PySem.W.fnOf "_law_drawn_web" "_law_drawn_web" (defArgs s__law_drawn_web) (defBody s__law_drawn_web) (defScope s__law_drawn_web) .none kV4 dc4 pm4 an4 cd4 ct4), sl4⟩) (c4 : PySem.W.codeIn K cd4 "_law_drawn_web" = true) (k4 : PySem.W.keepIn K (.ref f__law_drawn_web) = true)
    {od5 an5 : Option Addr} {sl5 : Array (Option Value)} {oc5 kV5 dc5 pm5 cd5 ct5 : Value} (a5 : PySem.W.nsIn K mainGlobals "_law_laying" = some (some (.ref f__law_laying))) (l5 : K.lookup f__law_laying = some ⟨oc5, od5, .func (PySem.W.fnOf "_law_laying" "_law_laying" (defArgs s__law_laying) (defBody s__law_laying) (defScope s__law_laying) .none kV5 dc5 pm5 an5 cd5 ct5), sl5⟩) (c5 : PySem.W.codeIn K cd5 "_law_laying" = true) (k5 : PySem.W.keepIn K (.ref f__law_laying) = true)
    {od6 an6 : Option Addr} {sl6 : Array (Option Value)} {oc6 kV6 dc6 pm6 cd6 ct6 : Value} (a6 : PySem.W.nsIn K mainGlobals "_law_case" = some (some (.ref f__law_case))) (l6 : K.lookup f__law_case = some ⟨oc6, od6, .func (PySem.W.fnOf "_law_case" "_law_case" (defArgs s__law_case) (defBody s__law_case) (defScope s__law_case) .none kV6 dc6 pm6 an6 cd6 ct6), sl6⟩) (c6 : PySem.W.codeIn K cd6 "_law_case" = true) (k6 : PySem.W.keepIn K (.ref f__law_case) = true)
    {od7 an7 : Option Addr} {sl7 : Array (Option Value)} {oc7 kV7 dc7 pm7 cd7 ct7 : Value} (a7 : PySem.W.nsIn K mainGlobals "_law_bent" = some (some (.ref f__law_bent))) (l7 : K.lookup f__law_bent = some ⟨oc7, od7, .func (PySem.W.fnOf "_law_bent" "_law_bent" (defArgs s__law_bent) (defBody s__law_bent) (defScope s__law_bent) .none kV7 dc7 pm7 an7 cd7 ct7), sl7⟩) (c7 : PySem.W.codeIn K cd7 "_law_bent" = true) (k7 : PySem.W.keepIn K (.ref f__law_bent) = true)
    {od8 an8 : Option Addr} {sl8 : Array (Option Value)} {oc8 kV8 dc8 pm8 cd8 ct8 : Value} (a8 : PySem.W.nsIn K mainGlobals "_law_behind" = some (some (.ref f__law_behind))) (l8 : K.lookup f__law_behind = some ⟨oc8, od8, .func (PySem.W.fnOf "_law_behind" "_law_behind" (defArgs s__law_behind) (defBody s__law_behind) (defScope s__law_behind) .none kV8 dc8 pm8 an8 cd8 ct8), sl8⟩) (c8 : PySem.W.codeIn K cd8 "_law_behind" = true) (k8 : PySem.W.keepIn K (.ref f__law_behind) = true)
    {od9 an9 : Option Addr} {sl9 : Array (Option Value)} {oc9 kV9 dc9 pm9 cd9 ct9 : Value} (a9 : PySem.W.nsIn K mainGlobals "_law_at_fault" = some (some (.ref f__law_at_fault))) (l9 : K.lookup f__law_at_fault = some ⟨oc9, od9, .func (PySem.W.fnOf "_law_at_fault" "_law_at_fault" (defArgs s__law_at_fault) (defBody s__law_at_fault) (defScope s__law_at_fault) .none kV9 dc9 pm9 an9 cd9 ct9), sl9⟩) (c9 : PySem.W.codeIn K cd9 "_law_at_fault" = true) (k9 : PySem.W.keepIn K (.ref f__law_at_fault) = true)
    {od10 an10 : Option Addr} {sl10 : Array (Option Value)} {oc10 kV10 dc10 pm10 cd10 ct10 : Value} (a10 : PySem.W.nsIn K mainGlobals "left" = some (some (.ref f_left))) (l10 : K.lookup f_left = some ⟨oc10, od10, .func (PySem.W.fnOf "left" "left" (defArgs s_left) (defBody s_left) (defScope s_left) .none kV10 dc10 pm10 an10 cd10 ct10), sl10⟩) (c10 : PySem.W.codeIn K cd10 "left" = true) (k10 : PySem.W.keepIn K (.ref f_left) = true)
    {od11 an11 : Option Addr} {sl11 : Array (Option Value)} {oc11 kV11 dc11 pm11 cd11 ct11 : Value} (a11 : PySem.W.nsIn K mainGlobals "fault" = some (some (.ref f_fault))) (l11 : K.lookup f_fault = some ⟨oc11, od11, .func (PySem.W.fnOf "fault" "fault" (defArgs s_fault) (defBody s_fault) (defScope s_fault) .none kV11 dc11 pm11 an11 cd11 ct11), sl11⟩) (c11 : PySem.W.codeIn K cd11 "fault" = true) (k11 : PySem.W.keepIn K (.ref f_fault) = true)
    {od12 an12 : Option Addr} {sl12 : Array (Option Value)} {oc12 kV12 dc12 pm12 cd12 ct12 : Value} (a12 : PySem.W.nsIn K mainGlobals "is_push" = some (some (.ref f_is_push))) (l12 : K.lookup f_is_push = some ⟨oc12, od12, .func (PySem.W.fnOf "is_push" "is_push" (defArgs s_is_push) (defBody s_is_push) (defScope s_is_push) .none kV12 dc12 pm12 an12 cd12 ct12), sl12⟩) (c12 : PySem.W.codeIn K cd12 "is_push" = true) (k12 : PySem.W.keepIn K (.ref f_is_push) = true)
    {od13 an13 : Option Addr} {sl13 : Array (Option Value)} {oc13 kV13 dc13 pm13 cd13 ct13 : Value} (a13 : PySem.W.nsIn K mainGlobals "follows" = some (some (.ref f_follows))) (l13 : K.lookup f_follows = some ⟨oc13, od13, .func (PySem.W.fnOf "follows" "follows" (defArgs s_follows) (defBody s_follows) (defScope s_follows) .none kV13 dc13 pm13 an13 cd13 ct13), sl13⟩) (c13 : PySem.W.codeIn K cd13 "follows" = true) (k13 : PySem.W.keepIn K (.ref f_follows) = true)
    {od14 an14 : Option Addr} {sl14 : Array (Option Value)} {oc14 kV14 dc14 pm14 cd14 ct14 : Value} (a14 : PySem.W.nsIn K mainGlobals "pushed" = some (some (.ref f_pushed))) (l14 : K.lookup f_pushed = some ⟨oc14, od14, .func (PySem.W.fnOf "pushed" "pushed" (defArgs s_pushed) (defBody s_pushed) (defScope s_pushed) .none kV14 dc14 pm14 an14 cd14 ct14), sl14⟩) (c14 : PySem.W.codeIn K cd14 "pushed" = true) (k14 : PySem.W.keepIn K (.ref f_pushed) = true)
    {od15 an15 : Option Addr} {sl15 : Array (Option Value)} {oc15 kV15 dc15 pm15 cd15 ct15 : Value} (a15 : PySem.W.nsIn K mainGlobals "_law_heard" = some (some (.ref f__law_heard))) (l15 : K.lookup f__law_heard = some ⟨oc15, od15, .func (PySem.W.fnOf "_law_heard" "_law_heard" (defArgs s__law_heard) (defBody s__law_heard) (defScope s__law_heard) .none kV15 dc15 pm15 an15 cd15 ct15), sl15⟩) (c15 : PySem.W.codeIn K cd15 "_law_heard" = true) (k15 : PySem.W.keepIn K (.ref f__law_heard) = true)
    {od16 an16 : Option Addr} {sl16 : Array (Option Value)} {oc16 kV16 dc16 pm16 cd16 ct16 : Value} (a16 : PySem.W.nsIn K mainGlobals "_law_row" = some (some (.ref f__law_row))) (l16 : K.lookup f__law_row = some ⟨oc16, od16, .func (PySem.W.fnOf "_law_row" "_law_row" (defArgs s__law_row) (defBody s__law_row) (defScope s__law_row) .none kV16 dc16 pm16 an16 cd16 ct16), sl16⟩) (c16 : PySem.W.codeIn K cd16 "_law_row" = true) (k16 : PySem.W.keepIn K (.ref f__law_row) = true)
    {od17 an17 : Option Addr} {sl17 : Array (Option Value)} {oc17 kV17 dc17 pm17 cd17 ct17 : Value} (a17 : PySem.W.nsIn K mainGlobals "law" = some (some (.ref f_law))) (l17 : K.lookup f_law = some ⟨oc17, od17, .func (PySem.W.fnOf "law" "law" (defArgs s_law) (defBody s_law) (defScope s_law) .none kV17 dc17 pm17 an17 cd17 ct17), sl17⟩) (c17 : PySem.W.codeIn K cd17 "law" = true) (k17 : PySem.W.keepIn K (.ref f_law) = true)
    (z_ValueError : PySem.W.nsIn K mainGlobals "ValueError" = some none)
    (z_bool : PySem.W.nsIn K mainGlobals "bool" = some none)
    (z_enumerate : PySem.W.nsIn K mainGlobals "enumerate" = some none)
    (z_int : PySem.W.nsIn K mainGlobals "int" = some none)
    (z_isinstance : PySem.W.nsIn K mainGlobals "isinstance" = some none)
    (z_len : PySem.W.nsIn K mainGlobals "len" = some none)
    (z_list : PySem.W.nsIn K mainGlobals "list" = some none)
    (z_min : PySem.W.nsIn K mainGlobals "min" = some none)
    (z_range : PySem.W.nsIn K mainGlobals "range" = some none)
    (z_tuple : PySem.W.nsIn K mainGlobals "tuple" = some none)
    (xa_NoPush : PySem.W.nsIn K mainGlobals "NoPush" = some (some (.ref C_NoPush)))
    (xk_NoPush : PySem.W.ktsIn K C_NoPush "BaseException" = true)
    (xa_NestError : PySem.W.nsIn K mainGlobals "NestError" = some (some (.ref C_NestError)))
    (xk_NestError : PySem.W.ktsIn K C_NestError "BaseException" = true)
    (xa_Twice : PySem.W.nsIn K mainGlobals "Twice" = some (some (.ref C_Twice)))
    (xk_Twice : PySem.W.ktsIn K C_Twice "BaseException" = true)
    (xa_NoText : PySem.W.nsIn K mainGlobals "NoText" = some (some (.ref C_NoText)))
    (xk_NoText : PySem.W.ktsIn K C_NoText "BaseException" = true)
    (xa_NoRule : PySem.W.nsIn K mainGlobals "NoRule" = some (some (.ref C_NoRule)))
    (xk_NoRule : PySem.W.ktsIn K C_NoRule "BaseException" = true)
    (xa_NoRow : PySem.W.nsIn K mainGlobals "NoRow" = some (some (.ref C_NoRow)))
    (xk_NoRow : PySem.W.ktsIn K C_NoRow "BaseException" = true)
    (xa_NoPairs : PySem.W.nsIn K mainGlobals "NoPairs" = some (some (.ref C_NoPairs)))
    (xk_NoPairs : PySem.W.ktsIn K C_NoPairs "BaseException" = true)
    (xa_NoKey : PySem.W.nsIn K mainGlobals "NoKey" = some (some (.ref C_NoKey)))
    (xk_NoKey : PySem.W.ktsIn K C_NoKey "BaseException" = true)
    (xa_NoFit : PySem.W.nsIn K mainGlobals "NoFit" = some (some (.ref C_NoFit)))
    (xk_NoFit : PySem.W.ktsIn K C_NoFit "BaseException" = true)
    (xa_Full : PySem.W.nsIn K mainGlobals "Full" = some (some (.ref C_Full)))
    (xk_Full : PySem.W.ktsIn K C_Full "BaseException" = true)
    (xm_NoPush_NestError : PySem.W.mroIn K C_NoPush (.ref C_NestError) = some true)
    (i4 : PySem.W.excIn K C_NestError [.type "ValueError", .type "Exception", .type "BaseException", .type "object"] "ValueError.__new__" = true)
    (i7 : PySem.W.specialIn K (.ref C_NestError) "__getattribute__" = some (some (.builtin "type.__getattribute__")))
    (i8 : PySem.W.readsIn K C_NestError (.type "type") = true)
    (i9 : PySem.W.findCls K (.ref C_NestError) (.type "type") "__init__" = some (.val (.builtin "ValueError.__init__")))
    {nm_NoPush q_NoPush : Str} {N_NoPush : Addr} {bs_NoPush sub_NoPush : List Value} {sn_NoPush : List Str} {ab_NoPush : Bool} {col_NoPush : Option Bool} {dd_NoPush : Option Addr} {k0_NoPush k1_NoPush k2_NoPush k3_NoPush k5_NoPush : Option Value}
    (i1_NoPush : K.lookup C_NoPush = some (excClassObj nm_NoPush q_NoPush C_NoPush N_NoPush bs_NoPush (.ref C_NestError :: [.type "ValueError", .type "Exception", .type "BaseException", .type "object"]) true sn_NoPush sub_NoPush ab_NoPush col_NoPush dd_NoPush k0_NoPush k1_NoPush k2_NoPush k3_NoPush k5_NoPush "ValueError.__new__"))
    (i2_NoPush : PySem.W.findIn K (.ref C_NoPush) "__init__" = some (some (.ref fI_NoPush)))
    (i3_NoPush : PySem.W.typeIn K (.ref fI_NoPush) = some (.type "function"))
    (i5_NoPush : PySem.W.findIn K (.ref C_NoPush) "__setattr__" = some (some (.builtin "object.__setattr__")))
    (i6_NoPush : PySem.W.findIn K (.ref C_NoPush) "at" = some none)
    (ih_NoPush : PySem.W.hasDictIn K C_NoPush = true)
    {od_NoPush an_NoPush : Option Addr} {sl_NoPush : Array (Option Value)} {oc_NoPush kV_NoPush dc_NoPush pm_NoPush cd0_NoPush ct_NoPush : Value}
    (il_NoPush : K.lookup fI_NoPush = some ⟨oc_NoPush, od_NoPush, .func (PySem.W.fnOf "__init__" "NoPush.__init__" (defArgs s_init_NoPush) (defBody s_init_NoPush) (defScope s_init_NoPush) .none kV_NoPush dc_NoPush pm_NoPush an_NoPush cd0_NoPush ct_NoPush), sl_NoPush⟩)
    (ic_NoPush : PySem.W.codeIn K cd0_NoPush "NoPush.__init__" = true)
    (ik_NoPush : PySem.W.keepIn K (.ref fI_NoPush) = true)
    {cd_NoPush : ClassData}
    (q1_NoPush : PySem.W.clsIn K C_NoPush = some cd_NoPush)
    (q2_NoPush : PySem.W.findIn K (.ref C_NoPush) "__getattribute__" = some (some (.builtin "BaseException.__getattribute__")))
    (q7_NoPush : PySem.W.findIn K (.ref C_NoPush) "__getattr__" = some none)
    (q8_NoPush : PySem.W.mroIn K C_NoPush (.type "BaseException") = some true)
    (q3_NoPush : PySem.W.findIn K (.ref C_NoPush) "__class__" = some (some (.builtin "object.__class__")))
    (q6_NoPush : PySem.W.mroIn K C_NoPush (.type "object") = some true)
    (q4 : PySem.W.specialIn K (.builtin "object.__class__") "__get__" = some (some (.builtin "getset_descriptor.__get__")))
    (q5 : PySem.W.takesIn K (.builtin "object.__class__") = some true)
    (kq_None_NoPush : PySem.W.kitOne K (.type "NoneType") (.ref C_NoPush) = some false)
    (kq_None_ValueError : PySem.W.kitOne K (.type "NoneType") (.type "ValueError") = some false)
    (kq_None_Full : PySem.W.kitOne K (.type "NoneType") (.ref C_Full) = some false)
    (kq_None_NoFit : PySem.W.kitOne K (.type "NoneType") (.ref C_NoFit) = some false)
    (kq_None_NoKey : PySem.W.kitOne K (.type "NoneType") (.ref C_NoKey) = some false)
    (kq_None_NoPairs : PySem.W.kitOne K (.type "NoneType") (.ref C_NoPairs) = some false)
    (kq_None_NoRow : PySem.W.kitOne K (.type "NoneType") (.ref C_NoRow) = some false)
    (kq_None_NoRule : PySem.W.kitOne K (.type "NoneType") (.ref C_NoRule) = some false)
    (kq_None_NoText : PySem.W.kitOne K (.type "NoneType") (.ref C_NoText) = some false)
    (kq_None_Twice : PySem.W.kitOne K (.type "NoneType") (.ref C_Twice) = some false)
    (kq_NoPush_NoPush : PySem.W.kitOne K (.ref C_NoPush) (.ref C_NoPush) = some true)
    (kq_NoPush_ValueError : PySem.W.kitOne K (.ref C_NoPush) (.type "ValueError") = some true)
    (kq_NoPush_Full : PySem.W.kitOne K (.ref C_NoPush) (.ref C_Full) = some false)
    (kq_NoPush_NoFit : PySem.W.kitOne K (.ref C_NoPush) (.ref C_NoFit) = some false)
    (kq_NoPush_NoKey : PySem.W.kitOne K (.ref C_NoPush) (.ref C_NoKey) = some false)
    (kq_NoPush_NoPairs : PySem.W.kitOne K (.ref C_NoPush) (.ref C_NoPairs) = some false)
    (kq_NoPush_NoRow : PySem.W.kitOne K (.ref C_NoPush) (.ref C_NoRow) = some false)
    (kq_NoPush_NoRule : PySem.W.kitOne K (.ref C_NoPush) (.ref C_NoRule) = some false)
    (kq_NoPush_NoText : PySem.W.kitOne K (.ref C_NoPush) (.ref C_NoText) = some false)
    (kq_NoPush_Twice : PySem.W.kitOne K (.ref C_NoPush) (.ref C_Twice) = some false)
    : ∃ fd : FuncData, (∀ (s : Shared) (v : Value), BindsTo s fd ⟨[v], []⟩ [("_law_script", v)]) ∧ ∀ base : Heap, K.In base → base.Ns mainGlobals mg → FnOk l.prog w K mg base CX0 5 fa fd ["_law_script"] (spM K 1 F_law) := by
  have e := hfa.symm.trans (PySem.W.mg_of X G a17)
  cases e
  have T : Txt K mg := ⟨⟨C_NoPush, xa_NoPush, PySem.W.mg_of X G xa_NoPush, xk_NoPush⟩, ⟨C_NestError, xa_NestError, PySem.W.mg_of X G xa_NestError, xk_NestError⟩, ⟨C_Twice, xa_Twice, PySem.W.mg_of X G xa_Twice, xk_Twice⟩, ⟨C_NoText, xa_NoText, PySem.W.mg_of X G xa_NoText, xk_NoText⟩, ⟨C_NoRule, xa_NoRule, PySem.W.mg_of X G xa_NoRule, xk_NoRule⟩, ⟨C_NoRow, xa_NoRow, PySem.W.mg_of X G xa_NoRow, xk_NoRow⟩, ⟨C_NoPairs, xa_NoPairs, PySem.W.mg_of X G xa_NoPairs, xk_NoPairs⟩, ⟨C_NoKey, xa_NoKey, PySem.W.mg_of X G xa_NoKey, xk_NoKey⟩, ⟨C_NoFit, xa_NoFit, PySem.W.mg_of X G xa_NoFit, xk_NoFit⟩, ⟨C_Full, xa_Full, PySem.W.mg_of X G xa_Full, xk_Full⟩, (fun C h => by rw [xa_NestError] at h; cases h; exact (Subs.cons xa_NoPush xk_NoPush xm_NoPush_NestError Subs.nil)), (KitOk.none (clsV_own (P := fun v => PySem.W.kitOne K (.type "NoneType") v = some false) xa_NoPush kq_None_NoPush) (KitOk.none (clsV_ty (P := fun v => PySem.W.kitOne K (.type "NoneType") v = some false) kq_None_ValueError) (KitOk.none (clsV_own (P := fun v => PySem.W.kitOne K (.type "NoneType") v = some false) xa_Full kq_None_Full) (KitOk.none (clsV_own (P := fun v => PySem.W.kitOne K (.type "NoneType") v = some false) xa_NoFit kq_None_NoFit) (KitOk.none (clsV_own (P := fun v => PySem.W.kitOne K (.type "NoneType") v = some false) xa_NoKey kq_None_NoKey) (KitOk.none (clsV_own (P := fun v => PySem.W.kitOne K (.type "NoneType") v = some false) xa_NoPairs kq_None_NoPairs) (KitOk.none (clsV_own (P := fun v => PySem.W.kitOne K (.type "NoneType") v = some false) xa_NoRow kq_None_NoRow) (KitOk.none (clsV_own (P := fun v => PySem.W.kitOne K (.type "NoneType") v = some false) xa_NoRule kq_None_NoRule) (KitOk.none (clsV_own (P := fun v => PySem.W.kitOne K (.type "NoneType") v = some false) xa_NoText kq_None_NoText) (KitOk.none (clsV_own (P := fun v => PySem.W.kitOne K (.type "NoneType") v = some false) xa_Twice kq_None_Twice) (KitOk.some xa_NoPush ⟨by rw [q1_NoPush]; rfl, q2_NoPush, q7_NoPush, q8_NoPush, q3_NoPush, q4, q5, q6_NoPush⟩ (clsV_own (P := fun v => PySem.W.kitOne K (.ref C_NoPush) v = some true) xa_NoPush kq_NoPush_NoPush) (KitOk.some xa_NoPush ⟨by rw [q1_NoPush]; rfl, q2_NoPush, q7_NoPush, q8_NoPush, q3_NoPush, q4, q5, q6_NoPush⟩ (clsV_ty (P := fun v => PySem.W.kitOne K (.ref C_NoPush) v = some true) kq_NoPush_ValueError) (KitOk.some xa_NoPush ⟨by rw [q1_NoPush]; rfl, q2_NoPush, q7_NoPush, q8_NoPush, q3_NoPush, q4, q5, q6_NoPush⟩ (clsV_own (P := fun v => PySem.W.kitOne K (.ref C_NoPush) v = some false) xa_Full kq_NoPush_Full) (KitOk.some xa_NoPush ⟨by rw [q1_NoPush]; rfl, q2_NoPush, q7_NoPush, q8_NoPush, q3_NoPush, q4, q5, q6_NoPush⟩ (clsV_own (P := fun v => PySem.W.kitOne K (.ref C_NoPush) v = some false) xa_NoFit kq_NoPush_NoFit) (KitOk.some xa_NoPush ⟨by rw [q1_NoPush]; rfl, q2_NoPush, q7_NoPush, q8_NoPush, q3_NoPush, q4, q5, q6_NoPush⟩ (clsV_own (P := fun v => PySem.W.kitOne K (.ref C_NoPush) v = some false) xa_NoKey kq_NoPush_NoKey) (KitOk.some xa_NoPush ⟨by rw [q1_NoPush]; rfl, q2_NoPush, q7_NoPush, q8_NoPush, q3_NoPush, q4, q5, q6_NoPush⟩ (clsV_own (P := fun v => PySem.W.kitOne K (.ref C_NoPush) v = some false) xa_NoPairs kq_NoPush_NoPairs) (KitOk.some xa_NoPush ⟨by rw [q1_NoPush]; rfl, q2_NoPush, q7_NoPush, q8_NoPush, q3_NoPush, q4, q5, q6_NoPush⟩ (clsV_own (P := fun v => PySem.W.kitOne K (.ref C_NoPush) v = some false) xa_NoRow kq_NoPush_NoRow) (KitOk.some xa_NoPush ⟨by rw [q1_NoPush]; rfl, q2_NoPush, q7_NoPush, q8_NoPush, q3_NoPush, q4, q5, q6_NoPush⟩ (clsV_own (P := fun v => PySem.W.kitOne K (.ref C_NoPush) v = some false) xa_NoRule kq_NoPush_NoRule) (KitOk.some xa_NoPush ⟨by rw [q1_NoPush]; rfl, q2_NoPush, q7_NoPush, q8_NoPush, q3_NoPush, q4, q5, q6_NoPush⟩ (clsV_own (P := fun v => PySem.W.kitOne K (.ref C_NoPush) v = some false) xa_NoText kq_NoPush_NoText) (KitOk.some xa_NoPush ⟨by rw [q1_NoPush]; rfl, q2_NoPush, q7_NoPush, q8_NoPush, q3_NoPush, q4, q5, q6_NoPush⟩ (clsV_own (P := fun v => PySem.W.kitOne K (.ref C_NoPush) v = some false) xa_Twice kq_NoPush_Twice) KitOk.nil)))))))))))))))))))), ⟨fun C h => by rw [xa_NoPush] at h; cases h; exact ⟨⟨by rw [q1_NoPush]; rfl, q2_NoPush, q7_NoPush, q8_NoPush, q3_NoPush, q4, q5, q6_NoPush⟩, i6_NoPush, ih_NoPush⟩⟩, PySem.W.mg_none_of X G z_ValueError, PySem.W.mg_none_of X G z_bool, PySem.W.mg_none_of X G z_enumerate, PySem.W.mg_none_of X G z_int, PySem.W.mg_none_of X G z_isinstance, PySem.W.mg_none_of X G z_len, PySem.W.mg_none_of X G z_list, PySem.W.mg_none_of X G z_min, PySem.W.mg_none_of X G z_range, PySem.W.mg_none_of X G z_tuple⟩
  have B__law_at : FnAt K mg "_law_at" s__law_at ps__law_at _ _ := ⟨fun_mk (st := s__law_at) l0 c0 k0, PySem.W.mg_of X G a0, (fun_mk (st := s__law_at) l0 c0 k0).binds (ps := ps__law_at) fun _ _ _ _ _ _ us hl => by obtain ⟨_, _, rfl⟩ := ln2 hl; rfl⟩
  have B__law_pen : FnAt K mg "_law_pen" s__law_pen ps__law_pen _ _ := ⟨fun_mk (st := s__law_pen) l1 c1 k1, PySem.W.mg_of X G a1, (fun_mk (st := s__law_pen) l1 c1 k1).binds (ps := ps__law_pen) fun _ _ _ _ _ _ us hl => by obtain ⟨_, _, rfl⟩ := ln2 hl; rfl⟩
  have B__law_take : FnAt K mg "_law_take" s__law_take ps__law_take _ _ := ⟨fun_mk (st := s__law_take) l2 c2 k2, PySem.W.mg_of X G a2, (fun_mk (st := s__law_take) l2 c2 k2).binds (ps := ps__law_take) fun _ _ _ _ _ _ us hl => by obtain ⟨_, _, rfl⟩ := ln2 hl; rfl⟩
  have B__law_web : FnAt K mg "_law_web" s__law_web ps__law_web _ _ := ⟨fun_mk (st := s__law_web) l3 c3 k3, PySem.W.mg_of X G a3, (fun_mk (st := s__law_web) l3 c3 k3).binds (ps := ps__law_web) fun _ _ _ _ _ _ us hl => by obtain ⟨_, _, rfl⟩ := ln2 hl; rfl⟩
  have B__law_drawn_web : FnAt K mg "_law_drawn_web" s__law_drawn_web ps__law_drawn_web _ _ := ⟨fun_mk (st := s__law_drawn_web) l4 c4 k4, PySem.W.mg_of X G a4, (fun_mk (st := s__law_drawn_web) l4 c4 k4).binds (ps := ps__law_drawn_web) fun _ _ _ _ _ _ us hl => by obtain ⟨_, _, rfl⟩ := ln2 hl; rfl⟩
  have B__law_laying : FnAt K mg "_law_laying" s__law_laying ps__law_laying _ _ := ⟨fun_mk (st := s__law_laying) l5 c5 k5, PySem.W.mg_of X G a5, (fun_mk (st := s__law_laying) l5 c5 k5).binds (ps := ps__law_laying) fun _ _ _ _ _ _ us hl => by obtain ⟨_, _, rfl⟩ := ln2 hl; rfl⟩
  have B__law_case : FnAt K mg "_law_case" s__law_case ps__law_case _ _ := ⟨fun_mk (st := s__law_case) l6 c6 k6, PySem.W.mg_of X G a6, (fun_mk (st := s__law_case) l6 c6 k6).binds (ps := ps__law_case) fun _ _ _ _ _ _ us hl => by obtain ⟨_, _, rfl⟩ := ln2 hl; rfl⟩
  have B__law_bent : FnAt K mg "_law_bent" s__law_bent ps__law_bent _ _ := ⟨fun_mk (st := s__law_bent) l7 c7 k7, PySem.W.mg_of X G a7, (fun_mk (st := s__law_bent) l7 c7 k7).binds (ps := ps__law_bent) fun _ _ _ _ _ _ us hl => by obtain ⟨_, _, rfl⟩ := ln2 hl; rfl⟩
  have B__law_behind : FnAt K mg "_law_behind" s__law_behind ps__law_behind _ _ := ⟨fun_mk (st := s__law_behind) l8 c8 k8, PySem.W.mg_of X G a8, (fun_mk (st := s__law_behind) l8 c8 k8).binds (ps := ps__law_behind) fun _ _ _ _ _ _ us hl => by obtain ⟨_, _, rfl⟩ := ln2 hl; rfl⟩
  have B__law_at_fault : FnAt K mg "_law_at_fault" s__law_at_fault ps__law_at_fault _ _ := ⟨fun_mk (st := s__law_at_fault) l9 c9 k9, PySem.W.mg_of X G a9, (fun_mk (st := s__law_at_fault) l9 c9 k9).binds (ps := ps__law_at_fault) fun _ _ _ _ _ _ us hl => by obtain ⟨_, _, _, _, rfl⟩ := ln4 hl; rfl⟩
  have B_left : FnAt K mg "left" s_left ps_left _ _ := ⟨fun_mk (st := s_left) l10 c10 k10, PySem.W.mg_of X G a10, (fun_mk (st := s_left) l10 c10 k10).binds (ps := ps_left) fun _ _ _ _ _ _ us hl => by obtain ⟨_, _, rfl⟩ := ln2 hl; rfl⟩
  have B_fault : FnAt K mg "fault" s_fault ps_fault _ _ := ⟨fun_mk (st := s_fault) l11 c11 k11, PySem.W.mg_of X G a11, (fun_mk (st := s_fault) l11 c11 k11).binds (ps := ps_fault) fun _ _ _ _ _ _ us hl => by obtain ⟨_, _, rfl⟩ := ln2 hl; rfl⟩
  have B_is_push : FnAt K mg "is_push" s_is_push ps_is_push _ _ := ⟨fun_mk (st := s_is_push) l12 c12 k12, PySem.W.mg_of X G a12, (fun_mk (st := s_is_push) l12 c12 k12).binds (ps := ps_is_push) fun _ _ _ _ _ _ us hl => by obtain ⟨_, _, _, _, rfl⟩ := ln4 hl; rfl⟩
  have B_follows : FnAt K mg "follows" s_follows ps_follows _ _ := ⟨fun_mk (st := s_follows) l13 c13 k13, PySem.W.mg_of X G a13, (fun_mk (st := s_follows) l13 c13 k13).binds (ps := ps_follows) fun _ _ _ _ _ _ us hl => by obtain ⟨_, _, _, _, rfl⟩ := ln4 hl; rfl⟩
  have B_pushed : FnAt K mg "pushed" s_pushed ps_pushed _ _ := ⟨fun_mk (st := s_pushed) l14 c14 k14, PySem.W.mg_of X G a14, (fun_mk (st := s_pushed) l14 c14 k14).binds (ps := ps_pushed) fun _ _ _ _ _ _ us hl => by obtain ⟨_, _, _, _, rfl⟩ := ln4 hl; rfl⟩
  have B__law_heard : FnAt K mg "_law_heard" s__law_heard ps__law_heard _ _ := ⟨fun_mk (st := s__law_heard) l15 c15 k15, PySem.W.mg_of X G a15, (fun_mk (st := s__law_heard) l15 c15 k15).binds (ps := ps__law_heard) fun _ _ _ _ _ _ us hl => by obtain ⟨_, _, _, _, rfl⟩ := ln4 hl; rfl⟩
  have B__law_row : FnAt K mg "_law_row" s__law_row ps__law_row _ _ := ⟨fun_mk (st := s__law_row) l16 c16 k16, PySem.W.mg_of X G a16, (fun_mk (st := s__law_row) l16 c16 k16).binds (ps := ps__law_row) fun _ _ _ _ _ _ us hl => by obtain ⟨_, _, _, _, rfl⟩ := ln4 hl; rfl⟩
  have B_law : FnAt K mg "law" s_law ps_law _ _ := ⟨fun_mk (st := s_law) l17 c17 k17, PySem.W.mg_of X G a17, (fun_mk (st := s_law) l17 c17 k17).binds (ps := ps_law) fun _ _ _ _ _ _ us hl => by obtain ⟨_, rfl⟩ := ln1 hl; rfl⟩
  refine ⟨PySem.W.fnOf "law" "law" (defArgs s_law) (defBody s_law) (defScope s_law) .none kV17 dc17 pm17 an17 cd17 ct17, fun s v => .of_eq rfl, fun base _ _ => ?_⟩
  have B_init_NoPush : IniAt K mg "NoPush" "at" "NoPush.__init__" s_init_NoPush ps_init_NoPush _ _ _ _ := ⟨xa_NoPush, PySem.W.mg_of X G xa_NestError, ⟨⟨_, _, _, _, _, _, _, _, _, _, _, _, _, _, i1_NoPush⟩, i2_NoPush, i3_NoPush, i4, i5_NoPush, i6_NoPush, i7, i8, i9⟩, (fun_mk (st := s_init_NoPush) il_NoPush ic_NoPush ik_NoPush), (fun_mk (st := s_init_NoPush) il_NoPush ic_NoPush ik_NoPush).binds (ps := ps_init_NoPush) fun _ _ _ _ _ _ us hl => by obtain ⟨_, _, rfl⟩ := ln2 hl; rfl⟩
  have ok_init_NoPush := okf_init_NoPush (P := l.prog) (w := w) (base := base) B_init_NoPush
  have ok__law_at := okf__law_at (P := l.prog) (w := w) (base := base) T B__law_at
  have ok__law_pen := okf__law_pen (P := l.prog) (w := w) (base := base) T B__law_at ok__law_at B__law_pen
  have ok__law_take := okf__law_take (P := l.prog) (w := w) (base := base) T B__law_take
  have ok__law_web := okf__law_web (P := l.prog) (w := w) (base := base) T B__law_take ok__law_take B__law_web
  have ok__law_drawn_web := okf__law_drawn_web (P := l.prog) (w := w) (base := base) T B__law_pen ok__law_pen B__law_web ok__law_web B__law_take ok__law_take B__law_drawn_web
  have ok__law_laying := okf__law_laying (P := l.prog) (w := w) (base := base) T B__law_take ok__law_take B__law_laying
  have ok__law_case := okf__law_case (P := l.prog) (w := w) (base := base) T B__law_drawn_web ok__law_drawn_web B__law_laying ok__law_laying B__law_pen ok__law_pen B__law_at ok__law_at B__law_case
  have ok__law_bent := okf__law_bent (P := l.prog) (w := w) (base := base) T B__law_take ok__law_take B__law_bent
  have ok__law_behind := okf__law_behind (P := l.prog) (w := w) (base := base) T B__law_behind
  have ok__law_at_fault := okf__law_at_fault (P := l.prog) (w := w) (base := base) T B__law_behind ok__law_behind B__law_at_fault
  have ok_left := okf_left (P := l.prog) (w := w) (base := base) T B_left
  have ok_fault := okf_fault (P := l.prog) (w := w) (base := base) T B_left ok_left B_fault
  have ok_is_push := okf_is_push (P := l.prog) (w := w) (base := base) T B_is_push
  have ok_follows := okf_follows (P := l.prog) (w := w) (base := base) T B_follows
  have ok_pushed := okf_pushed (P := l.prog) (w := w) (base := base) T B_fault ok_fault B_is_push ok_is_push B_follows ok_follows B_init_NoPush ok_init_NoPush B_pushed
  have ok__law_heard := okf__law_heard (P := l.prog) (w := w) (base := base) T B_pushed ok_pushed B__law_heard
  have ok__law_row := okf__law_row (P := l.prog) (w := w) (base := base) T B__law_take ok__law_take B__law_row
  exact okf_law T B__law_case ok__law_case B__law_pen ok__law_pen B__law_bent ok__law_bent B__law_at_fault ok__law_at_fault B__law_heard ok__law_heard B__law_row ok__law_row B__law_behind ok__law_behind B_law
theorem walk {l : PySem.W.OpenLaw} {q : Program} {loose : List Str} {XP : (Str → Option Value) → Heap → Prop} {YP : World → Heap → Prop} {d : DefRec} {K : Params → PySem.W.Frag} (hn : l.most = some 63) (hdf : d.params.defaults = [])
    (hY : ∀ (w : World) (h : Heap), YP w h → (K w.params).In h)
    (F : ∀ (w : World) (mg : Str → Option Value) (fa : Addr) (h : Heap), (K w.params).In h → h.Ns mainGlobals mg → mg d.name = some (.ref fa) →
      ∃ fd : FuncData, (∀ (s : Shared) (u : Value), BindsTo s fd ⟨[u], []⟩ [("_law_script", u)]) ∧ ∀ base : Heap, (K w.params).In base → base.Ns mainGlobals mg → FnOk l.prog w (K w.params) mg base CX0 5 fa fd ["_law_script"] (spM (K w.params) 1 F_law)) :
    PySem.W.WalkO q loose XP YP l.row.toRowW d [] (fun f vs => PySem.call f vs) :=
  L2.walk_of (n := 63) (k := 5) (x := "_law_script") (CX := fun _ => CX0) (sp := fun w => spM (K w.params) 1 F_law) hn (by decide) hdf ⟨rfl, by decide, by decide⟩ hY F (fun _ _ a ns hl hO hS => law_sp (law_true ns hl) hO hS) fun _ _ _ _ _ z => z
end P
open PySem PySem.W PyProof.Rows
set_option maxRecDepth 100000 in
set_option maxHeartbeats 0 in
theorem PySem.Challenge.cw_keynests_k24_rows_pushed_holds : PySem.Challenge.rw_keynests_k24_rows_pushed.Holds := by
  w_on; o_law; k_head; (case hw => w_witness2)
  k_fill
  refine P.walk (l := PySem.Challenge.rw_keynests_k24_rows_pushed) rfl rfl (fun w h Y => PySem.W.kIn_of Y) ?F
  case F =>
    intro w mg fa h KX G hmg
    refine' P.all_mk KX G hmg ?a0 ?l0 ?c0 ?k0 ?a1 ?l1 ?c1 ?k1 ?a2 ?l2 ?c2 ?k2 ?a3 ?l3 ?c3 ?k3 ?a4 ?l4 ?c4 ?k4 ?a5 ?l5 ?c5 ?k5 ?a6 ?l6 ?c6 ?k6 ?a7 ?l7 ?c7 ?k7 ?a8 ?l8 ?c8 ?k8 ?a9 ?l9 ?c9 ?k9 ?a10 ?l10 ?c10 ?k10 ?a11 ?l11 ?c11 ?k11 ?a12 ?l12 ?c12 ?k12 ?a13 ?l13 ?c13 ?k13 ?a14 ?l14 ?c14 ?k14 ?a15 ?l15 ?c15 ?k15 ?a16 ?l16 ?c16 ?k16 ?a17 ?l17 ?c17 ?k17 ?z_ValueError ?z_bool ?z_enumerate ?z_int ?z_isinstance ?z_len ?z_list ?z_min ?z_range ?z_tuple ?xa_NoPush ?xk_NoPush ?xa_NestError ?xk_NestError ?xa_Twice ?xk_Twice ?xa_NoText ?xk_NoText ?xa_NoRule ?xk_NoRule ?xa_NoRow ?xk_NoRow ?xa_NoPairs ?xk_NoPairs ?xa_NoKey ?xk_NoKey ?xa_NoFit ?xk_NoFit ?xa_Full ?xk_Full ?xm_NoPush_NestError ?i4 ?i7 ?i8 ?i9 ?i1_NoPush ?i2_NoPush ?i3_NoPush ?i5_NoPush ?i6_NoPush ?ih_NoPush ?il_NoPush ?ic_NoPush ?ik_NoPush ?q1_NoPush ?q2_NoPush ?q7_NoPush ?q8_NoPush ?q3_NoPush ?q6_NoPush ?q4 ?q5 ?kq_None_NoPush ?kq_None_ValueError ?kq_None_Full ?kq_None_NoFit ?kq_None_NoKey ?kq_None_NoPairs ?kq_None_NoRow ?kq_None_NoRule ?kq_None_NoText ?kq_None_Twice ?kq_NoPush_NoPush ?kq_NoPush_ValueError ?kq_NoPush_Full ?kq_NoPush_NoFit ?kq_NoPush_NoKey ?kq_NoPush_NoPairs ?kq_NoPush_NoRow ?kq_NoPush_NoRule ?kq_NoPush_NoText ?kq_NoPush_Twice
    (case a0 => k_is)
    (case l0 => k_is)
    (case c0 => k_is)
    (case k0 => k_is)
    (case a1 => k_is)
    (case l1 => k_is)
    (case c1 => k_is)
    (case k1 => k_is)
    (case a2 => k_is)
    (case l2 => k_is)
    (case c2 => k_is)
    (case k2 => k_is)
    (case a3 => k_is)
    (case l3 => k_is)
    (case c3 => k_is)
    (case k3 => k_is)
    (case a4 => k_is)
    (case l4 => k_is)
    (case c4 => k_is)
    (case k4 => k_is)
    (case a5 => k_is)
    (case l5 => k_is)
    (case c5 => k_is)
    (case k5 => k_is)
    (case a6 => k_is)
    (case l6 => k_is)
    (case c6 => k_is)
    (case k6 => k_is)
    (case a7 => k_is)
    (case l7 => k_is)
    (case c7 => k_is)
    (case k7 => k_is)
    (case a8 => k_is)
    (case l8 => k_is)
    (case c8 => k_is)
    (case k8 => k_is)
    (case a9 => k_is)
    (case l9 => k_is)
    (case c9 => k_is)
    (case k9 => k_is)
    (case a10 => k_is)
    (case l10 => k_is)
    (case c10 => k_is)
    (case k10 => k_is)
    (case a11 => k_is)
    (case l11 => k_is)
    (case c11 => k_is)
    (case k11 => k_is)
    (case a12 => k_is)
    (case l12 => k_is)
    (case c12 => k_is)
    (case k12 => k_is)
    (case a13 => k_is)
    (case l13 => k_is)
    (case c13 => k_is)
    (case k13 => k_is)
    (case a14 => k_is)
    (case l14 => k_is)
    (case c14 => k_is)
    (case k14 => k_is)
    (case a15 => k_is)
    (case l15 => k_is)
    (case c15 => k_is)
    (case k15 => k_is)
    (case a16 => k_is)
    (case l16 => k_is)
    (case c16 => k_is)
    (case k16 => k_is)
    (case a17 => k_is)
    (case l17 => k_is)
    (case c17 => k_is)
    (case k17 => k_is)
    (case z_ValueError => k_is)
    (case z_bool => k_is)
    (case z_enumerate => k_is)
    (case z_int => k_is)
    (case z_isinstance => k_is)
    (case z_len => k_is)
    (case z_list => k_is)
    (case z_min => k_is)
    (case z_range => k_is)
    (case z_tuple => k_is)
    (case xa_NoPush => k_is)
    (case xk_NoPush => kts_isx)
    (case xa_NestError => k_is)
    (case xk_NestError => kts_isx)
    (case xa_Twice => k_is)
    (case xk_Twice => kts_isx)
    (case xa_NoText => k_is)
    (case xk_NoText => kts_isx)
    (case xa_NoRule => k_is)
    (case xk_NoRule => kts_isx)
    (case xa_NoRow => k_is)
    (case xk_NoRow => kts_isx)
    (case xa_NoPairs => k_is)
    (case xk_NoPairs => kts_isx)
    (case xa_NoKey => k_is)
    (case xk_NoKey => kts_isx)
    (case xa_NoFit => k_is)
    (case xk_NoFit => kts_isx)
    (case xa_Full => k_is)
    (case xk_Full => kts_isx)
    (case xm_NoPush_NestError => k_is)
    (case i4 => k_exc)
    (case i7 => k_is)
    (case i8 => k_is)
    (case i9 => k_is)
    (case i1_NoPush => k_is)
    (case i2_NoPush => k_is)
    (case i3_NoPush => k_is)
    (case i5_NoPush => k_is)
    (case i6_NoPush => k_is)
    (case ih_NoPush => k_is)
    (case il_NoPush => k_is)
    (case ic_NoPush => k_is)
    (case ik_NoPush => k_is)
    (case q1_NoPush => k_is)
    (case q2_NoPush => k_is)
    (case q7_NoPush => k_is)
    (case q8_NoPush => k_is)
    (case q3_NoPush => k_is)
    (case q6_NoPush => k_is)
    (case q4 => k_is)
    (case q5 => k_is)
    (case kq_None_NoPush => kit_is)
    (case kq_None_ValueError => kit_is)
    (case kq_None_Full => kit_is)
    (case kq_None_NoFit => kit_is)
    (case kq_None_NoKey => kit_is)
    (case kq_None_NoPairs => kit_is)
    (case kq_None_NoRow => kit_is)
    (case kq_None_NoRule => kit_is)
    (case kq_None_NoText => kit_is)
    (case kq_None_Twice => kit_is)
    (case kq_NoPush_NoPush => kit_is)
    (case kq_NoPush_ValueError => kit_is)
    (case kq_NoPush_Full => kit_is)
    (case kq_NoPush_NoFit => kit_is)
    (case kq_NoPush_NoKey => kit_is)
    (case kq_NoPush_NoPairs => kit_is)
    (case kq_NoPush_NoRow => kit_is)
    (case kq_NoPush_NoRule => kit_is)
    (case kq_NoPush_NoText => kit_is)
    (case kq_NoPush_Twice => kit_is)
