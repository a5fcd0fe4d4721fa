import PyProof.Rows.All
import Wide.All
import OpenK.AllK
import Wide.FinOn
import Lean
import PyProof.EqAt
import PyProof.EqKinds
import PyProof.TupleCall
import PyProof.P3Statements
import PyProof.Lay0
import PyProof.P3Eq
import PyProof.NeData
import KE.KEqDict
import PyProof.ListRange
import KE.KDictSum
import PyProof.AttrMissHeap
import PyProof.WalksS
import KE.KDictOf
import KE.KRevSl
import PyProof.ZipIter
import PyProof.WalksMore
import PyProof.Rows.FactsT2
import KE.KRevIter
import PyProof.TupleOfGen
import PyProof.CollectIter
import PySem.Challenge.RW_calm_k40_plain_and_against_forms
set_option Elab.async false
noncomputable section
set_option linter.all false
set_option maxRecDepth 100000
namespace L2
open PySem PySem.Spec PyProof.Rows
noncomputable abbrev Key := Sum Int Str
noncomputable def keyIs : Key → Value → Bool
  | .inl k, v => Value.isInt k v
  | .inr x, v => Value.isStrOf x v
noncomputable def keyH (w : World) : Key → Int
  | .inl k => hashInt k
  | .inr x => hashStr w x
theorem keyIs_shape : ∀ {k : Key} {v : Value}, keyIs k v = true → (∃ i t, k = Sum.inl i ∧ v = Value.int i t) ∨ (∃ x t, k = Sum.inr x ∧ v = Value.str x t)
  | .inl i, v, h => by
    obtain ⟨t, e⟩ := Value.isInt_shape (k := i) (v := v) h
    exact .inl ⟨i, t, rfl, e⟩
  | .inr x, v, h => by
    obtain ⟨t, e⟩ := Value.isStrOf_shape (x := x) (v := v) h
    exact .inr ⟨x, t, rfl, e⟩
theorem keyIs_int (i : Int) (t : Tok) : keyIs (.inl i) (.int i t) = true := by simp [keyIs, Value.isInt]
theorem keyIs_str (x : Str) (t : Tok) : keyIs (.inr x) (.str x t) = true := by simp [keyIs, Value.isStrOf]
theorem key_ll (a b : Int) : decide ((Sum.inl a : Key) = Sum.inl b) = (a == b) := by
  by_cases e : a = b
  · subst e; simp
  · have h : ¬ (Sum.inl a : Key) = Sum.inl b := fun q => e (Sum.inl.inj q)
    rw [decide_eq_false h]
    exact (beq_eq_false_iff_ne.mpr e).symm
theorem key_rr (a b : Str) : decide ((Sum.inr a : Key) = Sum.inr b) = decide (a = b) := by
  by_cases e : a = b
  · subst e; simp
  · have h : ¬ (Sum.inr a : Key) = Sum.inr b := fun q => e (Sum.inr.inj q)
    rw [decide_eq_false h, decide_eq_false e]
theorem key_lr (a : Int) (b : Str) : decide ((Sum.inl a : Key) = Sum.inr b) = false := decide_eq_false (fun q => nomatch q)
theorem key_rl (a : Str) (b : Int) : decide ((Sum.inr a : Key) = Sum.inl b) = false := decide_eq_false (fun q => nomatch q)
noncomputable def mixKind (prog : Program) (w : World) : PySem.KeyKind prog w Key where
  is := keyIs
  hash := keyH w
  inj := fun v a b ha hb => by
    rcases keyIs_shape ha with ⟨i, t, rfl, rfl⟩ | ⟨x, t, rfl, rfl⟩
    · rcases keyIs_shape hb with ⟨j, u, rfl, e⟩ | ⟨y, u, rfl, e⟩
      · injection e with e1 _; rw [e1]
      · exact nomatch e
    · rcases keyIs_shape hb with ⟨j, u, rfl, e⟩ | ⟨y, u, rfl, e⟩
      · exact nomatch e
      · injection e with e1 _; rw [e1]
  byValue := fun k v h => by
    rcases keyIs_shape h with ⟨i, t, rfl, rfl⟩ | ⟨x, t, rfl, rfl⟩ <;> rfl
  pyHash := fun hv h => by
    rcases keyIs_shape hv with ⟨i, t, rfl, rfl⟩ | ⟨x, t, rfl, rfl⟩
    · exact wpAny_pyHash_int h
    · exact wpAny_pyHash_str h
  eqBool := fun hu hv h => by
    rcases keyIs_shape hu with ⟨i, t, rfl, rfl⟩ | ⟨x, t, rfl, rfl⟩
    · rcases keyIs_shape hv with ⟨j, u, rfl, rfl⟩ | ⟨y, u, rfl, rfl⟩
      · rw [key_ll] at h; exact wpAny_eqBool_int h
      · rw [key_lr] at h; exact SeqAt.EqAt.int_str i t y u _ _ _ _ h
    · rcases keyIs_shape hv with ⟨j, u, rfl, rfl⟩ | ⟨y, u, rfl, rfl⟩
      · rw [key_rl] at h; exact SeqAt.EqAt.str_int x t j u _ _ _ _ h
      · rw [key_rr] at h; exact wpAny_eqBool_str h
  «strs» := fun k x t v h => by
    rcases keyIs_shape h with ⟨i, u, rfl, e⟩ | ⟨y, u, rfl, e⟩
    · exact nomatch e
    · injection e with e1 _
      subst e1
      cases v <;> rfl
theorem mixKind_is (prog : Program) (w : World) (k : Key) (v : Value) : (mixKind prog w).is k v = keyIs k v := rfl
theorem mixKind_int (prog : Program) (w : World) (i : Int) (t : Tok) : (mixKind prog w).is (.inl i) (.int i t) = true := keyIs_int i t
theorem mixKind_str (prog : Program) (w : World) (x : Str) (t : Tok) : (mixKind prog w).is (.inr x) (.str x t) = true := keyIs_str x t
end L2
namespace L2
open PySem PySem.Spec PyProof.Rows
inductive V where
  | non | bl (b : Bool) | int (i : Int) | str (x : Str) | byt (b : Array UInt8) | flt (b : UInt64) | ref (a : Addr) | ty (n : String)
  deriving DecidableEq
noncomputable def RelV : V → Value → Prop
  | .non, u => u = Value.none
  | .bl b, u => u = Value.bool b
  | .int i, u => ∃ t, u = Value.int i t
  | .str x, u => ∃ t, u = Value.str x t
  | .byt b, u => ∃ t, u = Value.bytes b t
  | .flt b, u => ∃ t, u = Value.float b t
  | .ref a, u => u = Value.ref a
  | .ty n, u => u = Value.type n
noncomputable abbrev Vals : List V → List Value → Prop := Paired RelV
theorem Vals.length {xs : List V} {us : List Value} (r : Vals xs us) : xs.length = us.length := Paired.length r
theorem Vals.get : ∀ {xs : List V} {us : List Value} {i : Nat} {x : V}, Vals xs us → xs[i]? = some x → ∃ u, us[i]? = some u ∧ RelV x u
  | _, _, _, _, .nil, e => by simp at e
  | _, _, 0, _, .cons r _, e => by simp at e; subst e; exact ⟨_, rfl, r⟩
  | _, _, i + 1, x, .cons _ t, e => by
    obtain ⟨u, h1, h2⟩ := Vals.get (i := i) (x := x) t (by simpa using e)
    exact ⟨u, by simpa using h1, h2⟩
theorem Vals.set {x : V} {u : Value} (r : RelV x u) : ∀ {xs : List V} {us : List Value} (i : Nat), Vals xs us → Vals (xs.set i x) (us.set i u)
  | _, _, _, .nil => .nil
  | _, _, 0, .cons _ t => .cons r t
  | _, _, i + 1, .cons q t => .cons q (Vals.set r i t)
theorem Vals.append : ∀ {xs ys : List V} {us ws : List Value}, Vals xs us → Vals ys ws → Vals (xs ++ ys) (us ++ ws)
  | _, _, _, _, .nil, s => s
  | _, _, _, _, .cons r t, s => .cons r (Vals.append t s)
theorem Vals.take : ∀ {xs : List V} {us : List Value} (n : Nat), Vals xs us → Vals (xs.take n) (us.take n)
  | _, _, 0, _ => .nil
  | _, _, _ + 1, .nil => .nil
  | _, _, n + 1, .cons r t => .cons r (Vals.take n t)
theorem Vals.drop : ∀ {xs : List V} {us : List Value} (n : Nat), Vals xs us → Vals (xs.drop n) (us.drop n)
  | _, _, 0, r => r
  | _, _, _ + 1, .nil => .nil
  | _, _, n + 1, .cons _ t => Vals.drop n t
noncomputable def RelO : Option V → Option Value → Prop
  | some v, some u => RelV v u
  | none, none => True
  | _, _ => False
noncomputable def KV {κ : Type} : List (κ × V) → List (κ × Value) → Prop := Paired fun (p : κ × V) (q : κ × Value) => p.1 = q.1 ∧ RelV p.2 q.2
noncomputable def kV : Key → V
  | .inl i => .int i
  | .inr x => .str x
inductive HO where
  /-- a list -/
  | lst (xs : List V)
  /-- a tuple (never changes) -/
  | tup (xs : List V)
  /-- a dict whose keys are ints and texts; one whose keys are tuples of ints and texts (the empty one is both) -/
  | dK (kvs : List (Key × V)) | dT (kvs : List (List Key × V))
  /-- a set of ints: its members, its size -/
  | set (S : Int → Bool) (n : Nat)
  /-- an instance of the class at C, its dict at dx, its attributes -/
  | ins (C dx : Addr) (fs : List (Str × V))
  /-- the dict of the instance at x -/
  | own (x : Addr)
  /-- the dict of an exception -/
  | xd (fs : List (Str × V))
  /-- a bound method, f of x -/
  | met (f x : Addr)
  /-- a range object lo, lo + 1, .. below hi -/
  | rng (lo hi : Int)
  /-- a thing that is known to the object (the script; a dict while a loop walks it): read, never written while it is so -/
  | frz (o : Obj) (u : HO)
  /-- a code object's table -/
  | tbl (ps : Array Value)
  /-- any other thing, by what is true of its one object (a def of one's own: SetO a S n := HO.ext fun h => ..) -/
  | ext (φ : Heap → Prop)
noncomputable abbrev Hp := Addr → Option HO
noncomputable def upd (H : Hp) (a : Addr) (o : HO) : Hp := fun b => if b = a then some o else H b
theorem upd_same {H : Hp} {a : Addr} {o : HO} : upd H a o a = some o := by unfold upd; rw [if_pos rfl]
theorem upd_ne {H : Hp} {a b : Addr} {o : HO} (h : b ≠ a) : upd H a o b = H b := by unfold upd; rw [if_neg h]
theorem ne_of {H : Hp} {a b : Addr} {o u : HO} (h : H a = some o) (h' : H b = some u) (d : o ≠ u) : a ≠ b := by
  intro e; subst e; rw [h] at h'; exact d (Option.some.inj h')
theorem ne_of_none {H : Hp} {a b : Addr} {o : HO} (h : H a = some o) (h' : H b = none) : a ≠ b := by
  intro e; subst e; rw [h] at h'; cases h'
noncomputable def TupD (h : Heap) (a : Addr) (items : Array Value) : Prop := ∃ o, h.get? a = some o ∧ o.cls = .type "tuple" ∧ o.dict = none ∧ ∃ n, o.data = .seq items n
theorem TupD.is {h : Heap} {a : Addr} {items : Array Value} (x : TupD h a items) : IsTup h a items := let ⟨o, e, c, _, d⟩ := x; ⟨o, e, c, d⟩
theorem TupD.new (h : Heap) (items : Array Value) : TupD (h.push { cls := .type "tuple", data := .seq items }) h.objs.size items := ⟨_, Heap.get?_push_size _ rfl, rfl, rfl, 0, rfl⟩
noncomputable section
variable (P : Program) (w : World)
noncomputable def ObjOk (H : Hp) (h : Heap) (a : Addr) : HO → Prop
  | .lst xs => xs.length ≤ sizeLine ∧ ∃ (its : List Value) (n : Nat), Vals xs its ∧ h.get? a = some { cls := .type "list", data := .seq its.toArray n }
  | .tup xs => xs.length ≤ sizeLine ∧ ∃ its : List Value, Vals xs its ∧ TupD h a its.toArray
  | .dK kvs => kvs.length ≤ sizeLine ∧ (a == sysModules) = false ∧ ∃ vs, KV kvs vs ∧ h.DictOf (mixKind P w) a vs
  | .dT kvs => kvs.length ≤ sizeLine ∧ (a == sysModules) = false ∧ ∃ xs : List (List Key × Addr × Value),
      Paired (fun (p : List Key × V) (q : List Key × Addr × Value) => p.1 = q.1 ∧ H q.2.1 = some (.tup (p.1.map kV)) ∧ RelV p.2 q.2.2) kvs xs ∧
      ∃ o es ep, h.get? a = some o ∧ o.ExactDict ∧ o.data = .dict es ep ∧ es.toList = xs.map (entryOfKey (tupleKind (mixKind P w))) ∧ (xs.map (·.1)).Nodup
  | .set S n => h.SetOf (intKind P w) a S n
  | .ins C dx fs => H dx = some (.own a) ∧ fs.length ≤ 1000 ∧ dx ≠ a ∧ h.get? a = some (PySem.W.instObj C dx) ∧
      ∃ mA, h.Ns1 dx mA ∧ (∀ f, RelO (fs.lookup f) (mA f)) ∧ PySem.Within mA (fs.map (·.1))
  | .own _ => ∃ o, h.get? a = some o
  | .xd fs => ∃ mA, h.Ns1 a mA ∧ ∀ f, RelO (fs.lookup f) (mA f)
  | .rng lo hi => ∃ t u v, h.get? a = some { cls := .type "range", data := .fields #[.int lo t, .int hi u, .int 1 v] }
  | .frz o u => h.get? a = some o ∧ ObjOk H h a u
  | .tbl ps => h.get? a = some { cls := .none, data := .fields ps }
  | .met f x => h.get? a = some (PySem.W.methodObj (.ref f) (.ref x))
  | .ext φ => φ h ∧ (∃ o, h.get? a = some o) ∧ ∀ h1 h2 : Heap, φ h1 → (∀ o, h1.get? a = some o → h2.get? a = some o) → φ h2
noncomputable def HOk (H : Hp) (h : Heap) : Prop := ∀ a o, H a = some o → ObjOk P w H h a o
end
noncomputable section
variable {P : Program} {w : World} {H H' : Hp} {h h' : Heap} {a : Addr} {o : HO}
theorem ObjOk.lt (x : ObjOk P w H h a o) : a < h.objs.size := by
  cases o with
  | lst xs => obtain ⟨_, _, _, _, e⟩ := x; exact Heap.lt_size e
  | tup xs => obtain ⟨_, _, _, p⟩ := x; exact p.is.lt
  | dK kvs => obtain ⟨_, _, _, _, o, _, _, e, _⟩ := x; exact Heap.lt_size e
  | dT kvs => obtain ⟨_, _, _, _, o, _, _, e, _⟩ := x; exact Heap.lt_size e
  | set S n => obtain ⟨o, _, _, _, e, _⟩ := x; exact Heap.lt_size e
  | ins C dx fs => obtain ⟨_, _, _, e, _⟩ := x; exact Heap.lt_size e
  | own y => obtain ⟨_, e⟩ := x; exact Heap.lt_size e
  | xd fs => obtain ⟨_, ⟨_, _, _, e, _⟩, _⟩ := x; exact Heap.lt_size e
  | rng lo hi => obtain ⟨_, _, _, e⟩ := x; exact Heap.lt_size e
  | frz ob u => obtain ⟨e, _⟩ := x; exact Heap.lt_size e
  | tbl ps => exact Heap.lt_size (show h.get? a = some _ from x)
  | met f y => exact Heap.lt_size (show h.get? a = some _ from x)
  | ext φ => obtain ⟨_, ⟨_, e⟩, _⟩ := x; exact Heap.lt_size e
theorem Paired.mapP {α β : Type} {F G : α → β → Prop} : ∀ {l₁ : List α} {l₂ : List β}, Paired F l₁ l₂ → (∀ a b, F a b → G a b) → Paired G l₁ l₂
  | _, _, .nil, _ => .nil
  | _, _, .cons r t, f => .cons (f _ _ r) (Paired.mapP t f)
theorem ObjOk.stay (x : ObjOk P w H h a o) (k : ∀ b u, (b = a ∨ H b = some (.own a)) → h.get? b = some u → h'.get? b = some u)
    (ho : ∀ b, H b = some (.own a) → H' b = some (.own a)) (ht : ∀ b xs, H b = some (.tup xs) → H' b = some (.tup xs)) : ObjOk P w H' h' a o := by
  induction o with
  | lst xs => obtain ⟨z, its, n, r, e⟩ := x; exact ⟨z, its, n, r, k _ _ (.inl rfl) e⟩
  | tup xs => obtain ⟨z, its, r, ob, e, c⟩ := x; exact ⟨z, its, r, ob, k _ _ (.inl rfl) e, c⟩
  | dK kvs => obtain ⟨z, y, vs, r, ob, es, ep, e, c⟩ := x; exact ⟨z, y, vs, r, ob, es, ep, k _ _ (.inl rfl) e, c⟩
  | dT kvs =>
    obtain ⟨z, y, xs, r, ob, es, ep, e, c⟩ := x
    exact ⟨z, y, xs, Paired.mapP r fun p q z => ⟨z.1, ht _ _ z.2.1, z.2.2⟩, ob, es, ep, k _ _ (.inl rfl) e, c⟩
  | set S n => obtain ⟨ob, es, ep, t, e, c⟩ := x; exact ⟨ob, es, ep, t, k _ _ (.inl rfl) e, c⟩
  | ins C dx fs =>
    obtain ⟨d, z, ne, e, mA, ⟨od, es, ep, e2, c⟩, r⟩ := x
    exact ⟨ho _ d, z, ne, k _ _ (.inl rfl) e, mA, ⟨od, es, ep, k _ _ (.inr d) e2, c⟩, r⟩
  | own y => obtain ⟨ob, e⟩ := x; exact ⟨ob, k _ _ (.inl rfl) e⟩
  | xd fs => obtain ⟨mA, ⟨od, es, ep, e, c⟩, r⟩ := x; exact ⟨mA, ⟨od, es, ep, k _ _ (.inl rfl) e, c⟩, r⟩
  | rng lo hi => obtain ⟨t, u, v, e⟩ := x; exact ⟨t, u, v, k _ _ (.inl rfl) e⟩
  | frz ob u ih => obtain ⟨e, q⟩ := x; exact ⟨k _ _ (.inl rfl) e, ih q⟩
  | tbl ps =>
    have e : h.get? a = some { cls := .none, data := .fields ps } := x
    show h'.get? a = some { cls := .none, data := .fields ps }
    exact k a _ (.inl rfl) e
  | met f y =>
    have e : h.get? a = some (PySem.W.methodObj (.ref f) (.ref y)) := x
    show h'.get? a = some (PySem.W.methodObj (.ref f) (.ref y))
    exact k a _ (.inl rfl) e
  | ext φ => obtain ⟨p, ⟨o, e⟩, st⟩ := x; exact ⟨st _ _ p fun o q => k _ _ (.inl rfl) q, ⟨o, k _ _ (.inl rfl) e⟩, st⟩
theorem HOk.lt (x : HOk P w H h) (e : H a = some o) : a < h.objs.size := (x a o e).lt
theorem HOk.fresh (x : HOk P w H h) (e : h.objs.size ≤ a) : H a = none := by
  cases q : H a with
  | none => rfl
  | some u => exact absurd (Nat.lt_of_lt_of_le (x.lt q) e) (Nat.lt_irrefl _)
theorem HOk.kept (x : HOk P w H h) (k : ∀ b u, h.get? b = some u → h'.get? b = some u) : HOk P w H h' := fun a o e =>
  (x a o e).stay (fun b u _ q => k b u q) (fun _ q => q) fun _ _ q => q
theorem HOk.laid (x : HOk P w H h) (k : ∀ b u, h.get? b = some u → h'.get? b = some u) (hp : h.objs.size ≤ a) (new : ObjOk P w (upd H a o) h' a o) : HOk P w (upd H a o) h' := fun b u e => by
  have hn := x.fresh hp
  by_cases hb : b = a
  · subst hb; rw [upd_same] at e; cases e; exact new
  · rw [upd_ne hb] at e
    exact (x b u e).stay (fun c v _ q => k c v q) (fun c q => by rw [upd_ne (ne_of_none q hn)]; exact q) fun c xs q => by rw [upd_ne (ne_of_none q hn)]; exact q
end
noncomputable def Rd (H : Hp) (a : Addr) (u : HO) : Prop := H a = some u ∨ ∃ o, H a = some (.frz o u)
theorem Rd.ok {P : Program} {w : World} {H : Hp} {h : Heap} {a : Addr} {u : HO} (r : Rd H a u) (x : HOk P w H h) : ObjOk P w H h a u := by
  rcases r with r | ⟨o, r⟩
  · exact x a u r
  · obtain ⟨_, q⟩ := x a _ r
    exact q
noncomputable def Mut : Option HO → Prop
  | some (.lst _) => True
  | some (.dK _) => True
  | some (.dT _) => True
  | some (.set _ _) => True
  | some (.ins _ _ _) => True
  | some (.ext _) => True
  | _ => False
noncomputable section
variable {P : Program} {w : World} {H : Hp} {h h' : Heap} {x e : Addr} {o' : HO}
theorem HOk.write (ok : HOk P w H h) (mu : Mut (H x)) (he : e = x ∨ H e = some (.own x)) (k : ∀ b u, b ≠ e → h.get? b = some u → h'.get? b = some u) (heo : ∃ u, h'.get? e = some u)
    (new : ObjOk P w (upd H x o') h' x o') : HOk P w (upd H x o') h' := fun b u q => by
  have nown : ∀ c y, H c = some (.own y) → c ≠ x := fun c y r z => by subst z; rw [r] at mu; exact mu
  have ntup : ∀ c xs, H c = some (.tup xs) → c ≠ x := fun c xs r z => by subst z; rw [r] at mu; exact mu
  by_cases hb : b = x
  · subst hb; rw [upd_same] at q; cases q; exact new
  · rw [upd_ne hb] at q
    by_cases hbe : b = e
    · have q' : H b = some (.own x) := by
        rcases he with z | z
        · exact absurd (hbe.trans z) hb
        · rw [hbe]; exact z
      rw [q] at q'; cases q'
      obtain ⟨v, hv⟩ := heo
      exact ⟨v, by rw [hbe]; exact hv⟩
    · refine (ok b u q).stay (fun c v hc r => k c v ?_ r) (fun c r => by rw [upd_ne (nown c b r)]; exact r) fun c xs r => by rw [upd_ne (ntup c xs r)]; exact r
      rcases hc with rfl | hc
      · exact hbe
      · rintro rfl
        rcases he with z | z
        · exact nown c b hc z
        · rw [hc] at z; cases z; exact hb rfl
end
structure Un (fs ex : List Addr) (H H' : Hp) (h h' : Heap) : Prop where
  keep : ∀ b o, h.get? b = some o → H b = none → b ∉ fs → b ∉ ex → h'.get? b = some o
  slot : ∀ b o, h.get? b = some o → H b = none → b ∈ fs → b ∉ ex → ∃ sl, h'.get? b = some { o with slots := sl }
  free : ∀ b o, h.get? b = some o → H b = none → b ∉ ex → H' b = none
  there : ∀ b o, h.get? b = some o → b ∉ ex → ∃ o', h'.get? b = some o'
  tups : ∀ b xs, H b = some (.tup xs) → H' b = some (.tup xs)
  frzs : ∀ b o u, H b = some (.frz o u) → H' b = some (.frz o u)
  tbls : ∀ b ps, H b = some (.tbl ps) → ∃ more, H' b = some (.tbl (ps ++ more))
noncomputable section
variable {fs fs' ex ex' : List Addr} {H H1 H2 : Hp} {h h1 h2 h' : Heap} {a x e : Addr} {o : HO}
theorem Un.any (u : Un fs ex H H1 h h1) {b : Addr} {ob : Obj} (q : h.get? b = some ob) (n : H b = none) (hx : b ∉ ex) : ∃ sl, h1.get? b = some { ob with slots := sl } := by
  by_cases hb : b ∈ fs
  · exact u.slot b ob q n hb hx
  · exact ⟨ob.slots, u.keep b ob q n hb hx⟩
theorem Un.trans (a : Un fs ex H H1 h h1) (b : Un fs ex H1 H2 h1 h2) : Un fs ex H H2 h h2 where
  keep := fun c ob q n hc hx => b.keep c ob (a.keep c ob q n hc hx) (a.free c ob q n hx) hc hx
  slot := fun c ob q n hc hx => by
    obtain ⟨sl, e1⟩ := a.slot c ob q n hc hx
    obtain ⟨sl', e2⟩ := b.slot c _ e1 (a.free c ob q n hx) hc hx
    exact ⟨sl', e2⟩
  free := fun c ob q n hx => by
    obtain ⟨o', e1⟩ := a.there c ob q hx
    exact b.free c o' e1 (a.free c ob q n hx) hx
  there := fun c ob q hx => by
    obtain ⟨o', e1⟩ := a.there c ob q hx
    exact b.there c o' e1 hx
  tups := fun c xs q => b.tups c xs (a.tups c xs q)
  frzs := fun c ob xs q => b.frzs c ob xs (a.frzs c ob xs q)
  tbls := fun c ps q => by
    obtain ⟨m1, e1⟩ := a.tbls c ps q
    obtain ⟨m2, e2⟩ := b.tbls c _ e1
    exact ⟨m1 ++ m2, by rw [e2, Array.append_assoc]⟩
theorem Un.kept (k : ∀ b u, h.get? b = some u → h'.get? b = some u) : Un fs ex H H h h' :=
  ⟨fun b ob q _ _ _ => k b ob q, fun b ob q _ _ _ => ⟨ob.slots, k b ob q⟩, fun _ _ _ n _ => n, fun b ob q _ => ⟨ob, k b ob q⟩, fun _ _ q => q, fun _ _ _ q => q, fun _ ps q => ⟨#[], by rw [q]; simp⟩⟩
theorem Un.refl : Un fs ex H H h h := Un.kept fun _ _ q => q
theorem Un.laid (k : ∀ b u, h.get? b = some u → h'.get? b = some u) (hp : h.objs.size ≤ a) (hn : H a = none) : Un fs ex H (upd H a o) h h' where
  keep := fun b u q _ _ _ => k b u q
  slot := fun b u q _ _ _ => ⟨u.slots, k b u q⟩
  free := fun b u q n _ => by rw [upd_ne (Nat.ne_of_lt (Nat.lt_of_lt_of_le (Heap.lt_size q) hp))]; exact n
  there := fun b u q _ => ⟨u, k b u q⟩
  tups := fun b xs q => by rw [upd_ne (ne_of_none q hn)]; exact q
  frzs := fun b u xs q => by rw [upd_ne (ne_of_none q hn)]; exact q
  tbls := fun b ps q => ⟨#[], by rw [upd_ne (ne_of_none q hn), q]; simp⟩
theorem Un.write (mu : Mut (H x)) (he : e = x ∨ H e = some (.own x)) (k : ∀ b u, b ≠ e → h.get? b = some u → h'.get? b = some u) (heo : ∃ u, h'.get? e = some u) : Un fs ex H (upd H x o) h h' := by
  have hx : ∀ b, H b = none → b ≠ x := fun b n z => by subst z; rw [n] at mu; exact mu
  have hb : ∀ b, H b = none → b ≠ e := fun b n z => by
    subst z
    rcases he with r | r
    · exact hx b n r
    · rw [n] at r; cases r
  have hm : ∀ b u, H b = some u → ¬ Mut (some u) → b ≠ x := fun b u q nm z => by subst z; rw [q] at mu; exact nm mu
  refine ⟨fun b u q n _ _ => k b u (hb b n) q, fun b u q n _ _ => ⟨u.slots, k b u (hb b n) q⟩, fun b u q n _ => by rw [upd_ne (hx b n)]; exact n, fun b u q _ => ?_,
    fun b xs q => by rw [upd_ne (hm b _ q fun z => z)]; exact q, fun b u xs q => by rw [upd_ne (hm b _ q fun z => z)]; exact q, fun b ps q => ⟨#[], by rw [upd_ne (hm b _ q fun z => z), q]; simp⟩⟩
  by_cases hbe : b = e
  · subst hbe; exact heo
  · exact ⟨u, k b u hbe q⟩
theorem Un.mono (u : Un fs ex H H1 h h1) (hs : ∀ b ∈ fs, b ∈ fs') (hx : ∀ b ∈ ex, b ∈ ex') : Un fs' ex' H H1 h h1 :=
  ⟨fun b ob q n hb he => u.keep b ob q n (fun z => hb (hs b z)) fun z => he (hx b z), fun _ _ q n _ he => u.any q n fun z => he (hx _ z), fun b ob q n he => u.free b ob q n fun z => he (hx b z), fun b ob q he => u.there b ob q fun z => he (hx b z), u.tups, u.frzs, u.tbls⟩
end
noncomputable def trk (h : Heap) (H : Hp) : List Addr := (List.range h.objs.size).filter fun a => (H a).isSome
noncomputable def hidT (h : Heap) (H : Hp) : Heap := PySem.W.hideAll h (trk h H)
theorem hidT_size (h : Heap) (H : Hp) : (hidT h H).objs.size = h.objs.size := PySem.W.hideAll_size _ _
theorem hidT_get {h : Heap} {H : Hp} {b : Addr} {o : Obj} (e : h.get? b = some o) (n : H b = none) : (hidT h H).get? b = some o :=
  PySem.W.hideAll_get _ e fun hm => by
    have q : (H b).isSome = true := (List.mem_filter.mp hm).2
    rw [n] at q; simp at q
theorem of_hidT {h : Heap} {H : Hp} {b : Addr} {o : Obj} (e : (hidT h H).get? b = some o) : h.get? b = some o ∧ H b = none := by
  have e' : h.get? b = some o := PySem.W.of_hideAll (trk h H) e
  refine ⟨e', ?_⟩
  cases q : H b with
  | none => rfl
  | some x =>
    have hm : b ∈ trk h H := List.mem_filter.mpr ⟨List.mem_range.mpr (Heap.lt_size e'), by simp [q]⟩
    have z : (hidT h H).get? b = none := PySem.W.hideAll_none (trk h H) hm
    rw [z] at e; cases e
noncomputable def allNews (g h : Heap) (L : Addr) : List (Addr × Obj) := (List.range h.objs.size).filterMap fun a => if a = L ∨ (g.get? a).isSome = true then none else (h.get? a).map fun o => (a, o)
noncomputable def rest (g h : Heap) (L d : Addr) : List (Addr × Obj) := (allNews g h L).filter fun p => decide (p.1 ≠ d)
end L2
namespace L2
open PySem PySem.Spec PyProof.Rows
structure Mod (K : PySem.W.Frag) (mg : Str → Option Value) (base : Heap) : Prop where
  kin : K.In base
  glob : base.Ns mainGlobals mg
  blt : ∃ mb, base.Ns builtinsNs mb ∧ ∀ x : Str, x ≠ "__name__" → mb x = bootBuiltins x
  nolimit : base.NoLimit
structure Cx where
  prog : Program
  w : World
  K : PySem.W.Frag
  mg : Str → Option Value
  base : Heap
  A : Around
  N : List Str
  s₀ : Shared
  H₀ : Hp
  env : Env
  outer : List Env
  stack : List Env
  ex : List Addr
  fn : Str → Bool
  calm : Bool
  pn : List (Addr × Obj)
  xe : Value → Shared → Prop
noncomputable def frs (l : List Env) : List Addr := l.filterMap (·.frame)
noncomputable abbrev Cx.fs (X : Cx) : List Addr := frs X.outer
noncomputable def Vis (sc : Scope) (x : Str) : Prop := sc.names.lookup x = some .local ∨ sc.names.lookup x = some .cell ∨ sc.names.lookup x = some .free
noncomputable def Loc (sc : Scope) (x : Str) : Prop := sc.names.lookup x = some .local ∨ sc.names.lookup x = some .cell
noncomputable def Look (env : Env) (h : Heap) (m : Str → Option Value) (x : Str) (u : Value) : Prop :=
  (env.kindOf x = some .local ∧ m x = some u) ∨ ((env.kindOf x = some .cell ∨ env.kindOf x = some .free) ∧ ∃ c, env.cells.lookup x = some c ∧ h.IsCell c (some u))
structure Cx.Ok (X : Cx) : Prop where
  mod : Mod X.K X.mg X.base
  kind : X.env.scope.kind = .function
  glob : X.env.globals = mainGlobals
  blt : X.env.builtins = builtinsNs
  above : X.s₀.heap.objs.size ≤ X.env.locals
  inj : ∀ x y c, X.env.cells.lookup x = some c → X.env.cells.lookup y = some c → x = y
  has : ∀ x, (X.env.kindOf x = some .cell ∨ X.env.kindOf x = some .free) → ∃ c, X.env.cells.lookup x = some c
  cab : ∀ x c, X.fn x = true → X.env.cells.lookup x = some c → X.s₀.heap.objs.size ≤ c
  hd : X.calm = true → X.A.handled = none
  frames : X.A.frames = some X.stack
  stk : X.stack = X.outer ∨ (X.stack = X.env :: X.outer ∧ X.env.frame = some X.env.locals)
  exf : ∀ b ∈ X.ex, b ≠ X.env.locals ∧ ∀ x c, X.env.cells.lookup x = some c → c ≠ b
  bs : ∀ b o, X.base.get? b = some o → X.s₀.heap.get? b = some o ∧ X.H₀ b = none
  bsz : X.base.objs.size ≤ X.s₀.heap.objs.size
  noex : ∀ b o, X.base.get? b = some o → b ∉ X.ex
  exfs : ∀ b ∈ X.ex, b ∉ X.fs
  funs : X.s₀.heap.FunFrames X.base X.outer
  frf : ∀ b ∈ X.fs, X.H₀ b = none
structure Inv (X : Cx) (pins : List (Addr × Obj)) (σ : List (Option V)) (H : Hp) (s : Shared) : Prop where
  ok : X.Ok
  os : s.os = X.s₀.os
  bare : AllBare s.gens
  base : Un X.fs X.ex X.H₀ H X.s₀.heap s.heap
  loc : ∃ m, s.heap.Ns X.env.locals m ∧ ∀ (i : Nat) (x : Str) (v : V), X.N[i]? = some x → σ[i]? = some (some v) → Vis X.env.scope x → ∃ u, RelV v u ∧ Look X.env s.heap m x u
  cell : ∀ x c, X.env.cells.lookup x = some c → ∃ v, s.heap.IsCell c v
  free : H X.env.locals = none
  freeC : ∀ x c, X.env.cells.lookup x = some c → H c = none
  pin : ∀ p ∈ X.pn ++ pins, s.heap.get? p.1 = some p.2 ∧ H p.1 = none ∧ p.1 ≠ X.env.locals ∧ p.1 ∉ X.fs ∧ ∀ v, p.2.data ≠ .cell v
  hok : HOk X.prog X.w H s.heap
  len : σ.length = X.N.length
noncomputable section
variable {X : Cx} {pins : List (Addr × Obj)} {σ : List (Option V)} {H H' : Hp} {s : Shared} {h' : Heap}
theorem Cx.Ok.nofr (ok : X.Ok) {b : Addr} {o : Obj} (e : X.base.get? b = some o) : b ∉ X.fs := fun hb => by
  have := (ok.funs.mem hb).1
  rw [e] at this; cases this
theorem Inv.bs (I : Inv X pins σ H s) : ∀ b o, X.base.get? b = some o → s.heap.get? b = some o ∧ H b = none := fun b o e =>
  ⟨I.base.keep b o (I.ok.bs b o e).1 (I.ok.bs b o e).2 (I.ok.nofr e) (I.ok.noex b o e), I.base.free b o (I.ok.bs b o e).1 (I.ok.bs b o e).2 (I.ok.noex b o e)⟩
theorem Inv.bk (I : Inv X pins σ H s) : ∀ b o, X.base.get? b = some o → s.heap.get? b = some o := fun b o e => (I.bs b o e).1
theorem Inv.mod (I : Inv X pins σ H s) : Mod X.K X.mg X.base := I.ok.mod
theorem Inv.kIn (I : Inv X pins σ H s) : X.K.In s.heap := I.ok.mod.kin.keeps I.bk
theorem Inv.fr (I : Inv X pins σ H s) : ∃ m, Fr X.base X.env.locals s.heap m :=
  let ⟨m, hn, _⟩ := I.loc
  ⟨m, hn, I.bk, Nat.le_trans I.ok.bsz I.ok.above⟩
theorem Inv.lt (I : Inv X pins σ H s) : X.env.locals < s.heap.objs.size := let ⟨_, hn, _⟩ := I.loc; hn.lt
theorem Inv.sz (I : Inv X pins σ H s) : X.s₀.heap.objs.size ≤ s.heap.objs.size := Nat.le_trans I.ok.above (Nat.le_of_lt I.lt)
theorem Inv.nofs (I : Inv X pins σ H s) {a : Addr} (h : s.heap.objs.size ≤ a) : a ∉ X.fs := fun hb => by
  obtain ⟨_, o, ho, _⟩ := I.ok.funs.mem hb
  exact absurd (Nat.lt_of_lt_of_le (Heap.lt_size ho) (Nat.le_trans I.sz h)) (Nat.lt_irrefl _)
theorem Inv.cne (I : Inv X pins σ H s) : ∀ x c, X.env.cells.lookup x = some c → c ≠ X.env.locals := fun x c e z => by
  obtain ⟨v, o, ho, hd⟩ := I.cell x c e
  obtain ⟨m, ⟨o', es, ep, ho', hd', _⟩, _⟩ := I.loc
  rw [z, ho'] at ho; cases ho; rw [hd'] at hd; cases hd
theorem Inv.funs (I : Inv X pins σ H s) : s.heap.FunFrames X.base X.outer := by
  have all : ∀ (l : List Env), (∀ b ∈ frs l, b ∈ X.fs) → X.s₀.heap.FunFrames X.base l → s.heap.FunFrames X.base l := by
    intro l
    induction l with
    | nil => intro _ _; trivial
    | cons env r ih =>
      intro hs hl
      obtain ⟨hk, ⟨L, o, hf, hn, ho, hd⟩, hr⟩ := hl
      have hL : L ∈ X.fs := hs L (by unfold frs; rw [List.filterMap_cons, hf]; exact List.mem_cons_self)
      obtain ⟨sl, e⟩ := I.base.slot L o ho (I.ok.frf L hL) hL fun z => I.ok.exfs L z hL
      exact ⟨hk, ⟨L, _, hf, hn, e, hd⟩, ih (fun b hb => hs b (by unfold frs; rw [List.filterMap_cons, hf]; exact List.mem_cons_of_mem _ hb)) hr⟩
  exact all X.outer (fun _ hb => hb) I.ok.funs
theorem Inv.stack (I : Inv X pins σ H s) : s.heap.FunFrames X.base X.stack := by
  rcases I.ok.stk with e | ⟨e, hf⟩
  · rw [e]; exact I.funs
  · rw [e]
    obtain ⟨m, hn, _⟩ := I.loc
    refine .cons (by rw [I.ok.kind]; decide) hf hn ?_ I.funs
    exact Heap.get?_none_of_le (Nat.le_trans I.ok.bsz I.ok.above)
theorem Inv.stkSub (I : Inv X pins σ H s) : ∀ b ∈ frs X.stack, b ∈ X.env.locals :: X.fs := fun b hb => by
  rcases I.ok.stk with e | ⟨e, hf⟩
  · rw [e] at hb; exact List.mem_cons_of_mem _ hb
  · rw [e] at hb
    unfold frs at hb
    rw [List.filterMap_cons, hf] at hb
    exact hb
theorem Inv.stkFree (I : Inv X pins σ H s) : ∀ b ∈ frs X.stack, H b = none := fun b hb => by
  rcases List.mem_cons.mp (I.stkSub b hb) with e | hb
  · rw [e]; exact I.free
  · obtain ⟨_, o, ho, _⟩ := I.ok.funs.mem hb
    exact I.base.free b o ho (I.ok.frf b hb) fun z => I.ok.exfs b z hb
theorem Inv.step {g' : Array GenState} {t' : Nat} {d' : Drawn} {ch : List Addr} (I : Inv X pins σ H s)
    (hch : ∀ b ∈ ch, (b ∈ X.ex ∨ X.s₀.heap.objs.size ≤ b) ∧ b ≠ X.env.locals ∧ (∀ x c, X.env.cells.lookup x = some c → c ≠ b) ∧ ∀ p ∈ X.pn ++ pins, p.1 ≠ b)
    (keep : ∀ b o, b ≠ X.env.locals → b ∉ X.fs → b ∉ ch → s.heap.get? b = some o → H b = none → h'.get? b = some o)
    (slot : ∀ b o, b ≠ X.env.locals → b ∈ X.fs → b ∉ ch → s.heap.get? b = some o → H b = none → ∃ sl, h'.get? b = some { o with slots := sl }) (free : ∀ b o, b ∉ ch → s.heap.get? b = some o → H b = none → H' b = none)
    (there : ∀ b o, b ∉ ch → s.heap.get? b = some o → ∃ o', h'.get? b = some o')
    (tups : ∀ b xs, H b = some (.tup xs) → H' b = some (.tup xs)) (frzs : ∀ b o u, H b = some (.frz o u) → H' b = some (.frz o u)) (tbls : ∀ b ps, H b = some (.tbl ps) → ∃ more, H' b = some (.tbl (ps ++ more)))
    (ns : ∀ m, s.heap.Ns X.env.locals m → h'.Ns X.env.locals m) (hok : HOk X.prog X.w H' h') (hg : AllBare g') :
    Inv X pins σ H' { s with heap := h', gens := g', drawn := d', toks := t' } := by
  have neL : ∀ b o, X.s₀.heap.get? b = some o → b ≠ X.env.locals := fun b o e => Nat.ne_of_lt (Nat.lt_of_lt_of_le (Heap.lt_size e) I.ok.above)
  have neC : ∀ b o, X.s₀.heap.get? b = some o → b ∉ X.ex → b ∉ ch := fun b o e hx hb => by
    rcases (hch b hb).1 with z | z
    · exact hx z
    · exact absurd (Nat.lt_of_lt_of_le (Heap.lt_size e) z) (Nat.lt_irrefl _)
  have cellK : ∀ x c, X.env.cells.lookup x = some c → ∀ v, s.heap.IsCell c v → h'.IsCell c v := fun x c e v ⟨o, ho, hd⟩ => by
    have nch : c ∉ ch := fun z => (hch c z).2.2.1 x c e rfl
    by_cases hc : c ∈ X.fs
    · obtain ⟨sl, q⟩ := slot c o (I.cne x c e) hc nch ho (I.freeC x c e)
      exact ⟨_, q, hd⟩
    · exact ⟨o, keep c o (I.cne x c e) hc nch ho (I.freeC x c e), hd⟩
  refine ⟨I.ok, I.os, hg, ⟨fun b o e n hb hx => ?_, fun b o e n hb hx => ?_, fun b o e n hx => ?_, fun b o e hx => ?_, fun b xs e => tups b xs (I.base.tups b xs e), fun b o xs e => frzs b o xs (I.base.frzs b o xs e), fun b ps e => ?_⟩, ?_, fun x c e => ?_, ?_, fun x c e => ?_, fun p hp => ?_, hok, I.len⟩
  · exact keep b o (neL b o e) hb (neC b o e hx) (I.base.keep b o e n hb hx) (I.base.free b o e n hx)
  · obtain ⟨sl, e1⟩ := I.base.slot b o e n hb hx
    obtain ⟨sl', e2⟩ := slot b _ (neL b o e) hb (neC b o e hx) e1 (I.base.free b o e n hx)
    exact ⟨sl', e2⟩
  · obtain ⟨o', e1⟩ := I.base.there b o e hx
    exact free b o' (neC b o e hx) e1 (I.base.free b o e n hx)
  · obtain ⟨o', e1⟩ := I.base.there b o e hx
    exact there b o' (neC b o e hx) e1
  · obtain ⟨m1, e1⟩ := I.base.tbls b ps e
    obtain ⟨m2, e2⟩ := tbls b _ e1
    exact ⟨m1 ++ m2, by rw [e2, Array.append_assoc]⟩
  · obtain ⟨m, hn, hl⟩ := I.loc
    refine ⟨m, ns m hn, fun i x v e1 e2 e3 => ?_⟩
    obtain ⟨u, r, l⟩ := hl i x v e1 e2 e3
    refine ⟨u, r, ?_⟩
    rcases l with l | ⟨k, c, e, z⟩
    · exact .inl l
    · exact .inr ⟨k, c, e, cellK x c e _ z⟩
  · obtain ⟨v, z⟩ := I.cell x c e
    exact ⟨v, cellK x c e v z⟩
  · obtain ⟨m, ⟨o, _, _, ho, _⟩, _⟩ := I.loc
    exact free _ o (fun z => (hch _ z).2.1 rfl) ho I.free
  · obtain ⟨v, o, ho, hd⟩ := I.cell x c e
    exact free c o (fun z => (hch c z).2.2.1 x c e rfl) ho (I.freeC x c e)
  · obtain ⟨e, n, ne, nf, d⟩ := I.pin p hp
    have nch : p.1 ∉ ch := fun z => (hch p.1 z).2.2.2 p hp rfl
    exact ⟨keep p.1 p.2 ne nf nch e n, free p.1 p.2 nch e n, ne, nf, d⟩
theorem Inv.un {t' : Nat} (I : Inv X pins σ H s) (u : Un X.fs [] H H' s.heap h') (hok : HOk X.prog X.w H' h') : Inv X pins σ H' { s with heap := h', toks := t' } := by
  obtain ⟨m, ⟨o, es, ep, ho, r⟩, _⟩ := id I.loc
  obtain ⟨sl, hL⟩ := u.any ho I.free (by simp)
  exact I.step (g' := s.gens) (d' := s.drawn) (ch := []) (fun _ z => nomatch z) (fun b o _ hb _ e n => u.keep b o e n hb (by simp)) (fun b o _ hb _ e n => u.slot b o e n hb (by simp)) (fun b o _ e n => u.free b o e n (by simp)) (fun b o _ e => u.there b o e (by simp)) u.tups u.frzs u.tbls (fun m' hm => by
    obtain ⟨o', es', ep', ho', r'⟩ := hm
    rw [ho] at ho'; cases ho'
    exact ⟨_, es', ep', hL, r'⟩) hok I.bare
theorem Inv.call {g' : Array GenState} {t' : Nat} {d' : Drawn} {ch : List Addr} (I : Inv X pins σ H s) (u : Un (frs X.stack) ch H H' s.heap h') (hok : HOk X.prog X.w H' h') (hg : AllBare g')
    (hch : ∀ b ∈ ch, (b ∈ X.ex ∨ X.s₀.heap.objs.size ≤ b) ∧ b ≠ X.env.locals ∧ (∀ x c, X.env.cells.lookup x = some c → c ≠ b) ∧ ∀ p ∈ X.pn ++ pins, p.1 ≠ b) :
    Inv X pins σ H' { s with heap := h', gens := g', drawn := d', toks := t' } := by
  obtain ⟨m, ⟨o, es, ep, ho, r⟩, _⟩ := id I.loc
  obtain ⟨sl, hL⟩ := u.any ho I.free fun z => (hch _ z).2.1 rfl
  exact I.step (ch := ch) hch (fun b o hL hb hc e n => u.keep b o e n (fun z => (List.mem_cons.mp (I.stkSub b z)).elim hL hb) hc) (fun b o _ _ hc e n => u.any e n hc) (fun b o hc e n => u.free b o e n hc) (fun b o hc e => u.there b o e hc) u.tups u.frzs u.tbls (fun m' hm => by
    obtain ⟨o', es', ep', ho', r'⟩ := hm
    rw [ho] at ho'; cases ho'
    exact ⟨_, es', ep', hL, r'⟩) hok hg
theorem Inv.turned {t' : Nat} {it : Addr} (I : Inv X pins σ H s) (k : ∀ b o, b ≠ it → s.heap.get? b = some o → h'.get? b = some o) (hn : H it = none) (hL : it ≠ X.env.locals)
    (h1 : it ∈ X.ex ∨ X.s₀.heap.objs.size ≤ it) (h2 : ∀ x c, X.env.cells.lookup x = some c → c ≠ it) (h3 : ∀ p ∈ X.pn ++ pins, p.1 ≠ it) : Inv X pins σ H { s with heap := h', toks := t' } := by
  have nit : ∀ b u, H b = some u → b ≠ it := fun b u e z => by rw [z, hn] at e; cases e
  refine I.step (g' := s.gens) (d' := s.drawn) (ch := [it]) (fun b hb => ?_) (fun b o _ _ hc e _ => k b o (fun z => hc (by simp [z])) e) (fun b o _ _ hc e _ => ⟨o.slots, k b o (fun z => hc (by simp [z])) e⟩) (fun _ _ _ _ n => n)
    (fun b o hc e => ⟨o, k b o (fun z => hc (by simp [z])) e⟩) (fun _ _ e => e) (fun _ _ _ e => e) (fun b ps e => ⟨#[], by rw [e]; simp⟩) (fun m hm => ?_) (fun b u e => ?_) I.bare
  · have e : b = it := by simpa using hb
    subst e
    exact ⟨h1, hL, h2, h3⟩
  · obtain ⟨o, es, ep, ho, r⟩ := hm
    exact ⟨o, es, ep, k _ o (Ne.symm hL) ho, r⟩
  · refine (I.hok b u e).stay (fun c v hc q => k c v ?_ q) (fun _ q => q) fun _ _ q => q
    rcases hc with z | z
    · rw [z]; exact nit b u e
    · exact nit c _ z
theorem Inv.tok (I : Inv X pins σ H s) (t : Nat) : Inv X pins σ H { s with toks := t } := I.un (h' := s.heap) (t' := t) Un.refl I.hok
theorem Inv.kept {t' : Nat} (I : Inv X pins σ H s) (k : ∀ b u, s.heap.get? b = some u → h'.get? b = some u) : Inv X pins σ H { s with heap := h', toks := t' } := I.un (Un.kept k) (I.hok.kept k)
theorem Inv.laid {a : Addr} {o : HO} {t' : Nat} (I : Inv X pins σ H s) (k : ∀ b u, s.heap.get? b = some u → h'.get? b = some u) (hp : s.heap.objs.size ≤ a) (new : ObjOk X.prog X.w (upd H a o) h' a o) :
    Inv X pins σ (upd H a o) { s with heap := h', toks := t' } := I.un (Un.laid k hp (I.hok.fresh hp)) (I.hok.laid k hp new)
theorem Inv.write {x e : Addr} {o : HO} {t' : Nat} (I : Inv X pins σ H s) (mu : Mut (H x)) (he : e = x ∨ H e = some (.own x)) (k : ∀ b u, b ≠ e → s.heap.get? b = some u → h'.get? b = some u) (heo : ∃ u, h'.get? e = some u)
    (new : ObjOk X.prog X.w (upd H x o) h' x o) : Inv X pins σ (upd H x o) { s with heap := h', toks := t' } := I.un (Un.write mu he k heo) (I.hok.write mu he k heo new)
theorem Inv.pins_of {pins' : List (Addr × Obj)} (I : Inv X pins σ H s) (h : ∀ p ∈ pins', s.heap.get? p.1 = some p.2 ∧ H p.1 = none ∧ p.1 ≠ X.env.locals ∧ p.1 ∉ X.fs ∧ ∀ v, p.2.data ≠ .cell v) : Inv X pins' σ H s :=
  ⟨I.ok, I.os, I.bare, I.base, I.loc, I.cell, I.free, I.freeC, fun p hp => (List.mem_append.mp hp).elim (fun z => I.pin p (List.mem_append_left _ z)) (h p), I.hok, I.len⟩
theorem nodup_ix {N : List Str} (hN : N.Nodup) {i j : Nat} {x : Str} (a : N[i]? = some x) (b : N[j]? = some x) : i = j := by
  obtain ⟨h1, e1⟩ := List.getElem?_eq_some_iff.mp a
  obtain ⟨h2, e2⟩ := List.getElem?_eq_some_iff.mp b
  exact (List.getElem_inj hN).mp (e1.trans e2.symm)
theorem store_ok2 {M : Model} {A : Around} {E : Value → Shared → Prop} {i : Nat} {x : Str} {v : V} {u : Value} {Q : Unit → Shared → Prop} (I : Inv X pins σ H s) (hN : X.N.Nodup) (hi : X.N[i]? = some x) (hx : Loc X.env.scope x) (r : RelV v u)
    (h : ∀ s', Inv X pins (σ.set i (some v)) H s' → (∃ a, Heap.SameBut a s.heap s'.heap ∧ (a = X.env.locals ∨ X.env.cells.lookup x = some a)) → Q () s') (hf : X.fn x = true ∨ X.env.scope.names.lookup x = some .local := by first | exact .inl rfl | exact .inr rfl | assumption) : wpAny M A (storeName X.env x u) Q E s := by
  obtain ⟨m, hn, hl⟩ := id I.loc
  have hcls : (X.env.scope.kind == .class || (X.env.scope.kind == .module && X.env.locals != X.env.globals)) = false := by rw [I.ok.kind]; rfl
  have hiσ : i < σ.length := by rw [I.len]; exact (List.getElem?_eq_some_iff.mp hi).1
  have cne := I.cne
  have tracked : ∀ {a : Addr} {h' : Heap}, (∃ o, s.heap.get? a = some o ∧ H a = none) → Heap.SameBut a s.heap h' → HOk X.prog X.w H h' := fun {a h'} ha hs b ob e => by
    obtain ⟨_, _, hfree⟩ := ha
    refine (I.hok b ob e).stay (fun c w' hc q => (hs.2 c ?_).trans q) (fun _ q => q) fun _ _ q => q
    rintro rfl
    rcases hc with rfl | hc
    · rw [hfree] at e; cases e
    · rw [hfree] at hc; cases hc
  rcases hx with hk | hk
  · refine wpAny_storeName_local hk hn (fun h' hn' hs => ?_) hcls
    obtain ⟨oL, _, _, hoL, _⟩ := id hn
    refine h _ ⟨I.ok, I.os, I.bare, ⟨fun b o e n hb hx => ?_, fun b o e n hb hx => ?_, I.base.free, fun b o e hx => ?_, I.base.tups, I.base.frzs, I.base.tbls⟩, ⟨_, hn', fun j y v' e1 e2 e3 => ?_⟩, fun y c e => ?_, I.free, I.freeC, fun p hp => ?_, tracked ⟨oL, hoL, I.free⟩ hs, by simpa using I.len⟩ ⟨_, hs, .inl rfl⟩
    · exact (hs.2 b (Nat.ne_of_lt (Nat.lt_of_lt_of_le (Heap.lt_size e) I.ok.above))).trans (I.base.keep b o e n hb hx)
    · obtain ⟨sl, e1⟩ := I.base.slot b o e n hb hx
      exact ⟨sl, (hs.2 b (Nat.ne_of_lt (Nat.lt_of_lt_of_le (Heap.lt_size e) I.ok.above))).trans e1⟩
    · obtain ⟨o', e1⟩ := I.base.there b o e hx
      exact ⟨o', (hs.2 b (Nat.ne_of_lt (Nat.lt_of_lt_of_le (Heap.lt_size e) I.ok.above))).trans e1⟩
    · by_cases hj : j = i
      · subst hj
        rw [hi] at e1; cases e1
        rw [List.getElem?_set_self hiσ] at e2
        cases e2
        exact ⟨u, r, .inl ⟨hk, by simp⟩⟩
      · rw [List.getElem?_set_ne (Ne.symm hj)] at e2
        obtain ⟨u', r', q⟩ := hl j y v' e1 e2 e3
        refine ⟨u', r', ?_⟩
        rcases q with ⟨k, e⟩ | ⟨k, c, e, z⟩
        · refine .inl ⟨k, ?_⟩
          have : y ≠ x := fun e => hj (nodup_ix hN e1 (e ▸ hi))
          simp [this, e]
        · exact .inr ⟨k, c, e, z.sameBut hs (cne y c e)⟩
    · obtain ⟨w', z⟩ := I.cell y c e
      exact ⟨w', z.sameBut hs (cne y c e)⟩
    · obtain ⟨e, n, ne, nf, d⟩ := I.pin p hp
      exact ⟨(hs.2 p.1 ne).trans e, n, ne, nf, d⟩
  · have hfn : X.fn x = true := by
      rcases hf with z | z
      · exact z
      · rw [z] at hk; cases hk
    obtain ⟨c, hc⟩ := I.ok.has x (.inl hk)
    obtain ⟨w', z⟩ := I.cell x c hc
    refine wpAny_storeName_cell I.ok.kind hk hc z (fun h' hc' hs => ?_)
    obtain ⟨oc, hoc, hocd⟩ := id z
    refine h { s with heap := h' } ⟨I.ok, I.os, I.bare, ⟨fun b o e n hb hx => ?_, fun b o e n hb hx => ?_, I.base.free, fun b o e hx => ?_, I.base.tups, I.base.frzs, I.base.tbls⟩, ⟨m, hn.sameBut hs (Ne.symm (cne x c hc)), fun j y v' e1 e2 e3 => ?_⟩, fun y c' e => ?_, I.free, I.freeC, fun p hp => ?_, tracked ⟨oc, hoc, I.freeC x c hc⟩ hs, by simpa using I.len⟩ ⟨c, hs, .inr hc⟩
    · exact (hs.2 b (Nat.ne_of_lt (Nat.lt_of_lt_of_le (Heap.lt_size e) (I.ok.cab x c hfn hc)))).trans (I.base.keep b o e n hb hx)
    · obtain ⟨sl, e1⟩ := I.base.slot b o e n hb hx
      exact ⟨sl, (hs.2 b (Nat.ne_of_lt (Nat.lt_of_lt_of_le (Heap.lt_size e) (I.ok.cab x c hfn hc)))).trans e1⟩
    · obtain ⟨o', e1⟩ := I.base.there b o e hx
      exact ⟨o', (hs.2 b (Nat.ne_of_lt (Nat.lt_of_lt_of_le (Heap.lt_size e) (I.ok.cab x c hfn hc)))).trans e1⟩
    · by_cases hj : j = i
      · subst hj
        rw [hi] at e1; cases e1
        rw [List.getElem?_set_self hiσ] at e2
        cases e2
        exact ⟨u, r, .inr ⟨.inl hk, c, hc, hc'⟩⟩
      · rw [List.getElem?_set_ne (Ne.symm hj)] at e2
        obtain ⟨u', r', q⟩ := hl j y v' e1 e2 e3
        refine ⟨u', r', ?_⟩
        rcases q with q | ⟨k, c', e, z'⟩
        · exact .inl q
        · refine .inr ⟨k, c', e, z'.sameBut hs ?_⟩
          rintro rfl
          exact hj (nodup_ix hN e1 (I.ok.inj _ _ _ e hc ▸ hi))
    · by_cases hcc : c' = c
      · subst hcc; exact ⟨_, hc'⟩
      · obtain ⟨w2, z2⟩ := I.cell y c' e
        exact ⟨w2, z2.sameBut hs hcc⟩
    · obtain ⟨e, n, ne, nf, d⟩ := I.pin p hp
      refine ⟨(hs.2 p.1 ?_).trans e, n, ne, nf, d⟩
      intro q
      rw [q, hoc] at e
      have q' : oc = p.2 := Option.some.inj e
      exact d w' (by rw [← q']; exact hocd)
theorem store_ok {M : Model} {A : Around} {E : Value → Shared → Prop} {i : Nat} {x : Str} {v : V} {u : Value} {Q : Unit → Shared → Prop} (I : Inv X pins σ H s) (hN : X.N.Nodup) (hi : X.N[i]? = some x) (hx : Loc X.env.scope x) (r : RelV v u)
    (h : ∀ s', Inv X pins (σ.set i (some v)) H s' → Q () s') (hf : X.fn x = true ∨ X.env.scope.names.lookup x = some .local := by first | exact .inl rfl | exact .inr rfl | assumption) : wpAny M A (storeName X.env x u) Q E s :=
  store_ok2 I hN hi hx r (fun s' I' _ => h s' I') hf
end
noncomputable abbrev XK := Value → Option Addr → Hp → Prop
noncomputable abbrev St := List (Option V)
noncomputable abbrev VK := V → Hp → Prop
noncomputable abbrev TE := St → Hp → VK → Prop
noncomputable abbrev TT := St → Hp → (Bool → Hp → Prop) → Prop
noncomputable abbrev TA := St → Hp → (List V → Hp → Prop) → Prop
structure Ends where
  nx : St → Hp → Prop
  rt : VK
  bk : St → Hp → Prop := fun _ _ => False
  ct : St → Hp → Prop := fun _ _ => False
noncomputable abbrev TS := Ends → St → Hp → Prop
noncomputable def EP (X : Cx) (pins : List (Addr × Obj)) (σ : St) (Q : VK) (u : Value) (s' : Shared) : Prop := ∃ v H', Inv X pins σ H' s' ∧ RelV v u ∧ Q v H'
noncomputable def TP (X : Cx) (pins : List (Addr × Obj)) (σ : St) (Q : Bool → Hp → Prop) (b : Bool) (s' : Shared) : Prop := ∃ H', Inv X pins σ H' s' ∧ Q b H'
noncomputable def AP (X : Cx) (pins : List (Addr × Obj)) (σ : St) (Q : List V → Hp → Prop) (us : List Value) (s' : Shared) : Prop := ∃ vs H', Inv X pins σ H' s' ∧ Vals vs us ∧ Q vs H'
noncomputable def SP (X : Cx) (pins : List (Addr × Obj)) (D : Ends) (f : Flow) (s' : Shared) : Prop :=
  match f with
  | .next => ∃ σ' H', Inv X pins σ' H' s' ∧ D.nx σ' H'
  | .brk => ∃ σ' H', Inv X pins σ' H' s' ∧ D.bk σ' H'
  | .cont => ∃ σ' H', Inv X pins σ' H' s' ∧ D.ct σ' H'
  | .ret u => ∃ v σ' H', Inv X pins σ' H' s' ∧ RelV v u ∧ D.rt v H'
noncomputable def PE (X : Cx) (e : Expr) (t : TE) : Prop :=
  ∀ (pins : List (Addr × Obj)) (s : Shared) (σ : St) (H : Hp) (Q : VK), Inv X pins σ H s → t σ H Q → wpAny (model X.prog X.w) X.A (eval e X.env) (EP X pins σ Q) X.xe s
noncomputable def PT (X : Cx) (e : Expr) (t : TT) : Prop :=
  ∀ (pins : List (Addr × Obj)) (s : Shared) (σ : St) (H : Hp) (Q : Bool → Hp → Prop), Inv X pins σ H s → t σ H Q → wpAny (model X.prog X.w) X.A (isTrue e X.env (eval e X.env)) (TP X pins σ Q) X.xe s
noncomputable def PW (X : Cx) (e : Expr) (t : TT) : Prop :=
  ∀ (whole : Sem Value) (pins : List (Addr × Obj)) (s : Shared) (σ : St) (H : Hp) (Q : Bool → Hp → Prop), Inv X pins σ H s → t σ H Q → wpAny (model X.prog X.w) X.A (isTrue e X.env whole) (TP X pins σ Q) X.xe s
theorem PW.pt {X : Cx} {e : Expr} {t : TT} (h : PW X e t) : PT X e t := h _
noncomputable def PA (X : Cx) (es : List Expr) (t : TA) : Prop :=
  ∀ (pos : Pos) (pins : List (Addr × Obj)) (s : Shared) (σ : St) (H : Hp) (Q : List V → Hp → Prop), Inv X pins σ H s → t σ H Q → wpAny (model X.prog X.w) X.A (spliced (backTo pos (starEach es X.env))) (AP X pins σ Q) X.xe s
noncomputable def PS (X : Cx) (st : Stmt) (t : TS) : Prop :=
  ∀ (pins : List (Addr × Obj)) (s : Shared) (σ : St) (H : Hp) (D : Ends), Inv X pins σ H s → t D σ H → wpAny (model X.prog X.w) X.A (exec st X.env) (SP X pins D) X.xe s
noncomputable def PSs (X : Cx) (st : List Stmt) (t : TS) : Prop :=
  ∀ (pins : List (Addr × Obj)) (s : Shared) (σ : St) (H : Hp) (D : Ends), Inv X pins σ H s → t D σ H → wpAny (model X.prog X.w) X.A (execs st X.env) (SP X pins D) X.xe s
theorem thn {α : Type} {t : Sem α} {Q Q' : α → Shared → Prop} {M : Model} {A : Around} {E : Value → Shared → Prop} {s : Shared} (h : wpAny M A t Q E s) (hQ : ∀ a s, Q a s → Q' a s) : wpAny M A t Q' E s := wpAny_mono h hQ fun _ _ x => x
end L2
namespace L2
open PySem PySem.Spec PyProof.Rows
noncomputable section
variable {X : Cx}
noncomputable def tVar (i : Nat) : TE := fun σ H Q => ∃ v, σ[i]? = some (some v) ∧ Q v H
noncomputable def tC (v : V) : TE := fun _ H Q => Q v H
theorem pe_var {i : Nat} {x : Str} {pos : Pos} (hN : X.N[i]? = some x) (hv : Vis X.env.scope x) (hd : (x == ("__debug__" : Str)) = false := by decide) (hcd : (x == ("__classdict__" : Str)) = false := by decide) : PE X (.Name x pos) (tVar i) := by
  intro pins s σ H Q I h
  obtain ⟨v, e, h⟩ := h
  obtain ⟨m, hn, hl⟩ := I.loc
  obtain ⟨u, r, l⟩ := hl i x v hN e hv
  have fin : EP X pins σ Q u s := ⟨v, H, I, r, h⟩
  rcases l with ⟨hk, hm⟩ | ⟨hk, c, hc, hcell⟩
  · exact wpAny_Name (wpAny_loadName_local I.ok.kind hk hn hm fin) hd
  · rcases hk with hk | hk
    · exact wpAny_Name (wpAny_loadName_cell I.ok.kind hk hc hcell fin) hd
    · exact wpAny_Name (wpAny_loadName_free I.ok.kind hk hc hcell fin hcd) hd
theorem pe_int {i j pos} : PE X (.Constant (.int i) j pos) (tC (.int i)) := fun _ _ _ H _ I h => wpAny_Constant_int ⟨.int i, H, I.tok _, ⟨_, rfl⟩, h⟩
theorem pe_bl {b j pos} : PE X (.Constant (.bool b) j pos) (tC (.bl b)) := fun _ _ _ H _ I h => Constant_bool ⟨.bl b, H, I, rfl, h⟩
theorem pe_non {j pos} : PE X (.Constant .none j pos) (tC .non) := fun _ _ _ H _ I h => Constant_none ⟨.non, H, I, rfl, h⟩
theorem pe_str {x j pos} : PE X (.Constant (.str x) j pos) (tC (.str x)) := fun _ _ _ H _ I h => Calls.Constant_str ⟨.str x, H, I.tok _, ⟨_, rfl⟩, h⟩
noncomputable def Gl (X : Cx) (x : Str) : Prop := X.env.kindOf x = some .globalImplicit
theorem ld_glob {E : Value → Shared → Prop} {pins : List (Addr × Obj)} {s : Shared} {σ : St} {H : Hp} {x : Str} {u : Value} {pos : Pos} {Q : Value → Shared → Prop} (I : Inv X pins σ H s) (hg : Gl X x) (hm : X.mg x = some u) (h : Q u s)
    (hd : (x == ("__debug__" : Str)) = false := by decide) : wpAny (model X.prog X.w) X.A (eval (.Name x pos) X.env) Q E s :=
  Calls.Name_function_global I.ok.kind hg (Calls.loadGlobal_global (by rw [I.ok.glob]; exact I.mod.glob.keeps I.bk) hm h) hd
theorem ld_blt {E : Value → Shared → Prop} {pins : List (Addr × Obj)} {s : Shared} {σ : St} {H : Hp} {x : Str} {u : Value} {pos : Pos} {Q : Value → Shared → Prop} (I : Inv X pins σ H s) (hg : Gl X x) (hm : X.mg x = none) (hv : bootBuiltins x = some u) (h : Q u s)
    (hn : x ≠ "__name__" := by decide) (hd : (x == ("__debug__" : Str)) = false := by decide) : wpAny (model X.prog X.w) X.A (eval (.Name x pos) X.env) Q E s := by
  obtain ⟨mb, h1, h2⟩ := I.mod.blt
  exact Calls.Name_function_global I.ok.kind hg (Calls.loadGlobal_builtin (by rw [I.ok.glob]; exact I.mod.glob.keeps I.bk) hm (by rw [I.ok.blt]; exact h1.keeps I.bk) ((h2 x hn).trans hv) h) hd
theorem pe_glob {x : Str} {v : V} {u : Value} {pos : Pos} (hg : Gl X x) (hm : X.mg x = some u) (r : RelV v u) (hd : (x == ("__debug__" : Str)) = false := by decide) : PE X (.Name x pos) (tC v) :=
  fun _ _ _ H _ I h => ld_glob I hg hm ⟨v, H, I, r, h⟩ hd
theorem pe_bltn {x : Str} {v : V} {u : Value} {pos : Pos} (hg : Gl X x) (hm : X.mg x = none) (hv : bootBuiltins x = some u) (r : RelV v u) (hn : x ≠ "__name__" := by decide) (hd : (x == ("__debug__" : Str)) = false := by decide) : PE X (.Name x pos) (tC v) :=
  fun _ _ _ H _ I h => ld_blt I hg hm hv ⟨v, H, I, r, h⟩ hn hd
variable {a b : Expr} {ta tb : TE} {pos : Pos}
noncomputable def tB (t : TE) : TT := fun σ H Q => t σ H fun x H1 => ∃ c, x = .bl c ∧ Q c H1
theorem pt_val {e : Expr} {t : TE} (h : PE X e t) (he : ∀ whole, isTrue e X.env whole = (do let v ← whole; standAt e.pos; holding [v] (truthy v)) := by intro _; rfl) : PT X e (tB t) := by
  intro pins s σ H Q I hw
  refine isTrue_plain (thn (h pins s σ H _ I hw) fun v s1 ⟨x, H1, I1, r1, q1⟩ => ?_) (he _)
  obtain ⟨d, rfl, q⟩ := q1
  cases r1
  exact wpAny_truthy_bool ⟨H1, I1, q⟩
variable {tA tB' : TT} {rest : List Expr}
noncomputable def tAnd (t u : TT) : TT := fun σ H Q => t σ H fun c H1 => if c = true then u σ H1 Q else Q false H1
noncomputable def tOr (t u : TT) : TT := fun σ H Q => t σ H fun c H1 => if c = true then Q true H1 else u σ H1 Q
noncomputable def tNot (t : TT) : TT := fun σ H Q => t σ H fun c H1 => Q (!c) H1
theorem pw_and1 (ha : PT X a tA) : PW X (.BoolOp .And [a] pos) tA := by
  intro wh pins s σ H Q I h
  refine isTrue_and (thn (ha pins s σ H Q I h) fun c s1 e => ?_)
  cases c with
  | true => exact isTrue_and_nil e
  | false => exact e
theorem pw_or1 (ha : PT X a tA) : PW X (.BoolOp .Or [a] pos) tA := by
  intro wh pins s σ H Q I h
  refine isTrue_or (thn (ha pins s σ H Q I h) fun c s1 e => ?_)
  cases c with
  | false => exact isTrue_or_nil e
  | true => exact e
theorem pw_and (ha : PT X a tA) (hb : PW X (.BoolOp .And (b :: rest) pos) tB') : PW X (.BoolOp .And (a :: b :: rest) pos) (tAnd tA tB') := by
  intro wh pins s σ H Q I h
  refine isTrue_and (thn (ha pins s σ H _ I h) fun c s1 ⟨H1, I1, q1⟩ => ?_)
  cases c with
  | true => exact hb wh pins s1 σ H1 Q I1 q1
  | false => exact ⟨H1, I1, q1⟩
theorem pw_or (ha : PT X a tA) (hb : PW X (.BoolOp .Or (b :: rest) pos) tB') : PW X (.BoolOp .Or (a :: b :: rest) pos) (tOr tA tB') := by
  intro wh pins s σ H Q I h
  refine isTrue_or (thn (ha pins s σ H _ I h) fun c s1 ⟨H1, I1, q1⟩ => ?_)
  cases c with
  | true => exact ⟨H1, I1, q1⟩
  | false => exact hb wh pins s1 σ H1 Q I1 q1
theorem pt_not (ha : PT X a tA) : PT X (.UnaryOp .Not a pos) (tNot tA) := by
  intro pins s σ H Q I h
  exact isTrue_not (ha pins s σ H (fun c H1 => Q (!c) H1) I h)
noncomputable def tNotV (ta : TE) : TE := fun σ H Q => ta σ H fun x H1 => ∃ c, x = .bl c ∧ Q (.bl (!c)) H1
theorem pe_not (ha : PE X a ta) : PE X (.UnaryOp .Not a pos) (tNotV ta) := by
  intro pins s σ H Q I h
  refine UnaryOp_ (thn (ha pins s σ H _ I h) fun v s1 ⟨x, H1, I1, r1, q1⟩ => ?_)
  obtain ⟨c, rfl, q1⟩ := q1
  cases r1
  exact not_of (wpAny_truthy_bool ⟨.bl (!c), H1, I1, rfl, q1⟩)
noncomputable def tIf (t : TT) (ta tb : TE) : TE := fun σ H Q => t σ H fun c H1 => if c = true then ta σ H1 Q else tb σ H1 Q
theorem pe_ifExp {c : Expr} (hc : PT X c tA) (ha : PE X a ta) (hb : PE X b tb) : PE X (.IfExp c a b pos) (tIf tA ta tb) := by
  intro pins s σ H Q I h
  refine wpAny_IfExp (thn (hc pins s σ H _ I h) fun d s1 ⟨H1, I1, q1⟩ => ?_)
  cases d with
  | true => exact ha pins s1 σ H1 Q I1 q1
  | false => exact hb pins s1 σ H1 Q I1 q1
end
end L2
namespace L2
open PySem PySem.Spec PyProof.Rows
noncomputable def SqL (K : PySem.W.Frag) (H : Hp) (a : Addr) (xs : List V) : Prop :=
  Rd H a (.lst xs) ∨
    ∃ (o : Obj) (its : Array Value) (n : Nat), K.lookup a = some o ∧ o.cls = .type "list" ∧ o.dict = none ∧ o.data = .seq its n ∧ its.size ≤ sizeLine ∧ Vals xs its.toList
noncomputable def SqT (K : PySem.W.Frag) (H : Hp) (a : Addr) (xs : List V) : Prop :=
  Rd H a (.tup xs) ∨
    ∃ (o : Obj) (its : Array Value) (n : Nat), K.lookup a = some o ∧ o.cls = .type "tuple" ∧ o.dict = none ∧ o.data = .seq its n ∧ its.size ≤ sizeLine ∧ Vals xs its.toList
noncomputable def absV : Value → Option V
  | .none => some .non
  | .bool b => some (.bl b)
  | .int i _ => some (.int i)
  | .str x _ => some (.str x)
  | .bytes b _ => some (.byt b)
  | .float b _ => some (.flt b)
  | .ref a => some (.ref a)
  | .type n => some (.ty n)
  | _ => none
theorem RelV.abs {x : V} {u : Value} (r : RelV x u) : absV u = some x := by
  cases x with
  | non => cases r; rfl
  | bl _ => cases r; rfl
  | int _ => obtain ⟨t, rfl⟩ := r; rfl
  | str _ => obtain ⟨t, rfl⟩ := r; rfl
  | byt _ => obtain ⟨t, rfl⟩ := r; rfl
  | flt _ => obtain ⟨t, rfl⟩ := r; rfl
  | ref _ => cases r; rfl
  | ty _ => cases r; rfl
theorem RelV.inj {x y : V} {u : Value} (r : RelV x u) (q : RelV y u) : x = y := Option.some.inj (r.abs.symm.trans q.abs)
theorem Vals.inj : ∀ {xs ys : List V} {us : List Value}, Vals xs us → Vals ys us → xs = ys
  | _, _, _, .nil, .nil => rfl
  | _, _, _, .cons r t, .cons r' t' => by rw [r.inj r', Vals.inj t t']
noncomputable section
variable {X : Cx} {pins : List (Addr × Obj)} {σ : St} {H : Hp} {s : Shared} {a : Addr} {xs ys : List V}
theorem SqL.of {K : PySem.W.Frag} (h : H a = some (.lst xs)) : SqL K H a xs := .inl (.inl h)
theorem SqT.of {K : PySem.W.Frag} (h : H a = some (.tup xs)) : SqT K H a xs := .inl (.inl h)
theorem Inv.list (I : Inv X pins σ H s) (h : SqL X.K H a xs) : ∃ its : List Value, Vals xs its ∧ PlainL s.heap a its.toArray ∧ xs.length ≤ sizeLine := by
  rcases h with h | ⟨o, its, n, hk, hc, hd, hs, hz, r⟩
  · obtain ⟨z, its, n, r, e⟩ := h.ok I.hok
    exact ⟨its, r, ⟨_, n, e, rfl, rfl, rfl⟩, z⟩
  · refine ⟨its.toList, r, ⟨o, n, I.kIn a o hk, hc, hd, by simpa using hs⟩, ?_⟩
    have e := r.length
    simp only [Array.length_toList] at e
    omega
theorem Inv.tuple (I : Inv X pins σ H s) (h : SqT X.K H a xs) : ∃ its : List Value, Vals xs its ∧ IsTup s.heap a its.toArray ∧ xs.length ≤ sizeLine := by
  rcases h with h | ⟨o, its, n, hk, hc, hdn, hs, hz, r⟩
  · obtain ⟨z, its, r, p⟩ := h.ok I.hok
    exact ⟨its, r, p.is, z⟩
  · refine ⟨its.toList, r, ⟨o, I.kIn a o hk, hc, n, by simpa using hs⟩, ?_⟩
    have e := r.length
    simp only [Array.length_toList] at e
    omega
theorem Inv.tupleD (I : Inv X pins σ H s) (h : SqT X.K H a xs) : ∃ its : List Value, Vals xs its ∧ TupD s.heap a its.toArray ∧ xs.length ≤ sizeLine := by
  rcases h with h | ⟨o, its, n, hk, hc, hdn, hs, hz, r⟩
  · obtain ⟨z, its, r, p⟩ := h.ok I.hok
    exact ⟨its, r, p, z⟩
  · refine ⟨its.toList, r, ⟨o, I.kIn a o hk, hc, hdn, n, by simpa using hs⟩, ?_⟩
    have e := r.length
    simp only [Array.length_toList] at e
    omega
theorem Inv.list_inj (I : Inv X pins σ H s) (h : SqL X.K H a xs) (h' : SqL X.K H a ys) : xs = ys := by
  obtain ⟨its, r, ⟨o, n, e, _, _, d⟩, _⟩ := I.list h
  obtain ⟨its', r', ⟨o', n', e', _, _, d'⟩, _⟩ := I.list h'
  rw [e] at e'; cases e'
  rw [d] at d'
  injection d' with d1 _
  have : its = its' := by simpa using congrArg Array.toList d1
  subst this
  exact r.inj r'
theorem Inv.tuple_inj (I : Inv X pins σ H s) (h : SqT X.K H a xs) (h' : SqT X.K H a ys) : xs = ys := by
  obtain ⟨its, r, ⟨o, e, _, n, d⟩, _⟩ := I.tuple h
  obtain ⟨its', r', ⟨o', e', _, n', d'⟩, _⟩ := I.tuple h'
  rw [e] at e'; cases e'
  rw [d] at d'
  injection d' with d1 _
  have : its = its' := by simpa using congrArg Array.toList d1
  subst this
  exact r.inj r'
end
noncomputable abbrev Cx.wish (X : Cx) (E : Value → Shared → Prop) : Cx := { X with xe := E }
noncomputable abbrev Cx.nox (X : Cx) : Cx := X.wish fun _ _ => False
theorem Cx.Ok.wish {X : Cx} (ok : X.Ok) (E : Value → Shared → Prop) : (X.wish E).Ok :=
  ⟨ok.mod, ok.kind, ok.glob, ok.blt, ok.above, ok.inj, ok.has, ok.cab, ok.hd, ok.frames, ok.stk, ok.exf, ok.bs, ok.bsz, ok.noex, ok.exfs, ok.funs, ok.frf⟩
theorem Cx.Ok.unwish {X : Cx} {E : Value → Shared → Prop} (ok : (X.wish E).Ok) : X.Ok :=
  ⟨ok.mod, ok.kind, ok.glob, ok.blt, ok.above, ok.inj, ok.has, ok.cab, ok.hd, ok.frames, ok.stk, ok.exf, ok.bs, ok.bsz, ok.noex, ok.exfs, ok.funs, ok.frf⟩
noncomputable section
variable {X : Cx} {pins : List (Addr × Obj)} {σ : St} {H : Hp} {s : Shared} {E : Value → Shared → Prop}
theorem Inv.wish (I : Inv X pins σ H s) (E : Value → Shared → Prop) : Inv (X.wish E) pins σ H s := ⟨I.ok.wish E, I.os, I.bare, I.base, I.loc, I.cell, I.free, I.freeC, I.pin, I.hok, I.len⟩
theorem Inv.unwish (I : Inv (X.wish E) pins σ H s) : Inv X pins σ H s := ⟨I.ok.unwish, I.os, I.bare, I.base, I.loc, I.cell, I.free, I.freeC, I.pin, I.hok, I.len⟩
theorem SP.unwish {D : Ends} {f : Flow} {s' : Shared} (h : SP (X.wish E) pins D f s') : SP X pins D f s' := by
  cases f with
  | next => obtain ⟨σ', H', I, q⟩ := h; exact ⟨σ', H', I.unwish, q⟩
  | brk => obtain ⟨σ', H', I, q⟩ := h; exact ⟨σ', H', I.unwish, q⟩
  | cont => obtain ⟨σ', H', I, q⟩ := h; exact ⟨σ', H', I.unwish, q⟩
  | ret u => obtain ⟨v, σ', H', I, r, q⟩ := h; exact ⟨v, σ', H', I.unwish, r, q⟩
theorem PE.nox {e : Expr} {t : TE} (h : PE X.nox e t) : PE X e t := fun pins s σ H Q I hw =>
  wpAny_mono (h pins s σ H Q (I.wish _) hw) (fun _ _ ⟨v, H', I', r, q⟩ => ⟨v, H', I'.unwish, r, q⟩) fun _ _ z => False.elim z
theorem PT.nox {e : Expr} {t : TT} (h : PT X.nox e t) : PT X e t := fun pins s σ H Q I hw =>
  wpAny_mono (h pins s σ H Q (I.wish _) hw) (fun _ _ ⟨H', I', q⟩ => ⟨H', I'.unwish, q⟩) fun _ _ z => False.elim z
theorem PSs.nox {st : List Stmt} {t : TS} (h : PSs X.nox st t) : PSs X st t := fun pins s σ H D I hw =>
  wpAny_mono (h pins s σ H D (I.wish _) hw) (fun _ _ q => q.unwish) fun _ _ z => False.elim z
end
noncomputable section
variable {X : Cx} {st : Stmt} {rest : List Stmt} {t u : TS} {e : Expr} {te : TE} {pos : Pos}
noncomputable def tNext : TS := fun D σ H => D.nx σ H
noncomputable def tSeq (t u : TS) : TS := fun D σ H => t { D with nx := u D } σ H
theorem pss_nil : PSs X [] tNext := fun _ _ σ H _ I h => wpAny_execs_nil ⟨σ, H, I, h⟩
theorem pss_cons (h1 : PS X st t) (h2 : PSs X rest u) : PSs X (st :: rest) (tSeq t u) := by
  intro pins s σ H D I h
  refine wpAny_execs_cons (thn (h1 pins s σ H { D with nx := u D } I h) fun f s1 q => ?_)
  cases f with
  | next =>
    obtain ⟨σ', H', I', q⟩ := q
    exact h2 pins s1 σ' H' D I' q
  | ret v => exact q
  | brk => exact q
  | cont => exact q
theorem pss_one (h1 : PS X st t) : PSs X [st] t := by
  intro pins s σ H D I h
  refine wpAny_execs_cons (thn (h1 pins s σ H D I h) fun f s1 q => ?_)
  cases f with
  | next => exact wpAny_execs_nil q
  | ret v => exact q
  | brk => exact q
  | cont => exact q
theorem Inv.quiet {pins : List (Addr × Obj)} {σ : St} {H : Hp} {s : Shared} (I : Inv X pins σ H s) : interactive X.env = false := by simp [interactive, I.ok.kind]
noncomputable def tDrop (te : TE) : TS := fun D σ H => te σ H fun _ H1 => D.nx σ H1
theorem ps_expr (he : PE X e te) (hs : swapsWith e none pos.line X.env = pure false := by rfl) : PS X (.Expr e pos) (tDrop te) := by
  intro pins s σ H D I h
  exact wpAny_Expr_any (thn (he pins s σ H _ I h) fun v s1 ⟨x, H1, I1, r1, q1⟩ => ⟨σ, H1, I1, q1⟩) I.quiet hs
noncomputable def tRet (te : TE) : TS := fun D σ H => te σ H D.rt
theorem ps_ret (he : PE X e te) : PS X (.Return (some e) pos) (tRet te) := by
  intro pins s σ H D I h
  exact wpAny_Return_some (thn (he pins s σ H _ I h) fun v s1 ⟨x, H1, I1, r1, q1⟩ => ⟨x, σ, H1, I1, r1, q1⟩)
noncomputable def tIfS (c : TT) (t u : TS) : TS := fun D σ H => c σ H fun b H1 => if b = true then t D σ H1 else u D σ H1
theorem ps_if {c : Expr} {a b : List Stmt} {tc : TT} (hc : PT X c tc) (ha : PSs X a t) (hb : PSs X b u) : PS X (.If c a b pos) (tIfS tc t u) := by
  intro pins s σ H D I h
  refine wpAny_If (thn (hc pins s σ H _ I h) fun d s1 ⟨H1, I1, q1⟩ => ?_)
  cases d with
  | true => exact ha pins s1 σ H1 D I1 q1
  | false => exact hb pins s1 σ H1 D I1 q1
end
noncomputable abbrev TG := V → St → Hp → (St → Hp → Prop) → Prop
noncomputable abbrev TGs := List V → St → Hp → (St → Hp → Prop) → Prop
noncomputable def PG (X : Cx) (target : Expr) (t : TG) : Prop :=
  ∀ (pins : List (Addr × Obj)) (s : Shared) (σ : St) (H : Hp) (v : V) (u : Value) (Q : St → Hp → Prop), Inv X pins σ H s → RelV v u → t v σ H Q →
    wpAny (model X.prog X.w) X.A (assign target X.env u) (fun _ s' => ∃ σ' H', Inv X pins σ' H' s' ∧ Q σ' H') X.xe s
noncomputable def PGs (X : Cx) (ts : List Expr) (t : TGs) : Prop :=
  ∀ (pins : List (Addr × Obj)) (s : Shared) (σ : St) (H : Hp) (vs : List V) (us : List Value) (Q : St → Hp → Prop), Inv X pins σ H s → Vals vs us → t vs σ H Q →
    wpAny (model X.prog X.w) X.A (assignInOrder ((assignEach ts X.env).map (·.2)) us) (fun _ s' => ∃ σ' H', Inv X pins σ' H' s' ∧ Q σ' H') X.xe s
noncomputable section
variable {X : Cx} {pos : Pos}
noncomputable def gName (i : Nat) : TG := fun v σ H Q => Q (σ.set i (some v)) H
theorem pg_name {i : Nat} {x : Str} (hN : X.N.Nodup) (hi : X.N[i]? = some x) (hx : Loc X.env.scope x) (hf : X.fn x = true ∨ X.env.scope.names.lookup x = some .local := by first | exact .inl rfl | exact .inr rfl | assumption) : PG X (.Name x pos) (gName i) := by
  intro pins s σ H v u Q I r h
  exact wpAny_assign_Name (store_ok I hN hi hx r (fun s' I' => ⟨_, H, I', h⟩) hf)
noncomputable def gNil : TGs := fun vs σ H Q => vs = [] ∧ Q σ H
noncomputable def gCons (t : TG) (u : TGs) : TGs := fun vs σ H Q => ∃ v r, vs = v :: r ∧ t v σ H fun σ' H' => u r σ' H' Q
theorem pgs_nil : PGs X [] gNil := by
  intro pins s σ H vs us Q I r h
  obtain ⟨e, h⟩ := h
  subst e
  cases r
  exact assignInOrder_nil ⟨σ, H, I, h⟩
theorem pgs_cons {e : Expr} {es : List Expr} {t : TG} {u : TGs} (h1 : PG X e t) (h2 : PGs X es u)
    (hs : (assignEach (e :: es) X.env).map (·.2) = assign e X.env :: (assignEach es X.env).map (·.2) := by rfl) : PGs X (e :: es) (gCons t u) := by
  intro pins s σ H vs us Q I r h
  obtain ⟨v, vr, e1, h⟩ := h
  subst e1
  cases r with
  | cons r rr =>
    rw [hs]
    refine assignInOrder_cons (thn (h1 pins s σ H _ _ _ I r h) fun _ s1 ⟨σ1, H1, I1, q1⟩ => ?_)
    exact h2 pins s1 σ1 H1 _ _ Q I1 rr q1
noncomputable def gTup (K : PySem.W.Frag) (n : Nat) (t : TGs) : TG := fun v σ H Q => ∃ a xs, v = .ref a ∧ SqT K H a xs ∧ xs.length = n ∧ t xs σ H Q
theorem pg_tup {es : List Expr} {k : Nat} {t : TGs} {n : Nat} (hc : X.calm = true) (h : PGs X es t)
    (hn : (assignEach es X.env).length = n := by rfl) (hst : (assignEach es X.env).findIdx? (·.1) = none := by rfl) : PG X (.Tuple es k pos) (gTup X.K n t) := by
  intro pins s σ H v u Q I r hw
  obtain ⟨a, xs, e1, hq, hl, hw⟩ := hw
  subst e1
  cases r
  obtain ⟨its, rv, ht, hz⟩ := I.tuple hq
  refine assign_Tuple_tuple (I.ok.hd hc) ht (by simp [hn, ← hl, rv.length]) hst fun h' hx => ?_
  have I1 : Inv X pins σ H { s with heap := h' } := I.kept (t' := s.toks) fun b o e => hx b o (Nat.ne_of_lt (Heap.lt_size e)) e
  exact h pins _ σ H xs _ Q I1 (by simpa using rv) hw
noncomputable def tAsg (te : TE) (g : TG) : TS := fun D σ H => te σ H fun x H1 => g x σ H1 D.nx
theorem ps_asg {tg e : Expr} {te : TE} {g : TG} (he : PE X e te) (hg : PG X tg g) (hs : swapsWithSole [tg] e pos.line X.env = pure false := by rfl) (hw : swappedStores [tg] e X.env = pure none := by rfl)
    (h1 : (assignEach [tg] X.env).map (·.2) = [assign tg X.env] := by rfl) : PS X (.Assign [tg] e pos) (tAsg te g) := by
  intro pins s σ H D I h
  refine wpAny_Assign_stores (thn (he pins s σ H _ I h) fun v s1 ⟨x, H1, I1, r1, q1⟩ => ?_) hs hw
  rw [h1]
  exact thn (hg pins s1 σ H1 x v _ I1 r1 q1) fun _ s2 q => q
theorem ps_set {i : Nat} {x : Str} {e : Expr} {te : TE} {pos' : Pos} (hN : X.N.Nodup) (hi : X.N[i]? = some x) (hx : Loc X.env.scope x) (he : PE X e te) (hs : swapsWith e (some (.Name x pos')) pos.line X.env = pure false := by rfl) (hf : X.fn x = true ∨ X.env.scope.names.lookup x = some .local := by first | exact .inl rfl | exact .inr rfl | assumption) :
    PS X (.Assign [.Name x pos'] e pos) (tAsg te (gName i)) := by
  intro pins s σ H D I h
  refine wpAny_Assign_Name (thn (he pins s σ H _ I h) fun v s1 ⟨y, H1, I1, r1, q1⟩ => ?_) hs
  exact store_ok I1 hN hi hx r1 (fun s2 I2 => ⟨_, H1, I2, q1⟩) hf
end
noncomputable section
variable {X : Cx} {pos : Pos}
noncomputable def tWhile (c : TT) (tb : TS) : TS := fun D σ H => ∃ W : Nat → St → Hp → Prop, (∃ m, W m σ H) ∧ ∀ m σ H, W m σ H →
  c σ H fun b H1 => if b = true then ∃ N : St → Hp → Prop, (∀ σ' H', N σ' H' → ∃ m', m' < m ∧ W m' σ' H') ∧ tb { D with nx := N, ct := N, bk := D.nx } σ H1 else D.nx σ H1
theorem ps_while {c : Expr} {body : List Stmt} {tc : TT} {tb : TS} (hp : PassesOwn (model X.prog X.w) X.A X.env X.xe) (hc : PT X c tc) (hb : PSs X body tb) : PS X (.While c body [] pos) (tWhile tc tb) := by
  intro pins s σ H D I h
  obtain ⟨W, ⟨m0, w0⟩, turn⟩ := h
  refine wpAny_While (codeAny_whileLoop (fun n s' => ∃ σ' H', Inv X pins σ' H' s' ∧ W n σ' H') ?_ m0 ⟨σ, H, I, w0⟩)
  rintro n s1 ⟨σ1, H1, I1, w1⟩
  refine wpAny_passesOwn hp (thn (hc pins s1 σ1 H1 _ I1 (turn n σ1 H1 w1)) fun b s2 ⟨H2, I2, q2⟩ => ?_)
  cases b with
  | true =>
    obtain ⟨N, hN, q2⟩ := q2
    rw [if_pos rfl]
    refine wpAny_passesOwn hp (thn (hb pins s2 σ1 H2 _ I2 q2) fun f s3 q3 => ?_)
    cases f with
    | next =>
      obtain ⟨σ3, H3, I3, n3⟩ := q3
      obtain ⟨m', hm, w3⟩ := hN σ3 H3 n3
      exact ⟨m', hm, σ3, H3, I3, w3⟩
    | cont =>
      obtain ⟨σ3, H3, I3, n3⟩ := q3
      obtain ⟨m', hm, w3⟩ := hN σ3 H3 n3
      exact ⟨m', hm, σ3, H3, I3, w3⟩
    | brk => exact q3
    | ret v => exact q3
  | false =>
    rw [if_neg Bool.false_ne_true]
    exact wpAny_execs_nil ⟨σ1, H2, I2, q2⟩
end
structure It where
  go : Nat → Hp → Prop
  yld : Nat → Hp → V → Hp → Prop
  stop : Nat → Hp → Prop
noncomputable def FpOk (X : Cx) (pins : List (Addr × Obj)) (H : Hp) (b : Addr) : Prop :=
  H b = none ∧ b ≠ X.env.locals ∧ b ∉ X.fs ∧ (b ∈ X.ex ∨ X.s₀.heap.objs.size ≤ b) ∧ (∀ x c, X.env.cells.lookup x = some c → c ≠ b) ∧ ∀ p ∈ X.pn ++ pins, p.1 ≠ b
theorem Inv.fpOk {X : Cx} {pins : List (Addr × Obj)} {σ : St} {H H' : Hp} {s : Shared} {b : Addr} (I : Inv X pins σ H s) (hb : s.heap.objs.size ≤ b) (hn : H' b = none) : FpOk X pins H' b := by
  refine ⟨hn, Nat.ne_of_gt (Nat.lt_of_lt_of_le I.lt hb), I.nofs hb, .inr (Nat.le_trans I.sz hb), fun x c e z => ?_, fun p hp z => ?_⟩
  · obtain ⟨v, q⟩ := I.cell x c e
    exact absurd (Nat.lt_of_lt_of_le q.lt (by rw [z]; exact hb)) (Nat.lt_irrefl _)
  · exact absurd (Nat.lt_of_lt_of_le (Heap.lt_size (I.pin p hp).1) (by rw [z]; exact hb)) (Nat.lt_irrefl _)
structure Turn (P : Program) (w : World) (K : PySem.W.Frag) (tg : Expr) (J : It) (fp : List Addr) (it : Addr) (tn : Nat → Heap → Prop) : Prop where
  mem : it ∈ fp
  obj : ∀ i h, tn i h → ∀ b ∈ fp, ∃ o, h.get? b = some o ∧ ∀ v, o.data ≠ .cell v
  keep : ∀ i h h', tn i h → (∀ b ∈ fp, ∀ o, h.get? b = some o → h'.get? b = some o) → tn i h'
  item : ∀ (X : Cx), X.prog = P → X.w = w → X.K = K → X.calm = true → ∀ (i : Nat) (pins : List (Addr × Obj)) (s : Shared) (σ : St) (H : Hp) (E : Value → Shared → Prop), Inv X pins σ H s → (∀ b ∈ fp, FpOk X pins H b) → tn i s.heap → J.go i H →
    wpAny (model P w) X.A (pyNext (.ref it)) (fun r s1 => ∃ u, r = some u ∧
      wpAny (model P w) X.A (letOwnedTupleGo tg (.ref it) u) (fun _ s2 => ∃ x H', Inv X pins σ H' s2 ∧ RelV x u ∧ J.yld i H x H' ∧ tn (i + 1) s2.heap ∧ ∀ b ∈ fp, H' b = none) E s1) E s
  done : ∀ (X : Cx), X.prog = P → X.w = w → X.K = K → X.calm = true → ∀ (i : Nat) (pins : List (Addr × Obj)) (s : Shared) (σ : St) (H : Hp) (E : Value → Shared → Prop), Inv X pins σ H s → (∀ b ∈ fp, FpOk X pins H b) → tn i s.heap → J.stop i H →
    wpAny (model P w) X.A (pyNext (.ref it)) (fun r s1 => r = none ∧ Inv X pins σ H s1) E s
  self : ∀ (A : Around) (i : Nat) (s : Shared) (Q : Value → Shared → Prop) (E : Value → Shared → Prop), tn i s.heap → Q (.ref it) s → wpAny (model P w) A (pyIter (.ref it)) Q E s
noncomputable abbrev TI := St → Hp → (It → Hp → Prop) → Prop
noncomputable def PIE (X : Cx) (pins : List (Addr × Obj)) (σ : St) (tg : Expr) (R : It → Hp → Prop) (itv : Value) (s2 : Shared) : Prop :=
  ∃ (it : Addr) (fp : List Addr) (tn : Nat → Heap → Prop) (J : It) (H' : Hp), itv = .ref it ∧ Inv X pins σ H' s2 ∧ Turn X.prog X.w X.K tg J fp it tn ∧ tn 0 s2.heap ∧ (∀ b ∈ fp, FpOk X pins H' b) ∧ R J H'
noncomputable def PI (X : Cx) (tg iter : Expr) (wi : TI) : Prop :=
  ∀ (pins : List (Addr × Obj)) (s : Shared) (σ : St) (H : Hp) (R : It → Hp → Prop), Inv X pins σ H s → wi σ H R →
    wpAny (model X.prog X.w) X.A (eval iter X.env) (fun v s1 => wpAny (model X.prog X.w) X.A (pyIter v) (PIE X pins σ tg R) X.xe s1) X.xe s
theorem go_of {M : Model} {A : Around} {E : Value → Shared → Prop} {s : Shared} {tg : Expr} {it : Addr} {u : Value} {o : Obj} {n : String} {vs : Array Value} {Q : Unit → Shared → Prop} (ho : s.heap.get? it = some o) (hc : o.cls = .type n) (hd : o.data = .fields vs)
    (hn : ["enumerate", "zip", "dict_itemiterator", "dict_reverseitemiterator", "odict_iterator", "itertools.zip_longest", "itertools.pairwise"].contains n = false) (hQ : Q () s) : wpAny M A (letOwnedTupleGo tg (.ref it) u) Q E s := by
  unfold letOwnedTupleGo
  cases tg <;> first
    | exact wpAny_pure hQ
    | (cases u <;> first
        | exact wpAny_pure hQ
        | (refine wpAny_bind (wpAny_load ho ?_)
           rw [hc, hd]
           show wpAny M A (if (["enumerate", "zip", "dict_itemiterator", "dict_reverseitemiterator", "odict_iterator", "itertools.zip_longest", "itertools.pairwise"].contains n && vs[0]? == some (rawInt _)) = true then _ else _) Q E s
           rw [if_neg (by intro h; rw [hn, Bool.false_and] at h; cases h)]
           exact wpAny_pure hQ))
noncomputable def Itl (K : PySem.W.Frag) (a : Addr) : It :=
  ⟨fun i H => ∃ xs x, SqL K H a xs ∧ xs[i]? = some x, fun i H x H' => H' = H ∧ ∀ xs, SqL K H a xs → xs[i]? = some x, fun i H => ∃ xs, SqL K H a xs ∧ xs.length ≤ i⟩
noncomputable def Itt (K : PySem.W.Frag) (a : Addr) : It :=
  ⟨fun i H => ∃ xs x, SqT K H a xs ∧ xs[i]? = some x, fun i H x H' => H' = H ∧ ∀ xs, SqT K H a xs → xs[i]? = some x, fun i H => ∃ xs, SqT K H a xs ∧ xs.length ≤ i⟩
noncomputable def Itr (lo : Int) (n : Nat) : It := ⟨fun i _ => i < n, fun i H x H' => H' = H ∧ x = .int (lo + i), fun i _ => n ≤ i⟩
theorem turn_list {P : Program} {w : World} {K : PySem.W.Frag} {tg : Expr} (a it : Addr) : Turn P w K tg (Itl K a) [it] it (fun i h => h.IsListIter it a i) where
  mem := by simp
  obj := fun i h st b hb => by
    have e : b = it := by simpa using hb
    subst e
    obtain ⟨o, e, c, d⟩ := st
    exact ⟨o, e, fun v z => by rw [d] at z; cases z⟩
  keep := fun i h h' st k => st.at fun o e => k it (by simp) o e
  item := by
    intro X hP hw hK hc i pins s σ H E I hf st hg
    subst hP hw hK
    obtain ⟨xs, x, hq, hx⟩ := hg
    obtain ⟨its, rv, p, hz⟩ := I.list hq
    obtain ⟨u, hu, ru⟩ := rv.get hx
    obtain ⟨f0, f1, f2, f3, f4, f5⟩ := hf it (by simp)
    refine wpAny_pyNext_list_item st p.isList (x := u) (by simpa using hu) fun h' st' sb => ?_
    have I1 : Inv X pins σ H { s with heap := h' } := I.turned (t' := s.toks) (fun b o hb e => (sb.2 b hb).trans e) f0 f1 f3 f4 f5
    obtain ⟨o, e, c, d⟩ := id st'
    exact ⟨u, rfl, go_of (s := { s with heap := h' }) e c d (by decide) ⟨x, H, I1, ru, ⟨rfl, fun ys hy => by rw [I.list_inj hy hq]; exact hx⟩, st', fun b hb => (hf b hb).1⟩⟩
  done := by
    intro X hP hw hK hc i pins s σ H E I hf st hg
    subst hP hw hK
    obtain ⟨xs, hq, hx⟩ := hg
    obtain ⟨its, rv, p, hz⟩ := I.list hq
    obtain ⟨f0, f1, f2, f3, f4, f5⟩ := hf it (by simp)
    have hl := rv.length
    exact wpAny_pyNext_list_end (I.ok.hd hc) st p.isList (by simp; omega) fun h' eb => ⟨rfl, I.turned (t' := s.toks) (fun b o hb e => eb b o hb e) f0 f1 f3 f4 f5⟩
  self := fun _ _ _ _ _ st h => wpAny_pyIter_listiter st h
theorem turn_tuple {P : Program} {w : World} {K : PySem.W.Frag} {tg : Expr} (a it : Addr) : Turn P w K tg (Itt K a) [it] it (fun i h => h.IsTupleIter it a i) where
  mem := by simp
  obj := fun i h st b hb => by
    have e : b = it := by simpa using hb
    subst e
    obtain ⟨o, e, c, d⟩ := st
    exact ⟨o, e, fun v z => by rw [d] at z; cases z⟩
  keep := fun i h h' st k => st.at fun o e => k it (by simp) o e
  item := by
    intro X hP hw hK hc i pins s σ H E I hf st hg
    subst hP hw hK
    obtain ⟨xs, x, hq, hx⟩ := hg
    obtain ⟨its, rv, p, hz⟩ := I.tuple hq
    obtain ⟨u, hu, ru⟩ := rv.get hx
    obtain ⟨f0, f1, f2, f3, f4, f5⟩ := hf it (by simp)
    refine wpAny_pyNext_tuple_item st (show s.heap.IsTuple a its.toArray from p) (x := u) (by simpa using hu) fun h' st' sb => ?_
    have I1 : Inv X pins σ H { s with heap := h' } := I.turned (t' := s.toks) (fun b o hb e => (sb.2 b hb).trans e) f0 f1 f3 f4 f5
    obtain ⟨o, e, c, d⟩ := id st'
    exact ⟨u, rfl, go_of (s := { s with heap := h' }) e c d (by decide) ⟨x, H, I1, ru, ⟨rfl, fun ys hy => by rw [I.tuple_inj hy hq]; exact hx⟩, st', fun b hb => (hf b hb).1⟩⟩
  done := by
    intro X hP hw hK hc i pins s σ H E I hf st hg
    subst hP hw hK
    obtain ⟨xs, hq, hx⟩ := hg
    obtain ⟨its, rv, p, hz⟩ := I.tuple hq
    obtain ⟨f0, f1, f2, f3, f4, f5⟩ := hf it (by simp)
    have hl := rv.length
    exact wpAny_pyNext_tuple_end (I.ok.hd hc) st (show s.heap.IsTuple a its.toArray from p) (by simp; omega) fun h' eb => ⟨rfl, I.turned (t' := s.toks) (fun b o hb e => eb b o hb e) f0 f1 f3 f4 f5⟩
  self := fun _ _ _ _ _ st h => wpAny_pyIter_tupleiter st h
theorem turn_range {P : Program} {w : World} {K : PySem.W.Frag} {tg : Expr} (it : Addr) (lo : Int) (n : Nat) : Turn P w K tg (Itr lo n) [it] it (fun i h => IsRangeIter h it (lo + (i : Nat) * 1) ((n : Int) - (i : Nat)) 1) where
  mem := by simp
  obj := fun i h st b hb => by
    have e : b = it := by simpa using hb
    subst e
    exact ⟨_, st, fun v z => by
      have z' : Data.fields _ = Data.cell v := z
      cases z'⟩
  keep := fun i h h' st k => k it (by simp) _ st
  item := by
    intro X hP hw hK hc i pins s σ H E I hf st hg
    subst hP hw hK
    obtain ⟨f0, f1, f2, f3, f4, f5⟩ := hf it (by simp)
    have W := Walks.range (prog := X.prog) (w := X.w) (I.ok.hd hc) it lo 1 n
    refine W.item i s _ _ hg st fun v h' tk hv st' kk => ?_
    obtain ⟨t, rfl⟩ := hv
    have I1 : Inv X pins σ H { s with heap := h', toks := tk } := I.turned (fun b o hb e => kk b o (by simpa using hb) e) f0 f1 f3 f4 f5
    refine ⟨_, rfl, go_of (s := { s with heap := h', toks := tk }) (n := "range_iterator") st' rfl rfl (by decide) ⟨.int (lo + i), H, I1, ⟨t, ?_⟩, ⟨rfl, rfl⟩, st', fun b hb => (hf b hb).1⟩⟩
    rw [Int.mul_one]
  done := by
    intro X hP hw hK hc i pins s σ H E I hf st hg
    subst hP hw hK
    obtain ⟨f0, f1, f2, f3, f4, f5⟩ := hf it (by simp)
    exact wpAny_pyNext_range_end (I.ok.hd hc) st (by have : n ≤ i := hg; omega) fun h' eb => ⟨rfl, I.turned (t' := s.toks) (fun b o hb e => eb b o hb e) f0 f1 f3 f4 f5⟩
  self := fun _ _ _ _ _ st h => wpAny_pyIter_rangeiter st h
end L2
namespace L2
open PySem PySem.Spec PyProof.Rows
noncomputable section
variable {X : Cx} {tg : Expr}
theorem range_it {pins : List (Addr × Obj)} {σ : St} {H : Hp} {s : Shared} {R : It → Hp → Prop} {E : Value → Shared → Prop} {lo hi : Int} {t u v : Tok} {tk : Nat} (I : Inv X pins σ H s) (h1 : -(2 ^ 62) ≤ lo) (h2 : lo < 2 ^ 62) (h3 : -(2 ^ 62) ≤ hi) (h4 : hi < 2 ^ 62)
    (q : R (Itr lo (hi - lo).toNat) H) : wpAny (model X.prog X.w) X.A (pyIter (.ref s.heap.objs.size)) (PIE X pins σ tg R) E { s with heap := s.heap.push { cls := .type "range", data := .fields #[.int lo t, .int hi u, .int 1 v] }, toks := tk } := by
  refine wpAny_pyIter_range (IsRange.new ..) (small_one h1 h2 h3 h4) ?_
  have I1 : Inv X pins σ H { s with heap := s.heap.push { cls := .type "range", data := .fields #[.int lo t, .int hi u, .int 1 v] }, toks := tk } := I.kept fun b o e => Heap.get?_push_of_some _ e
  refine ⟨(s.heap.push { cls := .type "range", data := .fields #[.int lo t, .int hi u, .int 1 v] }).objs.size, [(s.heap.push { cls := .type "range", data := .fields #[.int lo t, .int hi u, .int 1 v] }).objs.size], _, _, H, rfl,
    I1.kept (t' := tk) fun b o e => Heap.get?_push_of_some _ e, turn_range _ lo (hi - lo).toNat, ?_, fun b hb => ?_, q⟩
  · have e1 : lo + ((0 : Nat) : Int) * 1 = lo := by simp
    have e2 : (((hi - lo).toNat : Nat) : Int) - ((0 : Nat) : Int) = Builtin.Range.rangeSize lo hi 1 := by rw [rangeSize_one]; split <;> omega
    show IsRangeIter _ _ (lo + ((0 : Nat) : Int) * 1) ((((hi - lo).toNat : Nat) : Int) - ((0 : Nat) : Int)) 1
    rw [e1, e2]
    exact Heap.get?_push_size _ rfl
  · have e : b = (s.heap.push { cls := .type "range", data := .fields #[.int lo t, .int hi u, .int 1 v] }).objs.size := by simpa using hb
    subst e
    exact I1.fpOk (Nat.le_refl _) (I1.hok.fresh (Nat.le_refl _))
noncomputable def iRng1 (ta : TA) : TI := fun σ H R => ta σ H fun vs H1 => ∃ j : Int, vs = [.int j] ∧ -(2 ^ 62) ≤ j ∧ j < 2 ^ 62 ∧ R (Itr 0 j.toNat) H1
noncomputable def iRng2 (ta : TA) : TI := fun σ H R => ta σ H fun vs H1 => ∃ i j : Int, vs = [.int i, .int j] ∧ (-(2 ^ 62) ≤ i ∧ i < 2 ^ 62 ∧ -(2 ^ 62) ≤ j ∧ j < 2 ^ 62) ∧ R (Itr i (j - i).toNat) H1
theorem pi_range1 {a : Expr} {ta : TA} {p pos : Pos} (hg : Gl X "range") (hm : X.mg "range" = none) (ha : PA X [a] ta) (hs : starEach [a] X.env = [(false, eval a X.env)] := by rfl) : PI X tg (.Call (.Name "range" p) [a] [] pos) (iRng1 ta) := by
  intro pins s σ H R I h
  refine Call_ (ld_blt I hg hm boot_range (PyProof.Rows.callWith_type1 (thn (ha pos pins s σ H _ I h) fun us s1 ⟨vs, H1, I1, r1, q1⟩ => ?_) hs rfl))
  obtain ⟨j, e, q1, q2, q⟩ := q1
  subst e
  cases r1 with
  | cons r rr =>
    cases rr
    obtain ⟨t, rfl⟩ := r
    exact call_range_1 (range_it I1 (by omega) (by omega) q1 q2 (by simpa using q))
theorem pi_range2 {a b : Expr} {ta : TA} {p pos : Pos} (hg : Gl X "range") (hm : X.mg "range" = none) (ha : PA X [a, b] ta) (hs : starEach [a, b] X.env = [(false, eval a X.env), (false, eval b X.env)] := by rfl) (hs2 : starEach [b] X.env = [(false, eval b X.env)] := by rfl) :
    PI X tg (.Call (.Name "range" p) [a, b] [] pos) (iRng2 ta) := by
  intro pins s σ H R I h
  refine Call_ (ld_blt I hg hm boot_range (PyProof.Rows.callWith_type1 (thn (ha pos pins s σ H _ I h) fun us s1 ⟨vs, H1, I1, r1, q1⟩ => ?_) (by rw [hs, hs2]) (by rw [hs2]; rfl)))
  obtain ⟨i, j, e, ⟨q1, q2, q3, q4⟩, q⟩ := q1
  subst e
  cases r1 with
  | cons r rr =>
    cases rr with
    | cons r' rr =>
      cases rr
      obtain ⟨t, rfl⟩ := r
      obtain ⟨t', rfl⟩ := r'
      exact call_range_2 (range_it I1 q1 q2 q3 q4 q)
noncomputable def tFor (wi : TI) (g : TG) (tb : TS) : TS := fun D σ H => wi σ H fun J H1 => ∃ W : Nat → Nat → St → Hp → Prop, (∃ m, W 0 m σ H1) ∧ ∀ i m σ H, W i m σ H →
  (J.stop i H ∧ D.nx σ H) ∨ (J.go i H ∧ ∃ N : St → Hp → Prop, (∀ σ' H', N σ' H' → ∃ m', m' < m ∧ W (i + 1) m' σ' H') ∧ ∀ x H', J.yld i H x H' → g x σ H' fun σ2 H2 => tb { D with nx := N, ct := N, bk := D.nx } σ2 H2)
noncomputable def pinsAt (fp : List Addr) (h : Heap) : List (Addr × Obj) := fp.filterMap fun b => (h.get? b).map fun o => (b, o)
theorem mem_pinsAt {fp : List Addr} {h : Heap} {b : Addr} {o : Obj} (hb : b ∈ fp) (e : h.get? b = some o) : (b, o) ∈ pinsAt fp h := List.mem_filterMap.mpr ⟨b, hb, by rw [e]; rfl⟩
theorem of_pinsAt {fp : List Addr} {h : Heap} {p : Addr × Obj} (hp : p ∈ pinsAt fp h) : p.1 ∈ fp ∧ h.get? p.1 = some p.2 := by
  obtain ⟨b, hb, e⟩ := List.mem_filterMap.mp hp
  cases q : h.get? b with
  | none => rw [q] at e; cases e
  | some o =>
    rw [q] at e
    have e' : (b, o) = p := Option.some.inj e
    subst e'
    exact ⟨hb, q⟩
theorem Inv.pinned {pins : List (Addr × Obj)} {σ : St} {H : Hp} {s : Shared} {fp : List Addr} (I : Inv X pins σ H s) (hf : ∀ b ∈ fp, FpOk X pins H b) (ho : ∀ b ∈ fp, ∃ o, s.heap.get? b = some o ∧ ∀ v, o.data ≠ .cell v) : Inv X (pins ++ pinsAt fp s.heap) σ H s :=
  I.pins_of fun p hp => (List.mem_append.mp hp).elim (fun z => I.pin p (List.mem_append_right _ z)) fun z => by
    obtain ⟨hb, e⟩ := of_pinsAt z
    obtain ⟨f0, f1, f2, _⟩ := hf p.1 hb
    obtain ⟨o, e', d⟩ := ho p.1 hb
    rw [e] at e'; cases e'
    exact ⟨e, f0, f1, f2, d⟩
theorem Inv.unpinned {pins pl : List (Addr × Obj)} {σ : St} {H : Hp} {s : Shared} (I : Inv X (pins ++ pl) σ H s) : Inv X pins σ H s := I.pins_of fun p hp => I.pin p (List.mem_append_right _ (List.mem_append_left _ hp))
theorem ps_for {iter : Expr} {body : List Stmt} {wi : TI} {g : TG} {tb : TS} {pos : Pos} (hp : PassesOwn (model X.prog X.w) X.A X.env X.xe) (hc : X.calm = true) (hi : PI X tg iter wi) (hg : PG X tg g) (hb : PSs X body tb)
    (hs : ∀ x, foldedSetIterable iter X.env x = pure x := by intro _; rfl) : PS X (.For tg iter body [] pos) (tFor wi g tb) := by
  intro pins s σ H D I h
  refine wpAny_For (thn (hi pins s σ H _ I h) fun v s1 h1 => thn h1 fun itv s2 h2 => ?_) hs
  obtain ⟨it, fp, tn, J, H2, e, I2, T, st2, f2, W, ⟨m0, w0⟩, turn⟩ := h2
  subst e
  have stat : ∀ {H' : Hp}, (∀ b ∈ fp, H' b = none) → ∀ b ∈ fp, FpOk X pins H' b := fun hn b hb => ⟨hn b hb, (f2 b hb).2⟩
  refine codeAny_forLoop_any (fun n s' => ∃ i σ' H', Inv X pins σ' H' s' ∧ tn i s'.heap ∧ (∀ b ∈ fp, H' b = none) ∧ W i n σ' H') ?_ m0 ⟨0, σ, H2, I2, st2, fun b hb => (f2 b hb).1, w0⟩
  rintro n s3 ⟨i, σ3, H3, I3, st3, fr3, w3⟩
  rcases turn i n σ3 H3 w3 with ⟨stop, qn⟩ | ⟨go, N, hN, step⟩
  · refine wpAny_passesOwn hp (thn (T.done X rfl rfl rfl hc i pins s3 σ3 H3 X.xe I3 (stat fr3) st3 stop) fun r s4 ⟨hr, I4⟩ => ?_)
    subst hr
    exact wpAny_execs_nil ⟨σ3, H3, I4, qn⟩
  · refine wpAny_passesOwn hp (thn (T.item X rfl rfl rfl hc i pins s3 σ3 H3 X.xe I3 (stat fr3) st3 go) fun r s4 ⟨u, hr, h4⟩ => ?_)
    subst hr
    refine wpAny_passesOwn hp (thn h4 fun _ s5 ⟨x, H5, I5, r5, y5, st5, fr5⟩ => ?_)
    have I5' := I5.pinned (stat fr5) (T.obj _ _ st5)
    refine wpAny_passesOwn hp (thn (hg _ s5 σ3 H5 x u _ I5' r5 (step x H5 y5)) fun _ s6 ⟨σ6, H6, I6, q6⟩ => ?_)
    refine wpAny_passesOwn hp (thn (hb _ s6 σ6 H6 _ I6 q6) fun f s7 q7 => ?_)
    have again : ∀ {σ7 : St} {H7 : Hp}, Inv X (pins ++ pinsAt fp s5.heap) σ7 H7 s7 → N σ7 H7 → ∃ m, m < n ∧ ∃ i σ' H', Inv X pins σ' H' s7 ∧ tn i s7.heap ∧ (∀ b ∈ fp, H' b = none) ∧ W i m σ' H' := fun {σ7 H7} I7 n7 => by
      obtain ⟨m', hm, w7⟩ := hN σ7 H7 n7
      refine ⟨m', hm, i + 1, σ7, H7, I7.unpinned, T.keep _ _ _ st5 fun b hb o e => (I7.pin (b, o) (List.mem_append_right _ (List.mem_append_right _ (mem_pinsAt hb e)))).1, fun b hb => ?_, w7⟩
      obtain ⟨o, e, d⟩ := T.obj _ _ st5 b hb
      exact (I7.pin (b, o) (List.mem_append_right _ (List.mem_append_right _ (mem_pinsAt hb e)))).2.1
    cases f with
    | next => obtain ⟨σ7, H7, I7, n7⟩ := q7; exact again I7 n7
    | cont => obtain ⟨σ7, H7, I7, n7⟩ := q7; exact again I7 n7
    | brk => obtain ⟨σ7, H7, I7, q7⟩ := q7; exact ⟨σ7, H7, I7.unpinned, q7⟩
    | ret v => obtain ⟨x7, σ7, H7, I7, r7, q7⟩ := q7; exact ⟨x7, σ7, H7, I7.unpinned, r7, q7⟩
end
end L2
namespace L2
open PySem PySem.Spec PyProof.Rows
noncomputable abbrev R2 := V → V → Hp → VK → Prop
noncomputable def OpR (X : Cx) (f : Value → Value → Sem Value) (r : R2) : Prop :=
  ∀ (pins : List (Addr × Obj)) (s : Shared) (σ : St) (H : Hp) (x y : V) (v u : Value) (Q : VK), Inv X pins σ H s → RelV x v → RelV y u → r x y H Q →
    wpAny (model X.prog X.w) X.A (f v u) (EP X pins σ Q) X.xe s
noncomputable def UnR (X : Cx) (f : Value → Sem Value) (r : V → Hp → VK → Prop) : Prop :=
  ∀ (pins : List (Addr × Obj)) (s : Shared) (σ : St) (H : Hp) (x : V) (v : Value) (Q : VK), Inv X pins σ H s → RelV x v → r x H Q →
    wpAny (model X.prog X.w) X.A (f v) (EP X pins σ Q) X.xe s
noncomputable def CallR (X : Cx) (f : Value) (r : List V → Hp → VK → Prop) : Prop :=
  ∀ (pins : List (Addr × Obj)) (s : Shared) (σ : St) (H : Hp) (xs : List V) (us : List Value) (Q : VK), Inv X pins σ H s → Vals xs us → r xs H Q →
    wpAny (model X.prog X.w) X.A (call f us) (EP X pins σ Q) X.xe s
noncomputable def tOp (r : R2) (ta tb : TE) : TE := fun σ H Q => ta σ H fun x H1 => tb σ H1 fun y H2 => r x y H2 Q
noncomputable def tUn (r : V → Hp → VK → Prop) (ta : TE) : TE := fun σ H Q => ta σ H fun x H1 => r x H1 Q
noncomputable def rI (C : Int → Int → Prop) (g : Int → Int → V) : R2 := fun x y H Q => ∃ i j, x = .int i ∧ y = .int j ∧ C i j ∧ Q (g i j) H
noncomputable def rI0 (g : Int → Int → V) : R2 := fun x y H Q => ∃ i j, x = .int i ∧ y = .int j ∧ Q (g i j) H
noncomputable def rU (g : Int → V) : V → Hp → VK → Prop := fun x H Q => ∃ i, x = .int i ∧ Q (g i) H
noncomputable section
variable {X : Cx} {a b c : Expr} {ta tb tc : TE} {pos : Pos}
theorem binT (ha : PE X a ta) (hb : PE X b tb) {pins : List (Addr × Obj)} {s : Shared} {σ : St} {H : Hp} {R : V → V → Hp → Prop} (I : Inv X pins σ H s)
    (h : ta σ H fun x H1 => tb σ H1 fun y H2 => R x y H2) {Q : Value → Shared → Prop} {f : Value → Value → Sem Value}
    (hf : ∀ v u s2 x y H2, Inv X pins σ H2 s2 → RelV x v → RelV y u → R x y H2 → wpAny (model X.prog X.w) X.A (f v u) Q X.xe s2) :
    wpAny (model X.prog X.w) X.A (eval a X.env) (fun v s₁ => wpAny (model X.prog X.w) X.A (eval b X.env) (fun u s₂ => wpAny (model X.prog X.w) X.A (f v u) Q X.xe s₂) X.xe s₁) X.xe s := by
  refine thn (ha pins s σ H _ I h) fun v s1 ⟨x, H1, I1, r1, q1⟩ => ?_
  refine thn (hb pins s1 σ H1 _ I1 q1) fun u s2 ⟨y, H2, I2, r2, q2⟩ => ?_
  exact hf v u s2 x y H2 I2 r1 r2 q2
theorem pe_op {op : Operator} {r : R2} (ho : OpR X (binaryOp op) r) (ha : PE X a ta) (hb : PE X b tb) : PE X (.BinOp a op b pos) (tOp r ta tb) := by
  intro pins s σ H Q I h
  exact wpAny_BinOp (binT ha hb I h fun v u s2 x y H2 I2 rx ry q => ho pins s2 σ H2 x y v u Q I2 rx ry q)
theorem pe_un {op : UnaryOp} {r : V → Hp → VK → Prop} (ho : UnR X (unaryOp op) r) (ha : PE X a ta) : PE X (.UnaryOp op a pos) (tUn r ta) := by
  intro pins s σ H Q I h
  exact UnaryOp_ (thn (ha pins s σ H _ I h) fun v s1 ⟨x, H1, I1, r1, q1⟩ => ho pins s1 σ H1 x v Q I1 r1 q1)
theorem opI {f : Value → Value → Sem Value} {C : Int → Int → Prop} {g : Int → Int → Int}
    (rule : ∀ (i j : Int) (t u : Tok) (s : Shared) (Q : Value → Shared → Prop) (E : Value → Shared → Prop), C i j → Q (.int (g i j) s.toks) { s with toks := s.toks + 1 } → wpAny (model X.prog X.w) X.A (f (.int i t) (.int j u)) Q E s) :
    OpR X f (rI C fun i j => .int (g i j)) := by
  intro pins s σ H x y v u Q I rx ry h
  obtain ⟨i, j, rfl, rfl, hc, q⟩ := h
  obtain ⟨t, rfl⟩ := rx
  obtain ⟨t', rfl⟩ := ry
  exact rule i j t t' s _ _ hc ⟨.int (g i j), H, I.tok _, ⟨_, rfl⟩, q⟩
theorem opI0 {f : Value → Value → Sem Value} {g : Int → Int → Int}
    (rule : ∀ (i j : Int) (t u : Tok) (s : Shared) (Q : Value → Shared → Prop) (E : Value → Shared → Prop), Q (.int (g i j) s.toks) { s with toks := s.toks + 1 } → wpAny (model X.prog X.w) X.A (f (.int i t) (.int j u)) Q E s) :
    OpR X f (rI0 fun i j => .int (g i j)) := by
  intro pins s σ H x y v u Q I rx ry h
  obtain ⟨i, j, rfl, rfl, q⟩ := h
  obtain ⟨t, rfl⟩ := rx
  obtain ⟨t', rfl⟩ := ry
  exact rule i j t t' s _ _ ⟨.int (g i j), H, I.tok _, ⟨_, rfl⟩, q⟩
theorem opB0 {f : Value → Value → Sem Value} {g : Int → Int → Bool}
    (rule : ∀ (i j : Int) (t u : Tok) (s : Shared) (Q : Value → Shared → Prop) (E : Value → Shared → Prop), Q (.bool (g i j)) s → wpAny (model X.prog X.w) X.A (f (.int i t) (.int j u)) Q E s) :
    OpR X f (rI0 fun i j => .bl (g i j)) := by
  intro pins s σ H x y v u Q I rx ry h
  obtain ⟨i, j, rfl, rfl, q⟩ := h
  obtain ⟨t, rfl⟩ := rx
  obtain ⟨t', rfl⟩ := ry
  exact rule i j t t' s _ _ ⟨.bl (g i j), H, I, rfl, q⟩
noncomputable def CPow (i j : Int) : Prop := 0 ≤ j ∧ j ≤ 1000000 ∧ i.natAbs < 2 ^ 64
noncomputable def CMul (i j : Int) : Prop := (-(2 ^ 64) < i ∧ i < 2 ^ 64) ∨ (-(2 ^ 64) < j ∧ j < 2 ^ 64)
theorem CMul.ok {i j : Int} (h : CMul i j) : IntMulOk i j := by
  rcases h with ⟨h1, h2⟩ | ⟨h1, h2⟩
  · exact .of_left (intBits_le_64 h1 h2)
  · exact .of_right (intBits_le_64 h1 h2)
theorem op_add : OpR X (binaryOp .Add) (rI0 fun i j => .int (i + j)) := opI0 fun _ _ _ _ _ _ _ q => add_int q
theorem op_sub : OpR X (binaryOp .Sub) (rI0 fun i j => .int (i - j)) := opI0 fun _ _ _ _ _ _ _ q => sub_int q
theorem op_mul : OpR X (binaryOp .Mult) (rI CMul fun i j => .int (i * j)) := opI fun _ _ _ _ _ _ _ hc q => mul_int q hc.ok
theorem op_mod : OpR X (binaryOp .Mod) (rI (fun _ j => 0 < j) fun i j => .int (i % j)) := opI fun i j _ _ _ _ _ hc q => by
  have h1 : (0 : Int) < j := hc
  exact mod_int' (by omega) (by rw [Int.fmod_eq_emod_of_nonneg i (by omega)]; exact q)
theorem op_pow : OpR X (binaryOp .Pow) (rI CPow fun i j => .int (i ^ j.toNat)) := opI fun _ _ _ _ _ _ _ hc q => pow_int_small hc.1 hc.2.1 hc.2.2 q
theorem unI {f : Value → Sem Value} {g : Int → Int}
    (rule : ∀ (i : Int) (t : Tok) (s : Shared) (Q : Value → Shared → Prop) (E : Value → Shared → Prop), Q (.int (g i) s.toks) { s with toks := s.toks + 1 } → wpAny (model X.prog X.w) X.A (f (.int i t)) Q E s) :
    UnR X f (rU fun i => .int (g i)) := by
  intro pins s σ H x v Q I rx h
  obtain ⟨i, rfl, q⟩ := h
  obtain ⟨t, rfl⟩ := rx
  exact rule i t s _ _ ⟨.int (g i), H, I.tok _, ⟨_, rfl⟩, q⟩
theorem un_neg : UnR X (unaryOp .USub) (rU fun i => .int (-i)) := unI fun _ _ _ _ _ q => neg_int q
end
noncomputable section
variable {X : Cx} {a b c : Expr} {ta tb tc : TE} {pos : Pos}
theorem fin_bl {pins : List (Addr × Obj)} {σ : St} {H : Hp} {s : Shared} {Q : VK} {k k' : Bool} (I : Inv X pins σ H s) (q : Q (.bl k) H) (e : k = k') : EP X pins σ Q (.bool k') s := by
  subst e
  exact ⟨.bl k, H, I, rfl, q⟩
theorem op_lt : OpR X (compareOp .Lt) (rI0 fun i j => .bl (decide (i < j))) := opB0 fun _ _ _ _ _ _ _ q => lt_int q
theorem op_le : OpR X (compareOp .LtE) (rI0 fun i j => .bl (decide (i ≤ j))) := opB0 fun _ _ _ _ _ _ _ q => le_int q
theorem op_gt : OpR X (compareOp .Gt) (rI0 fun i j => .bl (decide (j < i))) := opB0 fun _ _ _ _ _ _ _ q => gt_int q
theorem op_isN : OpR X (compareOp .Is) (fun x y H Q => y = .non ∧ Q (.bl (decide (x = .non))) H) := by
  intro pins s σ H x y v u Q I rx ry h
  obtain ⟨rfl, q⟩ := h
  cases ry
  refine is_none_gen (fin_bl I q ?_)
  cases x <;> first
    | (cases rx; rfl)
    | (obtain ⟨t, rfl⟩ := rx; rfl)
theorem OpR.or {f : Value → Value → Sem Value} {r r' : R2} (h : OpR X f r) (h' : OpR X f r') : OpR X f (fun x y H Q => r x y H Q ∨ r' x y H Q) := by
  intro pins s σ H x y v u Q I rx ry q
  rcases q with q | q
  · exact h pins s σ H x y v u Q I rx ry q
  · exact h' pins s σ H x y v u Q I rx ry q
theorem nomark (b : Expr) {op : CmpOp} (h : op ≠ .In := by decide) (h2 : op ≠ .NotIn := by decide) : behindInMarks op b = false := by
  have e1 : (op == CmpOp.In) = false := by cases op <;> first | rfl | exact absurd rfl h
  have e2 : (op == CmpOp.NotIn) = false := by cases op <;> first | rfl | exact absurd rfl h2
  cases b <;> simp [behindInMarks, e1, e2]
theorem pe_cmpR {op : CmpOp} {r : R2} (ho : OpR X (compareOp op) r) (ha : PE X a ta) (hb : PE X b tb) (hm : behindInMarks op b = false) : PE X (.Compare a [op] [b] pos) (tOp r ta tb) := by
  intro pins s σ H Q I h
  exact wpAny_Compare1 (binT ha hb I h fun v u s2 x y H2 I2 rx ry q => ho pins s2 σ H2 x y v u Q I2 rx ry q) hm
noncomputable def tTest (t : TE) : TT := fun σ H Q => t σ H fun x H' => ∃ k, x = .bl k ∧ Q k H'
theorem pt_cmpR {op : CmpOp} {r : R2} (ho : OpR X (compareOp op) r) (ha : PE X a ta) (hb : PE X b tb) (hm : behindInMarks op b = false) : PT X (.Compare a [op] [b] pos) (tTest (tOp r ta tb)) := by
  intro pins s σ H Q I h
  refine wpAny_isTrue_Compare1 (thn (ha pins s σ H _ I h) fun v s1 ⟨x, H1, I1, r1, q1⟩ => thn (hb pins s1 σ H1 _ I1 q1) fun u s2 ⟨y, H2, I2, r2, q2⟩ =>
    thn (ho pins s2 σ H2 x y v u _ I2 r1 r2 q2) fun c s3 ⟨z, H3, I3, r3, k, e, q3⟩ => ?_) hm
  subst e
  cases r3
  exact wpAny_truthy_bool ⟨H3, I3, q3⟩
theorem line63 : (sizeLine : Nat) < 2 ^ 63 := by rw [sizeLine_eq]; decide
theorem op_add_str : OpR X (binaryOp .Add) (fun x y H Q => ∃ i j, x = .str i ∧ y = .str j ∧ i.length + j.length ≤ sizeLine ∧ Q (.str (i ++ j)) H) := by
  intro pins s σ H x y v u Q I rx ry h
  obtain ⟨i, j, rfl, rfl, hz, q⟩ := h
  obtain ⟨t, rfl⟩ := rx
  obtain ⟨t', rfl⟩ := ry
  exact add_str (fun t' tk => ⟨.str (i ++ j), H, I.tok _, ⟨_, rfl⟩, q⟩) hz
theorem vals1 {x : V} {us : List Value} (r : Vals [x] us) : ∃ u, us = [u] ∧ RelV x u := by
  cases r with
  | cons r1 r2 => cases r2; exact ⟨_, rfl, r1⟩
theorem call_int1 : CallR X (.type "int") (fun xs H Q => (∃ i, xs = [.int i] ∧ Q (.int i) H) ∨ ∃ k, xs = [.bl k] ∧ Q (.int (if k then 1 else 0)) H) := by
  intro pins s σ H xs us Q I r h
  rcases h with ⟨i, rfl, q⟩ | ⟨k, rfl, q⟩
  · obtain ⟨u, rfl, t, rfl⟩ := vals1 r
    exact call_int_int ⟨.int i, H, I, ⟨_, rfl⟩, q⟩
  · obtain ⟨u, rfl, r1⟩ := vals1 r
    cases r1
    exact call_int_bool ⟨.int (if k then 1 else 0), H, I.tok _, ⟨_, rfl⟩, q⟩
end
end L2
namespace L2
open PySem PySem.Spec PyProof.Rows
structure ObjM (h : Heap) (x dx C : Addr) (mA : Str → Option Value) : Prop where
  obj : h.get? x = some (PySem.W.instObj C dx)
  ns : h.Ns1 dx mA
  ne : dx ≠ x
theorem lookIn_ns {h : Heap} {dx : Addr} {mA : Str → Option Value} (n : h.Ns1 dx mA) : ∃ od, h.get? dx = some od ∧ ∀ name, PySem.W.lookIn name od = some (mA name) := by
  obtain ⟨o, es, ep, ho, hd, hk, _, hm⟩ := n
  refine ⟨o, ho, fun name => ?_⟩
  have e := hm name
  unfold nsFind findBy at e
  rw [← Array.find?_toList] at e
  unfold PySem.W.lookIn
  rw [hd]
  dsimp only
  split
  · rename_i y q
    rw [q] at e
    exact congrArg some e
  · rename_i q
    rw [q] at e
    have a : es.toList.any (·.refKey) = false := by
      rw [List.any_eq_false]
      intro y hy
      obtain ⟨z, t, hkey⟩ := hk y (Array.mem_toList_iff.mp hy)
      simp [DictEntry.refKey, hkey]
    have a' : ¬ es.toList.any (·.refKey) = true := by rw [a]; exact Bool.false_ne_true
    rw [if_neg a']
    exact congrArg some e
theorem ObjM.look {h : Heap} {x dx C : Addr} {mA : Str → Option Value} (I : ObjM h x dx C mA) : ∃ od, PySem.W.InstAt h x (PySem.W.instObj C dx) C (some od) ∧ ∀ name, PySem.W.lookIn name od = some (mA name) :=
  let ⟨od, ho, hl⟩ := lookIn_ns I.ns
  ⟨od, ⟨I.obj, rfl, rfl, ho⟩, hl⟩
noncomputable section
variable {prog : Program} {w : World} {A : Around} {E : Value → Shared → Prop} {s : Shared} {K : PySem.W.Frag} {x dx C f : Addr} {mA : Str → Option Value} {name : Str} {v : Value}
end
theorem RelO.some_of {v : V} {o : Option Value} (r : RelO (some v) o) : ∃ u, o = some u ∧ RelV v u := by
  cases o with
  | none => exact (show False from r).elim
  | some u => exact ⟨u, rfl, r⟩
theorem RelO.none_of {o : Option Value} (r : RelO none o) : o = none := by
  cases o with
  | none => rfl
  | some u => exact (show False from r).elim
noncomputable section
variable {P : Program} {w : World} {H H' : Hp} {h h' : Heap} {a C dx : Addr} {fs fs' : List (Str × V)}
theorem ins_get (hok : HOk P w H h) (e : H a = some (.ins C dx fs)) : ∃ mA, ObjM h a dx C mA ∧ (∀ f, RelO (fs.lookup f) (mA f)) ∧ PySem.Within mA (fs.map (·.1)) ∧ fs.length ≤ 1000 ∧ H dx = some (.own a) := by
  obtain ⟨d, z, ne, ob, mA, n, r, q⟩ := (show ObjOk P w H h a (.ins C dx fs) from hok a _ e)
  exact ⟨mA, ⟨ob, n, ne⟩, r, q, z, d⟩
end
structure Cls (K : PySem.W.Frag) (C : Addr) : Prop where
  pg : PySem.W.plainGet K C Str.empty = true
  hd : PySem.W.hasDictIn K C = true
  po : PySem.W.plainOver K C = true
  sa : PySem.W.findIn K (.ref C) "__setattr__" = some (some (.builtin "object.__setattr__"))
theorem Cls.get {K : PySem.W.Frag} {C : Addr} (c : Cls K C) (f : Str) : PySem.W.plainGet K C f = true := c.pg
structure Con (K : PySem.W.Frag) (C : Addr) (f : Str) (v : V) (u : Value) : Prop where
  at_ : PySem.W.findIn K (.ref C) f = some (some u)
  rel : RelV v u
  get : PySem.W.specialIn K u "__get__" = some none
  cp : PySem.W.copiedNames.contains f = false
structure Meth (K : PySem.W.Frag) (C : Addr) (m : Str) (f : Addr) : Prop where
  at_ : PySem.W.findIn K (.ref C) m = some (some (.ref f))
  fn : PySem.W.isFn K (.ref f) = true
  kp : PySem.W.keepIn K (.ref f) = true
noncomputable section
variable {X : Cx} {pins : List (Addr × Obj)} {σ : St} {H : Hp} {s : Shared} {a C dx : Addr} {fs : List (Str × V)} {f : Str} {v : V} {A : Around} {E : Value → Shared → Prop}
end
noncomputable section
variable {X : Cx} {o e value : Expr} {f : Str} {pos pos' tpos : Pos} {ta tv : TE}
end
noncomputable section
variable {X : Cx} {pins : List (Addr × Obj)} {σ : St} {H : Hp} {s : Shared} {A : Around} {E : Value → Shared → Prop} {Q : Value → Shared → Prop} {c : Value} {b : Bool}
inductive TyOf (K : PySem.W.Frag) (H : Hp) : V → Value → Prop where
  | non : TyOf K H .non (.type "NoneType")
  | bl (x : Bool) : TyOf K H (.bl x) (.type "bool")
  | int (i : Int) : TyOf K H (.int i) (.type "int")
  | str (x : Str) : TyOf K H (.str x) (.type "str")
  | flt (x : UInt64) : TyOf K H (.flt x) (.type "float")
  | lst {a : Addr} {xs : List V} (e : H a = some (.lst xs)) : TyOf K H (.ref a) (.type "list")
  | frz {a : Addr} {o : Obj} {xs : List V} (e : H a = some (.frz o (.lst xs))) : TyOf K H (.ref a) (.type "list")
  | tup {a : Addr} {xs : List V} (e : H a = some (.tup xs)) : TyOf K H (.ref a) (.type "tuple")
  | dK {a : Addr} {kvs : List (Key × V)} (e : H a = some (.dK kvs)) : TyOf K H (.ref a) (.type "dict")
  | dT {a : Addr} {kvs : List (List Key × V)} (e : H a = some (.dT kvs)) : TyOf K H (.ref a) (.type "dict")
  | ins {a C dx : Addr} {fs : List (Str × V)} (e : H a = some (.ins C dx fs)) (cl : Cls K C) (ha : PySem.W.findIn K (.ref C) "__class__" = some (some (.builtin "object.__class__")))
      (hn : PySem.W.specialIn K (.builtin "object.__class__") "__get__" = some (some (.builtin "getset_descriptor.__get__"))) (htk : PySem.W.takesIn K (.builtin "object.__class__") = some true)
      (hm : PySem.W.mroIn K C (.type "object") = some true) : TyOf K H (.ref a) (.ref C)
theorem isinst_ok {x : V} {u t : Value} (I : Inv X pins σ H s) (rx : RelV x u) (ty : TyOf X.K H x t) (e : PySem.W.kitOne X.K t c = some b) (h : ∀ tk, Q (.bool b) { s with toks := tk }) :
    wpAny (model X.prog X.w) A (call (.builtin "isinstance") [u, c]) Q E s := by
  cases ty with
  | non => cases (show u = Value.none from rx); exact PySem.W.kia_one PySem.W.kitx_none I.kIn True.intro e (fun z => nomatch z) h
  | bl y => cases (show u = Value.bool y from rx); exact PySem.W.kia_one PySem.W.kitx_bool I.kIn True.intro e (fun z => nomatch z) h
  | int i => obtain ⟨t, q⟩ := (show ∃ t, u = Value.int i t from rx); cases q; exact PySem.W.kia_one PySem.W.kitx_int I.kIn True.intro e (fun z => nomatch z) h
  | str y => obtain ⟨t, q⟩ := (show ∃ t, u = Value.str y t from rx); cases q; exact PySem.W.kia_one PySem.W.kitx_str I.kIn True.intro e (fun z => nomatch z) h
  | flt y => obtain ⟨t, q⟩ := (show ∃ t, u = Value.float y t from rx); cases q; exact PySem.W.kia_one PySem.W.kitx_float I.kIn True.intro e (fun z => nomatch z) h
  | @lst a xs ea =>
    cases (show u = Value.ref a from rx)
    obtain ⟨_, _, n, _, h1⟩ := (show ObjOk X.prog X.w H s.heap a (.lst xs) from I.hok a _ ea)
    exact PySem.W.kia_one PySem.W.kitx_list I.kIn ⟨_, h1, rfl⟩ e (fun z => nomatch z) h
  | @frz a ob xs ea =>
    cases (show u = Value.ref a from rx)
    obtain ⟨_, _, _, n, _, h1⟩ := (show ObjOk X.prog X.w H s.heap a (.frz ob (.lst xs)) from I.hok a _ ea)
    exact PySem.W.kia_one PySem.W.kitx_list I.kIn ⟨_, h1, rfl⟩ e (fun z => nomatch z) h
  | @tup a xs ea =>
    cases (show u = Value.ref a from rx)
    obtain ⟨_, _, _, p⟩ := (show ObjOk X.prog X.w H s.heap a (.tup xs) from I.hok a _ ea)
    obtain ⟨o, h1, h2, _⟩ := p
    exact PySem.W.kia_one PySem.W.kitx_tuple I.kIn ⟨o, h1, h2⟩ e (fun z => nomatch z) h
  | @dK a kvs ea =>
    cases (show u = Value.ref a from rx)
    obtain ⟨_, _, vs, _, p⟩ := (show ObjOk X.prog X.w H s.heap a (.dK kvs) from I.hok a _ ea)
    obtain ⟨o, es, ep, h1, h2, _⟩ := p
    exact PySem.W.kia_one PySem.W.kitx_dict I.kIn ⟨o, h1, h2.1⟩ e (fun z => nomatch z) h
  | @dT a kvs ea =>
    cases (show u = Value.ref a from rx)
    obtain ⟨_, _, xs, _, o, es, ep, h1, h2, _⟩ := (show ObjOk X.prog X.w H s.heap a (.dT kvs) from I.hok a _ ea)
    exact PySem.W.kia_one PySem.W.kitx_dict I.kIn ⟨o, h1, h2.1⟩ e (fun z => nomatch z) h
  | @ins a C dx fs ea cl ha hn htk hm =>
    cases (show u = Value.ref a from rx)
    obtain ⟨mA, O, _⟩ := ins_get I.hok ea
    obtain ⟨od, J, _⟩ := O.look
    exact PySem.W.kia_one (PySem.W.kitx_own (cl.get _) cl.hd ha hn htk hm) I.kIn J e (fun z => nomatch z) h
end
end L2
namespace L2
open PySem PySem.Spec PyProof.Rows
structure Room (k : Nat) (A : Around) : Prop where
  hd : A.handled = none
  dp : A.depth + 3 * k + 5 < recursionLimit
  un : A.units + 16 * k + 200 < cLine
theorem Room.mono {j k : Nat} {A : Around} (r : Room k A) (h : j ≤ k) : Room j A := ⟨r.hd, by have := r.dp; omega, by have := r.un; omega⟩
theorem Room.deeper {k : Nat} {A : Around} (r : Room (k + 1) A) (env : Env) : Room k (A.deeper env) :=
  ⟨r.hd, by have := r.dp; show A.depth + 1 + 3 * k + 5 < _; omega, by have := r.un; show A.units + 3 + 16 * k + 200 < _; omega⟩
theorem Room.depth {k : Nat} {A : Around} (r : Room k A) : A.depth < recursionLimit := by have := r.dp; omega
theorem Room.units {k : Nat} {A : Around} (r : Room k A) : A.units + 64 < cLine := by have := r.un; omega
noncomputable def tNil : TA := fun _ H Q => Q [] H
noncomputable def tCons (ta : TE) (tr : TA) : TA := fun σ H Q => ta σ H fun x H1 => tr σ H1 fun xs H2 => Q (x :: xs) H2
noncomputable section
variable {X : Cx} {e : Expr} {es : List Expr} {te : TE} {t : TA} {pos : Pos}
theorem pa_nil : PA X [] tNil := fun _ _ _ _ H Q I h => Calls.spliced_nil ⟨[], H, I, .nil, h⟩
theorem pa_cons (ha : PE X e te) (hr : PA X es t) (hs : starEach (e :: es) X.env = (false, eval e X.env) :: starEach es X.env := by rfl) : PA X (e :: es) (tCons te t) := by
  intro pos pins s σ H Q I h
  rw [hs]
  show wpAny _ _ (spliced ((false, eval e X.env) :: backTo pos (starEach es X.env))) _ _ s
  refine Calls.spliced_cons (thn (ha pins s σ H _ I h) fun u s1 ⟨x, H1, I1, r1, q1⟩ => ?_)
  exact thn (hr pos pins s1 σ H1 _ I1 q1) fun us s2 ⟨xs, H2, I2, r2, q2⟩ => ⟨x :: xs, H2, I2, .cons r1 r2, q2⟩
noncomputable def tTup (t : TA) : TE := fun σ H Q => t σ H fun xs H1 => xs.length ≤ sizeLine ∧ ∀ p, H1 p = none → Q (.ref p) (upd H1 p (.tup xs))
noncomputable def tLst (t : TA) : TE := fun σ H Q => t σ H fun xs H1 => xs.length ≤ sizeLine ∧ ∀ p, H1 p = none → Q (.ref p) (upd H1 p (.lst xs))
theorem pe_tup {x1} (h : PA X es t) : PE X (.Tuple es x1 pos) (tTup t) := by
  intro pins s σ H Q I hq
  refine wpAny_Tuple_spliced (thn (h pos pins s σ H _ I hq) fun us s1 ⟨xs, H1, I1, r, z, q⟩ => ⟨by rw [← r.length]; exact z, ?_⟩)
  have hf : H1 s1.heap.objs.size = none := I1.hok.fresh (Nat.le_refl _)
  refine ⟨.ref s1.heap.objs.size, upd H1 s1.heap.objs.size (.tup xs), I1.laid (t' := s1.toks) (fun b u e => Heap.get?_push_of_some _ e) (Nat.le_refl _) ?_, rfl, q _ hf⟩
  exact ⟨z, us, r, ⟨_, Heap.get?_push_size _ rfl, rfl, rfl, _, rfl⟩⟩
theorem pe_lst (h : PA X es t) : PE X (.List es pos) (tLst t) := by
  intro pins s σ H Q I hq
  refine wpAny_List_spliced (thn (h pos pins s σ H _ I hq) fun us s1 ⟨xs, H1, I1, r, z, q⟩ => ⟨by rw [← r.length]; exact z, ?_⟩)
  have hf : H1 s1.heap.objs.size = none := I1.hok.fresh (Nat.le_refl _)
  refine ⟨.ref s1.heap.objs.size, upd H1 s1.heap.objs.size (.lst xs), I1.laid (t' := s1.toks) (fun b u e => Heap.get?_push_of_some _ e) (Nat.le_refl _) ?_, rfl, q _ hf⟩
  exact ⟨z, us, 0, r, Heap.get?_push_size _ rfl⟩
end
noncomputable abbrev Sp := List V → Hp → VK → XK → Prop
noncomputable abbrev CXT := List Env → Hp → Shared → XK → Value → Shared → Prop
structure Env0 (P : Program) (w : World) (K : PySem.W.Frag) (mg : Str → Option Value) (base : Heap) (A : Around) (outer : List Env) (s : Shared) (H : Hp) : Prop where
  frames : A.frames = some outer
  mod : Mod K mg base
  bs : ∀ b o, base.get? b = some o → s.heap.get? b = some o ∧ H b = none
  bsz : base.objs.size ≤ s.heap.objs.size
  funs : s.heap.FunFrames base outer
  frf : ∀ b ∈ frs outer, H b = none
  hok : HOk P w H s.heap
  bare : AllBare s.gens
noncomputable def CE (outer : List Env) (P : Program) (w : World) (H : Hp) (s : Shared) (Q : VK) (u : Value) (s' : Shared) : Prop :=
  ∃ v H', s'.os = s.os ∧ AllBare s'.gens ∧ Un (frs outer) [] H H' s.heap s'.heap ∧ HOk P w H' s'.heap ∧ RelV v u ∧ Q v H'
noncomputable def CR (CX : CXT) (outer : List Env) (P : Program) (w : World) (H : Hp) (s : Shared) (Q : VK) (E : XK) (r : Result) (s' : Shared) : Prop :=
  match r with
  | .ok (.ret u) => CE outer P w H s Q u s'
  | .ok _ => False
  | .error e => CX outer H s E e s'
structure FnOk (P : Program) (w : World) (K : PySem.W.Frag) (mg : Str → Option Value) (base : Heap) (CX : CXT) (k : Nat) (f : Addr) (fd : FuncData) (ps : List Str) (sp : Sp) : Prop where
  len : ∀ vs H Q E, sp vs H Q E → vs.length = ps.length
  run : ∀ (A : Around) (outer : List Env) (s : Shared) (H : Hp) (args : Args) (us : List Value) (vs : List V) (Q : VK) (E : XK), Room k A → Env0 P w K mg base A outer s H → BindsTo s fd args (ps.zip us) → Vals vs us → sp vs H Q E →
    codeAny (model P w) A (.call (.ref f) args) (CR CX outer P w H s Q E) s
theorem FnOk.mono {P : Program} {w : World} {K : PySem.W.Frag} {mg : Str → Option Value} {base : Heap} {CX : CXT} {j k : Nat} {f : Addr} {fd : FuncData} {ps : List Str} {sp : Sp} (F : FnOk P w K mg base CX j f fd ps sp) (h : j ≤ k) :
    FnOk P w K mg base CX k f fd ps sp := ⟨F.len, fun A outer s H args us vs Q E hr => F.run A outer s H args us vs Q E (hr.mono h)⟩
theorem FnOk.imp {P : Program} {w : World} {K : PySem.W.Frag} {mg : Str → Option Value} {base : Heap} {CX : CXT} {k : Nat} {f : Addr} {fd : FuncData} {ps : List Str} {sp sp' : Sp} (F : FnOk P w K mg base CX k f fd ps sp)
    (h : ∀ vs H Q E, sp' vs H Q E → sp vs H Q E) : FnOk P w K mg base CX k f fd ps sp' :=
  ⟨fun vs H Q E q => F.len vs H Q E (h _ _ _ _ q), fun A outer s H args us vs Q E hr he hb hv hs => F.run A outer s H args us vs Q E hr he hb hv (h _ _ _ _ hs)⟩
noncomputable section
variable {X : Cx} {pins : List (Addr × Obj)} {σ : St} {H : Hp} {s s' : Shared}
theorem Inv.env0 (I : Inv X pins σ H s) : Env0 X.prog X.w X.K X.mg X.base X.A X.stack s H :=
  ⟨I.ok.frames, I.ok.mod, I.bs, Nat.le_trans I.ok.bsz I.sz, I.stack, I.stkFree, I.hok, I.bare⟩
theorem Inv.after {Q : VK} {u : Value} (I : Inv X pins σ H s) (h : CE X.stack X.prog X.w H s Q u s') : EP X pins σ Q u s' := by
  obtain ⟨v, H', os, bare, un, hok, r, q⟩ := h
  obtain ⟨hh, g, d, t, os'⟩ := s'
  obtain rfl : os' = s.os := os
  exact ⟨v, H', I.call (h' := hh) (g' := g) (d' := d) (t' := t) (ch := []) un hok bare (fun b z => absurd z (by simp)), r, q⟩
end
noncomputable def tCall (sp : Sp) (dvs : List V) (E : XK) (t : TA) : TE := fun σ H Q => t σ H fun vs H1 => sp (vs ++ dvs) H1 Q E
noncomputable def Binds (K : PySem.W.Frag) (fd : FuncData) (ps : List Str) (ds : List Value) : Prop :=
  ∀ (s : Shared) (us : List Value), K.In s.heap → (us ++ ds).length = ps.length → BindsTo s fd ⟨us, []⟩ (ps.zip (us ++ ds))
theorem Binds.all {K : PySem.W.Frag} {fd : FuncData} {ps : List Str} (h : ∀ us : List Value, us.length = ps.length → bindArgs fd ⟨us, []⟩ = pure (ps.zip us)) : Binds K fd ps [] := fun s us _ hl => by
  rw [List.append_nil] at hl ⊢
  exact .of_eq (h us hl)
noncomputable def Passes (CX : CXT) (X : Cx) (E : XK) : Prop := ∀ (pins : List (Addr × Obj)) (σ : St) (H : Hp) (s : Shared) (e : Value) (s' : Shared), Inv X pins σ H s → CX X.stack H s E e s' → X.xe e s'
noncomputable section
variable {X : Cx} {CX : CXT} {k : Nat} {f C : Addr} {fd : FuncData} {ps : List Str} {sp : Sp} {dvs : List V} {ds : List Value} {E : XK} {x m : Str} {p pos apos : Pos} {e o : Expr} {es : List Expr} {ta : TE} {t : TA}
theorem run_fn {pins : List (Addr × Obj)} {σ : St} {H : Hp} {s : Shared} {Q : VK} {us : List Value} {vs : List V} (F : FnOk X.prog X.w X.K X.mg X.base CX k f fd ps sp) (hr : Room k X.A) (hb : Binds X.K fd ps ds) (hd : Vals dvs ds) (hx : Passes CX X E)
    (I : Inv X pins σ H s) (r : Vals vs us) (h : sp (vs ++ dvs) H Q E) : wpAny (model X.prog X.w) X.A (call (.ref f) us) (EP X pins σ Q) X.xe s := by
  have r2 : Vals (vs ++ dvs) (us ++ ds) := r.append hd
  have hl : (us ++ ds).length = ps.length := by rw [← r2.length]; exact F.len _ _ _ _ h
  refine wpAny_call (codeAny_mono (F.run X.A X.stack s H ⟨us, []⟩ (us ++ ds) (vs ++ dvs) Q E hr I.env0 (hb s us I.kIn hl) r2 h) fun r s' hq => ?_)
  cases r with
  | error e => exact hx pins σ H s e s' I hq
  | ok fl =>
    cases fl with
    | ret u => exact I.after hq
    | next => exact False.elim hq
    | brk => exact False.elim hq
    | cont => exact False.elim hq
theorem pe_call (F : FnOk X.prog X.w X.K X.mg X.base CX k f fd ps sp) (hr : Room k X.A) (hg : Gl X x) (hm : X.mg x = some (.ref f)) (hk : PySem.W.keepIn X.K (.ref f) = true) (hb : Binds X.K fd ps ds) (hd : Vals dvs ds) (hx : Passes CX X E)
    (ha : PA X (e :: es) t) (hdb : (x == ("__debug__" : Str)) = false := by decide) (he : starEach (e :: es) X.env = (false, eval e X.env) :: starEach es X.env := by rfl) (hpl : (backTo pos (starEach es X.env)).any (·.1) = false := by rfl) :
    PE X (.Call (.Name x p) (e :: es) [] pos) (tCall sp dvs E t) := by
  intro pins s σ H Q I h
  refine wpAny_Call_Name_kw (ld_glob I hg hm ?_ hdb)
  refine PySem.W.callWith_K (h₀ := X.base) I.ok.mod.kin hk (thn (ha pos pins s σ H _ I h) fun us s1 ⟨vs, H1, I1, r, q⟩ => ⟨I1.kIn, ?_⟩) he hpl
  exact run_fn F hr hb hd hx I1 r q
structure Mk (K : PySem.W.Frag) (C f : Addr) : Prop where
  makes : PySem.W.makesIn K C = true
  init : PySem.W.findIn K (.ref C) "__init__" = some (some (.ref f))
  fn : PySem.W.isFn K (.ref f) = true
  kp : PySem.W.keepIn K (.ref C) = true
end
noncomputable section
variable {X : Cx} {CX : CXT} {k : Nat} {f C : Addr} {fd : FuncData} {ps ks : List Str} {sp : Sp} {E : XK} {x m : Str} {p pos apos kpos : Pos} {e o : Expr} {es : List Expr} {kws : List Keyword} {te ta : TE} {t tk : TA} {nm : Option Str}
structure KBinds (K : PySem.W.Frag) (fd : FuncData) (ps ks : List Str) (g : List Value → List Value → List Value) (gV : List V → List V → List V) : Prop where
  to : ∀ (s : Shared) (us ws : List Value), K.In s.heap → (g us ws).length = ps.length → BindsTo s fd ⟨us, ks.zip ws⟩ (ps.zip (g us ws))
  rel : ∀ {vs : List V} {us : List Value} {zs : List V} {ws : List Value}, Vals vs us → Vals zs ws → Vals (gV vs zs) (g us ws)
variable {g : List Value → List Value → List Value} {gV : List V → List V → List V}
end
structure FnScope (N P : List Str) (sc : Scope) : Prop where
  kind : sc.kind = .function
  co : sc.isCoroutine = false
  gen : sc.isGenerator = false
  nd : N.Nodup
  pre : N.take P.length = P
  par : ∀ x ∈ P, sc.names.lookup x = some .local ∨ sc.names.lookup x = some .cell
  nofree : ∀ y ∈ sc.names, y.2 ≠ .free
theorem bindL_out {kindOf : Str → Option NameKind} {x : Str} : ∀ {binds : List (Str × Value)} {m : Str → Option Value}, (∀ v, (x, v) ∉ binds) → bindL kindOf binds m x = m x
  | [], _, _ => rfl
  | (n, v) :: r, m, h => by
    unfold bindL
    rw [bindL_out fun w hw => h w (List.mem_cons_of_mem _ hw)]
    split
    · have : x ≠ n := by rintro rfl; exact h v List.mem_cons_self
      simp [this]
    · rfl
theorem bindC_out {kindOf : Str → Option NameKind} {x : Str} : ∀ {binds : List (Str × Value)} {m : Str → Option Value}, (∀ v, (x, v) ∉ binds) → bindC kindOf binds m x = m x
  | [], _, _ => rfl
  | (n, v) :: r, m, h => by
    unfold bindC
    rw [bindC_out fun w hw => h w (List.mem_cons_of_mem _ hw)]
    split
    · rfl
    · have : x ≠ n := by rintro rfl; exact h v List.mem_cons_self
      simp [this]
theorem bindL_get {kindOf : Str → Option NameKind} {x : Str} {v : Value} : ∀ {P : List Str} {vs : List Value} {i : Nat} {m : Str → Option Value}, P.Nodup → P[i]? = some x → vs[i]? = some v → kindOf x = some .local →
    bindL kindOf (P.zip vs) m x = some v
  | [], _, _, _, _, h, _, _ => by simp at h
  | _ :: _, [], _, _, _, _, h, _ => by simp at h
  | p :: P, w :: vs, 0, m, nd, h1, h2, hk => by
    simp at h1 h2; subst h1; subst h2
    show bindL kindOf ((p, w) :: P.zip vs) m p = _
    unfold bindL
    rw [bindL_out fun v hv => (List.nodup_cons.mp nd).1 (List.of_mem_zip hv).1, if_pos hk]
    simp
  | p :: P, w :: vs, i + 1, m, nd, h1, h2, hk => by
    show bindL kindOf ((p, w) :: P.zip vs) m x = _
    unfold bindL
    exact bindL_get (i := i) (List.nodup_cons.mp nd).2 (by simpa using h1) (by simpa using h2) hk
theorem bindC_get {kindOf : Str → Option NameKind} {x : Str} {v : Value} : ∀ {P : List Str} {vs : List Value} {i : Nat} {m : Str → Option Value}, P.Nodup → P[i]? = some x → vs[i]? = some v → kindOf x ≠ some .local →
    bindC kindOf (P.zip vs) m x = some v
  | [], _, _, _, _, h, _, _ => by simp at h
  | _ :: _, [], _, _, _, _, h, _ => by simp at h
  | p :: P, w :: vs, 0, m, nd, h1, h2, hk => by
    simp at h1 h2; subst h1; subst h2
    show bindC kindOf ((p, w) :: P.zip vs) m p = _
    unfold bindC
    rw [bindC_out fun v hv => (List.nodup_cons.mp nd).1 (List.of_mem_zip hv).1, if_neg hk]
    simp
  | p :: P, w :: vs, i + 1, m, nd, h1, h2, hk => by
    show bindC kindOf ((p, w) :: P.zip vs) m x = _
    unfold bindC
    exact bindC_get (i := i) (List.nodup_cons.mp nd).2 (by simpa using h1) (by simpa using h2) hk
noncomputable def start (N : List Str) (vs : List V) : St := vs.map some ++ List.replicate (N.length - vs.length) none
noncomputable def cxOf (CX : CXT) (P : Program) (w : World) (K : PySem.W.Frag) (mg : Str → Option Value) (base : Heap) (N : List Str) (qual : Str) (scope : Scope) (f : Addr) (cd : Value) (A : Around) (outer : List Env) (s : Shared) (H : Hp) (E : XK) : Cx where
  prog := P
  w := w
  K := K
  mg := mg
  base := base
  A := A.deeper (envOfC qual scope s.heap.objs.size f cd)
  N := N
  s₀ := s
  H₀ := H
  env := envOfC qual scope s.heap.objs.size f cd
  outer := outer
  stack := envOfC qual scope s.heap.objs.size f cd :: outer
  ex := []
  calm := true
  fn := fun _ => true
  pn := []
  xe := fun e s' => wpAny (model P w) (A.deeper (envOfC qual scope s.heap.objs.size f cd)) (leaving (envOfC qual scope s.heap.objs.size f cd) e) (fun _ s'' => CX outer H s E e s'') (fun e' s'' => CX outer H s E e' s'') s'
theorem cell_has {sc : Scope} {n : Nat} {x : Str} (h : sc.names.lookup x = some .cell) : ∃ c, (cellsFrom n sc.names []).lookup x = some c := by
  have q := PySem.W.cellsFrom_some sc.names n [] (.inl h)
  exact Option.isSome_iff_exists.mp q
theorem inv_start {CX : CXT} {P : Program} {w : World} {K : PySem.W.Frag} {mg : Str → Option Value} {base : Heap} {N ps : List Str} {qual : Str} {scope : Scope} {f : Addr} {cd : Value} {A : Around} {outer : List Env} {s s1 : Shared} {H : Hp} {E : XK} {us : List Value} {vs : List V}
    (S : FnScope N ps scope) (hd : A.handled = none) (e0 : Env0 P w K mg base A outer s H) (hl : vs.length = ps.length) (r : Vals vs us)
    (x : InCallC s s.heap.objs.size (bindL (envOfC qual scope s.heap.objs.size f cd).kindOf (ps.zip us) fun _ => none) (cellsFrom (s.heap.objs.size + 1) scope.names []) (bindC (envOfC qual scope s.heap.objs.size f cd).kindOf (ps.zip us) fun _ => none) s1) :
    Inv (cxOf CX P w K mg base N qual scope f cd A outer s H E) [] (start N vs) H s1 := by
  have hpl : ps.length ≤ N.length := by have := congrArg List.length S.pre; rw [List.length_take] at this; omega
  obtain ⟨h1, tk, rfl, hk⟩ := x.done
  have noA : ∀ b : Addr, b ∉ (cxOf CX P w K mg base N qual scope f cd A outer s H E).ex := fun b z => absurd (show b ∈ ([] : List Addr) from z) (by simp)
  refine ⟨⟨e0.mod, S.kind, rfl, rfl, Nat.le_refl _, fun y z c h1 h2 => ?_, fun y hy => ?_, fun y c _ h => ?_, fun _ => hd, Around.frames_deeper e0.frames, .inr ⟨rfl, rfl⟩, fun b z => absurd z (noA b), e0.bs, e0.bsz, fun b _ _ => noA b, fun b z => absurd z (noA b), e0.funs, e0.frf⟩,
    rfl, e0.bare, Un.kept hk, ⟨_, x.toInCall.ns, fun i y v h1 h2 h3 => ?_⟩, fun y c h => ⟨_, x.cell y c h⟩, e0.hok.fresh (Nat.le_refl _), fun y c h => ?_, fun p hp => absurd (show p ∈ ([] : List (Addr × Obj)) from hp) (by simp), e0.hok.kept hk, ?_⟩
  · exact name_of_addr x.apart (PySem.mem_of_lookup h1) (PySem.mem_of_lookup h2)
  · have hy : scope.names.lookup y = some .cell ∨ scope.names.lookup y = some .free := hy
    rcases hy with hy | hy
    · exact cell_has hy
    · exact absurd rfl (S.nofree _ (PySem.mem_of_lookup hy))
  · exact Nat.le_of_lt (x.above y c (PySem.mem_of_lookup h))
  · have hi : i < vs.length := by
      unfold start at h2
      by_cases hi : i < vs.length
      · exact hi
      · rw [List.getElem?_append_right (by simpa using hi)] at h2
        rw [List.getElem?_replicate] at h2
        split at h2 <;> cases h2
    have ha : vs[i]? = some v := by
      unfold start at h2
      rw [List.getElem?_append_left (by simpa using hi), List.getElem?_map] at h2
      cases e : vs[i]? with
      | none => rw [e] at h2; cases h2
      | some a => rw [e] at h2; cases h2; rfl
    obtain ⟨u, hu, rv⟩ := r.get ha
    have hp : ps[i]? = some y := by
      rw [← S.pre, List.getElem?_take_of_lt (by omega)]; exact h1
    have ndP : ps.Nodup := by rw [← S.pre]; exact S.nd.sublist (List.take_sublist _ _)
    refine ⟨u, rv, ?_⟩
    rcases S.par y (List.mem_of_getElem? hp) with k | k
    · exact .inl ⟨k, bindL_get ndP hp hu k⟩
    · obtain ⟨c, e⟩ := cell_has (n := s.heap.objs.size + 1) k
      refine .inr ⟨.inl k, c, e, ?_⟩
      have q := x.cell y c e
      rw [bindC_get ndP hp hu (by show scope.names.lookup y ≠ _; rw [k]; decide)] at q
      exact q
  · exact e0.hok.fresh (Nat.le_of_lt (x.above y c (PySem.mem_of_lookup h)))
  · unfold start
    show _ = N.length
    rw [List.length_append, List.length_map, List.length_replicate]
    omega
theorem fn_of {CX : CXT} {P : Program} {w : World} {K : PySem.W.Frag} {mg : Str → Option Value} {base : Heap} {k : Nat} {f : Addr} {name qual : Str} {params : Arguments} {body : List Stmt} {scope : Scope} {dV kV doc pm cdv ct oc : Value} {an od : Option Addr}
    {osl : Array (Option Value)} {N ps : List Str} {sp : Sp} (lk : K.lookup f = some ⟨oc, od, .func (PySem.W.fnOf name qual params body scope dV kV doc pm an cdv ct), osl⟩) (hcd : PySem.W.codeIn K cdv qual = true) (S : FnScope N ps scope)
    (len : ∀ vs H Q E, sp vs H Q E → vs.length = ps.length)
    (hbody : ∀ (A : Around) (outer : List Env) (s : Shared) (H : Hp) (vs : List V) (Q : VK) (E : XK), Room k (A.deeper (envOfC qual scope s.heap.objs.size f cdv)) → sp vs H Q E →
      ∃ t, PSs (cxOf CX P w K mg base N qual scope f cdv A outer s H E) body t ∧ t { nx := fun _ H' => Q .non H', rt := Q } (start N vs) H) :
    FnOk P w K mg base CX (k + 1) f (PySem.W.fnOf name qual params body scope dV kV doc pm an cdv ct) ps sp := by
  refine ⟨len, fun A outer s H args us vs Q E hr e0 hb r hsp => ?_⟩
  have hl := len _ _ _ _ hsp
  have KX : K.In s.heap := e0.mod.kin.keeps fun b o e => (e0.bs b o e).1
  have lim : s.heap.NoLimit := e0.mod.nolimit.keeps fun b o e => (e0.bs b o e).1
  have hkind : ∀ y ∈ ps.zip us, scope.names.lookup y.1 = some .local ∨ (scope.names.lookup y.1 = some .cell ∧ ((cellsFrom (s.heap.objs.size + 1) scope.names []).lookup y.1).isSome = true) := fun ⟨n, v⟩ hy => by
    rcases S.par n (List.of_mem_zip hy).1 with q | q
    · exact .inl q
    · exact .inr ⟨q, PySem.W.cellsFrom_some _ _ _ (.inl q)⟩
  refine codeAny_call_function hr.depth (KX _ _ lk) rfl S.co S.gen rfl (PySem.W.codeRec_of KX hcd) (hb _ _ _ _ ?_)
  refine wpAny_newFunctionEnv_cells S.kind hkind fun env he s1 x => ?_
  subst he
  refine ⟨lim.keeps x.toInCall.keep, codeAny_func ?_⟩
  obtain ⟨t, ht, hq⟩ := hbody A outer s H vs Q E (hr.deeper _) hsp
  have I : Inv (cxOf CX P w K mg base N qual scope f cdv A outer s H E) [] (start N vs) H s1 := inv_start S hr.hd e0 hl r x
  refine wpAny_mono (ht [] s1 (start N vs) H _ I hq) (fun fl s' hs => ?_) fun e s' hs => hs
  have fin : ∀ {σ' : St} {H' : Hp} {v : V} {u : Value}, Inv (cxOf CX P w K mg base N qual scope f cdv A outer s H E) [] σ' H' s' → RelV v u → Q v H' → CE outer P w H s Q u s' :=
    fun {σ' H' v u} J rv q => ⟨v, H', J.os, J.bare, J.base, J.hok, rv, q⟩
  cases fl with
  | ret u =>
    obtain ⟨v, σ', H', J, rv, q⟩ := hs
    exact fin J rv q
  | next =>
    obtain ⟨σ', H', J, q⟩ := hs
    exact fin (v := V.non) (u := Value.none) J rfl q
  | brk =>
    obtain ⟨_, _, _, q⟩ := hs
    exact False.elim q
  | cont =>
    obtain ⟨_, _, _, q⟩ := hs
    exact False.elim q
end L2
namespace L2
open PySem PySem.Spec PyProof.Rows
noncomputable section
variable {X : Cx} {x : Str} {p pos : Pos} {e : Expr} {es : List Expr} {t : TA} {id T : String} {r : List V → Hp → VK → Prop}
noncomputable def tCB (r : List V → Hp → VK → Prop) (t : TA) : TE := fun σ H Q => t σ H fun vs H1 => r vs H1 Q
theorem pe_callB (hc : CallR X (.builtin id) r) (hg : Gl X x) (hm : X.mg x = none) (hv : bootBuiltins x = some (.builtin id)) (ha : PA X (e :: es) t) (hn : x ≠ "__name__" := by decide) (hdb : (x == ("__debug__" : Str)) = false := by decide)
    (he : starEach (e :: es) X.env = (false, eval e X.env) :: starEach es X.env := by rfl) (hpl : (backTo pos (starEach es X.env)).any (·.1) = false := by rfl) : PE X (.Call (.Name x p) (e :: es) [] pos) (tCB r t) := by
  intro pins s σ H Q I h
  refine wpAny_Call_Name_kw (ld_blt I hg hm hv ?_ hn hdb)
  exact PyProof.Rows.callWith_builtin1 (thn (ha pos pins s σ H _ I h) fun us s1 ⟨vs, H1, I1, r1, q1⟩ => hc pins s1 σ H1 vs us Q I1 r1 q1) he hpl
theorem pe_callTy (hc : CallR X (.type T) r) (hg : Gl X x) (hm : X.mg x = none) (hv : bootBuiltins x = some (.type T)) (ha : PA X (e :: es) t) (hn : x ≠ "__name__" := by decide) (hdb : (x == ("__debug__" : Str)) = false := by decide)
    (he : starEach (e :: es) X.env = (false, eval e X.env) :: starEach es X.env := by rfl) (hpl : (backTo pos (starEach es X.env)).any (·.1) = false := by rfl) : PE X (.Call (.Name x p) (e :: es) [] pos) (tCB r t) := by
  intro pins s σ H Q I h
  refine wpAny_Call_Name_kw (ld_blt I hg hm hv ?_ hn hdb)
  exact PyProof.Rows.callWith_type1 (thn (ha pos pins s σ H _ I h) fun us s1 ⟨vs, H1, I1, r1, q1⟩ => hc pins s1 σ H1 vs us Q I1 r1 q1) he hpl
end
end L2
end
noncomputable section
set_option linter.all false
set_option maxRecDepth 100000
namespace HT
open PySem PyProof.Rows
noncomputable section
open PySem.SeqAt
open PySem.AutoSeq1 (wpAny_loadPart')
open PySem.MeetsSeq PySem.MeetsSeq2 PySem.MeetsSeq3
end
noncomputable section
variable {prog : Program} {w : World} {A : Around} {E : Value → Shared → Prop} {s : Shared}
theorem cat_tup {t b : Addr} {vs ws : List Value} {Q : Value → Shared → Prop} (ht : IsTup s.heap t vs.toArray) (hb : IsTup s.heap b ws.toArray) (hv : vs ≠ [])
    (h1 : ws = [] → Q (.ref t) s) (h2 : ws ≠ [] → Q (.ref s.heap.objs.size) { s with heap := s.heap.push { cls := .type "tuple", data := .seq (vs ++ ws).toArray } })
    (hsz : vs.length + ws.length ≤ sizeLine) : wpAny (model prog w) A (binaryOp .Add (.ref t) (.ref b)) Q E s := by
  obtain ⟨⟨cls, dd, data, sl⟩, ho, hc, n, hd⟩ := id ht
  obtain ⟨⟨cls2, dd2, data2, sl2⟩, ho2, hc2, n2, hd2⟩ := id hb
  simp only at hc hd hc2 hd2
  subst hc hd hc2 hd2
  have e : vs.toArray ++ ws.toArray = (vs ++ ws).toArray := by simp
  by_cases hw : ws = []
  · exact concat_meets ⟨_, ho, rfl⟩ ⟨_, ho2, rfl⟩ noFill_tuple_add seq_tuple_add PySem.F.slot_tuple_add PySem.F.entry_tuple_add (PySem.F.args_tuple_add_2 _ _)
      (tuple_addW1 t b vs.toArray ws.toArray n n2 dd dd2 sl sl2 (by simpa using hv) (by simp [hw])) ⟨ho, ho2, h1 hw⟩
  · refine concat_meets ⟨_, ho, rfl⟩ ⟨_, ho2, rfl⟩ noFill_tuple_add seq_tuple_add PySem.F.slot_tuple_add PySem.F.entry_tuple_add (PySem.F.args_tuple_add_2 _ _)
      (tuple_addW2 t b vs.toArray ws.toArray n n2 dd dd2 sl sl2 (by simpa using hv) (by simpa using hw) (by rw [List.size_toArray, List.size_toArray]; exact hsz)) ⟨ho, ho2, ?_⟩
    rw [e]
    exact h2 hw
noncomputable def sIx (n d : Nat) : Option Int → Nat
  | none => d
  | some v => if v < 0 then (v + (n : Int)).toNat else min v.toNat n
theorem sIx_le (n d : Nat) (hd : d ≤ n) (o : Option Int) : sIx n d o ≤ n := by
  cases o with
  | none => exact hd
  | some v =>
    show (if v < 0 then (v + (n : Int)).toNat else min v.toNat n) ≤ n
    by_cases hv : v < 0
    · rw [if_pos hv]; omega
    · rw [if_neg hv]; exact Nat.min_le_right _ _
theorem clip_eq (v : Int) (n d : Nat) : (if v < 0 then max (v + (n : Int)) 0 else min v (n : Int)) = ((sIx n d (some v) : Nat) : Int) := by
  show (if v < 0 then max (v + (n : Int)) 0 else min v (n : Int)) = (((if v < 0 then (v + (n : Int)).toNat else min v.toNat n) : Nat) : Int)
  by_cases hv : v < 0
  · simp only [if_pos hv]; omega
  · simp only [if_neg hv]; omega
theorem adjust_gen (lo hi : Option Int) (n : Nat) : Builtin.Slice.sliceAdjust lo hi 1 (n : Int) = (((sIx n 0 lo : Nat) : Int), ((sIx n n hi : Nat) : Int)) := by
  have h1 : ¬ ((1 : Int) < 0) := by omega
  unfold Builtin.Slice.sliceAdjust
  simp only [h1, if_false]
  refine Prod.ext ?_ ?_
  · cases lo with
    | none => rfl
    | some v => exact clip_eq v n 0
  · cases hi with
    | none => rfl
    | some v => exact clip_eq v n n
theorem places_gen (i j : Nat) : Builtin.Slice.slicePlaces (i : Int) (j : Int) 1 = j - i := by
  unfold Builtin.Slice.slicePlaces
  have h1 : (1 : Int) > 0 := by omega
  simp only [h1, if_true, Int.ediv_one]
  split <;> omega
theorem slicePart_ {v : Value} {o : Option Int} {Q : Option Int → Shared → Prop} (p : IsPart v o) (h : Q o s) : wpAny (model prog w) A (Builtin.Slice.slicePartIndex v) Q E s := by
  cases p with
  | none => exact slicePart_none h
  | int i t => exact slicePart_int h
theorem sliceApplied_gen {sl : Addr} {vl vu : Value} {lo hi : Option Int} {n : Nat} {Q : Int × Int × Nat → Shared → Prop} (hs : s.heap.IsSliceOf sl vl vu .none) (pl : IsPart vl lo) (pu : IsPart vu hi)
    (h : Q (((sIx n 0 lo : Nat) : Int), 1, sIx n n hi - sIx n 0 lo) s) : wpAny (model prog w) A (Builtin.Slice.sliceApplied (.ref sl) (pure (n : Int))) Q E s := by
  obtain ⟨os, hos, hcs, hds⟩ := id hs
  unfold Builtin.Slice.sliceApplied Builtin.Slice.sliceFields
  refine wpAny_bind (wpAny_bind (wpAny_field hos hds (x := vl) rfl (wpAny_bind (wpAny_field hos hds (x := vu) rfl (wpAny_bind (wpAny_field hos hds (x := .none) rfl (wpAny_pure ?_)))))))
  refine wpAny_bind (slicePart_none ?_)
  show wpAny _ _ (if ((1 : Int) == 0) = true then _ else _) _ _ s
  rw [if_neg (by decide)]
  refine wpAny_bind (slicePart_ pl (wpAny_bind (slicePart_ pu (wpAny_bind (wpAny_pure ?_)))))
  show wpAny _ _ (match Builtin.Slice.sliceAdjust lo hi 1 (n : Int) with | (lo, hi) => pure (lo, (1 : Int), Builtin.Slice.slicePlaces lo hi 1)) _ _ s
  rw [adjust_gen lo hi n]
  show wpAny _ _ (pure (((sIx n 0 lo : Nat) : Int), (1 : Int), Builtin.Slice.slicePlaces ((sIx n 0 lo : Nat) : Int) ((sIx n n hi : Nat) : Int) 1)) _ _ s
  rw [places_gen]
  exact wpAny_pure h
theorem pick_gen (xs : Array Value) (i k : Nat) : ((List.range k).filterMap fun (m : Nat) => xs[((i : Int) + (m : Int) * 1).toNat]?).toArray = ((xs.toList.drop i).take k).toArray := by
  have e : (fun (m : Nat) => xs[((i : Int) + (m : Int) * 1).toNat]?) = fun m => xs[i + m]? := by
    funext m
    have : ((i : Int) + (m : Int) * 1).toNat = i + m := by omega
    rw [this]
  rw [e]
  have := pick_run xs i k
  rw [List.filterMap_map] at this
  have e2 : ((fun x => xs[x]?) ∘ fun x => i + x) = fun m => xs[i + m]? := rfl
  rw [e2] at this
  rw [this]
theorem getItem_tuple_cut {t sl : Addr} {items : Array Value} {vl vu : Value} {lo hi : Option Int} {Q : Value → Shared → Prop} (ht : IsTup s.heap t items) (hs : s.heap.IsSliceOf sl vl vu .none) (pl : IsPart vl lo) (pu : IsPart vu hi)
    (hw : ¬ (sIx items.size 0 lo = 0 ∧ sIx items.size items.size hi = items.size))
    (h : Q (.ref s.heap.objs.size) { s with heap := s.heap.push { cls := .type "tuple", data := .seq ((items.toList.drop (sIx items.size 0 lo)).take (sIx items.size items.size hi - sIx items.size 0 lo)).toArray } })
    (hsz : items.size ≤ sizeLine) : wpAny (model prog w) A (getItem (.ref t) (.ref sl)) Q E s := by
  have htake : sizeOk (.seq ((items.toList.drop (sIx items.size 0 lo)).take (sIx items.size items.size hi - sIx items.size 0 lo)).toArray) := by
    show ((items.toList.drop (sIx items.size 0 lo)).take (sIx items.size items.size hi - sIx items.size 0 lo)).toArray.size ≤ sizeLine
    rw [List.size_toArray, List.length_take, List.length_drop, Array.length_toList]
    omega
  have hj : sIx items.size items.size hi ≤ items.size := sIx_le _ _ (Nat.le_refl _) hi
  obtain ⟨os, hos, hcs, hds⟩ := id hs
  have hTs : s.TypeIs (.ref sl) "slice" := ⟨os, hos, hcs⟩
  unfold getItem
  try with_reducible refine wpAny_holding ?_
  first | refine wpAny_bind (wpAny_pure ?_) | skip
  refine wpAny_bind (wpAny_sequenceKey ht.typeIs (by decide) ?_)
  refine wpAny_bind (wpAny_callSpecial?_slot (name := Str.ofString "__getitem__") ht.typeIs PyProof.Rows.slot_tuple_getitem
    (wpAny_call_entry PyProof.Rows.slot_tuple_getitem ht.typeIs entry_tuple_getitem ?_ (args_tuple_getitem _ _)))
  show wpAny _ _ (Builtin.Tuple.tupleItemsOf (.ref t) >>= _) _ _ s
  refine wpAny_bind (tupleItemsOf_ ht ?_)
  refine wpAny_bind (wpAny_typeOf hTs ?_)
  rw [if_pos (by decide)]
  refine wpAny_bind (sliceApplied_gen hs pl pu ?_)
  have hno : ¬ ((((sIx items.size 0 lo : Nat) : Int) == 0 && (1 : Int) == 1 && (sIx items.size items.size hi - sIx items.size 0 lo) == items.size) = true) := by
    intro q
    rw [Bool.and_eq_true, Bool.and_eq_true] at q
    have q1 : ((sIx items.size 0 lo : Nat) : Int) = 0 := eq_of_beq q.1.1
    have q2 : sIx items.size items.size hi - sIx items.size 0 lo = items.size := eq_of_beq q.2
    exact hw ⟨by omega, by omega⟩
  show wpAny _ _ (if (((sIx items.size 0 lo : Nat) : Int) == 0 && (1 : Int) == 1 && (sIx items.size items.size hi - sIx items.size 0 lo) == items.size) = true then _ else _) _ _ s
  rw [if_neg hno, pick_gen]
  first
    | exact wpAny_bind (m := Builtin.Tuple.tupleExact _) (wpAny_newObj_type (wpAny_pure ⟨_, rfl, wpAny_pure h⟩) htake)
    | exact wpAny_bind (m := Builtin.Tuple.tupleExact _) (wpAny_newObj_type (wpAny_bind (wpAny_pure (wpAny_pure ⟨_, rfl, wpAny_pure h⟩))) htake)
    | exact wpAny_bind (wpAny_bind (m := Builtin.Tuple.tupleExact _) (wpAny_newObj_type (wpAny_pure (wpAny_pure ⟨_, rfl, wpAny_pure h⟩)) htake))
    | exact wpAny_bind (wpAny_bind (m := Builtin.Tuple.tupleExact _) (wpAny_newObj_type (wpAny_pure ⟨_, rfl, wpAny_pure h⟩) htake))
end
end HT
namespace L2
open PySem PySem.Spec PyProof.Rows
noncomputable abbrev TO := St → Hp → (Option Int → Hp → Prop) → Prop
noncomputable def PO (X : Cx) (e : Option Expr) (t : TO) : Prop :=
  ∀ (pins : List (Addr × Obj)) (s : Shared) (σ : St) (H : Hp) (Q : Option Int → Hp → Prop), Inv X pins σ H s → t σ H Q →
    wpAny (model X.prog X.w) X.A (evalPart e X.env) (fun u s' => ∃ o H', Inv X pins σ H' s' ∧ IsPart u o ∧ Q o H') X.xe s
noncomputable def tNoPart : TO := fun _ H Q => Q none H
noncomputable def tPart (t : TE) : TO := fun σ H Q => t σ H fun x H1 => ∃ i, x = .int i ∧ Q (some i) H1
noncomputable section
variable {X : Cx} {e : Expr} {te : TE} {lo hi : Option Expr} {tl th : TO} {pos p2 : Pos}
theorem po_none : PO X none tNoPart := by
  intro pins s σ H Q I h
  rw [evalPart_none]
  exact wpAny_pure ⟨none, H, I, .none, h⟩
theorem po_some (h : PE X e te) : PO X (some e) (tPart te) := by
  intro pins s σ H Q I hw
  rw [evalPart_some]
  refine thn (h pins s σ H _ I hw) fun u s1 ⟨x, H1, I1, r1, q1⟩ => ?_
  obtain ⟨i, rfl, q⟩ := q1
  obtain ⟨t, rfl⟩ := r1
  exact ⟨some i, H1, I1, .int i t, q⟩
noncomputable def SlR (X : Cx) (r : V → Option Int → Option Int → Hp → VK → Prop) : Prop :=
  ∀ (pins : List (Addr × Obj)) (s : Shared) (σ : St) (H : Hp) (x : V) (v vl vu : Value) (lo hi : Option Int) (sl : Addr) (Q : VK), Inv X pins σ H s → RelV x v → s.heap.IsSliceOf sl vl vu .none → IsPart vl lo → IsPart vu hi → r x lo hi H Q →
    ∃ T id, typeLookup (.type T) "__getitem__" = pure (some (.builtin id)) ∧ s.TypeIs v T ∧ wpAny (model X.prog X.w) X.A (getItem v (.ref sl)) (EP X pins σ Q) X.xe s
theorem SlR.or {r r' : V → Option Int → Option Int → Hp → VK → Prop} (h : SlR X r) (h' : SlR X r') : SlR X (fun x lo hi H Q => r x lo hi H Q ∨ r' x lo hi H Q) := by
  intro pins s σ H x v vl vu lo hi sl Q I rx hs pl pu q
  rcases q with q | q
  · exact h pins s σ H x v vl vu lo hi sl Q I rx hs pl pu q
  · exact h' pins s σ H x v vl vu lo hi sl Q I rx hs pl pu q
noncomputable def tSl (r : V → Option Int → Option Int → Hp → VK → Prop) (te : TE) (tl th : TO) : TE := fun σ H Q => te σ H fun x H1 => tl σ H1 fun l H2 => th σ H2 fun u H3 => r x l u H3 Q
theorem pe_slice {r : V → Option Int → Option Int → Hp → VK → Prop} (hr : SlR X r) (he : PE X e te) (hl : PO X lo tl) (hu : PO X hi th) : PE X (.Subscript e (.Slice lo hi none p2) pos) (tSl r te tl th) := by
  intro pins s σ H Q I h
  refine Subscript_ (thn (he pins s σ H _ I h) fun v s1 ⟨x, H1, I1, r1, q1⟩ => ?_)
  refine wpAny_Slice (thn (hl pins s1 σ H1 _ I1 q1) fun vl s2 ⟨l, H2, I2, pl, q2⟩ => thn (hu pins s2 σ H2 _ I2 q2) fun vu s3 ⟨u, H3, I3, pu, q3⟩ => ?_)
  rw [evalPart_none]
  refine wpAny_pure ?_
  have I4 : Inv X pins σ H3 { s3 with heap := s3.heap.push { cls := .type "slice", data := .fields #[vl, vu, .none] } } := I3.kept (t' := s3.toks) fun b ob q => Heap.get?_push_of_some _ q
  obtain ⟨T, id, hT, ht, hg⟩ := hr pins { s3 with heap := s3.heap.push { cls := .type "slice", data := .fields #[vl, vu, .none] } } σ H3 x v vl vu l u s3.heap.objs.size Q I4 r1 (Heap.IsSliceOf.new ..) pl pu q3
  show wpAny (model X.prog X.w) X.A (subscriptTail e (.Slice lo hi none p2) v (.ref s3.heap.objs.size)) (EP X pins σ Q) X.xe { s3 with heap := s3.heap.push { cls := .type "slice", data := .fields #[vl, vu, .none] } }
  exact tail_any (ops := [.ref s3.heap.objs.size, v]) ht hT hg (by with_unfolding_all rfl)
noncomputable def cutV (xs : List V) (lo hi : Option Int) : List V := (xs.drop (HT.sIx xs.length 0 lo)).take (HT.sIx xs.length xs.length hi - HT.sIx xs.length 0 lo)
theorem cutV_length (xs : List V) (lo hi : Option Int) : (cutV xs lo hi).length ≤ xs.length := by
  unfold cutV
  rw [List.length_take, List.length_drop]
  omega
noncomputable def rSlT (K : PySem.W.Frag) : V → Option Int → Option Int → Hp → VK → Prop := fun x lo hi H Q => ∃ a xs, x = .ref a ∧ SqT K H a xs ∧
  ¬ (HT.sIx xs.length 0 lo = 0 ∧ HT.sIx xs.length xs.length hi = xs.length) ∧ ∀ p, H p = none → Q (.ref p) (upd H p (.tup (cutV xs lo hi)))
theorem sl_tup : SlR X (rSlT X.K) := by
  intro pins s σ H x v vl vu lo hi sl Q I rx hs pl pu h
  obtain ⟨a, xs, rfl, hx, hw, q⟩ := h
  cases rx
  obtain ⟨its, r, ht, hz⟩ := I.tuple hx
  have hlen : its.toArray.size = xs.length := by rw [List.size_toArray]; exact r.length.symm
  refine ⟨"tuple", _, PyProof.Rows.slot_tuple_getitem.lookup, ht.typeIs, ?_⟩
  refine HT.getItem_tuple_cut ht hs pl pu (by rw [hlen]; exact hw) ?_ (by rw [hlen]; exact hz)
  rw [hlen]
  refine ⟨.ref s.heap.objs.size, _, I.laid (t' := s.toks) (o := .tup (cutV xs lo hi)) (fun b ob q => Heap.get?_push_of_some _ q) (Nat.le_refl _) ?_, rfl, q _ (I.hok.fresh (Nat.le_refl _))⟩
  exact ⟨Nat.le_trans (cutV_length xs lo hi) hz, _, (r.drop (HT.sIx xs.length 0 lo)).take (HT.sIx xs.length xs.length hi - HT.sIx xs.length 0 lo), TupD.new _ _⟩
noncomputable def rCatT (K : PySem.W.Frag) : R2 := fun x y H Q => ∃ a b xs ys, x = .ref a ∧ y = .ref b ∧ SqT K H a xs ∧ SqT K H b ys ∧ xs ≠ [] ∧ xs.length + ys.length ≤ sizeLine ∧
  (ys = [] → Q (.ref a) H) ∧ (ys ≠ [] → ∀ p, H p = none → Q (.ref p) (upd H p (.tup (xs ++ ys))))
theorem Vals.nil_iff {xs : List V} {us : List Value} (r : Vals xs us) : us = [] ↔ xs = [] := by
  cases r with
  | nil => simp
  | cons _ _ => simp
theorem op_catT : OpR X (binaryOp .Add) (rCatT X.K) := by
  intro pins s σ H x y v u Q I rx ry h
  obtain ⟨a, b, xs, ys, rfl, rfl, ha, hb, hx, hz, q1, q2⟩ := h
  cases rx
  cases ry
  obtain ⟨its, r1, p1, _⟩ := I.tuple ha
  obtain ⟨its2, r2, p2, _⟩ := I.tuple hb
  refine HT.cat_tup p1 p2 (fun z => hx (r1.nil_iff.mp z)) (fun z => ⟨.ref a, H, I, rfl, q1 (r2.nil_iff.mp z)⟩) (fun z => ?_) (by rw [← r1.length, ← r2.length]; exact hz)
  refine ⟨.ref s.heap.objs.size, _, I.laid (t' := s.toks) (o := .tup (xs ++ ys)) (fun b ob q => Heap.get?_push_of_some _ q) (Nat.le_refl _) ?_, rfl, q2 (fun w => z (r2.nil_iff.mpr w)) _ (I.hok.fresh (Nat.le_refl _))⟩
  exact ⟨by rw [List.length_append]; exact hz, _, r1.append r2, TupD.new _ _⟩
end
end L2
namespace L2
open PySem PySem.Spec PyProof.Rows
noncomputable def ixN (n : Nat) (i : Int) : Option Nat := if 0 ≤ i then (if i < n then some i.toNat else none) else if -(n : Int) ≤ i then some (i + n).toNat else none
noncomputable def atI {α : Type} (xs : List α) (i : Int) : Option α := (ixN xs.length i).bind fun j => xs[j]?
theorem ixN_seq {n : Nat} {i : Int} {j : Nat} (h : ixN n i = some j) : seqIndex? i n = some j ∧ j < n ∧ -(n : Int) ≤ i ∧ i < n := by
  unfold ixN at h
  by_cases h0 : 0 ≤ i
  · rw [if_pos h0] at h
    by_cases h1 : i < n
    · rw [if_pos h1] at h
      have e : i.toNat = j := Option.some.inj h
      exact ⟨by rw [seqIndex_of h0 h1, e], by omega, by omega, h1⟩
    · rw [if_neg h1] at h; cases h
  · rw [if_neg h0] at h
    by_cases h1 : -(n : Int) ≤ i
    · rw [if_pos h1] at h
      have e : (i + n).toNat = j := Option.some.inj h
      exact ⟨by rw [seqIndex_neg (by omega) h1, e], by omega, h1, by omega⟩
    · rw [if_neg h1] at h; cases h
theorem atI_get {α : Type} {xs : List α} {i : Int} {v : α} (h : atI xs i = some v) : ∃ j, seqIndex? i xs.length = some j ∧ xs[j]? = some v ∧ j < xs.length ∧ -(xs.length : Int) ≤ i ∧ i < xs.length := by
  unfold atI at h
  cases e : ixN xs.length i with
  | none => rw [e] at h; cases h
  | some j =>
    rw [e] at h
    obtain ⟨h1, h2, h3, h4⟩ := ixN_seq e
    exact ⟨j, h1, h, h2, h3, h4⟩
noncomputable def PlainIx (b : Expr) : Prop := ∀ o i, subscripted b false o i = operate [o, i] (getItem o i)
noncomputable def IxR (X : Cx) (r : R2) : Prop :=
  ∀ (value slice : Expr) (pins : List (Addr × Obj)) (s : Shared) (σ : St) (H : Hp) (x y : V) (v u : Value) (Q : VK), Inv X pins σ H s → RelV x v → RelV y u → r x y H Q →
    subscripted slice false v u = operate [v, u] (getItem v u) → wpAny (model X.prog X.w) X.A (subscriptTail value slice v u) (EP X pins σ Q) X.xe s
noncomputable def MtR (X : Cx) (id : String) (r : V → List V → Hp → VK → Prop) : Prop :=
  ∀ (pins : List (Addr × Obj)) (s : Shared) (σ : St) (H : Hp) (x : V) (xs : List V) (v : Value) (us : List Value) (Q : VK), Inv X pins σ H s → RelV x v → Vals xs us → r x xs H Q →
    wpAny (model X.prog X.w) X.A (call (.builtin id) (v :: us)) (EP X pins σ Q) X.xe s
noncomputable section
variable {X : Cx} {a b : Expr} {ta tb : TE} {pos : Pos}
theorem IxR.or {r r' : R2} (h : IxR X r) (h' : IxR X r') : IxR X (fun x y H Q => r x y H Q ∨ r' x y H Q) := by
  intro value slice pins s σ H x y v u Q I rx ry q hs
  rcases q with q | q
  · exact h value slice pins s σ H x y v u Q I rx ry q hs
  · exact h' value slice pins s σ H x y v u Q I rx ry q hs
theorem MtR.or {id : String} {r r' : V → List V → Hp → VK → Prop} (h : MtR X id r) (h' : MtR X id r') : MtR X id (fun x xs H Q => r x xs H Q ∨ r' x xs H Q) := by
  intro pins s σ H x xs v us Q I rx rs q
  rcases q with q | q
  · exact h pins s σ H x xs v us Q I rx rs q
  · exact h' pins s σ H x xs v us Q I rx rs q
theorem pe_ix {r : R2} (hr : IxR X r) (ha : PE X a ta) (hb : PE X b tb) (hs : PlainIx b) : PE X (.Subscript a b pos) (tOp r ta tb) := by
  intro pins s σ H Q I h
  exact Subscript_ (binT ha hb I h fun v u s2 x y H2 I2 rx ry q => hr a b pins s2 σ H2 x y v u Q I2 rx ry q (hs _ _))
noncomputable def rIxL (K : PySem.W.Frag) : R2 := fun x y H Q => ∃ p xs i v, x = .ref p ∧ y = .int i ∧ SqL K H p xs ∧ atI xs i = some v ∧ Q v H
noncomputable def rIxT (K : PySem.W.Frag) : R2 := fun x y H Q => ∃ p xs i v, x = .ref p ∧ y = .int i ∧ SqT K H p xs ∧ atI xs i = some v ∧ Q v H
noncomputable def rIxS : R2 := fun x y H Q => ∃ z i c, x = .str z ∧ y = .int i ∧ z.length ≤ sizeLine ∧ atI z.cps.toList i = some c ∧ Q (.str ⟨#[c]⟩) H
theorem ix_list : IxR X (rIxL X.K) := by
  intro value slice pins s σ H x y v u Q I rx ry h hs
  obtain ⟨p, xs, i, z, rfl, rfl, hq, he, q⟩ := h
  cases rx
  obtain ⟨t, rfl⟩ := ry
  obtain ⟨its, r, pl, hz⟩ := I.list hq
  obtain ⟨j, h1, h2, h3, h4, h5⟩ := atI_get he
  obtain ⟨w, ew, rw'⟩ := r.get h2
  have hl := r.length
  have hn := line63
  have fin : EP X pins σ Q w s := ⟨z, H, I, rw', q⟩
  by_cases h0 : 0 ≤ i
  · have hj : i.toNat = j := by
      rw [seqIndex_of h0 h5] at h1
      exact Option.some.inj h1
    exact item_listR pl.isList h0 (by omega) (by rw [hj]; simpa using ew) fin hs
  · have hj : (i + (its.toArray.size : Int)).toNat = j := by
      rw [seqIndex_neg (by omega) h4] at h1
      rw [List.size_toArray, ← hl]
      exact Option.some.inj h1
    exact subscriptTail_builtinR (x := w) pl.isList.typeIs slot_list_getitem.lookup
      (wpAny_getItem_list_neg (Q := fun r s' => r = w ∧ EP X pins σ Q r s') pl.isList (by omega) (by rw [List.size_toArray] <;> omega) (by omega) (by rw [hj]; simpa using ew) ⟨rfl, fin⟩) hs
theorem ix_tup : IxR X (rIxT X.K) := by
  intro value slice pins s σ H x y v u Q I rx ry h hs
  obtain ⟨p, xs, i, z, rfl, rfl, hq, he, q⟩ := h
  cases rx
  obtain ⟨t, rfl⟩ := ry
  obtain ⟨its, r, pl, hz⟩ := I.tuple hq
  obtain ⟨j, h1, h2, h3, h4, h5⟩ := atI_get he
  obtain ⟨w, ew, rw'⟩ := r.get h2
  have hl := r.length
  have hn := line63
  have fin : EP X pins σ Q w s := ⟨z, H, I, rw', q⟩
  exact subscriptTail_builtinR (x := w) pl.typeIs slot_tuple_getitem.lookup
    (getItem_tuple (j := j) (Q := fun r s' => r = w ∧ EP X pins σ Q r s') pl (by omega) (by omega) (by rw [List.size_toArray, ← hl]; exact h1) (by simpa using ew) ⟨rfl, fin⟩) hs
theorem ix_str : IxR X rIxS := by
  intro value slice pins s σ H x y v u Q I rx ry h hs
  obtain ⟨z, i, c, rfl, rfl, hz, he, q⟩ := h
  obtain ⟨t, rfl⟩ := rx
  obtain ⟨t', rfl⟩ := ry
  obtain ⟨j, h1, h2, h3, h4, h5⟩ := atI_get he
  have hl : z.cps.toList.length = z.length := by simp [Str.length]
  rw [hl] at h1 h4 h5
  have hn := line63
  exact tail_any (typeIs_str s z t) slot_str_getitem.lookup (getItem_str (c := c) (by
    have e1 : decide (i < -(2 ^ 63 : Int)) = false := decide_eq_false (by omega)
    have e2 : decide (i ≥ 2 ^ 63) = false := decide_eq_false (by omega)
    rw [e1, e2, Bool.or_false]) (by rw [h1]; simpa using h2) ⟨.str ⟨#[c]⟩, H, I.tok _, ⟨_, rfl⟩, q⟩) hs
theorem Inv.lst {pins : List (Addr × Obj)} {σ : St} {H : Hp} {s : Shared} {p : Addr} {xs : List V} (I : Inv X pins σ H s) (h : H p = some (.lst xs)) :
    ∃ (its : List Value) (n : Nat), Vals xs its ∧ s.heap.get? p = some { cls := .type "list", data := .seq its.toArray n } ∧ xs.length ≤ sizeLine := by
  obtain ⟨z, its, n, r, e⟩ := I.hok p _ h
  exact ⟨its, n, r, e, z⟩
theorem slice_bounds (lo hi : Option Int) (n : Nat) : (sliceBounds lo hi none n).1 = ((HT.sIx n 0 lo : Nat) : Int) ∧ (sliceBounds lo hi none n).2.1 = ((HT.sIx n n hi : Nat) : Int) ∧ (sliceBounds lo hi none n).2.2 = 1 := by
  refine ⟨?_, ?_, rfl⟩
  · cases lo with
    | none => simp [sliceBounds, HT.sIx]
    | some i =>
      simp only [sliceBounds, HT.sIx, Option.getD_none, show (1 : Int) > 0 by decide, if_true]
      by_cases h : i < 0
      · simp only [h, if_true] <;> omega
      · simp only [h, if_false] <;> omega
  · cases hi with
    | none => simp [sliceBounds, HT.sIx]
    | some i =>
      simp only [sliceBounds, HT.sIx, Option.getD_none, show (1 : Int) > 0 by decide, if_true]
      by_cases h : i < 0
      · simp only [h, if_true] <;> omega
      · simp only [h, if_false] <;> omega
theorem slicePick_cut (its : List Value) (lo hi : Option Int) : slicePick its.toArray lo hi none = ((its.drop (HT.sIx its.length 0 lo)).take (HT.sIx its.length its.length hi - HT.sIx its.length 0 lo)).toArray := by
  obtain ⟨h1, h2, h3⟩ := slice_bounds lo hi its.toArray.size
  unfold slicePick
  rw [h1, h2, h3]
  simp only [sliceRange_one, pick_run, List.size_toArray] <;> rfl
noncomputable def rSlL (K : PySem.W.Frag) : V → Option Int → Option Int → Hp → VK → Prop := fun x lo hi H Q => ∃ a xs, x = .ref a ∧ SqL K H a xs ∧ ∀ p, H p = none → Q (.ref p) (upd H p (.lst (cutV xs lo hi)))
theorem sl_list : SlR X (rSlL X.K) := by
  intro pins s σ H x v vl vu lo hi sl Q I rx hs pl pu h
  obtain ⟨a, xs, rfl, hx, q⟩ := h
  cases rx
  obtain ⟨its, r, ht, hz⟩ := I.list hx
  have hlen := r.length
  refine ⟨"list", _, slot_list_getitem.lookup, ht.isList.typeIs, ?_⟩
  refine wpAny_getItem_list_slice ht.isList hs pl pu .none (by simp) ?_ (by rw [List.size_toArray] <;> omega)
  rw [slicePick_cut, ← hlen]
  refine ⟨.ref s.heap.objs.size, _, I.laid (t' := s.toks) (o := .lst (cutV xs lo hi)) (fun b ob q => Heap.get?_push_of_some _ q) (Nat.le_refl _) ?_, rfl, q _ (I.hok.fresh (Nat.le_refl _))⟩
  exact ⟨Nat.le_trans (cutV_length xs lo hi) hz, _, 0, (r.drop (HT.sIx xs.length 0 lo)).take (HT.sIx xs.length xs.length hi - HT.sIx xs.length 0 lo), Heap.get?_push_size _ rfl⟩
theorem call_len_seq : CallR X (.builtin "len") (fun xs H Q => ∃ p ys, xs = [.ref p] ∧ (SqL X.K H p ys ∨ SqT X.K H p ys) ∧ Q (.int ys.length) H) := by
  intro pins s σ H xs us Q I r h
  obtain ⟨p, ys, rfl, hq, q⟩ := h
  obtain ⟨u, rfl, rx⟩ := vals1 r
  cases rx
  have hn := line63
  rcases hq with hq | hq
  · obtain ⟨its, r', pl, hz⟩ := I.list hq
    have hlen := r'.length
    exact Calls.call_len_list pl.isList (by simp only [List.size_toArray] <;> omega) ⟨.int ys.length, H, I.tok _, ⟨s.toks + 1, by rw [List.size_toArray, hlen]⟩, q⟩
  · obtain ⟨its, r', pl, hz⟩ := I.tuple hq
    have hlen := r'.length
    exact len_tuple pl (by simp only [List.size_toArray] <;> omega) ⟨.int ys.length, H, I.tok _, ⟨s.toks + 1, by rw [List.size_toArray, hlen]⟩, q⟩
theorem call_len_str : CallR X (.builtin "len") (fun xs H Q => ∃ z, xs = [.str z] ∧ z.length ≤ sizeLine ∧ Q (.int z.length) H) := by
  intro pins s σ H xs us Q I r h
  obtain ⟨z, rfl, hz, q⟩ := h
  obtain ⟨u, rfl, t, rfl⟩ := vals1 r
  have hn := line63
  exact len_str (by omega) ⟨.int z.length, H, I.tok _, ⟨_, rfl⟩, q⟩
theorem CallR.or {f : Value} {r r' : List V → Hp → VK → Prop} (h : CallR X f r) (h' : CallR X f r') : CallR X f (fun xs H Q => r xs H Q ∨ r' xs H Q) := by
  intro pins s σ H xs us Q I rs q
  rcases q with q | q
  · exact h pins s σ H xs us Q I rs q
  · exact h' pins s σ H xs us Q I rs q
theorem call_tuple_of : CallR X (.type "tuple") (fun xs H Q => ∃ p ys, xs = [.ref p] ∧ ((SqL X.K H p ys ∧ ∀ l, H l = none → Q (.ref l) (upd H l (.tup ys))) ∨ (SqT X.K H p ys ∧ Q (.ref p) H))) := by
  intro pins s σ H xs us Q I r h
  obtain ⟨p, ys, rfl, h⟩ := h
  obtain ⟨u, rfl, rx⟩ := vals1 r
  cases rx
  rcases h with ⟨hq, q⟩ | ⟨hq, q⟩
  · obtain ⟨its, r', pl, hz⟩ := I.list hq
    have hlen := r'.length
    refine call_tuple_list pl.isList (fun h' kp => ?_) (by simp only [List.size_toArray] <;> omega)
    have I1 : Inv X pins σ H { s with heap := h' } := I.kept (t' := s.toks) kp
    have I2 : Inv X pins σ (upd H h'.objs.size (.tup ys)) { s with heap := h'.push { cls := .type "tuple", data := .seq its.toArray } } :=
      I1.laid (t' := s.toks) (fun b o e => Heap.get?_push_of_some _ e) (Nat.le_refl _) (show ObjOk X.prog X.w _ _ _ (.tup ys) from ⟨hz, its, r', TupD.new _ _⟩)
    exact ⟨.ref h'.objs.size, _, I2, rfl, q _ (I1.hok.fresh (Nat.le_refl _))⟩
  · obtain ⟨its, r', pl, hz⟩ := I.tuple hq
    exact call_tuple_same pl ⟨.ref p, H, I, rfl, q⟩
noncomputable def tyV (K : PySem.W.Frag) (T : String) (x : V) (H : Hp) : Prop := match x with
  | .str _ => T = "str"
  | .int _ => T = "int"
  | .ref p => (T = "list" ∧ ∃ xs, SqL K H p xs) ∨ (T = "tuple" ∧ ∃ o, K.lookup p = some o ∧ o.cls = .type "tuple" ∧ o.dict = none) ∨
      (T = "dict" ∧ ((∃ kvs, H p = some (.dK kvs)) ∨ ∃ kvs, H p = some (.dT kvs))) ∨ (T = "set" ∧ ∃ S n, H p = some (.set S n))
  | _ => False
theorem tyV_is {pins : List (Addr × Obj)} {σ : St} {H : Hp} {s : Shared} {T : String} {x : V} {v : Value} (I : Inv X pins σ H s) (r : RelV x v) (ty : tyV X.K T x H) :
    s.TypeIs v T ∧ ∀ a, v = .ref a → ∃ ob, s.heap.get? a = some ob ∧ ob.dict = none := by
  cases x with
  | str z =>
    obtain ⟨t, rfl⟩ := r
    cases (show T = "str" from ty)
    exact ⟨typeIs_str s z t, fun _ e => nomatch e⟩
  | int i =>
    obtain ⟨t, rfl⟩ := r
    cases (show T = "int" from ty)
    exact ⟨typeIs_int s i t, fun _ e => nomatch e⟩
  | ref p =>
    cases r
    rcases ty with ⟨rfl, xs, hq⟩ | ⟨rfl, o, hk, hc, hd⟩ | ⟨rfl, hk⟩ | ⟨rfl, S, n, hk⟩
    · obtain ⟨its, _, pl, _⟩ := I.list hq
      refine ⟨pl.isList.typeIs, fun a e => ?_⟩
      cases e
      obtain ⟨o, n, e, c, hd, _⟩ := pl
      exact ⟨o, e, hd⟩
    · refine ⟨⟨o, I.kIn p o hk, hc⟩, fun a e => ?_⟩
      cases e
      exact ⟨o, I.kIn _ o hk, hd⟩
    · have z : ∃ o, s.heap.get? p = some o ∧ o.ExactDict := by
        rcases hk with ⟨kvs, hk⟩ | ⟨kvs, hk⟩
        · obtain ⟨_, _, _, _, o, _, _, e, ex, _⟩ := I.hok p _ hk
          exact ⟨o, e, ex⟩
        · obtain ⟨_, _, _, _, o, _, _, e, ex, _⟩ := I.hok p _ hk
          exact ⟨o, e, ex⟩
      obtain ⟨o, e, ex⟩ := z
      refine ⟨⟨o, e, ex.1⟩, fun a e2 => ?_⟩
      cases e2
      exact ⟨o, e, ex.2.1⟩
    · obtain ⟨o, _, _, _, e, ex, _⟩ := I.hok p _ hk
      refine ⟨⟨o, e, ex.1⟩, fun a e2 => ?_⟩
      cases e2
      exact ⟨o, e, ex.2.1⟩
  | _ => exact False.elim ty
noncomputable def tBM0 (K : PySem.W.Frag) (T : String) (r : V → List V → Hp → VK → Prop) (to : TE) : TE := fun σ H Q => to σ H fun x H1 => tyV K T x H1 ∧ r x [] H1 Q
noncomputable def tBM (K : PySem.W.Frag) (T : String) (r : V → List V → Hp → VK → Prop) (to : TE) (t : TA) : TE := fun σ H Q => to σ H fun x H1 => tyV K T x H1 ∧ t σ H1 fun xs H2 => r x xs H2 Q
variable {o e : Expr} {es : List Expr} {to : TE} {t : TA} {name : Str} {apos cpos : Pos} {T id : String} {r : V → List V → Hp → VK → Prop}
theorem pe_bm0 (pa : PlainAttrs T) (slot : Slot T name id) (hty : typeOf (.builtin id) = pure (.type "method_descriptor")) (hm : MtR X id r) (ho : PE X o to)
    (hbase : attributeBase o name X.env (eval o X.env) = eval o X.env := by rfl) (hline : (apos.endLine == cpos.line) = true := by rfl) : PE X (.Call (.Attribute o name apos) [] [] cpos) (tBM0 X.K T r to) := by
  intro pins s σ H Q I h
  refine wpAny_Call_method0_late hbase hline (thn (ho pins s σ H _ I h) fun v s1 ⟨x, H1, I1, r1, ty, q1⟩ => ?_)
  obtain ⟨h1, h2⟩ := tyV_is I1 r1 ty
  exact ⟨T, id, pa, slot, hty, h1, h2, Calls.callWith_builtin rfl (PySem.evalArgs_none (hm pins s1 σ H1 x [] v [] Q I1 r1 .nil q1))⟩
theorem pe_bm (pa : PlainAttrs T) (slot : Slot T name id) (hty : typeOf (.builtin id) = pure (.type "method_descriptor")) (hm : MtR X id r) (ho : PE X o to) (ha : PA X (e :: es) t)
    (hbase : attributeBase o name X.env (eval o X.env) = eval o X.env := by rfl)
    (hfew : ((backTo cpos (starEach (e :: es) X.env)).all (fun x => !x.1) && (backToKw cpos (keywordEach [] X.env)).all (fun x => x.1.isSome)
      && decide ((e :: es).length + ([] : List Keyword).length + (if ([] : List Keyword).isEmpty then 0 else 1) < 30)) = true := by rfl)
    (hline : (apos.endLine == cpos.line) = true := by rfl) (hs : starEach (e :: es) X.env = (false, eval e X.env) :: starEach es X.env := by rfl) (hplain : (backTo cpos (starEach es X.env)).any (·.1) = false := by rfl) :
    PE X (.Call (.Attribute o name apos) (e :: es) [] cpos) (tBM X.K T r to t) := by
  intro pins s σ H Q I h
  refine wpAny_Call_method_late hbase hfew hline rfl (thn (ho pins s σ H _ I h) fun v s1 ⟨x, H1, I1, r1, ty, q1⟩ => ?_)
  obtain ⟨h1, h2⟩ := tyV_is I1 r1 ty
  refine ⟨T, id, pa, slot, hty, h1, h2, ?_⟩
  have hA := ha cpos pins s1 σ H1 _ I1 q1
  rw [hs] at hA ⊢
  refine Calls.callWith_builtin (by show (false || (backTo cpos (starEach es X.env)).any (·.1)) = false; rw [hplain] <;> rfl) (Calls.evalArgs_plain ?_)
  exact thn hA fun us s2 ⟨vs, H2, I2, r2, q2⟩ => hm pins s2 σ H2 x vs v us Q I2 r1 r2 q2
end
end L2
namespace L2
open PySem PySem.Spec PyProof.Rows
noncomputable def MtM (X : Cx) (id : String) (r : V → List V → Hp → VK → Prop) : Prop :=
  ∀ (pins : List (Addr × Obj)) (s : Shared) (σ : St) (H : Hp) (x : V) (xs : List V) (v : Value) (us : List Value) (Q : VK), Inv X pins σ H s → RelV x v → Vals xs us → r x xs H Q →
    wpAny (model X.prog X.w) X.A (call (.builtin id) (v :: us)) (EP X pins σ Q) X.xe s
theorem Vals.one : ∀ {x : V} {us : List Value}, Vals [x] us → ∃ u, us = [u] ∧ RelV x u
  | _, _, .cons r .nil => ⟨_, rfl, r⟩
theorem Vals.two : ∀ {x y : V} {us : List Value}, Vals [x, y] us → ∃ u v, us = [u, v] ∧ RelV x u ∧ RelV y v
  | _, _, _, .cons r (.cons q .nil) => ⟨_, _, rfl, r, q⟩
theorem Vals.zero : ∀ {us : List Value}, Vals [] us → us = []
  | _, .nil => rfl
theorem Vals.dropLast {xs : List V} {us : List Value} (h : Vals xs us) : Vals xs.dropLast us.dropLast := by
  induction h with
  | nil => exact .nil
  | cons r t ih =>
    cases t with
    | nil => exact .nil
    | cons q t' => exact .cons r ih
theorem Vals.reverse {xs : List V} {us : List Value} (h : Vals xs us) : Vals xs.reverse us.reverse := by
  induction h with
  | nil => exact .nil
  | cons r t ih => rw [List.reverse_cons, List.reverse_cons]; exact Vals.append ih (.cons r .nil)
theorem Vals.rep {xs : List V} {us : List Value} (h : Vals xs us) : ∀ k : Nat, Vals (List.replicate k xs).flatten (List.replicate k us).flatten
  | 0 => .nil
  | k + 1 => by
    rw [List.replicate_succ, List.replicate_succ, List.flatten_cons, List.flatten_cons]
    exact Vals.append h (Vals.rep h k)
theorem erase_last {α : Type} (l : List α) : l.eraseIdx (l.length - 1) = l.dropLast := by
  induction l with
  | nil => rfl
  | cons a r ih =>
    cases r with
    | nil => rfl
    | cons b r =>
      have e : (a :: b :: r).length - 1 = ((b :: r).length - 1) + 1 := by
        have h1 : (a :: b :: r).length = r.length + 2 := rfl
        have h2 : (b :: r).length = r.length + 1 := rfl
        omega
      rw [e, List.eraseIdx_cons_succ, ih]
      all_goals rfl
noncomputable section
variable {X : Cx} {pins : List (Addr × Obj)} {σ : St} {H : Hp} {s : Shared} {l b : Addr} {xs ys zs : List V}
theorem Inv.lset {its its' : List Value} {n : Nat} {f : Array Value → Array Value} {t' : Nat} (I : Inv X pins σ H s) (hH : H l = some (.lst xs))
    (e : s.heap.get? l = some { cls := .type "list", data := .seq its.toArray n }) (hf : f its.toArray = its'.toArray) (hv : Vals ys its') (hz : ys.length ≤ sizeLine) :
    Inv X pins σ (upd H l (.lst ys)) { s with heap := s.heap.update l (Obj.mapSeq f), toks := t' } := by
  have q := PySem.IsL.update e f
  rw [hf] at q
  refine I.write (x := l) (e := l) (by rw [hH]; exact trivial) (.inl rfl) (fun b' u hb hu => (Heap.get?_update_other s.heap (Obj.mapSeq f) (Ne.symm hb)).trans hu) ⟨_, q⟩ ?_
  exact ⟨hz, its', _, hv, q⟩
theorem Inv.lnew {its : List Value} {t' : Nat} (I : Inv X pins σ H s) (hv : Vals ys its) (hz : ys.length ≤ sizeLine) :
    Inv X pins σ (upd H s.heap.objs.size (.lst ys)) { s with heap := s.heap.push { cls := .type "list", data := .seq its.toArray }, toks := t' } :=
  I.laid (fun _ _ q => Heap.get?_push_of_some _ q) (Nat.le_refl _) ⟨hz, its, 0, hv, Heap.get?_push_size _ rfl⟩
theorem Inv.fresh (I : Inv X pins σ H s) : H s.heap.objs.size = none := I.hok.fresh (Nat.le_refl _)
theorem Inv.lstM (I : Inv X pins σ H s) (hH : H l = some (.lst xs)) : xs.length ≤ sizeLine ∧ ∃ (its : List Value) (n : Nat), Vals xs its ∧ xs.length = its.length ∧ s.heap.get? l = some { cls := .type "list", data := .seq its.toArray n } := by
  obtain ⟨z, its, n, r, e⟩ := I.hok l _ hH
  exact ⟨z, its, n, r, r.length, e⟩
theorem notLongL {n : Nat} (h : n ≤ sizeLine) : Builtin.List.listTooLong n = false := by
  unfold Builtin.List.listTooLong
  exact decide_eq_false (by omega)
end
noncomputable section
variable {X : Cx}
noncomputable def rAppend : V → List V → Hp → VK → Prop := fun x vs H Q => ∃ l xs y, x = .ref l ∧ vs = [y] ∧ H l = some (.lst xs) ∧ xs.length < sizeLine ∧ Q .non (upd H l (.lst (xs ++ [y])))
theorem mt_append : MtM X "list.append" rAppend := by
  intro pins s σ H x vs v us Q I rx rv h
  obtain ⟨l, xs, y, rfl, rfl, hH, hz, q⟩ := h
  cases rx
  obtain ⟨u, rfl, ru⟩ := rv.one
  obtain ⟨z, its, n, r, hl, e⟩ := I.lstM hH
  refine call_meets F.slot_list_append ⟨_, e, rfl⟩ F.entry_list_append (F.args_list_append_2 _ _) (PySem.list_append l its.toArray n u (by rw [List.size_toArray]; omega)) ⟨e, ?_⟩
  refine ⟨.non, _, I.lset (its' := its ++ [u]) hH e (by simp) (r.append (.cons ru .nil)) ?_, rfl, q⟩
  rw [List.length_append, List.length_singleton]
  omega
noncomputable def rPop : V → List V → Hp → VK → Prop := fun x vs H Q => ∃ l xs y, x = .ref l ∧ vs = [] ∧ H l = some (.lst xs) ∧ xs[xs.length - 1]? = some y ∧ Q y (upd H l (.lst xs.dropLast))
theorem mt_pop : MtM X "list.pop" rPop := by
  intro pins s σ H x vs v us Q I rx rv h
  obtain ⟨l, xs, y, rfl, rfl, hH, hy, q⟩ := h
  cases rx
  have hus := rv.zero
  subst hus
  obtain ⟨z, its, n, r, hl, e⟩ := I.lstM hH
  obtain ⟨u, hu, ru⟩ := r.get hy
  have hy' : its.toArray[its.toArray.size - 1]? = some u := by
    show its.toArray[its.length - 1]? = some u
    rw [← Array.getElem?_toList, ← hl]
    exact hu
  refine call_meets F.slot_list_pop ⟨_, e, rfl⟩ F.entry_list_pop (F.args_list_pop_1 _) (MeetsSeq.list_pop_last l its.toArray n u hy' (by rw [List.size_toArray]; omega)) ⟨e, ?_⟩
  refine ⟨y, _, I.lset (its' := its.dropLast) hH e ?_ r.dropLast ?_, ru, q⟩
  · show its.toArray.eraseIdxIfInBounds (its.toArray.size - 1) = its.dropLast.toArray
    rw [List.size_toArray, List.eraseIdxIfInBounds_toArray, erase_last]
  · rw [List.length_dropLast]
    omega
end
noncomputable section
variable {prog : Program} {w : World} {A : Around} {E : Value → Shared → Prop} {s : Shared}
end
noncomputable section
variable {X : Cx}
end
end L2
end
noncomputable section
set_option linter.all false
set_option maxRecDepth 100000
namespace L2
open PySem PySem.Spec PyProof.Rows
noncomputable section
variable {κ : Type} [DecidableEq κ]
noncomputable def valV (kvs : List (κ × V)) (k : κ) : Option V := (kvs.find? fun kv => decide (kv.1 = k)).map (·.2)
noncomputable def putK (kvs : List (κ × V)) (k : κ) (v : V) : List (κ × V) :=
  if (kvs.any fun kv => decide (kv.1 = k)) = true then kvs.map (fun kv => if kv.1 = k then (kv.1, v) else kv) else kvs ++ [(k, v)]
noncomputable def dropK (kvs : List (κ × V)) (k : κ) : List (κ × V) := kvs.filter fun kv => decide (kv.1 ≠ k)
theorem valV_pos {p : κ × V} {r : List (κ × V)} {k : κ} (e : p.1 = k) : valV (p :: r) k = some p.2 := by simp [valV, List.find?_cons, e]
theorem valV_neg {p : κ × V} {r : List (κ × V)} {k : κ} (e : ¬ p.1 = k) : valV (p :: r) k = valV r k := by simp [valV, List.find?_cons, e]
theorem valV_any (k : κ) : ∀ kvs : List (κ × V), (kvs.any fun kv => decide (kv.1 = k)) = (valV kvs k).isSome
  | [] => rfl
  | p :: r => by
    rw [List.any_cons]
    by_cases e : p.1 = k
    · simp only [valV_pos e, decide_eq_true e, Bool.true_or, Option.isSome_some]
    · rw [valV_neg e, decide_eq_false e, Bool.false_or]; exact valV_any k r
theorem length_putK (kvs : List (κ × V)) (k : κ) (v : V) : (putK kvs k v).length ≤ kvs.length + 1 := by
  unfold putK
  split
  · rw [List.length_map]; omega
  · rw [List.length_append, List.length_cons, List.length_nil]; omega
theorem RelO.isSome_eq {o : Option V} {u : Option Value} (r : RelO o u) : o.isSome = u.isSome := by
  cases o with
  | none => cases u with
    | none => rfl
    | some _ => exact (show False from r).elim
  | some _ => cases u with
    | none => exact (show False from r).elim
    | some _ => rfl
theorem RelO.getD {o : Option V} {u : Option Value} {d : V} {d' : Value} (r : RelO o u) (rd : RelV d d') : RelV (o.getD d) (u.getD d') := by
  cases o with
  | none => cases u with
    | none => exact rd
    | some _ => exact (show False from r).elim
  | some _ => cases u with
    | none => exact (show False from r).elim
    | some _ => exact r
theorem KV.val {kvs : List (κ × V)} {vs : List (κ × Value)} (r : KV kvs vs) (k : κ) : RelO (valV kvs k) (valueAt vs k) := by
  unfold KV at r
  induction r with
  | nil => exact True.intro
  | @cons p q ps qs h t ih =>
    obtain ⟨h1, h2⟩ := h
    by_cases e : p.1 = k
    · have e' : q.1 = k := h1.symm.trans e
      have b : valueAt (q :: qs) k = some q.2 := by simp [valueAt, List.find?_cons, e']
      rw [valV_pos e, b]; exact h2
    · have e' : ¬ q.1 = k := fun z => e (h1.trans z)
      have b : valueAt (q :: qs) k = valueAt qs k := by simp [valueAt, List.find?_cons, e']
      rw [valV_neg e, b]; exact ih
theorem KV.any {kvs : List (κ × V)} {vs : List (κ × Value)} (r : KV kvs vs) (k : κ) : (kvs.any fun kv => decide (kv.1 = k)) = vs.any fun kv => decide (kv.1 = k) := by
  unfold KV at r
  induction r with
  | nil => rfl
  | cons h t ih => rw [List.any_cons, List.any_cons, ih, h.1]
theorem KV.repl {kvs : List (κ × V)} {vs : List (κ × Value)} (r : KV kvs vs) (k : κ) {y : V} {u : Value} (ry : RelV y u) :
    KV (kvs.map fun kv => if kv.1 = k then (kv.1, y) else kv) (vs.map fun kv => if kv.1 = k then (kv.1, u) else kv) := by
  unfold KV at r ⊢
  induction r with
  | nil => exact .nil
  | @cons p q ps qs h t ih =>
    rw [List.map_cons, List.map_cons]
    refine .cons ?_ ih
    obtain ⟨h1, h2⟩ := h
    by_cases e : p.1 = k
    · rw [if_pos e, if_pos (h1.symm.trans e)]; exact ⟨h1, ry⟩
    · rw [if_neg e, if_neg (fun z => e (h1.trans z))]; exact ⟨h1, h2⟩
theorem KV.put {kvs : List (κ × V)} {vs : List (κ × Value)} (r : KV kvs vs) (k : κ) {y : V} {u : Value} (ry : RelV y u) : KV (putK kvs k y) (stored vs k u) := by
  unfold putK stored
  rw [r.any k]
  by_cases e : (vs.any fun kv => decide (kv.1 = k)) = true
  · rw [if_pos e, if_pos e]; exact r.repl k ry
  · rw [if_neg e, if_neg e]; exact Paired.snoc r ⟨rfl, ry⟩
theorem KV.drop {kvs : List (κ × V)} {vs : List (κ × Value)} (r : KV kvs vs) (k : κ) : KV (dropK kvs k) (without vs k) := by
  unfold KV at r ⊢
  unfold dropK without
  induction r with
  | nil => exact .nil
  | @cons p q ps qs h t ih =>
    obtain ⟨h1, h2⟩ := h
    rw [List.filter_cons, List.filter_cons]
    by_cases e : p.1 = k
    · have a : ¬ decide (p.1 ≠ k) = true := by simp [e]
      have b : ¬ decide (q.1 ≠ k) = true := by simp [h1.symm.trans e]
      rw [if_neg a, if_neg b]; exact ih
    · have e' : ¬ q.1 = k := fun z => e (h1.trans z)
      have a : decide (p.1 ≠ k) = true := by simp [e]
      have b : decide (q.1 ≠ k) = true := by simp [e']
      rw [if_pos a, if_pos b]; exact .cons ⟨h1, h2⟩ ih
theorem KV.keys {kvs : List (κ × V)} {vs : List (κ × Value)} (r : KV kvs vs) : kvs.map (·.1) = vs.map (·.1) := by
  unfold KV at r
  induction r with
  | nil => rfl
  | cons h t ih => rw [List.map_cons, List.map_cons, ih, h.1]
theorem KV.length {kvs : List (κ × V)} {vs : List (κ × Value)} (r : KV kvs vs) : kvs.length = vs.length := Paired.length r
end
theorem kV_is {P : Program} {w : World} {k : Key} {u : Value} (r : RelV (kV k) u) : (mixKind P w).is k u = true := by
  cases k with
  | inl i => obtain ⟨t, e⟩ := (show ∃ t, u = Value.int i t from r); subst e; exact mixKind_int P w i t
  | inr x => obtain ⟨t, e⟩ := (show ∃ t, u = Value.str x t from r); subst e; exact mixKind_str P w x t
theorem items_are {P : Program} {w : World} : ∀ {ks : List Key} {us : List Value}, Vals (ks.map kV) us → ItemsAre (mixKind P w) ks us
  | [], _, r => by rw [List.map_nil] at r; cases r; exact .nil
  | k :: ks, _, r => by
    rw [List.map_cons] at r
    cases r with
    | cons h t => exact .cons (kV_is h) (items_are t)
noncomputable abbrev KT (H : Hp) : List (List Key × V) → List (List Key × Addr × Value) → Prop := Paired fun p q => p.1 = q.1 ∧ H q.2.1 = some (.tup (p.1.map kV)) ∧ RelV p.2 q.2.2
theorem KT.val {H : Hp} {kvs : List (List Key × V)} {xs : List (List Key × Addr × Value)} (r : KT H kvs xs) (k : List Key) : RelO (valV kvs k) ((atKey xs k).map (·.2)) := by
  induction r with
  | nil => exact True.intro
  | @cons p q ps qs h t ih =>
    obtain ⟨h1, _, h2⟩ := h
    by_cases e : p.1 = k
    · have e' : q.1 = k := h1.symm.trans e
      have b : atKey (q :: qs) k = some q.2 := by simp [atKey, List.find?_cons, e']
      rw [valV_pos e, b]; exact h2
    · have e' : ¬ q.1 = k := fun z => e (h1.trans z)
      have b : atKey (q :: qs) k = atKey qs k := by simp [atKey, List.find?_cons, e']
      rw [valV_neg e, b]; exact ih
theorem KT.repl {H : Hp} {kvs : List (List Key × V)} {xs : List (List Key × Addr × Value)} (r : KT H kvs xs) (k : List Key) {y : V} {u : Value} (ry : RelV y u) :
    KT H (kvs.map fun kv => if kv.1 = k then (kv.1, y) else kv) (xs.map (putAt k u)) := by
  induction r with
  | nil => exact .nil
  | @cons p q ps qs h t ih =>
    rw [List.map_cons, List.map_cons]
    refine .cons ?_ ih
    obtain ⟨h1, h2, h3⟩ := h
    unfold putAt
    by_cases e : p.1 = k
    · rw [if_pos e, if_pos (h1.symm.trans e)]; exact ⟨h1, h2, ry⟩
    · rw [if_neg e, if_neg (fun z => e (h1.trans z))]; exact ⟨h1, h2, h3⟩
theorem KT.put {H : Hp} {kvs : List (List Key × V)} {xs : List (List Key × Addr × Value)} (r : KT H kvs xs) (k : List Key) {b : Addr} {y : V} {u : Value} (hb : H b = some (.tup (k.map kV))) (ry : RelV y u) :
    KT H (putK kvs k y) (storedH xs k b u) := by
  have e : (kvs.any fun kv => decide (kv.1 = k)) = (atKey xs k).isSome := by
    rw [valV_any, (r.val k).isSome_eq, Option.isSome_map]
  unfold putK storedH
  rw [e]
  by_cases q : (atKey xs k).isSome = true
  · rw [if_pos q, if_pos q]; exact r.repl k ry
  · rw [if_neg q, if_neg q]; exact Paired.snoc r ⟨rfl, hb, ry⟩
theorem KT.keeps {H H' : Hp} {kvs : List (List Key × V)} {xs : List (List Key × Addr × Value)} (r : KT H kvs xs) (ht : ∀ b ys, H b = some (.tup ys) → H' b = some (.tup ys)) : KT H' kvs xs :=
  Paired.mapP r fun _ _ z => ⟨z.1, ht _ _ z.2.1, z.2.2⟩
noncomputable section
variable {P : Program} {w : World} {H : Hp} {h : Heap} {a : Addr}
theorem rd_of {u : HO} (ok : HOk P w H h) (e : Rd H a u) : ObjOk P w H h a u := e.ok ok
theorem dk_rd {kvs : List (Key × V)} (ok : HOk P w H h) (e : Rd H a (.dK kvs)) : kvs.length ≤ sizeLine ∧ (a == sysModules) = false ∧ ∃ vs, KV kvs vs ∧ h.DictOf (mixKind P w) a vs :=
  show ObjOk P w H h a (.dK kvs) from rd_of ok e
theorem dk_of {kvs : List (Key × V)} (ok : HOk P w H h) (e : H a = some (.dK kvs)) : kvs.length ≤ sizeLine ∧ (a == sysModules) = false ∧ ∃ vs, KV kvs vs ∧ h.DictOf (mixKind P w) a vs := dk_rd ok (.inl e)
theorem key_of {ks : List Key} (ok : HOk P w H h) (e : H a = some (.tup (ks.map kV))) : (tupleKind (mixKind P w)).is h ks a := by
  obtain ⟨_, its, r, o, h1, h2, _, n, h3⟩ := (show ObjOk P w H h a (.tup (ks.map kV)) from ok a _ e)
  exact ⟨o, its.toArray, n, h1, h2, h3, by simpa using items_are r⟩
theorem dt_rd {kvs : List (List Key × V)} (ok : HOk P w H h) (e : Rd H a (.dT kvs)) : kvs.length ≤ sizeLine ∧ (a == sysModules) = false ∧
    ∃ xs, KT H kvs xs ∧ h.DictOfH (tupleKind (mixKind P w)) a xs := by
  obtain ⟨z, y, xs, r, o, es, ep, h1, h2, h3, h4, h5⟩ := (show ObjOk P w H h a (.dT kvs) from rd_of ok e)
  refine ⟨z, y, xs, r, o, es, ep, h1, h2, h3, h4, fun x hx => ?_, h5⟩
  have all : ∀ {l : List (List Key × V)} {m : List (List Key × Addr × Value)}, KT H l m → ∀ x ∈ m, (tupleKind (mixKind P w)).is h x.1 x.2.1 := by
    intro l m q
    induction q with
    | nil => intro x hx; exact nomatch hx
    | @cons p q ps qs hq t ih =>
      intro x hx
      rcases List.mem_cons.mp hx with e | hx
      · subst e
        exact key_of ok (by rw [← hq.1]; exact hq.2.1)
      · exact ih x hx
  exact all r x hx
theorem dt_of {kvs : List (List Key × V)} (ok : HOk P w H h) (e : H a = some (.dT kvs)) : kvs.length ≤ sizeLine ∧ (a == sysModules) = false ∧
    ∃ xs, KT H kvs xs ∧ h.DictOfH (tupleKind (mixKind P w)) a xs := dt_rd ok (.inl e)
end
noncomputable def DGet (H : Hp) (a : Addr) (y : V) (r : Option V) : Prop :=
  (∃ kvs k, Rd H a (.dK kvs) ∧ y = kV k ∧ r = valV kvs k) ∨ ∃ kvs k b, Rd H a (.dT kvs) ∧ y = .ref b ∧ H b = some (.tup (k.map kV)) ∧ r = valV kvs k
noncomputable def DPut (H : Hp) (a : Addr) (y v : V) (H' : Hp) : Prop :=
  (∃ kvs k, H a = some (.dK kvs) ∧ y = kV k ∧ kvs.length < sizeLine ∧ H' = upd H a (.dK (putK kvs k v))) ∨
  ∃ kvs k b, H a = some (.dT kvs) ∧ y = .ref b ∧ H b = some (.tup (k.map kV)) ∧ kvs.length < sizeLine ∧ H' = upd H a (.dT (putK kvs k v))
theorem DGet.k {H : Hp} {a : Addr} {kvs : List (Key × V)} {k : Key} (e : H a = some (.dK kvs)) : DGet H a (kV k) (valV kvs k) := .inl ⟨kvs, k, .inl e, rfl, rfl⟩
theorem DGet.t {H : Hp} {a b : Addr} {kvs : List (List Key × V)} {k : List Key} (e : H a = some (.dT kvs)) (eb : H b = some (.tup (k.map kV))) : DGet H a (.ref b) (valV kvs k) := .inr ⟨kvs, k, b, .inl e, rfl, eb, rfl⟩
theorem DPut.k {H : Hp} {a : Addr} {kvs : List (Key × V)} {k : Key} {v : V} (e : H a = some (.dK kvs)) (hl : kvs.length < sizeLine) : DPut H a (kV k) v (upd H a (.dK (putK kvs k v))) := .inl ⟨kvs, k, e, rfl, hl, rfl⟩
theorem DPut.t {H : Hp} {a b : Addr} {kvs : List (List Key × V)} {k : List Key} {v : V} (e : H a = some (.dT kvs)) (eb : H b = some (.tup (k.map kV))) (hl : kvs.length < sizeLine) :
    DPut H a (.ref b) v (upd H a (.dT (putK kvs k v))) := .inr ⟨kvs, k, b, e, rfl, eb, hl, rfl⟩
noncomputable section
variable {X : Cx} {pins : List (Addr × Obj)} {σ : St} {H : Hp} {s : Shared} {a : Addr} {y v : V} {u r : Value} {o : Option V} {A : Around} {E : Value → Shared → Prop}
theorem Inv.big (I : Inv X pins σ H s) : sysModules < s.heap.objs.size := by
  have h : mainGlobals < s.heap.objs.size := (I.mod.glob.keeps I.bk).lt
  exact Nat.lt_trans (by decide) h
theorem d_getItem {Q : Value → Shared → Prop} (hu : A.units + 1 < cLine) (I : Inv X pins σ H s) (g : DGet H a y (some v)) (ry : RelV y u) (h : ∀ w' s', Inv X pins σ H s' → RelV v w' → Q w' s') :
    wpAny (model X.prog X.w) A (getItem (.ref a) u) Q E s := by
  rcases g with ⟨kvs, k, e, ey, l⟩ | ⟨kvs, k, b, e, ey, eb, l⟩
  · subst ey
    obtain ⟨z, hd, vs, rel, dd⟩ := dk_rd I.hok e
    obtain ⟨w', hw, rw'⟩ := RelO.some_of (v := v) (o := valueAt vs k) (by rw [l]; exact rel.val k)
    exact wpAny_getItem_of (kV_is ry) dd.mapOf hw (h w' _ (I.tok _) rw')
  · subst ey
    cases (show u = Value.ref b from ry)
    obtain ⟨z, hd, xs, rel, dd⟩ := dt_rd I.hok e
    obtain ⟨w', hw, rw'⟩ := RelO.some_of (v := v) (o := (atKey xs k).map (·.2)) (by rw [l]; exact rel.val k)
    obtain ⟨p, hp, hp2⟩ := Option.map_eq_some_iff.mp hw
    refine wpAny_getItem_heap (tupleKind_room_in1 hu) (key_of I.hok eb) dd hp ?_
    rw [hp2]
    exact h w' _ (I.tok _) rw'
theorem d_in {Q : Value → Shared → Prop} (hu : A.units + 1 < cLine) (I : Inv X pins σ H s) (g : DGet H a y o) (ry : RelV y u) (h : ∀ s', Inv X pins σ H s' → Q (.bool o.isSome) s') :
    wpAny (model X.prog X.w) A (compareOp .In u (.ref a)) Q E s := by
  rcases g with ⟨kvs, k, e, ey, l⟩ | ⟨kvs, k, b, e, ey, eb, l⟩
  · subst ey
    obtain ⟨z, hd, vs, rel, dd⟩ := dk_rd I.hok e
    refine wpAny_in_of (kV_is ry) hd dd.mapOf ?_
    rw [← (rel.val k).isSome_eq, ← l]
    exact h _ (I.tok _)
  · subst ey
    cases (show u = Value.ref b from ry)
    obtain ⟨z, hd, xs, rel, dd⟩ := dt_rd I.hok e
    refine wpAny_in_heap (tupleKind_room_in1 hu) (key_of I.hok eb) hd dd ?_
    have q := (rel.val k).isSome_eq
    rw [Option.isSome_map] at q
    rw [← q, ← l]
    exact h _ (I.tok _)
theorem d_notIn {Q : Value → Shared → Prop} (hu : A.units + 1 < cLine) (I : Inv X pins σ H s) (g : DGet H a y o) (ry : RelV y u) (h : ∀ s', Inv X pins σ H s' → Q (.bool (!o.isSome)) s') :
    wpAny (model X.prog X.w) A (compareOp .NotIn u (.ref a)) Q E s := by
  rcases g with ⟨kvs, k, e, ey, l⟩ | ⟨kvs, k, b, e, ey, eb, l⟩
  · subst ey
    obtain ⟨z, hd, vs, rel, dd⟩ := dk_rd I.hok e
    refine wpAny_notIn_of (kV_is ry) hd dd.mapOf ?_
    rw [← (rel.val k).isSome_eq, ← l]
    exact h _ (I.tok _)
  · subst ey
    cases (show u = Value.ref b from ry)
    obtain ⟨z, hd, xs, rel, dd⟩ := dt_rd I.hok e
    refine wpAny_notIn_heap (tupleKind_room_in1 hu) (key_of I.hok eb) hd dd ?_
    have q := (rel.val k).isSome_eq
    rw [Option.isSome_map] at q
    rw [← q, ← l]
    exact h _ (I.tok _)
theorem d_write {h' : Heap} {t' : Nat} {ob : HO} (I : Inv X pins σ H s) (mu : Mut (H a)) (hs : Heap.SameBut a s.heap h') (he : ∃ q, h'.get? a = some q) (new : ObjOk X.prog X.w (upd H a ob) h' a ob) :
    Inv X pins σ (upd H a ob) { s with heap := h', toks := t' } :=
  I.write (x := a) (e := a) mu (.inl rfl) (fun b q hb z => (hs.2 b hb).trans z) he new
theorem dk_new {P : Program} {w : World} {H' : Hp} {h' : Heap} {kvs : List (Key × V)} {vs : List (Key × Value)} (z : kvs.length ≤ sizeLine) (hd : (a == sysModules) = false) (rel : KV kvs vs) (dd : h'.DictOf (mixKind P w) a vs) :
    ObjOk P w H' h' a (.dK kvs) := ⟨z, hd, vs, rel, dd⟩
theorem d_setItem {H' : Hp} {Q : Unit → Shared → Prop} (hu : A.units + 1 < cLine) (I : Inv X pins σ H s) (g : DPut H a y v H') (ry : RelV y u) (rv : RelV v r) (h : ∀ s', Inv X pins σ H' s' → Q () s') :
    wpAny (model X.prog X.w) A (setItem (.ref a) u r) Q E s := by
  rcases g with ⟨kvs, k, e, ey, l, eH⟩ | ⟨kvs, k, b, e, ey, eb, l, eH⟩
  · subst ey eH
    obtain ⟨z, hd, vs, rel, dd⟩ := dk_of I.hok e
    have hz : vs.length ≤ sizeLine := by rw [← rel.length]; exact z
    have hl : (putK kvs k v).length ≤ sizeLine := by have := length_putK kvs k v; omega
    refine wpAny_setItem_pairs (hsz := hz) (kV_is ry) dd fun h' dd' hs => h _ ?_
    have he : ∃ q, h'.get? a = some q := let ⟨q, _, _, hq, _⟩ := dd'; ⟨q, hq⟩
    exact d_write I (by rw [e]; exact True.intro) hs he (dk_new hl hd (rel.put k rv) dd')
  · subst ey eH
    cases (show u = Value.ref b from ry)
    obtain ⟨z, hd, xs, rel, dd⟩ := dt_of I.hok e
    have hz : xs.length ≤ sizeLine := by rw [← Paired.length rel]; exact z
    have hl : (putK kvs k v).length ≤ sizeLine := by have := length_putK kvs k v; omega
    refine wpAny_setItem_heap (hsz := hz) (tupleKind_room_in1 hu) (key_of I.hok eb) dd fun h' dd' hs => h _ ?_
    obtain ⟨q, es, ep, hq, h2, h3, h4, _, h5⟩ := dd'
    refine d_write I (by rw [e]; exact True.intro) hs ⟨q, hq⟩ ⟨hl, hd, _, (rel.put k eb rv).keeps fun c ys ec => ?_, q, es, ep, hq, h2, h3, h4, h5⟩
    rw [upd_ne (ne_of ec e (fun z => nomatch z))]
    exact ec
end
noncomputable section
variable {X : Cx} {pins : List (Addr × Obj)} {σ : St} {H : Hp} {s : Shared} {a : Addr} {kvs : List (Key × V)} {k : Key} {u : Value} {A : Around} {E : Value → Shared → Prop}
theorem d_len {Q : Value → Shared → Prop} (I : Inv X pins σ H s) (e : Rd H a (.dK kvs)) (h : ∀ t s', Inv X pins σ H s' → Q (.int kvs.length t) s') : wpAny (model X.prog X.w) A (call (.builtin "len") [.ref a]) Q E s := by
  obtain ⟨z, hd, vs, rel, dd⟩ := dk_rd I.hok e
  refine call_len_dict hd dd (by rw [← rel.length]; rw [sizeLine_eq] at z; omega) ?_
  rw [← rel.length]
  exact h _ _ (I.tok _)
end
noncomputable def NoSl (i : Expr) : Prop := ∀ ov iv, subscripted i false ov iv = operate [ov, iv] (getItem ov iv)
theorem subD_of {prog : Program} {w : World} {A : Around} {E : Value → Shared → Prop} {s : Shared} {env : Env} {value slice : Expr} {pos : Pos} {T id : String} {Q : Value → Shared → Prop}
    (hl : typeLookup (.type T) "__getitem__" = pure (some (.builtin id))) (hs : NoSl slice)
    (h : wpAny (model prog w) A (eval value env) (fun o s₁ => wpAny (model prog w) A (eval slice env) (fun i s₂ => s₂.TypeIs o T ∧ wpAny (model prog w) A (getItem o i) Q E s₂) E s₁) E s) :
    wpAny (model prog w) A (eval (.Subscript value slice pos) env) Q E s := by
  refine Subscript_ (wpAny_mono h (fun o s₁ h₁ => wpAny_mono h₁ (fun i s₂ h₂ => ?_) fun _ _ x => x) fun _ _ x => x)
  obtain ⟨hT, h₂⟩ := h₂
  unfold subscriptTail
  refine wpAny_bind ?_
  rw [getitemInPython_of_ne hT.not_modules]
  refine wpAny_bind (wpAny_specialOf hT hl ?_)
  have fin : wpAny (model prog w) A (subscripted slice false o i) (fun r s₃ => wpAny (model prog w) A (letTemporaryGo value o r >>= fun _ => pure r) Q E s₃) E s₂ := by
    rw [hs o i]
    exact wpAny_operating (wpAny_mono h₂ (fun r s₃ h₃ => wpAny_bind (wpAny_letTemporaryGo (wpAny_pure h₃))) fun _ _ x => x)
  first
    | exact wpAny_pure (wpAny_bind fin)
    | exact wpAny_bind (wpAny_pure (wpAny_bind fin))
    | exact wpAny_bind fin
theorem dict_typeIs {X : Cx} {pins : List (Addr × Obj)} {σ : St} {H : Hp} {s : Shared} {a : Addr} {y : V} {o : Option V} (I : Inv X pins σ H s) (g : DGet H a y o) : s.TypeIs (.ref a) "dict" := by
  rcases g with ⟨kvs, k, e, _, _⟩ | ⟨kvs, k, b, e, _, _, _⟩
  · obtain ⟨_, _, vs, _, dd⟩ := dk_rd I.hok e
    exact dd.typeIs
  · obtain ⟨_, _, xs, _, dd⟩ := dt_rd I.hok e
    exact dd.typeIs
noncomputable def sDPut (td ty tv : TE) : TS := fun D σ H => tv σ H fun v H1 => td σ H1 fun x H2 => ty σ H2 fun y H3 => ∃ a H4, x = .ref a ∧ DPut H3 a y v H4 ∧ D.nx σ H4
noncomputable section
variable {X : Cx} {o i e value : Expr} {pos pos' tpos : Pos} {td ty tv : TE}
theorem ps_dput (hu : X.A.units + 1 < cLine) (ho : PE X o td) (hi : PE X i ty) (hv : PE X value tv) (hs : swapsWith value (some (.Subscript o i pos')) pos.line X.env = pure false) :
    PS X (.Assign [.Subscript o i pos'] value pos) (sDPut td ty tv) := by
  intro pins s σ H D I h
  refine wpAny_Assign_Subscript (thn (hv pins s σ H _ I h) fun r s1 ⟨v, H1, I1, rv, q1⟩ => thn (ho pins s1 σ H1 _ I1 q1) fun u s2 ⟨x, H2, I2, rx, q2⟩ => thn (hi pins s2 σ H2 _ I2 q2) fun iv s3 ⟨y, H3, I3, ry, a, H4, ex, g, q3⟩ => ?_) hs
  subst ex
  obtain rfl : u = Value.ref a := rx
  exact d_setItem hu I3 g ry rv fun s4 I4 => ⟨σ, H4, I4, q3⟩
end
theorem dk_empty {P : Program} {w : World} {H : Hp} (h : Heap) (hb : sysModules < h.objs.size) : ObjOk P w H (h.push { cls := .type "dict", data := .dict #[] }) h.objs.size (.dK []) :=
  ⟨Nat.zero_le _, beq_eq_false_iff_ne.mpr (Ne.symm (Nat.ne_of_lt hb)), [], .nil, Heap.DictOf.new h⟩
noncomputable def tDNewK : TE := fun _ H Q => ∀ p, H p = none → Q (.ref p) (upd H p (.dK []))
noncomputable section
variable {X : Cx} {pos : Pos}
theorem pe_dnewK : PE X (.Dict [] [] pos) tDNewK := fun pins s σ H Q I h =>
  wpAny_Dict_empty ⟨.ref s.heap.objs.size, _, I.laid (a := s.heap.objs.size) (o := .dK []) (t' := s.toks) (fun _ _ q => Heap.get?_push_of_some _ q) (Nat.le_refl _) (dk_empty s.heap I.big), rfl, h _ (I.hok.fresh (Nat.le_refl _))⟩
end
noncomputable def tPairs : List (TE × TE) → St → Hp → (List (V × V) → Hp → Prop) → Prop
  | [], _, H, Q => Q [] H
  | (tk, tv) :: r, σ, H, Q => tk σ H fun x H1 => tv σ H1 fun y H2 => tPairs r σ H2 fun ps H3 => Q ((x, y) :: ps) H3
noncomputable abbrev VV : List (V × V) → List (Value × Value) → Prop := Paired fun p q => RelV p.1 q.1 ∧ RelV p.2 q.2
noncomputable def PPs (X : Cx) (pos : Pos) (keys : List (Option Expr)) (values : List Expr) (trs : List (TE × TE)) : Prop :=
  ∀ (pins : List (Addr × Obj)) (s : Shared) (σ : St) (H : Hp) (Q : List (V × V) → Hp → Prop), Inv X pins σ H s → tPairs trs σ H Q →
    wpAny (model X.prog X.w) X.A (evalPairs (pairTrees keys values X.env pos)) (fun vs s' => ∃ ps H', Inv X pins σ H' s' ∧ VV ps vs ∧ Q ps H') X.xe s
theorem pps_nil {X : Cx} {pos : Pos} : PPs X pos [] [] [] := fun pins s σ H Q I h => pairTrees_nil_walk ⟨[], H, I, .nil, h⟩
theorem pps_cons {X : Cx} {pos : Pos} {k v : Expr} {ks : List (Option Expr)} {vs : List Expr} {tk tv : TE} {trs : List (TE × TE)} (hk : PE X k tk) (hv : PE X v tv) (hr : PPs X pos ks vs trs) :
    PPs X pos (some k :: ks) (v :: vs) ((tk, tv) :: trs) := fun pins s σ H Q I h =>
  pairTrees_cons_walk (thn (hk pins s σ H _ I h) fun u s1 ⟨x, H1, I1, rx, q1⟩ => thn (hv pins s1 σ H1 _ I1 q1) fun w2 s2 ⟨y, H2, I2, ry, q2⟩ =>
    thn (hr pins s2 σ H2 _ I2 q2) fun ws s3 ⟨ps, H3, I3, rel, q3⟩ => ⟨(x, y) :: ps, H3, I3, .cons ⟨rx, ry⟩ rel, q3⟩)
noncomputable def mergeK (kvs more : List (Key × V)) : List (Key × V) := more.foldl (fun acc kv => putK acc kv.1 kv.2) kvs
theorem KV.merge : ∀ {more : List (Key × V)} {rs : List (Key × Value)} {kvs : List (Key × V)} {vs : List (Key × Value)}, KV more rs → KV kvs vs → KV (mergeK kvs more) (merged vs rs) := by
  intro more rs kvs vs r
  unfold KV at r
  induction r generalizing kvs vs with
  | nil => intro q; exact q
  | @cons p q ps qs h t ih =>
    intro r0
    have e : KV (putK kvs p.1 p.2) (stored vs q.1 q.2) := by
      have := r0.put p.1 h.2
      rw [← h.1]; exact this
    exact ih e
theorem length_mergeK : ∀ (more kvs : List (Key × V)), (mergeK kvs more).length ≤ kvs.length + more.length
  | [], kvs => by show kvs.length ≤ kvs.length + 0; omega
  | p :: r, kvs => by
    have h1 := length_mergeK r (putK kvs p.1 p.2)
    have h2 := length_putK kvs p.1 p.2
    show (mergeK (putK kvs p.1 p.2) r).length ≤ _
    rw [List.length_cons]; omega
theorem carries_of {P : Program} {w : World} : ∀ {kvs : List (Key × V)} {ws : List (Value × Value)}, VV (kvs.map fun kv => (kV kv.1, kv.2)) ws → ∃ rs, Carries (mixKind P w) ws rs ∧ KV kvs rs
  | [], _, r => by rw [List.map_nil] at r; cases r; exact ⟨[], True.intro, .nil⟩
  | p :: kvs, _, r => by
    rw [List.map_cons] at r
    cases r with
    | @cons a b as bs h t =>
      obtain ⟨rs, c, q⟩ := carries_of (P := P) (w := w) t
      obtain ⟨b1, b2⟩ := b
      exact ⟨(p.1, b2) :: rs, ⟨kV_is h.1, rfl, c⟩, .cons ⟨rfl, h.2⟩ q⟩
noncomputable def tDisp (trs : List (TE × TE)) : TE := fun σ H Q => ∀ p, H p = none → tPairs trs σ (upd H p (.dK [])) fun ps H2 => H2 p = some (.dK []) ∧ ∃ kvs : List (Key × V), ps = kvs.map (fun kv => (kV kv.1, kv.2)) ∧ kvs.length ≤ 15 ∧ Q (.ref p) (upd H2 p (.dK (mergeK [] kvs)))
theorem pe_disp {X : Cx} {pos : Pos} {keys : List (Option Expr)} {values : List Expr} {trs : List (TE × TE)} (h : PPs X pos keys values trs) (hall : keys.all (·.isSome) = true) (hl : keys.length = values.length) (h0 : keys ≠ [])
    (h15 : keys.length ≤ 15) : PE X (.Dict keys values pos) (tDisp trs) := by
  intro pins s σ H Q I q
  have hn := I.hok.fresh (Nat.le_refl s.heap.objs.size)
  have I1 := I.laid (a := s.heap.objs.size) (o := .dK []) (h' := s.heap.push { cls := .type "dict", data := .dict #[] }) (t' := s.toks) (fun _ _ q => Heap.get?_push_of_some _ q) (Nat.le_refl _) (dk_empty s.heap I.big)
  refine wpAny_Dict_walk (knd := mixKind X.prog X.w) hall hl h0 h15 (thn (h pins _ σ _ _ I1 (q _ hn)) fun ws s2 ⟨ps, H2, I2, rel, e, kvs, ep, lk, q2⟩ => ?_)
  subst ep
  obtain ⟨rs, c, rk⟩ := carries_of (P := X.prog) (w := X.w) rel
  obtain ⟨z, hd, vs0, r0, dd⟩ := dk_of I2.hok e
  cases r0
  refine ⟨rs, c, dd, fun h' dd' hs => ⟨.ref s.heap.objs.size, _, ?_, rfl, q2⟩⟩
  have hz : (mergeK [] kvs).length ≤ sizeLine := by
    have h1 := length_mergeK kvs []
    rw [List.length_nil] at h1
    rw [sizeLine_eq]; omega
  have he : ∃ q, h'.get? s.heap.objs.size = some q := let ⟨q, _, _, hq, _⟩ := dd'; ⟨q, hq⟩
  exact d_write I2 (by rw [e]; exact True.intro) hs he (dk_new hz hd (rk.merge .nil) dd')
structure M1 (X : Cx) (o : Expr) (m : Str) (apos : Pos) (e : Expr) (cpos : Pos) : Prop where
  base : attributeBase o m X.env (eval o X.env) = eval o X.env
  few : ((backTo cpos (starEach [e] X.env)).all (fun x => !x.1) && (backToKw cpos (keywordEach [] X.env)).all (fun x => x.1.isSome)
    && decide (([e] : List Expr).length + ([] : List Keyword).length + (if ([] : List Keyword).isEmpty then 0 else 1) < 30)) = true
  line : (apos.endLine == cpos.line) = true
  trees : backTo cpos (starEach [e] X.env) = [(false, eval e X.env)]
structure M2 (X : Cx) (o : Expr) (m : Str) (apos : Pos) (e f : Expr) (cpos : Pos) : Prop where
  base : attributeBase o m X.env (eval o X.env) = eval o X.env
  few : ((backTo cpos (starEach [e, f] X.env)).all (fun x => !x.1) && (backToKw cpos (keywordEach [] X.env)).all (fun x => x.1.isSome)
    && decide (([e, f] : List Expr).length + ([] : List Keyword).length + (if ([] : List Keyword).isEmpty then 0 else 1) < 30)) = true
  line : (apos.endLine == cpos.line) = true
  trees : backTo cpos (starEach [e, f] X.env) = [(false, eval e X.env), (false, eval f X.env)]
noncomputable def IsD (H : Hp) (a : Addr) : Prop := (∃ kvs, Rd H a (.dK kvs)) ∨ ∃ kvs, Rd H a (.dT kvs)
theorem isD_at {X : Cx} {pins : List (Addr × Obj)} {σ : St} {H : Hp} {s : Shared} {a : Addr} (I : Inv X pins σ H s) (d : IsD H a) :
    s.TypeIs (.ref a) "dict" ∧ (∀ b, Value.ref a = .ref b → ∃ ob, s.heap.get? b = some ob ∧ ob.dict = none) ∧ (a == sysModules) = false := by
  rcases d with ⟨kvs, e⟩ | ⟨kvs, e⟩
  · obtain ⟨_, hd, vs, _, dd⟩ := dk_rd I.hok e
    refine ⟨dd.typeIs, fun b q => ?_, hd⟩
    cases q
    obtain ⟨ob, _, _, h1, h2, _⟩ := dd
    exact ⟨ob, h1, h2.2.1⟩
  · obtain ⟨_, hd, xs, _, dd⟩ := dt_rd I.hok e
    refine ⟨dd.typeIs, fun b q => ?_, hd⟩
    cases q
    obtain ⟨ob, _, _, h1, h2, _⟩ := dd
    exact ⟨ob, h1, h2.2.1⟩
noncomputable section
variable {X : Cx} {pins : List (Addr × Obj)} {σ : St} {H : Hp} {s : Shared} {a : Addr} {y d : V} {u r : Value} {o : Option V} {A : Around} {E : Value → Shared → Prop}
theorem d_get2 {Q : Value → Shared → Prop} (hu : A.units + 1 < cLine) (I : Inv X pins σ H s) (g : DGet H a y o) (ry : RelV y u) (rd : RelV d r) (h : ∀ w' s', Inv X pins σ H s' → RelV (o.getD d) w' → Q w' s') :
    wpAny (model X.prog X.w) A (call (.builtin "dict.get") [.ref a, u, r]) Q E s := by
  rcases g with ⟨kvs, k, e, ey, l⟩ | ⟨kvs, k, b, e, ey, eb, l⟩
  · subst ey
    obtain ⟨z, hd, vs, rel, dd⟩ := dk_rd I.hok e
    refine call_meetsIn PySem.F.slot_dict_get dd.typeIs PySem.F.entry_dict_get (PySem.F.args_dict_get_3 _ _ _) (meets_dict_get_default (mixKind X.prog X.w) a (kV_is ry) hd r) ⟨_, dd.mapOf, h _ _ (I.tok _) ?_⟩
    rw [l]
    exact (rel.val k).getD rd
  · subst ey
    cases (show u = Value.ref b from ry)
    obtain ⟨z, hd, xs, rel, dd⟩ := dt_rd I.hok e
    refine call_meetsIn PySem.F.slot_dict_get dd.typeIs PySem.F.entry_dict_get (PySem.F.args_dict_get_3 _ _ _) (meetsH_dict_get_default (tupleKind (mixKind X.prog X.w)) a b hd r) ⟨tupleKind_room_in1 hu, k, xs, key_of I.hok eb, dd, h _ _ (I.tok _) ?_⟩
    rw [l]
    exact (rel.val k).getD rd
end
noncomputable def tDGet2 (td ty tx : TE) : TE := fun σ H Q => td σ H fun x H1 => ∃ a, x = .ref a ∧ IsD H1 a ∧ ty σ H1 fun y H2 => tx σ H2 fun z H3 => ∃ o, DGet H3 a y o ∧ Q (o.getD z) H3
noncomputable section
variable {X : Cx} {o e f : Expr} {apos cpos : Pos} {td ty tx : TE}
theorem pe_dget2 (hu : X.A.units + 1 < cLine) (ho : PE X o td) (he : PE X e ty) (hf : PE X f tx) (m : M2 X o "get" apos e f cpos) : PE X (.Call (.Attribute o "get" apos) [e, f] [] cpos) (tDGet2 td ty tx) := by
  intro pins s σ H Q I h
  refine wpAny_Call_method m.base m.few m.line PySem.F.plainAttrs_dict PySem.F.slot_dict_get PySem.F.type_dict_get (thn (ho pins s σ H _ I h) fun u s1 ⟨x, H1, I1, rx, a, ex, d, q1⟩ => ?_)
  subst ex
  obtain rfl : u = Value.ref a := rx
  obtain ⟨t1, t2, _⟩ := isD_at I1 d
  refine ⟨t1, t2, ?_⟩
  rw [m.trees]
  refine Calls.callWith_builtin rfl (Calls.evalArgs_plain (Calls.spliced_cons (thn (he pins s1 σ H1 _ I1 q1) fun iv s2 ⟨y, H2, I2, ry, q2⟩ =>
    Calls.spliced_cons (thn (hf pins s2 σ H2 _ I2 q2) fun fv s3 ⟨z, H3, I3, rz, ov, g, q3⟩ => Calls.spliced_nil ?_))))
  exact d_get2 hu I3 g ry rz fun w' s4 I4 rw' => ⟨_, H3, I4, rw', q3⟩
end
noncomputable section
variable {X : Cx} {pins : List (Addr × Obj)} {σ : St} {H : Hp} {s : Shared} {a : Addr} {kvs : List (Key × V)} {A : Around} {E : Value → Shared → Prop}
theorem d_copyOf {Q : Value → Shared → Prop} (I : Inv X pins σ H s) (e : Rd H a (.dK kvs)) (h : ∀ p s', H p = none → Inv X pins σ (upd H p (.dK kvs)) s' → Q (.ref p) s') : wpAny (model X.prog X.w) A (call (.type "dict") [.ref a]) Q E s := by
  obtain ⟨z, hd, vs, rel, dd⟩ := dk_rd I.hok e
  refine kt_call_dict hd dd (by rw [← rel.length]; exact z) fun h' dd' hs => ?_
  refine h _ _ (I.hok.fresh (Nat.le_refl _)) (I.laid (a := s.heap.objs.size) (o := .dK kvs) (t' := s.toks) (fun b q hq => ?_) (Nat.le_refl _) (dk_new z (beq_eq_false_iff_ne.mpr (Ne.symm (Nat.ne_of_lt I.big))) rel dd'))
  exact (hs.2 b (Nat.ne_of_lt (Heap.lt_size hq))).trans (Heap.get?_push_of_some _ hq)
end
noncomputable section
variable {X : Cx} {pins : List (Addr × Obj)} {σ : St} {H : Hp} {s : Shared} {a : Addr} {y : V} {u : Value} {A : Around} {E : Value → Shared → Prop}
end
end L2
end
noncomputable section
set_option linter.all false
set_option maxRecDepth 100000
namespace Att
open PySem PySem.W PySem.Calls PyProof.Rows
theorem ints_of_wellAll {P : Params} {h : Heap} : ∀ (ns : List Int) (vs : List Value), WellAll P h vs (ns.map WData.int) → IntsAre vs ns := by
  intro ns
  induction ns with
  | nil =>
    intro vs w
    rw [List.map_nil] at w
    cases w
    exact .nil
  | cons n ns ih =>
    intro vs w
    rw [List.map_cons] at w
    cases w with
    | cons a b =>
      cases a
      exact .cons _ _ (ih _ b)
theorem script_of {l : OpenLaw} {n : Nat} (hn : l.most = some n) {P : Params} {h : Heap} {args : List WData} {vals : List Value}
    (hpre : l.row.toRowW.claim.pre args = true) (hwl : WellAll P h vals args) :
    ∃ a vs ns, vals = [Value.ref a] ∧ args = [WData.list (ns.map WData.int)] ∧ h.get? a = some { cls := .type "list", data := .seq vs.toArray } ∧ IntsAre vs ns ∧ ns.length ≤ n := by
  have hsh : WShape.hasAll [] args [.list .int] = true := (pre_splitW hpre).1
  have hc : l.pre.holds [] { args := args } = true := (pre_splitW hpre).2
  obtain ⟨d, r, rfl, h1, h2⟩ := hasAllW_cons hsh
  obtain rfl := hasAllW_nil h2
  obtain ⟨xs, rfl, h3⟩ := hasW_list h1
  obtain ⟨ns, rfl⟩ := items_int h3
  have hlen : ns.length ≤ n := by
    unfold OpenLaw.pre at hc
    have h4 : (WTm.not (.lt (.lit (.int (n : Int))) (.len (.arg 0)))).holds [] { args := [.list (ns.map .int)] } = true := by
      have h4 := (holds_andW hc).1
      rw [hn] at h4
      exact h4
    have h5 := condW_of h4 (w_not (w_lt w_lit (w_len_list (w_arg rfl))))
    rw [List.length_map] at h5
    refine Nat.le_of_not_lt fun q => ?_
    have q' : (n : Int) < ((ns.length : Nat) : Int) := by omega
    first
      | (rw [decide_eq_true q'] at h5; exact absurd h5 (by decide))
      | (simp at h5; omega)
  cases hwl with
  | cons w1 w2 =>
    cases w2
    cases w1 with
    | list ho hall => exact ⟨_, _, ns, rfl, rfl, ho, ints_of_wellAll ns _ hall, hlen⟩
theorem post_true (l : OpenLaw) (args : List WData) : l.row.toRowW.claim.post args (.bool true) args = true :=
  postW_of (r := l.row.toRowW) (X := (true == true))
    (show WShape.has [] (.bool true) .bool = true by first | rfl | decide | simp [WShape.has, WShape.arms, WShape.armsAll])
    (show (WTm.eq .res (.lit (.bool true))).value [] { args := args, res := some (.bool true), after := args } = some (.bool (true == true)) from w_eq_bool (w_res rfl) w_lit) rfl
theorem attach_call {l : OpenLaw} {n : Nat} {q : Program} {loose : List Str} {XP : (Str → Option Value) → Heap → Prop} {YP : World → Heap → Prop} {d : DefRec}
    (hn : l.most = some n) (hdf : d.params.defaults = [])
    (call : ∀ (w : World) (s₀ s₁ : Shared) (mg mb : Str → Option Value) (fa : Addr) (o : Obj) (pm cd doc : Value) (a : Addr) (vs : List Value) (ns : List Int),
      Ground q loose [] XP w s₀ mg mb s₁.heap → YP w s₁.heap →
      s₁.heap.get? fa = some o → o.data = .func (docDef d.name d.params d.body d.scope pm cd doc) → s₁.heap.CodeRec cd d.name → mg d.name = some (.ref fa) →
      s₁.heap.get? a = some { cls := .type "list", data := .seq vs.toArray } → IntsAre vs ns → ns.length ≤ n → s₁.gens = #[] →
      codeAny (model l.prog w) callerA (.call (.ref fa) ⟨[.ref a], []⟩) (fun r s' => r = .ok (.ret (.bool true)) ∧ OldK s₁.heap s'.heap ∧ s'.os = s₁.os ∧ AllBare s'.gens) s₁) :
    WalkO q loose XP YP l.row.toRowW d [] (fun f vs => PySem.call f vs) := by
  intro w s₀ s₁ mg mb G Y fa o pm cd doc dV kV ho hd hcd hD hmg hg args vals as hpre hlay hrd hwl hlo
  obtain rfl : dV = .none := Dflts.none hD hdf
  obtain rfl : kV = .none := Dflts.noKw hD
  obtain ⟨a, vs, ns, rfl, rfl, hobj, hints, hlen⟩ := script_of hn hpre hwl
  refine enter_call (codeAny_mono (call w s₀ s₁ mg mb fa o pm cd doc a vs ns G Y ho (fd_plain hd) hcd hmg hobj hints hlen hg) fun r s' hq => ?_)
  obtain ⟨rfl, h2, h3, h4⟩ := hq
  exact ⟨.inl ⟨.bool true, .bool true, [], rfl, fun _ => rfl, .bool true, post_true l _, fun _ => ⟨List.Pairwise.nil, fun _ hm => (nomatch hm)⟩⟩, h2, h3, h4⟩
noncomputable section
variable {prog : Program} {w : World} {A : Around} {E : Value → Shared → Prop} {s : Shared} {K : Frag}
end
end Att
namespace L2
open PySem PySem.Spec PyProof.Rows
theorem vals_ints : ∀ {vs : List Value} {ns : List Int}, IntsAre vs ns → Vals (ns.map V.int) vs
  | _, _, .nil => .nil
  | _, _, .cons n t h => .cons ⟨t, rfl⟩ (vals_ints h)
noncomputable def Only (H : Hp) : Prop := ∀ b, H b = none ∨ ∃ o xs, H b = some (.frz o (.lst xs))
theorem law_call {P : Program} {w : World} {K : PySem.W.Frag} {mg mb : Str → Option Value} {CX : CXT} {k : Nat} {fa a : Addr} {fd : FuncData} {x : Str} {sp : Sp} {s₁ : Shared} {vs : List Value} {ns : List Int}
    (KX : K.In s₁.heap) (hns : s₁.heap.Ns mainGlobals mg) (hb : s₁.heap.Ns builtinsNs mb) (hbb : ∀ x : Str, x ≠ "__name__" → mb x = bootBuiltins x) (hlim : s₁.heap.NoLimit) (hg : s₁.gens = #[])
    (ha : s₁.heap.get? a = some { cls := .type "list", data := .seq vs.toArray }) (hi : IntsAre vs ns) (hl : ns.length ≤ sizeLine) (hr : Room k callerA)
    (F : ∀ base : Heap, K.In base → base.Ns mainGlobals mg → FnOk P w K mg base CX k fa fd [x] sp) (hbind : ∀ (s : Shared) (u : Value), BindsTo s fd ⟨[u], []⟩ [(x, u)])
    (hsp : ∀ H : Hp, Only H → SqL K H a (ns.map V.int) → sp [.ref a] H (fun v _ => v = .bl true) fun _ _ _ => False)
    (hCX : ∀ H e s', CX [] H s₁ (fun _ _ _ => False) e s' → False) :
    codeAny (model P w) callerA (.call (.ref fa) ⟨[.ref a], []⟩) (fun r s' => r = .ok (.ret (.bool true)) ∧ OldK s₁.heap s'.heap ∧ s'.os = s₁.os ∧ AllBare s'.gens) s₁ := by
  have rv := vals_ints hi
  have lenV := hi.length
  have core : ∀ H : Hp, Only H → SqL K H a (ns.map V.int) → HOk P w H s₁.heap → (∀ b, H b ≠ none → b = a) → (H a ≠ none → K.lookup a = none) →
      codeAny (model P w) callerA (.call (.ref fa) ⟨[.ref a], []⟩) (fun r s' => r = .ok (.ret (.bool true)) ∧ OldK s₁.heap s'.heap ∧ s'.os = s₁.os ∧ AllBare s'.gens) s₁ := by
    intro H hO hS hok hA hK
    have base_of : ∀ {b : Addr} {o : Obj}, s₁.heap.get? b = some o → H b = none → (hidT s₁.heap H).get? b = some o := fun e n => hidT_get e n
    have noA : ∀ {b : Addr} {o : Obj} {es : Array DictEntry} {ep : Nat}, s₁.heap.get? b = some o → o.data = .dict es ep → H b = none := fun {b o es ep} e d => by
      cases q : H b with
      | none => rfl
      | some u =>
        have e' : b = a := hA b (by rw [q]; simp)
        subst e'
        rw [ha] at e; cases e
        have d' : Data.seq vs.toArray _ = Data.dict es ep := d
        cases d'
    have nsK : ∀ {b : Addr} {m : Str → Option Value}, s₁.heap.Ns b m → (hidT s₁.heap H).Ns b m := fun {b m} ⟨o, es, ep, e, d, r⟩ => ⟨o, es, ep, base_of e (noA e d), d, r⟩
    have hKb : K.In (hidT s₁.heap H) := fun b o e => base_of (KX b o e) (by
      cases q : H b with
      | none => rfl
      | some u =>
        have e' : b = a := hA b (by rw [q]; simp)
        subst e'
        rw [hK (by rw [q]; simp)] at e; cases e)
    have hM : Mod K mg (hidT s₁.heap H) := ⟨hKb, nsK hns, ⟨mb, nsK hb, hbb⟩, let ⟨mc, h1, h2⟩ := hlim; ⟨mc, nsK h1, h2⟩⟩
    have e0 : Env0 P w K mg (hidT s₁.heap H) callerA [] s₁ H := ⟨rfl, hM, fun b o e => of_hidT e, Nat.le_of_eq (hidT_size _ _), trivial, fun b hb => absurd (show b ∈ ([] : List Addr) from hb) (by simp), hok, .of_eq hg⟩
    refine codeAny_mono ((F _ hKb (nsK hns)).run callerA [] s₁ H ⟨[.ref a], []⟩ [.ref a] [.ref a] _ _ hr e0 (hbind s₁ (.ref a)) (.cons rfl .nil) (hsp H hO hS)) fun r s' h => ?_
    cases r with
    | error e => exact (hCX H e s' h).elim
    | ok fl =>
      cases fl with
      | next => exact False.elim h
      | brk => exact False.elim h
      | cont => exact False.elim h
      | ret u =>
        obtain ⟨v, H', os, bare, un, hok', r', q⟩ := h
        have q' : v = .bl true := q
        subst q'
        obtain rfl : u = Value.bool true := r'
        refine ⟨rfl, OldK.of_keep fun b o e => ?_, os, bare⟩
        cases q : H b with
        | none => exact un.keep b o e q (by intro z; exact absurd (show b ∈ ([] : List Addr) from z) (by simp)) (by simp)
        | some u =>
          rcases hO b with z | ⟨ob, xs, z⟩
          · rw [q] at z; cases z
          · have z2 := un.frzs b ob _ z
            obtain ⟨e1, _⟩ := hok b _ z
            obtain ⟨e2, _⟩ := hok' b _ z2
            rw [e] at e1; cases e1
            exact e2
  cases hk : K.lookup a with
  | some o =>
    have e := KX a o hk
    rw [ha] at e
    cases e
    refine core (fun _ => none) (fun _ => .inl rfl) (.inr ⟨_, vs.toArray, _, hk, rfl, rfl, rfl, by rw [List.size_toArray, lenV]; exact hl, by simpa using rv⟩) (fun b u z => by have z' : (none : Option HO) = some u := z; cases z') (fun b z => absurd rfl z) fun z => absurd rfl z
  | none =>
    refine core (fun b => if b = a then some (.frz { cls := .type "list", data := .seq vs.toArray } (.lst (ns.map V.int))) else none) (fun b => ?_) (.inl (.inr ⟨{ cls := .type "list", data := .seq vs.toArray }, if_pos rfl⟩)) (fun b u z => ?_) (fun b z => ?_) fun _ => hk
    · by_cases hb : b = a
      · exact .inr ⟨_, _, if_pos hb⟩
      · exact .inl (if_neg hb)
    · by_cases hb : b = a
      · have z' := (if_pos hb).symm.trans z
        cases z'
        subst hb
        exact ⟨ha, by rw [List.length_map]; exact hl, vs, _, rv, ha⟩
      · have z' := (if_neg hb).symm.trans z
        cases z'
    · by_cases hb : b = a
      · exact hb
      · exact absurd (if_neg hb) z
end L2
namespace L2
open PySem PySem.Spec PyProof.Rows
theorem walk_of {l : PySem.W.OpenLaw} {n k : Nat} {q : Program} {loose : List Str} {XP : (Str → Option Value) → Heap → Prop} {YP : World → Heap → Prop} {d : DefRec} {K : Params → PySem.W.Frag} {CX : World → CXT} {sp : World → Sp} {x : Str}
    (hn : l.most = some n) (hn2 : n ≤ sizeLine) (hdf : d.params.defaults = []) (hr : Room k callerA)
    (hY : ∀ (w : World) (h : Heap), YP w h → (K w.params).In h)
    (F : ∀ (w : World) (mg : Str → Option Value) (fa : Addr) (h : Heap), (K w.params).In h → h.Ns mainGlobals mg → mg d.name = some (.ref fa) →
      ∃ fd : FuncData, (∀ (s : Shared) (u : Value), BindsTo s fd ⟨[u], []⟩ [(x, u)]) ∧
        ∀ base : Heap, (K w.params).In base → base.Ns mainGlobals mg → FnOk l.prog w (K w.params) mg base (CX w) k fa fd [x] (sp w))
    (hsp : ∀ (w : World) (H : Hp) (a : Addr) (ns : List Int), ns.length ≤ n → Only H → SqL (K w.params) H a (ns.map V.int) → sp w [.ref a] H (fun v _ => v = .bl true) fun _ _ _ => False)
    (hCX : ∀ (w : World) (H : Hp) (s : Shared) (e : Value) (s' : Shared), CX w [] H s (fun _ _ _ => False) e s' → False) :
    PySem.W.WalkO q loose XP YP l.row.toRowW d [] (fun f vs => PySem.call f vs) := by
  refine Att.attach_call hn hdf fun w s₀ s₁ mg mb fa o pm cd doc a vs ns G Y ho hd hcd hmg hobj hints hlen hg => ?_
  have KX := hY w _ Y
  obtain ⟨fd, hb, hF⟩ := F w mg fa _ KX G.T.g hmg
  exact law_call KX G.T.g G.T.b G.T.builtins G.T.nolimit hg hobj hints (Nat.le_trans hlen hn2) hr hF hb (fun H hO hS => hsp w H a ns hlen hO hS) fun H e s' => hCX w H s₁ e s'
end L2
namespace L2
open PySem PySem.Spec PyProof.Rows
noncomputable def defArgs (s : Stmt) : Arguments := match s with
  | .FunctionDef _ a _ _ _ _ _ _ _ _ => a
  | _ => { posonlyargs := [], args := [], vararg := none, kwonlyargs := [], kw_defaults := [], kwarg := none, defaults := [] }
noncomputable def defBody (s : Stmt) : List Stmt := match s with
  | .FunctionDef _ _ b _ _ _ _ _ _ _ => b
  | _ => []
noncomputable def defScope (s : Stmt) : Scope := match s with
  | .FunctionDef _ _ _ _ _ _ sc _ _ _ => sc
  | _ => { kind := .function, names := [], isGenerator := false, isCoroutine := false }
noncomputable abbrev CX0 : CXT := fun _ _ _ _ _ _ => False
noncomputable abbrev E0 : XK := fun _ _ _ => False
theorem pass0 {X : Cx} : Passes CX0 X E0 := fun _ _ _ _ _ _ _ h => h.elim
structure Fun (K : PySem.W.Frag) (x qual : Str) (st : Stmt) (f : Addr) (fd : FuncData) : Prop where
  ex : ∃ (oc : Value) (od : Option Addr) (kV doc pm : Value) (an : Option Addr) (cdv ct : Value) (osl : Array (Option Value)),
    fd = PySem.W.fnOf x qual (defArgs st) (defBody st) (defScope st) .none kV doc pm an cdv ct ∧ K.lookup f = some ⟨oc, od, .func fd, osl⟩ ∧ PySem.W.codeIn K cdv qual = true
  kp : PySem.W.keepIn K (.ref f) = true
noncomputable section
variable {P : Program} {w : World} {K : PySem.W.Frag} {mg : Str → Option Value} {base : Heap}
theorem Fun.ok {x qual : Str} {st : Stmt} {f : Addr} {fd : FuncData} {N ps : List Str} {k : Nat} {sp : Sp} (F : Fun K x qual st f fd) (S : FnScope N ps (defScope st)) (len : ∀ vs H Q E, sp vs H Q E → vs.length = ps.length)
    (hbody : ∀ (cdv : Value) (A : Around) (outer : List Env) (s : Shared) (H : Hp) (vs : List V) (Q : VK) (E : XK), Room k (A.deeper (envOfC qual (defScope st) s.heap.objs.size f cdv)) → sp vs H Q E →
      ∃ t, PSs (cxOf CX0 P w K mg base N qual (defScope st) f cdv A outer s H E).nox (defBody st) t ∧ t { nx := fun _ H' => Q .non H', rt := Q } (start N vs) H) : FnOk P w K mg base CX0 (k + 1) f fd ps sp := by
  obtain ⟨oc, od, kV, doc, pm, an, cdv, ct, osl, rfl, lk, hcd⟩ := F.ex
  refine fn_of lk hcd S len fun A outer s H vs Q E hr hsp => ?_
  obtain ⟨t, h, q⟩ := hbody cdv A outer s H vs Q E hr hsp
  exact ⟨t, h.nox, q⟩
theorem Fun.binds {x qual : Str} {st : Stmt} {f : Addr} {fd : FuncData} {ps : List Str} (F : Fun K x qual st f fd)
    (h : ∀ (kV doc pm : Value) (an : Option Addr) (cdv ct : Value) (us : List Value), us.length = ps.length → bindArgs (PySem.W.fnOf x qual (defArgs st) (defBody st) (defScope st) .none kV doc pm an cdv ct) ⟨us, []⟩ = pure (ps.zip us)) : Binds K fd ps [] := by
  obtain ⟨oc, od, kV, doc, pm, an, cdv, ct, osl, rfl, lk, hcd⟩ := F.ex
  exact .all (h kV doc pm an cdv ct)
theorem fun_mk {x qual : Str} {st : Stmt} {f : Addr} {oc : Value} {od an : Option Addr} {osl : Array (Option Value)} {kV doc pm cdv ct : Value} (l : K.lookup f = some ⟨oc, od, .func (PySem.W.fnOf x qual (defArgs st) (defBody st) (defScope st) .none kV doc pm an cdv ct), osl⟩)
    (c : PySem.W.codeIn K cdv qual = true) (k : PySem.W.keepIn K (.ref f) = true) : Fun K x qual st f (PySem.W.fnOf x qual (defArgs st) (defBody st) (defScope st) .none kV doc pm an cdv ct) := ⟨⟨oc, od, kV, doc, pm, an, cdv, ct, osl, rfl, l, c⟩, k⟩
end
theorem hu_of {A : Around} {k : Nat} (hr : Room k A) : A.units + 1 < cLine := Nat.lt_of_le_of_lt (Nat.add_le_add_left (by decide : 1 ≤ 64) _) hr.units
theorem small1000 {n : Nat} (h : n ≤ 1000) : n < sizeLine := Nat.lt_of_le_of_lt h (by decide)
noncomputable section
variable {X : Cx}
theorem pv (i : Nat) {x : Str} {pos : Pos} (hN : X.N[i]? = some x := by rfl) (hv : Vis X.env.scope x := by first | exact Or.inl rfl | exact Or.inr (Or.inl rfl) | exact Or.inr (Or.inr rfl)) (hd : (x == ("__debug__" : Str)) = false := by decide)
    (hcd : (x == ("__classdict__" : Str)) = false := by decide) : PE X (.Name x pos) (tVar i) := pe_var hN hv hd hcd
end
theorem iteF {A B : Prop} (h : B) : if false = true then A else B := by
  rw [if_neg Bool.false_ne_true]
  exact h
theorem iteT {A B : Prop} (h : A) : if true = true then A else B := by
  rw [if_pos rfl]
  exact h
noncomputable def Same (H H' : Hp) : Prop := ∀ b o, H b = some o → H' b = some o
theorem Same.refl (H : Hp) : Same H H := fun _ _ h => h
theorem Same.trans {H H1 H2 : Hp} (a : Same H H1) (b : Same H1 H2) : Same H H2 := fun c o h => b c o (a c o h)
theorem Same.free {H H' : Hp} (e : Same H H') {l : Addr} (h : H' l = Option.none) : H l = Option.none := by
  cases q : H l with
  | none => rfl
  | some o =>
    rw [e l o q] at h
    cases h
theorem Same.seq {K : PySem.W.Frag} {H H' : Hp} {a : Addr} {xs : List V} (e : Same H H') (h : SqL K H a xs) : SqL K H' a xs := by
  rcases h with (h | ⟨o, h⟩) | h
  · exact .inl (.inl (e _ _ h))
  · exact .inl (.inr ⟨o, e _ _ h⟩)
  · exact .inr h
end L2
end
noncomputable section
set_option linter.all false
set_option maxRecDepth 100000
namespace L2
open PySem PySem.Spec PyProof.Rows
noncomputable section
variable {X : Cx}
end
noncomputable section
variable {κ : Type} [DecidableEq κ]
end
end L2
end
noncomputable section
namespace C
open PySem
noncomputable abbrev Key := Sum Int Str
inductive T where
  | non | bl (b : Bool) | int (i : Int) | str (x : Str)
  | tup (xs : List T) | lst (xs : List T) | dic (kvs : List (Key × T)) | obj (n : Nat)
instance : Inhabited T := ⟨.non⟩
inductive SO where
  | dic (kvs : List (Key × T)) | lst (xs : List T) | ins (c : Str) (fs : List (Str × T))
noncomputable abbrev Slot := Option (T × Bool)
structure Sta where
  env : List Slot
  sto : List SO
noncomputable abbrev M (α : Type) := Sta → Option (α × Sta)
noncomputable def dGet (k : Key) : List (Key × T) → Option T
  | [] => none
  | (q, t) :: r => if q = k then some t else dGet k r
noncomputable def dPut (k : Key) (t : T) (kvs : List (Key × T)) : List (Key × T) :=
  if kvs.any fun p => decide (p.1 = k) then kvs.map fun p => if p.1 = k then (p.1, t) else p else kvs ++ [(k, t)]
noncomputable def keyOf : T → Option Key
  | .int i => some (.inl i)
  | .str x => some (.inr x)
  | _ => none
noncomputable def ofKey : Key → T
  | .inl i => .int i
  | .inr x => .str x
mutual
noncomputable def dat : T → Option PyData
  | .non => some .none
  | .bl b => some (.bool b)
  | .int i => some (.int i)
  | .str x => if PyData.canLay0 (.str x) then some (.str x) else none
  | .tup xs => (dats xs).map .tuple
  | .lst xs => (dats xs).map .list
  | .dic _ => none
  | .obj _ => none
noncomputable def dats : List T → Option (List PyData)
  | [] => some []
  | x :: r => match dat x with
    | some a => (dats r).map (a :: ·)
    | none => none
end
noncomputable def eqD (a b : T) : Option Bool := match dat a with
  | some x => match dat b with
    | some y => if x.depth ≤ 40 then some (PyData.eqv x y) else none
    | none => none
  | none => none
noncomputable def eqKs : List (Key × T) → List (Key × T) → Option Bool
  | [], _ => some true
  | (k, x) :: r, ys => match dGet k ys with
    | none => some false
    | some y => match eqD x y with
      | some e => (eqKs r ys).map (e && ·)
      | none => none
noncomputable def eqT : T → T → Option Bool
  | .dic a, .dic b => if a.length = b.length then eqKs a b else some false
  | x, y => eqD x y
noncomputable def mPure (t : T) : M T := fun s => some (t, s)
noncomputable def mVar (i : Nat) : M T := fun s => match s.env[i]? with
  | some (some (t, false)) => some (t, s)
  | some (some (t, true)) => some (t, { s with env := s.env.set i (some (t, false)) })
  | _ => none
noncomputable def mNil : M (List T) := fun s => some ([], s)
noncomputable def mCons (a : M T) (r : M (List T)) : M (List T) := fun s => match a s with
  | some (t, s1) => match r s1 with
    | some (ts, s2) => some (t :: ts, s2)
    | none => none
  | none => none
noncomputable def mStrs : List Str → M (List T)
  | [] => mNil
  | x :: r => mCons (mPure (.str x)) (mStrs r)
noncomputable def mMap (f : List T → Option T) (a : M (List T)) : M T := fun s => match a s with
  | some (ts, s1) => match f ts with
    | some t => some (t, s1)
    | none => none
  | none => none
noncomputable def mUn (f : T → Option T) (a : M T) : M T := fun s => match a s with
  | some (t, s1) => match f t with
    | some u => some (u, s1)
    | none => none
  | none => none
noncomputable def mOp (f : T → T → Option T) (a b : M T) : M T := fun s => match a s with
  | some (t, s1) => match b s1 with
    | some (u, s2) => match f t u with
      | some v => some (v, s2)
      | none => none
    | none => none
  | none => none
noncomputable abbrev Fn := List T → List SO → Option (T × List SO)
noncomputable def mCall (F : Fn) (a : M (List T)) : M T := fun s => match a s with
  | some (ts, s1) => match F ts s1.sto with
    | some (t, sto) => some (t, { s1 with sto := sto })
    | none => none
  | none => none
noncomputable def mTest (a : M T) : M Bool := fun s => match a s with
  | some (.bl b, s1) => some (b, s1)
  | _ => none
noncomputable def mNot (a : M Bool) : M Bool := fun s => match a s with
  | some (b, s1) => some (!b, s1)
  | none => none
noncomputable def mAnd (a b : M Bool) : M Bool := fun s => match a s with
  | some (true, s1) => b s1
  | some (false, s1) => some (false, s1)
  | none => none
noncomputable def mOr (a b : M Bool) : M Bool := fun s => match a s with
  | some (true, s1) => some (true, s1)
  | some (false, s1) => b s1
  | none => none
noncomputable def mBool (a : M Bool) : M T := fun s => match a s with
  | some (b, s1) => some (.bl b, s1)
  | none => none
noncomputable def mIf (c : M Bool) (a b : M T) : M T := fun s => match c s with
  | some (true, s1) => a s1
  | some (false, s1) => b s1
  | none => none
noncomputable abbrev lim : Nat := 1000000
noncomputable def bnd64 (i : Int) : Bool := decide (-(2 ^ 64) < i ∧ i < 2 ^ 64)
noncomputable def addT : T → T → Option T
  | .int i, .int j => some (.int (i + j))
  | .str x, .str y => if x.length + y.length < lim then some (.str (x ++ y)) else none
  | .tup x, .tup y => if x.length + y.length < lim then some (.tup (x ++ y)) else none
  | .lst x, .lst y => if x.length + y.length < lim then some (.lst (x ++ y)) else none
  | _, _ => none
noncomputable def subT : T → T → Option T
  | .int i, .int j => some (.int (i - j))
  | _, _ => none
noncomputable def mulT : T → T → Option T
  | .int i, .int j => if bnd64 i || bnd64 j then some (.int (i * j)) else none
  | .str x, .int j => if 0 ≤ j ∧ j ≤ 1000 ∧ x.length ≤ 100 then some (.str ⟨((List.replicate j.toNat x.cps.toList).flatten).toArray⟩) else none
  | _, _ => none
noncomputable def modT : T → T → Option T
  | .int i, .int j => if 0 < j then some (.int (i % j)) else none
  | _, _ => none
noncomputable def fdl : Nat := 2 ^ 200
noncomputable def fdivT : T → T → Option T
  | .int i, .int j => if 0 < j ∧ (j < 1073741824 ∨ j.natAbs < fdl) then some (.int (i / j)) else none
  | _, _ => none
noncomputable def powT : T → T → Option T
  | .int i, .int j => if 0 ≤ j ∧ j ≤ 1000 ∧ i.natAbs < 1000 then some (.int (i ^ j.toNat)) else none
  | _, _ => none
noncomputable def negT : T → Option T
  | .int i => some (.int (-i))
  | _ => none
noncomputable def ltT : T → T → Option T
  | .int i, .int j => some (.bl (decide (i < j)))
  | _, _ => none
noncomputable def leT : T → T → Option T
  | .int i, .int j => some (.bl (decide (i ≤ j)))
  | _, _ => none
noncomputable def gtT : T → T → Option T
  | .int i, .int j => some (.bl (decide (j < i)))
  | _, _ => none
noncomputable def eqO (x y : T) : Option T := match eqT x y with
  | some b => some (.bl b)
  | none => none
noncomputable def neO (x y : T) : Option T := match eqT x y with
  | some b => some (.bl (!b))
  | none => none
noncomputable def ixI (n : Nat) (i : Int) : Option Nat := if 0 ≤ i then (if i < n then some i.toNat else none) else if -(n : Int) ≤ i then some (i + n).toNat else none
noncomputable def itemT : T → T → Option T
  | .tup xs, .int i => (ixI xs.length i).bind (xs[·]?)
  | .lst xs, .int i => (ixI xs.length i).bind (xs[·]?)
  | .str x, .int i => if x.length < lim then (ixI x.cps.toList.length i).bind fun j => (x.cps.toList[j]?).map fun c => .str ⟨#[c]⟩ else none
  | .dic kvs, k => (keyOf k).bind (dGet · kvs)
  | _, _ => none
noncomputable def lenT : List T → Option T
  | [.tup xs] => some (.int xs.length)
  | [.lst xs] => some (.int xs.length)
  | [.str x] => if x.length < lim then some (.int x.length) else none
  | [.dic kvs] => some (.int kvs.length)
  | _ => none
noncomputable def inL (x : T) : List T → Option Bool
  | [] => some false
  | y :: r => match eqD y x with
    | some e => (inL x r).map (e || ·)
    | none => none
noncomputable def inT (x y : T) : Option T := match y with
  | .dic kvs => (keyOf x).map fun q => .bl (dGet q kvs).isSome
  | _ => if (dat x).isSome then (match y with
    | .tup ys => (inL x ys).map .bl
    | .lst ys => (inL x ys).map .bl
    | _ => none) else none
noncomputable def notInT (x y : T) : Option T := match inT x y with
  | some (.bl b) => some (.bl (!b))
  | _ => none
noncomputable def tupleT : List T → Option T
  | [.lst xs] => some (.tup xs)
  | [.tup xs] => some (.tup xs)
  | _ => none
noncomputable def pairsT : List T → Option (List (Key × T))
  | [] => some []
  | .tup [k, v] :: r => match keyOf k, pairsT r with
    | some q, some l => some ((q, v) :: l)
    | _, _ => none
  | _ => none
noncomputable def dictT : List T → Option T
  | [.lst xs] => if xs.length < lim then (pairsT xs).map fun l => .dic (l.foldl (fun d p => dPut p.1 p.2 d) []) else none
  | [.tup xs] => if xs.length < lim then (pairsT xs).map fun l => .dic (l.foldl (fun d p => dPut p.1 p.2 d) []) else none
  | [.dic kvs] => some (.dic kvs)
  | _ => none
noncomputable def intsT : List T → Option (List Int)
  | [] => some []
  | .int i :: r => (intsT r).map (i :: ·)
  | _ => none
noncomputable def sumT : List T → Option T
  | [.lst xs] => (intsT xs).map fun l => .int l.sum
  | _ => none
noncomputable def strsT : List T → Option (List Str)
  | [] => some []
  | .str x :: r => (strsT r).map (x :: ·)
  | _ => none
noncomputable def ins1 (x : Str) : List Str → List Str
  | [] => [x]
  | y :: r => if decide (x.cps.toList < y.cps.toList) then x :: y :: r else y :: ins1 x r
noncomputable def isort (l : List Str) : List Str := l.foldl (fun acc x => ins1 x acc) []
noncomputable def sortedT : List T → Option T
  | [.lst xs] => if xs.length < 64 then (strsT xs).map fun l => .lst ((isort l).map .str) else none
  | [.dic kvs] => if kvs.length < 64 then (strsT (kvs.map fun p => ofKey p.1)).map fun l => .lst ((isort l).map .str) else none
  | _ => none
noncomputable def isTup : List T → Option T
  | [.tup _] => some (.bl true)
  | [.obj _] => none
  | [_] => some (.bl false)
  | _ => none
noncomputable def isBl : List T → Option T
  | [.bl _] => some (.bl true)
  | [.obj _] => none
  | [_] => some (.bl false)
  | _ => none
noncomputable def revT : T → Option T
  | .lst xs => some (.lst xs.reverse)
  | .tup xs => some (.tup xs.reverse)
  | _ => none
noncomputable def isNon : T → Bool
  | .non => true
  | _ => false
noncomputable def isNT (x y : T) : Option T := if isNon y then some (.bl (isNon x)) else none
noncomputable def absT : List T → Option T
  | [.int i] => some (.int (if i < 0 then -i else i))
  | _ => none
noncomputable def mOwnLen (i : Nat) : M T := fun s => match s.env[i]? with
  | some (some (.lst xs, _)) => some (.int xs.length, s)
  | some (some (.dic xs, _)) => some (.int xs.length, s)
  | _ => none
noncomputable def dicAt (i : Nat) (s : Sta) : Bool := match s.env[i]? with
  | some (some (.dic _, _)) => true
  | _ => false
noncomputable def lstAt (i : Nat) (s : Sta) : Bool := match s.env[i]? with
  | some (some (.lst _, _)) => true
  | _ => false
noncomputable def mOwnGet (i : Nat) (k d : M T) : M T := fun s => if dicAt i s then (match k s with
  | some (kt, s1) => match d s1 with
    | some (dt, s2) => match s2.env[i]? with
      | some (some (.dic kvs, _)) => match keyOf kt with
        | some q => some ((dGet q kvs).getD dt, s2)
        | none => none
      | _ => none
    | none => none
  | none => none) else none
inductive Flow where
  | next | ret (t : T) | brk | cont
noncomputable abbrev S := Sta → Option (Flow × Sta)
noncomputable def sNil : S := fun s => some (.next, s)
noncomputable def sSeq (a b : S) : S := fun s => match a s with
  | some (.next, s1) => b s1
  | r => r
noncomputable def sRet (e : M T) : S := fun s => match e s with
  | some (t, s1) => some (.ret t, s1)
  | none => none
noncomputable def sIf (c : M Bool) (a b : S) : S := fun s => match c s with
  | some (true, s1) => a s1
  | some (false, s1) => b s1
  | none => none
noncomputable def putSlot (i : Nat) (t : T) (own : Bool) (s : Sta) : Sta := { s with env := s.env.set i (some (t, own)) }
noncomputable def sSet (i : Nat) (e : M T) : S := fun s => match e s with
  | some (t, s1) => some (.next, putSlot i t false s1)
  | none => none
noncomputable def sNew (i : Nat) (e : M T) : S := fun s => match e s with
  | some (t, s1) => some (.next, putSlot i t true s1)
  | none => none
noncomputable def sAppend (i : Nat) (e : M T) : S := fun s => if lstAt i s then (match e s with
  | some (t, s1) => match s1.env[i]? with
    | some (some (.lst xs, true)) => if xs.length < lim then some (.next, putSlot i (.lst (xs ++ [t])) true s1) else none
    | _ => none
  | none => none) else none
noncomputable def seqOf : T → Option (List T)
  | .lst xs => some xs
  | .tup xs => some xs
  | _ => none
noncomputable def sExtend (i : Nat) (e : M T) : S := fun s => if lstAt i s then (match e s with
  | some (t, s1) => match seqOf t, s1.env[i]? with
    | some ys, some (some (.lst xs, true)) => if xs.length + ys.length < lim then some (.next, putSlot i (.lst (xs ++ ys)) true s1) else none
    | _, _ => none
  | none => none) else none
noncomputable def sOwnPut (i : Nat) (k v : M T) : S := fun s => match v s with
  | some (t, s1) => if dicAt i s1 then (match k s1 with
    | some (kt, s2) => match s2.env[i]?, keyOf kt with
      | some (some (.dic kvs, true)), some q => if kvs.length < lim then some (.next, putSlot i (.dic (dPut q t kvs)) true s2) else none
      | _, _ => none
    | none => none) else none
  | none => none
noncomputable def sReverse (i : Nat) : S := fun s => match s.env[i]? with
  | some (some (.lst xs, true)) => some (.next, putSlot i (.lst xs.reverse) true s)
  | _ => none
noncomputable def sNx (u : S) : S := fun s => match u s with
  | some (.next, s1) => some (.next, s1)
  | _ => none
noncomputable def sRetOwn (i : Nat) : S := fun s => match s.env[i]? with
  | some (some (t, true)) => some (.ret t, s)
  | _ => none
noncomputable abbrev G := T → Sta → Option Sta
noncomputable def hName (i : Nat) : G := fun t s => some (putSlot i t false s)
noncomputable def hTup (is : List Nat) : G := fun t s => match t with
  | .tup xs => if xs.length = is.length then some ((is.zip xs).foldl (fun s p => putSlot p.1 p.2 false s) s) else none
  | _ => none
noncomputable def sGo (g : G) (m : M T) : S := fun s => match m s with
  | some (t, s1) => match g t s1 with
    | some s2 => some (.next, s2)
    | none => none
  | none => none
noncomputable def forL (g : G) (b : S) : List T → S
  | [] => fun s => some (.next, s)
  | t :: r => fun s => match g t s with
    | some s1 => match b s1 with
      | some (.next, s2) => forL g b r s2
      | some (.cont, s2) => forL g b r s2
      | some (.brk, s2) => some (.next, s2)
      | some (.ret v, s2) => some (.ret v, s2)
      | none => none
    | none => none
noncomputable def sFor (g : G) (it : M (List T)) (b : S) : S := fun s => match it s with
  | some (ts, s1) => forL g b ts s1
  | none => none
noncomputable def rangeT (n : Nat) : List T := (List.range n).map fun (k : Nat) => .int (k : Int)
noncomputable def iRange (a : M T) : M (List T) := fun s => match a s with
  | some (.int n, s1) => if n.natAbs < lim then some (rangeT n.toNat, s1) else none
  | _ => none
noncomputable def iSeq (a : M T) : M (List T) := fun s => match a s with
  | some (.lst xs, s1) => if xs.length < lim then some (xs, s1) else none
  | some (.tup xs, s1) => if xs.length < lim then some (xs, s1) else none
  | _ => none
noncomputable def thaw (s : Slot) : Slot := match s with
  | some (t, _) => some (t, false)
  | none => none
noncomputable def freezeAll (s : Sta) : Sta := { s with env := s.env.map thaw }
noncomputable def compL (g : G) (c : M Bool) (e : M T) : List T → Sta → List T → Option (List T × Sta)
  | [], s, acc => some (acc, s)
  | t :: r, s, acc => match g t s with
    | some s1 => match c s1 with
      | some (true, s2) => match e s2 with
        | some (u, s3) => if acc.length < lim then compL g c e r (freezeAll s3) (acc ++ [u]) else none
        | none => none
      | some (false, s2) => compL g c e r (freezeAll s2) acc
      | none => none
    | none => none
noncomputable def mTrue : M Bool := fun s => some (true, s)
noncomputable def freezeAt (is : List Nat) (env : List Slot) : List Slot := is.foldl (fun e i => match e[i]? with
  | some (some (t, _)) => e.set i (some (t, false))
  | _ => e) env
noncomputable def mComp (nv : Nat) (cap : List Nat) (g : G) (it : M (List T)) (c : M Bool) (e : M T) : M T := fun s => match it s with
  | some (ts, s1) =>
    let env := freezeAt cap s1.env
    match compL g c e ts ⟨List.replicate nv none ++ cap.map (fun i => (env[i]?).getD none), s1.sto⟩ [] with
    | some (us, s2) => some (.lst us, ⟨env, s2.sto⟩)
    | none => none
  | none => none
noncomputable def runFn (n : Nat) (b : S) : Fn := fun ts sto => match b ⟨ts.map (fun t => some (t, false)) ++ List.replicate (n - ts.length) none, sto⟩ with
  | some (.ret t, s) => some (t, s.sto)
  | some (.next, s) => some (.non, s.sto)
  | _ => none
noncomputable section
variable {s s' : Sta} {t v : T} {a b : M T}
theorem mOp_inv {f : T → T → Option T} (h : mOp f a b s = some (v, s')) : ∃ t s1 u, a s = some (t, s1) ∧ b s1 = some (u, s') ∧ f t u = some v := by
  unfold mOp at h
  cases ha : a s with
  | none => rw [ha] at h; cases h
  | some p =>
    obtain ⟨t, s1⟩ := p; rw [ha] at h; dsimp only at h
    cases hb : b s1 with
    | none => rw [hb] at h; cases h -- here
    | some p =>
      obtain ⟨u, s2⟩ := p; rw [hb] at h; dsimp only at h
      cases hf : f t u with
      | none => rw [hf] at h; cases h
      | some w => rw [hf] at h; cases h; exact ⟨t, s1, u, rfl, hb, hf⟩
theorem mUn_inv {f : T → Option T} (h : mUn f a s = some (v, s')) : ∃ t, a s = some (t, s') ∧ f t = some v := by
  unfold mUn at h
  cases ha : a s with
  | none => rw [ha] at h; cases h
  | some p =>
    obtain ⟨t, s1⟩ := p; rw [ha] at h; dsimp only at h
    cases hf : f t with
    | none => rw [hf] at h; cases h
    | some w => rw [hf] at h; cases h; exact ⟨t, rfl, hf⟩
theorem mMap_inv {f : List T → Option T} {a : M (List T)} (h : mMap f a s = some (v, s')) : ∃ ts, a s = some (ts, s') ∧ f ts = some v := by
  unfold mMap at h
  cases ha : a s with
  | none => rw [ha] at h; cases h
  | some p =>
    obtain ⟨t, s1⟩ := p; rw [ha] at h; dsimp only at h
    cases hf : f t with
    | none => rw [hf] at h; cases h
    | some w => rw [hf] at h; cases h; exact ⟨t, rfl, hf⟩
theorem mCons_inv {r : M (List T)} {ts : List T} (h : mCons a r s = some (ts, s')) : ∃ t s1 us, a s = some (t, s1) ∧ r s1 = some (us, s') ∧ ts = t :: us := by
  unfold mCons at h
  cases ha : a s with
  | none => rw [ha] at h; cases h
  | some p =>
    obtain ⟨t, s1⟩ := p; rw [ha] at h; dsimp only at h
    cases hb : r s1 with
    | none => rw [hb] at h; cases h -- here
    | some p => obtain ⟨u, s2⟩ := p; rw [hb] at h; cases h; exact ⟨t, s1, u, rfl, hb, rfl⟩
theorem mCall_inv {F : Fn} {a : M (List T)} (h : mCall F a s = some (v, s')) : ∃ ts s1 sto, a s = some (ts, s1) ∧ F ts s1.sto = some (v, sto) ∧ s' = { s1 with sto := sto } := by
  unfold mCall at h
  cases ha : a s with
  | none => rw [ha] at h; cases h
  | some p =>
    obtain ⟨t, s1⟩ := p; rw [ha] at h; dsimp only at h
    cases hf : F t s1.sto with
    | none => rw [hf] at h; cases h
    | some w => obtain ⟨w, sto⟩ := w; rw [hf] at h; cases h; exact ⟨t, s1, sto, rfl, hf, rfl⟩
theorem mTest_inv {b : Bool} (h : mTest a s = some (b, s')) : a s = some (.bl b, s') := by
  unfold mTest at h
  cases ha : a s with
  | none => rw [ha] at h; cases h
  | some p =>
    obtain ⟨t, s1⟩ := p; rw [ha] at h
    cases t <;> first | (cases h; rfl) | (cases h)
theorem mBool_inv {c : M Bool} (h : mBool c s = some (v, s')) : ∃ b, c s = some (b, s') ∧ v = .bl b := by
  unfold mBool at h
  cases ha : c s with
  | none => rw [ha] at h; cases h
  | some p => obtain ⟨t, s1⟩ := p; rw [ha] at h; cases h; exact ⟨t, rfl, rfl⟩
theorem mNot_inv {c : M Bool} {b : Bool} (h : mNot c s = some (b, s')) : ∃ k, c s = some (k, s') ∧ b = !k := by
  unfold mNot at h
  cases ha : c s with
  | none => rw [ha] at h; cases h
  | some p => obtain ⟨t, s1⟩ := p; rw [ha] at h; cases h; exact ⟨t, rfl, rfl⟩
theorem mAnd_inv {c d : M Bool} {b : Bool} (h : mAnd c d s = some (b, s')) : (∃ s1, c s = some (true, s1) ∧ d s1 = some (b, s')) ∨ (c s = some (false, s') ∧ b = false) := by
  unfold mAnd at h
  cases ha : c s with
  | none => rw [ha] at h; cases h
  | some p =>
    obtain ⟨k, s1⟩ := p; rw [ha] at h
    cases k with
    | true => exact .inl ⟨s1, rfl, h⟩
    | false => cases h; exact .inr ⟨rfl, rfl⟩
theorem mOr_inv {c d : M Bool} {b : Bool} (h : mOr c d s = some (b, s')) : (∃ s1, c s = some (false, s1) ∧ d s1 = some (b, s')) ∨ (c s = some (true, s') ∧ b = true) := by
  unfold mOr at h
  cases ha : c s with
  | none => rw [ha] at h; cases h
  | some p =>
    obtain ⟨k, s1⟩ := p; rw [ha] at h
    cases k with
    | false => exact .inl ⟨s1, rfl, h⟩
    | true => cases h; exact .inr ⟨rfl, rfl⟩
theorem mIf_inv {c : M Bool} (h : mIf c a b s = some (v, s')) : (∃ s1, c s = some (true, s1) ∧ a s1 = some (v, s')) ∨ (∃ s1, c s = some (false, s1) ∧ b s1 = some (v, s')) := by
  unfold mIf at h
  cases ha : c s with
  | none => rw [ha] at h; cases h
  | some p =>
    obtain ⟨k, s1⟩ := p; rw [ha] at h
    cases k with
    | true => exact .inl ⟨s1, rfl, h⟩
    | false => exact .inr ⟨s1, rfl, h⟩
theorem mVar_inv {i : Nat} (h : mVar i s = some (v, s')) : (s.env[i]? = some (some (v, false)) ∧ s' = s) ∨ (s.env[i]? = some (some (v, true)) ∧ s' = { s with env := s.env.set i (some (v, false)) }) := by
  unfold mVar at h
  split at h
  · rename_i t e; cases h; exact .inl ⟨e, rfl⟩
  · rename_i t e; cases h; exact .inr ⟨e, rfl⟩
  · cases h
end
end C
end
noncomputable section
set_option linter.all false
set_option maxRecDepth 100000
set_option maxHeartbeats 4000002
namespace L2
open PySem PySem.Spec PyProof.Rows
noncomputable section
variable {pr : Program} {wd : World} {Ar : Around} {Rs : Result → Shared → Prop} {s : Shared}
theorem compLoop_gen {el tgt itr : Expr} {cs : List Expr} {scp : Scope} {ps : Pos} {itv accv : Value} {en : Env} (J : Nat → Shared → Prop)
    (turn : ∀ n z, J n z → wpAny (model pr wd) Ar (pyNext itv) (fun nx z1 => match nx with
      | none => Rs (.ok .next) z1
      | some v => wpAny (model pr wd) Ar (letOwnedTupleGo tgt itv v) (fun _ z2 => wpAny (model pr wd) Ar (assign tgt en v) (fun _ z3 =>
          wpAny (model pr wd) Ar (forIn cs true fun c go => if go = true then do let ok ← isTrue c en (eval c en); pure (ForInStep.yield ok) else pure (ForInStep.yield go)) (fun ok z4 =>
            if ok = true then wpAny (model pr wd) Ar (eval el en) (fun x z5 =>
              wpAny (model pr wd) Ar (call (.builtin "list.append") [accv, x]) (fun _ z6 => ∃ m, m < n ∧ J m z6) (fun _ _ => False) z5) (fun _ _ => False) z4
            else ∃ m, m < n ∧ J m z4) (fun _ _ => False) z3) (fun _ _ => False) z2) (fun _ _ => False) z1) (fun _ _ => False) z)
    (n : Nat) (h : J n s) :
    codeAny (model pr wd) Ar (.compLoop (.ListComp el [⟨tgt, itr, cs, 0⟩] scp ps) 0 itv accv en) Rs s := by
  refine codeAny_loop rfl J (fun k z hz => ?_) n h
  show wpAny _ Ar ((compTurn (.ListComp el [⟨tgt, itr, cs, 0⟩] scp ps) 0 itv accv en).onRaise (fun ex => do noteFrame ex en; theTreesLotGoes ex)) _ _ z
  refine wpAny_noted ?_
  rw [compTurn_list]
  refine wpAny_bind (wpAny_standAt (wpAny_bind (wpAny_mono (turn k z hz) (fun nx z1 g1 => ?_) fun _ _ no => no.elim)))
  cases nx with
  | none => exact wpAny_pure g1
  | some v =>
    refine wpAny_bind (wpAny_mono g1 (fun _ z2 g2 => ?_) fun _ _ no => no.elim)
    refine wpAny_bind (wpAny_mono g2 (fun _ z3 g3 => wpAny_bind (wpAny_mono g3 (fun ok z4 g4 => ?_) fun _ _ no => no.elim)) fun _ _ no => no.elim)
    cases ok with
    | false => exact wpAny_pure (And.intro rfl g4)
    | true =>
      exact wpAny_bind (wpAny_bind (wpAny_mono g4 (fun x z5 g5 => wpAny_bind (wpAny_mono g5 (fun _ z6 g6 => wpAny_pure (wpAny_pure (And.intro rfl g6))) fun _ _ no => no.elim)) fun _ _ no => no.elim))
end
noncomputable def clOf (env : Env) : List (Str × NameKind) → List (Str × Addr) → List (Str × Addr)
  | [], cs => cs
  | (n, k) :: r, cs => clOf env r (if (k == NameKind.free) = true then (match env.cells.lookup n with | some c => (n, c) :: cs | none => cs) else cs)
noncomputable def hasCells (env : Env) (names : List (Str × NameKind)) : Bool := names.all fun y => !(y.2 == NameKind.free) || (env.cells.lookup y.1).isSome
theorem closureFor_cl {scope : Scope} {env : Env} (h : hasCells env scope.names = true) : closureFor scope env = pure (clOf env scope.names []) := by
  have key : ∀ (l : List (Str × NameKind)) (cs : List (Str × Addr)), hasCells env l = true →
      (forIn (m := Sem) l cs fun x r => (do
        if (x.2 == NameKind.free) = true then
          let c ← cellOf env x.1
          pure (ForInStep.yield ((x.1, c) :: r))
        else pure (ForInStep.yield r))) = pure (clOf env l cs) := by
    intro l
    induction l with
    | nil => intro cs _; rfl
    | cons x r ih =>
      intro cs h
      obtain ⟨n, k⟩ := x
      unfold hasCells at h
      rw [List.all_cons, Bool.and_eq_true] at h -- here
      obtain ⟨h1, h2⟩ := h
      rw [List.forIn_cons]
      by_cases hk : (k == NameKind.free) = true
      · have h1' : (env.cells.lookup n).isSome = true := by simpa [hk] using h1
        obtain ⟨c, hc⟩ := Option.isSome_iff_exists.mp h1'
        have e : cellOf env n = pure c := by unfold cellOf; rw [hc]
        simp only [hk, if_true, e, pure_bind]
        rw [ih _ h2]
        simp only [clOf, hk, if_true, hc]
      · simp only [hk, if_false, pure_bind, Bool.false_eq_true]
        rw [ih _ h2]
        simp only [clOf, hk, if_false, Bool.false_eq_true]
  have := key scope.names [] h
  unfold closureFor
  simpa using this
noncomputable def compCx (X : Cx) (scope : Scope) (N : List Str) (C : Addr) (s₀ : Shared) (H₀ : Hp) (ex : List Addr) (pn : List (Addr × Obj)) : Cx :=
  { X with N := N, s₀ := s₀, H₀ := H₀, env := compEnvC scope (clOf X.env scope.names []) C X.env, outer := X.stack, ex := ex, fn := fun _ => false, pn := pn, xe := fun _ _ => False }
structure CompSc (X : Cx) (scope : Scope) (N : List Str) : Prop where
  has : hasCells X.env scope.names = true
  kind : scope.kind = .function
  nocell : ∀ y ∈ scope.names, y.2 ≠ .cell
  names : ∀ y ∈ scope.names, y.2 = .local → scope.names.lookup y.1 = some .local
noncomputable def CapK (X : Cx) (scope : Scope) (x : Str) : Prop :=
  (X.env.kindOf x = some .cell ∨ X.env.kindOf x = some .free) ∧ Vis X.env.scope x ∧ ((relabel scope X.env).names.lookup x = some .cell ∨ (relabel scope X.env).names.lookup x = some .free)
theorem cl_sub {env : Env} : ∀ (l : List (Str × NameKind)) (cs : List (Str × Addr)), (∀ x c, cs.lookup x = some c → env.cells.lookup x = some c) →
    ∀ x c, (clOf env l cs).lookup x = some c → env.cells.lookup x = some c
  | [], cs, h, x, c, e => h x c e
  | (n, k) :: r, cs, h, x, c, e => by
    rw [clOf] at e
    refine cl_sub r _ (fun y d q => ?_) x c e
    split at q
    · split at q
      · rename_i c' hc'
        rw [List.lookup_cons] at q
        split at q
        · rename_i hb
          cases q
          have hyn := eq_of_beq hb
          rw [hyn]; exact hc'
        · exact h y d q
      · exact h y d q
    · exact h y d q
theorem cl_keep {env : Env} : ∀ (l : List (Str × NameKind)) (cs : List (Str × Addr)) (x : Str), (∃ c, cs.lookup x = some c) → ∃ c, (clOf env l cs).lookup x = some c
  | [], cs, x, h => h
  | (n, k) :: r, cs, x, h => by
    rw [clOf]
    refine cl_keep r _ x ?_
    split
    · split
      · rename_i c' hc'
        rw [List.lookup_cons]
        split
        · exact ⟨_, rfl⟩
        · exact h
      · exact h
    · exact h
theorem cl_has {env : Env} : ∀ (l : List (Str × NameKind)) (cs : List (Str × Addr)) (x : Str), hasCells env l = true → (x, NameKind.free) ∈ l → ∃ c, (clOf env l cs).lookup x = some c
  | [], cs, x, _, h => by simp at h
  | (n, k) :: r, cs, x, hh, h => by
    unfold hasCells at hh
    rw [List.all_cons, Bool.and_eq_true] at hh
    rw [clOf]
    rcases List.mem_cons.mp h with e | h'
    · injection e with e1 e2
      subst e1; subst e2
      have h1 : (env.cells.lookup x).isSome = true := by simpa using hh.1
      obtain ⟨c, hc⟩ := Option.isSome_iff_exists.mp h1
      refine cl_keep r _ x ?_
      simp [hc]
    · exact cl_has r _ x hh.2 h'
theorem mem_of_lookup {α : Type} : ∀ {l : List (Str × α)} {x : Str} {k : α}, l.lookup x = some k → (x, k) ∈ l
  | [], _, _, h => by simp at h
  | (n, k') :: r, x, k, h => by
    rw [List.lookup_cons] at h
    split at h
    · rename_i hb
      cases h
      have hyn := eq_of_beq hb
      rw [hyn]; exact List.mem_cons_self
    · exact List.mem_cons_of_mem _ (mem_of_lookup h)
theorem rel_free {scope : Scope} {env : Env} (nc : ∀ y ∈ scope.names, y.2 ≠ .cell) {x : Str} (h : (relabel scope env).names.lookup x = some .cell ∨ (relabel scope env).names.lookup x = some .free) : (x, NameKind.free) ∈ scope.names := by
  have : ∃ k, (x, k) ∈ (relabel scope env).names ∧ (k = .cell ∨ k = .free) := by
    rcases h with h | h
    · exact ⟨_, mem_of_lookup h, .inl rfl⟩
    · exact ⟨_, mem_of_lookup h, .inr rfl⟩
  obtain ⟨k, hm, hk⟩ := this
  obtain ⟨⟨n, k'⟩, hm', e⟩ := List.mem_map.mp hm
  dsimp only at e
  split at e
  · rename_i hc
    cases e
    simp only [Bool.and_eq_true, beq_iff_eq] at hc
    obtain ⟨⟨h1, _⟩, _⟩ := hc
    subst h1; exact hm'
  · cases e
    rcases hk with rfl | rfl
    · exact absurd rfl (nc _ hm')
    · exact hm'
noncomputable def PTs (X : Cx) (ifs : List Expr) (t : TT) : Prop := ∀ (pins : List (Addr × Obj)) (s : Shared) (σ : St) (H : Hp) (Q : Bool → Hp → Prop), Inv X pins σ H s → t σ H Q →
  wpAny (model X.prog X.w) X.A (forIn ifs true fun c r => if r = true then do let ok ← isTrue c X.env (eval c X.env); pure (ForInStep.yield ok) else pure (ForInStep.yield r)) (TP X pins σ Q) X.xe s
theorem pts_nil {X : Cx} : PTs X [] (fun _ H Q => Q true H) := fun pins s σ H Q I h => wpAny_tests_nil ⟨H, I, h⟩
theorem pts_one {X : Cx} {c : Expr} {t : TT} (h : PT X c t) : PTs X [c] t := fun pins s σ H Q I q => wpAny_tests_one (h pins s σ H Q I q)
noncomputable def tCompIn (X : Cx) (scope : Scope) (N : List Str) (g : TG) (tc : TT) (te : TE) (σ : St) (J : It) (H1 : Hp) (Q : VK) : Prop := ∀ D, H1 D = none → ∃ σ0 : St, σ0.length = N.length ∧
  (∀ (i : Nat) (v : V) (x : Str), σ0[i]? = some (some v) → N[i]? = some x → Vis (relabel scope X.env) x → ∃ k : Nat, X.N[k]? = some x ∧ σ[k]? = some (some v) ∧ CapK X scope x) ∧
  ∃ W : Nat → Nat → St → Hp → Prop, (∃ m, W 0 m σ0 (upd H1 D (.lst []))) ∧ ∀ i m σ' H', W i m σ' H' →
    (J.stop i H' ∧ Q (.ref D) H') ∨ (J.go i H' ∧ ∀ x H2, J.yld i H' x H2 → g x σ' H2 fun σ2 H3 => tc σ2 H3 fun b H4 => if b = true then te σ2 H4 fun y H5 => ∃ l, H5 D = some (.lst l) ∧ l.length < sizeLine ∧ ∃ m', m' < m ∧ W (i + 1) m' σ2 (upd H5 D (.lst (l ++ [y]))) else ∃ m', m' < m ∧ W (i + 1) m' σ2 H4)
noncomputable def tComp (X : Cx) (scope : Scope) (N : List Str) (wi : TI) (g : TG) (tc : TT) (te : TE) : TE := fun σ H Q => wi σ H fun J H1 => tCompIn X scope N g tc te σ J H1 Q
noncomputable section
variable {X : Cx} {scope : Scope} {N : List Str}
theorem comp_ok (sc : CompSc X scope N) {pins : List (Addr × Obj)} {σ : St} {H : Hp} {s : Shared} {fp : List Addr} (I : Inv X pins σ H s) (hf : ∀ b ∈ fp, FpOk X pins H b) (hfl : ∀ b ∈ fp, b < s.heap.objs.size) :
    (compCx X scope N s.heap.objs.size s H fp (X.pn ++ pins)).Ok where
  mod := I.ok.mod
  kind := sc.kind
  glob := I.ok.glob
  blt := I.ok.blt
  above := Nat.le_refl _
  inj := fun x y c h1 h2 => I.ok.inj x y c (cl_sub _ [] (fun _ _ z => by simp at z) x c h1) (cl_sub _ [] (fun _ _ z => by simp at z) y c h2)
  has := fun x h => cl_has _ [] x sc.has (rel_free sc.nocell h)
  cab := fun x c h => by cases h
  hd := I.ok.hd
  frames := I.ok.frames
  stk := .inl rfl
  exf := fun b hb => ⟨Nat.ne_of_lt (hfl b hb), fun x c h => (hf b hb).2.2.2.2.1 x c (cl_sub _ [] (fun _ _ z => by simp at z) x c h)⟩
  bs := I.bs
  bsz := Nat.le_trans I.ok.bsz I.sz
  noex := fun b o e hb => by
    rcases (hf b hb).2.2.2.1 with z | z
    · exact I.ok.noex b o e z
    · exact absurd (Nat.lt_of_lt_of_le (Heap.lt_size e) (Nat.le_trans I.ok.bsz z)) (Nat.lt_irrefl _)
  exfs := fun b hb z => by
    rcases List.mem_cons.mp (I.stkSub b z) with e | e
    · exact (hf b hb).2.1 e
    · exact (hf b hb).2.2.1 e
  funs := I.stack
  frf := I.stkFree
theorem comp_start (sc : CompSc X scope N) {pins : List (Addr × Obj)} {σ σ0 : St} {H : Hp} {s : Shared} {fp : List Addr} {h' : Heap} {m : Str → Option Value} {tk : Nat} (I : Inv X pins σ H s) (hf : ∀ b ∈ fp, FpOk X pins H b) (hfl : ∀ b ∈ fp, b < s.heap.objs.size)
    (hl : σ0.length = N.length) (h0 : ∀ (i : Nat) (v : V) (x : Str), σ0[i]? = some (some v) → N[i]? = some x → Vis (relabel scope X.env) x → ∃ k : Nat, X.N[k]? = some x ∧ σ[k]? = some (some v) ∧ CapK X scope x)
    (hn : h'.Ns s.heap.objs.size m) (hk : ∀ b o, s.heap.get? b = some o → h'.get? b = some o) :
    Inv (compCx X scope N s.heap.objs.size s H fp (X.pn ++ pins)) [] σ0 H { s with heap := h', toks := tk } where
  ok := comp_ok sc I hf hfl
  os := rfl
  bare := I.bare
  base := Un.kept hk
  loc := ⟨m, hn, fun i x v e1 e2 e3 => by
    obtain ⟨k, n2, n3, ck, cv, cr⟩ := h0 i v x e2 e1 e3
    obtain ⟨m0, _, hl0⟩ := I.loc
    obtain ⟨u, r, l⟩ := hl0 k x v n2 n3 cv
    refine ⟨u, r, .inr ⟨cr, ?_⟩⟩
    rcases l with ⟨l1, _⟩ | ⟨_, c, hc, z⟩
    · rcases ck with q | q <;> (rw [l1] at q; cases q)
    · obtain ⟨c', hc'⟩ := cl_has (env := X.env) scope.names [] x sc.has (rel_free sc.nocell cr)
      have q := cl_sub scope.names [] (fun _ _ z => by simp at z) x c' hc'
      rw [hc] at q; cases q
      obtain ⟨o, ho, hd⟩ := z
      exact ⟨c, hc', o, hk _ _ ho, hd⟩⟩
  cell := fun x c e => by
    obtain ⟨v, o, ho, hd⟩ := I.cell x c (cl_sub scope.names [] (fun _ _ z => by simp at z) x c e)
    exact ⟨v, o, hk _ _ ho, hd⟩
  free := I.hok.fresh (Nat.le_refl _)
  freeC := fun x c e => I.freeC x c (cl_sub scope.names [] (fun _ _ z => by simp at z) x c e)
  pin := fun p hp => by
    have hp' : p ∈ X.pn ++ pins := by simpa [compCx] using hp
    obtain ⟨a, b, c, d, e⟩ := I.pin p hp'
    refine ⟨hk _ _ a, b, Nat.ne_of_lt (Heap.lt_size a), fun z => ?_, e⟩
    rcases List.mem_cons.mp (I.stkSub p.1 z) with q | q
    · exact c q
    · exact d q
  hok := I.hok.kept hk
  len := hl
theorem comp_end {pins : List (Addr × Obj)} {σ σ' : St} {H H' : Hp} {s s' : Shared} {fp : List Addr} {h' : Heap} (I : Inv X pins σ H s) (hf : ∀ b ∈ fp, FpOk X pins H b)
    (J : Inv (compCx X scope N s.heap.objs.size s H fp (X.pn ++ pins)) [] σ' H' s') (hs : Heap.SameBut s.heap.objs.size s'.heap h') : Inv X pins σ H' { s' with heap := h' } := by
  have kb : ∀ b o, b ≠ s.heap.objs.size → s'.heap.get? b = some o → h'.get? b = some o := fun b o n e => hs.extBut b o n e
  have ne : ∀ b o, s.heap.get? b = some o → b ≠ s.heap.objs.size := fun b o e => Nat.ne_of_lt (Heap.lt_size e)
  have fr : H' s.heap.objs.size = none := J.free
  have u0 : Un (frs X.stack) fp H H' s.heap s'.heap := J.base
  have u : Un (frs X.stack) fp H H' s.heap h' := ⟨fun b o e n h1 h2 => kb b o (ne b o e) (u0.keep b o e n h1 h2), fun b o e n h1 h2 => by
      obtain ⟨sl, q⟩ := u0.slot b o e n h1 h2
      exact ⟨sl, kb b _ (ne b o e) q⟩, u0.free, fun b o e h => by
      obtain ⟨o', q⟩ := u0.there b o e h
      exact ⟨o', kb b _ (ne b o e) q⟩, u0.tups, u0.frzs, u0.tbls⟩
  have hok : HOk X.prog X.w H' h' := fun b o e => by
    refine (J.hok b o e).stay (fun c v hc q => kb c v ?_ q) (fun _ q => q) fun _ _ q => q
    rcases hc with z | z
    · rw [z]; intro y; rw [y] at e; rw [fr] at e; cases e
    · intro y; rw [y] at z; rw [fr] at z; cases z
  have hos : s'.os = s.os := J.os
  obtain ⟨hh, g, d, t, os'⟩ := s'
  obtain rfl : os' = s.os := hos
  exact Inv.call (X := X) (s := s) (H := H) (h' := h') (g' := g) (d' := d) (t' := t) (ch := fp) I u hok J.bare fun b hb => ⟨(hf b hb).2.2.2.1, (hf b hb).2.1, (hf b hb).2.2.2.2.1, (hf b hb).2.2.2.2.2⟩
variable {tg iter elt : Expr} {ifs : List Expr} {pos : Pos} {g : TG} {tc : TT} {te : TE}
theorem comp_block (sc : CompSc X scope N) (calm : X.calm = true)
    (hg : ∀ C s₀ H₀ ex pn, PG (compCx X scope N C s₀ H₀ ex pn) tg g) (hc : ∀ C s₀ H₀ ex pn, PTs (compCx X scope N C s₀ H₀ ex pn) ifs tc) (he : ∀ C s₀ H₀ ex pn, PE (compCx X scope N C s₀ H₀ ex pn) elt te)
    {pins : List (Addr × Obj)} {σ : St} {H1 : Hp} {s₂ : Shared} {it : Addr} {fp : List Addr} {tn : Nat → Heap → Prop} {J : It} {Q : VK} {E : Value → Shared → Prop} {RR : Value → Addr → Result → Shared → Prop}
    (I : Inv X pins σ H1 s₂) (T : Turn X.prog X.w X.K tg J fp it tn) (st2 : tn 0 s₂.heap) (f2 : ∀ b ∈ fp, FpOk X pins H1 b) (q : tCompIn X scope N g tc te σ J H1 Q)
    (hRR : ∀ D s₃ H3 σ' H' s', Inv X pins σ H3 s₃ → (∀ b ∈ fp, FpOk X pins H3 b) → Inv (compCx X scope N s₃.heap.objs.size s₃ H3 fp (X.pn ++ pins)) [] σ' H' s' → Q (.ref D) H' → RR (.ref D) s₃.heap.objs.size (.ok .next) s') :
    wpAny (model X.prog X.w) X.A (newList []) (fun acc s₃ => wpAny (model X.prog X.w) X.A (newFunctionEnv scope X.env.globals (clOf X.env scope.names []) [] X.env.qual none .none (some X.env)) (fun cenv s₄ =>
      codeAny (model X.prog X.w) X.A (.compStart (.ListComp elt [⟨tg, iter, ifs, 0⟩] scope pos) 0 (.ref it) acc { cenv with scope := relabel scope X.env }) (RR acc cenv.locals) s₄) E s₃) E s₂ := by
  refine wpAny_newObj_type (wpAny_newFunctionEnv sc.nocell (by intro y hy; simp at hy) (fun h₁ hns₁ hsb₁ => ?_) sc.kind)
  dsimp only at hns₁ hsb₁ ⊢
  have I3 : Inv X pins σ (upd H1 s₂.heap.objs.size (.lst [])) { s₂ with heap := s₂.heap.push { cls := .type "list", dict := none, data := .seq ([] : List Value).toArray } } :=
    I.laid (t' := s₂.toks) (fun b ob q => Heap.get?_push_of_some _ q) (Nat.le_refl _) ⟨Nat.zero_le _, [], _, .nil, Heap.get?_push_size _ rfl⟩
  generalize hs3 : ({ s₂ with heap := s₂.heap.push { cls := .type "list", dict := none, data := .seq ([] : List Value).toArray } } : Shared) = s₃ at I3
  have hheap : s₂.heap.push { cls := .type "list", dict := none, data := .seq ([] : List Value).toArray } = s₃.heap := by rw [← hs3]
  have hstate : ∀ (h : Heap) (t : Nat), ({ s₂ with heap := h, toks := t } : Shared) = { s₃ with heap := h, toks := t } := fun h t => by rw [← hs3]
  rw [hheap] at hns₁ hsb₁ ⊢
  have lt2 : ∀ b ∈ fp, b < s₂.heap.objs.size := fun b hb => by
    obtain ⟨o, ho, _⟩ := T.obj _ _ st2 b hb
    exact Heap.lt_size ho
  have sz3 : s₃.heap.objs.size = s₂.heap.objs.size + 1 := by rw [← hheap, Heap.size_push]
  have k23 : ∀ b o, s₂.heap.get? b = some o → s₃.heap.get? b = some o := fun b o e => by rw [← hheap]; exact Heap.get?_push_of_some _ e
  have f3 : ∀ b ∈ fp, FpOk X pins (upd H1 s₂.heap.objs.size (.lst [])) b := fun b hb => ⟨by rw [upd_ne (Nat.ne_of_lt (lt2 b hb))]; exact (f2 b hb).1, (f2 b hb).2⟩
  have lt3 : ∀ b ∈ fp, b < s₃.heap.objs.size := fun b hb => by rw [sz3]; exact Nat.lt_succ_of_lt (lt2 b hb)
  obtain ⟨σ0, hl, h0, W, ⟨m0, w0⟩, turn⟩ := q s₂.heap.objs.size (I.hok.fresh (Nat.le_refl _))
  have k34 : ∀ b o, s₃.heap.get? b = some o → h₁.get? b = some o := fun b o e => hsb₁.extBut b o (Nat.ne_of_lt (Heap.lt_size e)) (Heap.get?_push_of_some _ e)
  rw [hstate]
  have J0 := comp_start (tk := s₂.toks + ([] : List (Str × Value)).length) sc I3 f3 lt3 hl h0 hns₁ k34
  have st4 : tn 0 h₁ := T.keep _ _ _ st2 fun b _ o e => k34 b o (k23 b o e)
  have key : ∀ s₄ : Shared, s₄ = { s₃ with heap := h₁, toks := s₂.toks + ([] : List (Str × Value)).length } → codeAny (model X.prog X.w) X.A (.compLoop (.ListComp elt [⟨tg, iter, ifs, 0⟩] scope pos) 0 (.ref it) (.ref s₂.heap.objs.size)
      (compCx X scope N s₃.heap.objs.size s₃ (upd H1 s₂.heap.objs.size (.lst [])) fp (X.pn ++ pins)).env) (RR (.ref s₂.heap.objs.size) s₃.heap.objs.size) s₄ := by
    rintro s₄ rfl
    generalize hX : compCx X scope N s₃.heap.objs.size s₃ (upd H1 s₂.heap.objs.size (.lst [])) fp (X.pn ++ pins) = X' at J0
    have hP : X'.prog = X.prog := by rw [← hX]; rfl
    have hW : X'.w = X.w := by rw [← hX]; rfl
    have hA : X'.A = X.A := by rw [← hX]; rfl
    have hxe : X'.xe = fun _ _ => False := by rw [← hX]; rfl
    have hK : X'.K = X.K := by rw [← hX]; rfl
    have hcal : X'.calm = true := by rw [← hX]; exact calm
    have stat : ∀ {H' : Hp}, (∀ b ∈ fp, H' b = none) → ∀ b ∈ fp, FpOk X' [] H' b := fun hn b hb => by
      have z := comp_ok sc I3 f3 lt3
      rw [hX] at z
      refine ⟨hn b hb, (z.exf b (by rw [← hX]; exact hb)).1, z.exfs b (by rw [← hX]; exact hb), .inl (by rw [← hX]; exact hb), (z.exf b (by rw [← hX]; exact hb)).2, fun p hp => ?_⟩
      have hp' : p ∈ X.pn ++ pins := by rw [← hX] at hp; simpa [compCx] using hp
      exact (f3 b hb).2.2.2.2.2 p hp'
    have hg' : PG X' tg g := by rw [← hX]; exact hg _ _ _ _ _
    have hc' : PTs X' ifs tc := by rw [← hX]; exact hc _ _ _ _ _
    have he' : PE X' elt te := by rw [← hX]; exact he _ _ _ _ _
    have fin : ∀ σ' H' s', Inv X' [] σ' H' s' → Q (.ref s₂.heap.objs.size) H' → RR (.ref s₂.heap.objs.size) s₃.heap.objs.size (.ok .next) s' := fun σ' H' s' I' q' => hRR _ s₃ _ σ' H' s' I3 f3 (by rw [hX]; exact I') q'
    have T' : Turn X'.prog X'.w X'.K tg J fp it tn := by rw [hP, hW, hK]; exact T
    rw [← hP, ← hW, ← hA]
    refine compLoop_gen (J := fun n s' => ∃ i σ' H', Inv X' [] σ' H' s' ∧ tn i s'.heap ∧ (∀ b ∈ fp, H' b = none) ∧ W i n σ' H') ?_ m0 ⟨0, σ0, _, J0, st4, fun b hb => (f3 b hb).1, w0⟩
    rintro n s5 ⟨i, σ5, H5, I5, st5, fr5, w5⟩
    rcases turn i n σ5 H5 w5 with ⟨stop, qn⟩ | ⟨go, step⟩
    · refine thn (T'.done X' rfl rfl rfl hcal i [] s5 σ5 H5 _ I5 (stat fr5) st5 stop) fun r s6 ⟨hr, I6⟩ => ?_
      subst hr
      exact fin _ _ _ I6 qn
    · refine thn (T'.item X' rfl rfl rfl hcal i [] s5 σ5 H5 _ I5 (stat fr5) st5 go) fun r s6 ⟨u, hr, h6⟩ => ?_
      subst hr
      refine thn h6 fun _ s7 ⟨x, H7, I7, r7, y7, st7, fr7⟩ => ?_
      have I7' := I7.pinned (stat fr7) (T'.obj _ _ st7)
      have a1 := hg' _ s7 σ5 H7 x u _ I7' r7 (step x H7 y7)
      rw [hxe] at a1
      refine thn a1 fun _ s8 ⟨σ8, H8, I8, q8⟩ => ?_
      have a2 := hc' _ s8 σ8 H8 _ I8 q8
      rw [hxe] at a2
      refine thn a2 fun ok s9 ⟨H9, I9, q9⟩ => ?_
      have again : ∀ {σ7 : St} {H7 : Hp} {s' : Shared} {m' : Nat}, Inv X' ([] ++ pinsAt fp s7.heap) σ7 H7 s' → m' < n → W (i + 1) m' σ7 H7 → ∃ m, m < n ∧ ∃ i σ' H', Inv X' [] σ' H' s' ∧ tn i s'.heap ∧ (∀ b ∈ fp, H' b = none) ∧ W i m σ' H' := fun {σ7 H7 s' m'} I7 hm w7 => by
        refine ⟨m', hm, i + 1, σ7, H7, I7.unpinned, T'.keep _ _ _ st7 fun b hb o e => (I7.pin (b, o) (List.mem_append_right _ (List.mem_append_right _ (mem_pinsAt hb e)))).1, fun b hb => ?_, w7⟩
        obtain ⟨o, e, d⟩ := T'.obj _ _ st7 b hb
        exact (I7.pin (b, o) (List.mem_append_right _ (List.mem_append_right _ (mem_pinsAt hb e)))).2.1
      cases ok with
      | false =>
        rw [if_neg Bool.false_ne_true] at q9 ⊢
        obtain ⟨m', hm, w9⟩ := q9
        exact again I9 hm w9
      | true =>
        rw [if_pos rfl] at q9 ⊢
        have a3 := he' _ s9 σ8 H9 _ I9 q9
        rw [hxe] at a3
        refine thn a3 fun xv s10 ⟨y, H10, I10, r10, l, hl10, hz10, m', hm, w10⟩ => ?_
        have a4 := mt_append (X := X') _ s10 σ8 H10 (.ref s₂.heap.objs.size) [y] (.ref s₂.heap.objs.size) [xv] (fun _ H' => H' = upd H10 s₂.heap.objs.size (.lst (l ++ [y]))) I10 rfl (.cons r10 .nil) ⟨_, l, y, rfl, rfl, hl10, hz10, rfl⟩
        rw [hxe] at a4
        refine thn a4 fun _ s11 ⟨v, H11, I11, _, e11⟩ => ?_
        subst e11
        exact again I11 hm w10
  exact codeAny_compStart_list (key _ rfl) (T.self _ 0 _ _ _ st4 (key _ rfl))
theorem pe_comp {wi : TI} (sc : CompSc X scope N) (calm : X.calm = true) (hi : PI X tg iter wi)
    (hg : ∀ C s₀ H₀ ex pn, PG (compCx X scope N C s₀ H₀ ex pn) tg g) (hc : ∀ C s₀ H₀ ex pn, PTs (compCx X scope N C s₀ H₀ ex pn) ifs tc) (he : ∀ C s₀ H₀ ex pn, PE (compCx X scope N C s₀ H₀ ex pn) elt te)
    (hs : ∀ x, foldedSetIterable iter X.env x = pure x := by intro _; rfl) : PE X (.ListComp elt [⟨tg, iter, ifs, 0⟩] scope pos) (tComp X scope N wi g tc te) := by
  intro pins s σ H Q I h
  rw [eval_ListComp]
  refine wpAny_comprehension_free (use := none) rfl hs (closureFor_cl sc.has) sc.kind sc.names ?_
  refine wpAny_mono (hi pins s σ H _ I h) (fun x s₁ h₁ => wpAny_mono h₁ (fun itv s₂ h₂ => ?_) fun _ _ e => e) fun _ _ e => e
  obtain ⟨it, fp, tn, J, H1, rfl, I2, T, st2, f2, q⟩ := h₂
  refine comp_block (RR := fun acc C => compPost (model X.prog X.w) X.A X.xe none (EP X pins σ Q) acc C) sc calm hg hc he I2 T st2 f2 q ?_
  intro D s₃ H3 σ' H' s' I3 f3 I' qn
  obtain ⟨m, hn, _⟩ := I'.loc
  exact ⟨m, hn, fun h' hs' => ⟨.ref D, H', comp_end I3 f3 I' hs', rfl, qn⟩⟩
theorem ps_comp {wi : TI} {y : Str} {py spos : Pos} {i : Nat} (sc : CompSc X scope N) (calm : X.calm = true) (hi : PI X tg iter wi)
    (hg : ∀ C s₀ H₀ ex pn, PG (compCx X scope N C s₀ H₀ ex pn) tg g) (hc : ∀ C s₀ H₀ ex pn, PTs (compCx X scope N C s₀ H₀ ex pn) ifs tc) (he : ∀ C s₀ H₀ ex pn, PE (compCx X scope N C s₀ H₀ ex pn) elt te)
    (hgN : PG X (.Name y py) (gName i)) (hsw : swapsWith (.ListComp elt [⟨tg, iter, ifs, 0⟩] scope pos) (some (.Name y py)) spos.line X.env = pure true)
    (hs : ∀ x, foldedSetIterable iter X.env x = pure x := by intro _; rfl) : PS X (.Assign [.Name y py] (.ListComp elt [⟨tg, iter, ifs, 0⟩] scope pos) spos) (tAsg (tComp X scope N wi g tc te) (gName i)) := by
  intro pins s σ H D I h
  rw [exec_Assign_Name_used _ _ _ _ hsw] -- here
  refine wpAny_bind (wpAny_standAt (wpAny_bind ?_)) -- here
  show wpAny _ X.A (do let _ ← comprehension (.ListComp elt [⟨tg, iter, ifs, 0⟩] scope pos) scope X.env _ (newList []) false (eval iter X.env) (some (assign (.Name y py) X.env))) _ _ s
  refine wpAny_bind (wpAny_mono (wpAny_comprehension_free (use := some (assign (.Name y py) X.env)) (Q := fun _ s' => SP X pins D .next s') rfl hs (closureFor_cl sc.has) sc.kind sc.names ?_) (fun _ s' hq => wpAny_pure (wpAny_pure hq)) fun _ _ e => e)
  refine wpAny_mono (hi pins s σ H _ I h) (fun x s₁ h₁ => wpAny_mono h₁ (fun itv s₂ h₂ => ?_) fun _ _ e => e) fun _ _ e => e
  obtain ⟨it, fp, tn, J, H1, rfl, I2, T, st2, f2, q⟩ := h₂
  refine comp_block (RR := fun acc C => compPost (model X.prog X.w) X.A X.xe (some (assign (.Name y py) X.env)) (fun _ s' => SP X pins D .next s') acc C) sc calm hg hc he I2 T st2 f2 q ?_
  intro D' s₃ H3 σ' H' s' I3 f3 I' qn
  obtain ⟨m, hn, _⟩ := I'.loc
  obtain ⟨oC, es, ep, hoC, hdC, hrest⟩ := id hn
  have IX : Inv X pins σ H' s' := comp_end I3 f3 I' (.refl ..)
  have fC : FpOk X pins H' s₃.heap.objs.size := I3.fpOk (Nat.le_refl _) I'.free
  have IXp := IX.pinned (fp := [s₃.heap.objs.size]) (fun b hb => by rw [List.mem_singleton.mp hb]; exact fC) (fun b hb => by
    rw [List.mem_singleton.mp hb]
    exact ⟨oC, hoC, fun v z => by rw [hdC] at z; cases z⟩)
  show wpAny _ X.A (assign (.Name y py) X.env (.ref D')) _ _ _
  refine thn (hgN _ s' σ H' (.ref D') (.ref D') _ IXp rfl qn) fun _ s'' ⟨σ'', H'', I'', q''⟩ => ?_
  have pC := I''.pin (s₃.heap.objs.size, oC) (List.mem_append_right _ (List.mem_append_right _ (mem_pinsAt (by simp) hoC)))
  refine ⟨m, ⟨oC, es, ep, pC.1, hdC, hrest⟩, fun h' hs' => ⟨σ'', H'', ?_, q''⟩⟩
  exact I''.unpinned.turned (h' := h') (t' := s''.toks) (it := s₃.heap.objs.size) (fun b o ne e => hs'.extBut b o ne e) pC.2.1 fC.2.1 fC.2.2.2.1 fC.2.2.2.2.1 fC.2.2.2.2.2
end
end L2
end
noncomputable section
set_option linter.all false
set_option maxHeartbeats 4000002
set_option autoImplicit false
namespace C
open PySem PySem.Spec PyProof.Rows L2
mutual
inductive Rep (K : PySem.W.Frag) (S : Hp) (as : List Addr) : V → T → Prop where
  | non : Rep K S as .non .non
  | bl (b : Bool) : Rep K S as (.bl b) (.bl b)
  | int (i : Int) : Rep K S as (.int i) (.int i)
  | str (x : Str) : Rep K S as (.str x) (.str x)
  | tup {a : Addr} {vs : List V} {ts : List T} : SqT K S a vs → Reps K S as vs ts → Rep K S as (.ref a) (.tup ts)
  | lst {a : Addr} {vs : List V} {ts : List T} : SqL K S a vs → Reps K S as vs ts → Rep K S as (.ref a) (.lst ts)
  | dic {a : Addr} {kvs : List (L2.Key × V)} {ts : List (L2.Key × T)} : Rd S a (.dK kvs) → RepK K S as kvs ts → Rep K S as (.ref a) (.dic ts)
  | obj {n : Nat} {a : Addr} : as[n]? = some a → Rep K S as (.ref a) (.obj n)
inductive Reps (K : PySem.W.Frag) (S : Hp) (as : List Addr) : List V → List T → Prop where
  | nil : Reps K S as [] []
  | cons {v : V} {t : T} {vs : List V} {ts : List T} : Rep K S as v t → Reps K S as vs ts → Reps K S as (v :: vs) (t :: ts)
inductive RepK (K : PySem.W.Frag) (S : Hp) (as : List Addr) : List (L2.Key × V) → List (L2.Key × T) → Prop where
  | nil : RepK K S as [] []
  | cons {k : L2.Key} {v : V} {t : T} {vs : List (L2.Key × V)} {ts : List (L2.Key × T)} : Rep K S as v t → RepK K S as vs ts → RepK K S as ((k, v) :: vs) ((k, t) :: ts)
end
theorem rd_mono {S S' : Hp} {a : Addr} {u : HO} (e : Same S S') (h : Rd S a u) : Rd S' a u := by
  rcases h with h | ⟨o, h⟩
  · exact .inl (e _ _ h)
  · exact .inr ⟨o, e _ _ h⟩
theorem sqT_mono {K : PySem.W.Frag} {S S' : Hp} {a : Addr} {xs : List V} (e : Same S S') (h : SqT K S a xs) : SqT K S' a xs := by
  rcases h with h | h
  · exact .inl (rd_mono e h)
  · exact .inr h
theorem sqL_mono {K : PySem.W.Frag} {S S' : Hp} {a : Addr} {xs : List V} (e : Same S S') (h : SqL K S a xs) : SqL K S' a xs := by
  rcases h with h | h
  · exact .inl (rd_mono e h)
  · exact .inr h
noncomputable section
variable {K : PySem.W.Frag} {S S' : Hp} {as as' : List Addr}
theorem get_app {α : Type} {l r : List α} {n : Nat} {a : α} (h : l[n]? = some a) : (l ++ r)[n]? = some a := by
  have := (List.getElem?_eq_some_iff.mp h).1
  rw [List.getElem?_append_left this]; exact h
mutual
theorem Rep.mono (e : Same S S') (x : ∃ l, as' = as ++ l) : ∀ {v : V} {t : T}, Rep K S as v t → Rep K S' as' v t
  | _, _, .non => .non
  | _, _, .bl b => .bl b
  | _, _, .int i => .int i
  | _, _, .str y => .str y
  | _, _, .tup h r => .tup (sqT_mono e h) (Reps.mono e x r)
  | _, _, .lst h r => .lst (sqL_mono e h) (Reps.mono e x r)
  | _, _, .dic h r => .dic (rd_mono e h) (RepK.mono e x r)
  | _, _, .obj h => .obj (by obtain ⟨l, rfl⟩ := x; exact get_app h)
theorem Reps.mono (e : Same S S') (x : ∃ l, as' = as ++ l) : ∀ {v : List V} {t : List T}, Reps K S as v t → Reps K S' as' v t
  | _, _, .nil => .nil
  | _, _, .cons h r => .cons (Rep.mono e x h) (Reps.mono e x r)
theorem RepK.mono (e : Same S S') (x : ∃ l, as' = as ++ l) : ∀ {v : List (L2.Key × V)} {t : List (L2.Key × T)}, RepK K S as v t → RepK K S' as' v t
  | _, _, .nil => .nil
  | _, _, .cons h r => .cons (Rep.mono e x h) (RepK.mono e x r)
end
theorem Reps.length : ∀ {vs : List V} {ts : List T}, Reps K S as vs ts → vs.length = ts.length
  | _, _, .nil => rfl
  | _, _, .cons _ r => congrArg (· + 1) r.length
theorem RepK.length : ∀ {vs : List (L2.Key × V)} {ts : List (L2.Key × T)}, RepK K S as vs ts → vs.length = ts.length
  | _, _, .nil => rfl
  | _, _, .cons _ r => congrArg (· + 1) r.length
theorem Reps.get : ∀ {vs : List V} {ts : List T} {i : Nat} {t : T}, Reps K S as vs ts → ts[i]? = some t → ∃ v, vs[i]? = some v ∧ Rep K S as v t
  | _, _, _, _, .nil, e => by simp at e
  | _, _, 0, _, .cons r _, e => by simp at e; subst e; exact ⟨_, rfl, r⟩
  | _, _, i + 1, t, .cons _ r, e => by
    obtain ⟨v, h1, h2⟩ := Reps.get (i := i) (t := t) r (by simpa using e)
    exact ⟨v, by simpa using h1, h2⟩
theorem Reps.append : ∀ {vs : List V} {ts : List T} {ws : List V} {us : List T}, Reps K S as vs ts → Reps K S as ws us → Reps K S as (vs ++ ws) (ts ++ us)
  | _, _, _, _, .nil, q => q
  | _, _, _, _, .cons h r, q => .cons h (Reps.append r q)
theorem Reps.reverse : ∀ {vs : List V} {ts : List T}, Reps K S as vs ts → Reps K S as vs.reverse ts.reverse
  | _, _, .nil => .nil
  | _, _, .cons h r => by rw [List.reverse_cons, List.reverse_cons]; exact Reps.append (Reps.reverse r) (.cons h .nil)
theorem Reps.drop : ∀ (n : Nat) {vs : List V} {ts : List T}, Reps K S as vs ts → Reps K S as (vs.drop n) (ts.drop n)
  | 0, _, _, r => r
  | _ + 1, _, _, .nil => .nil
  | n + 1, _, _, .cons _ r => Reps.drop n r
theorem RepK.get (k : L2.Key) : ∀ {vs : List (L2.Key × V)} {ts : List (L2.Key × T)}, RepK K S as vs ts → (∃ v t, valV vs k = some v ∧ dGet k ts = some t ∧ Rep K S as v t) ∨ (valV vs k = none ∧ dGet k ts = none)
  | _, _, .nil => .inr ⟨rfl, rfl⟩
  | _, _, .cons (k := q) (v := v) (t := t) (vs := vs) (ts := ts) h r => by
    by_cases e : q = k
    · exact .inl ⟨v, t, valV_pos (p := (q, v)) e, by rw [dGet, if_pos e], h⟩
    · rw [valV_neg (p := (q, v)) e, dGet, if_neg e]
      exact RepK.get k r
end
structure Bas where
  S : Hp
  as : List Addr
  H : Hp
structure Grow (B : Bas) (S : Hp) (as : List Addr) (H : Hp) : Prop where
  same : Same B.S S
  more : ∃ l, as = B.as ++ l
  keep : ∀ p o, B.H p = some o → B.S p = none → p ∉ B.as → H p = some o ∧ S p = none ∧ p ∉ as
structure Ext (S H S' H' : Hp) : Prop where
  s : Same S S'
  h : Same H H'
  sub : Same S' H'
  new : ∀ p, S' p ≠ none → S p ≠ none ∨ H p = none
theorem Ext.refl {S H : Hp} (h : Same S H) : Ext S H S H := ⟨Same.refl _, Same.refl _, h, fun _ q => .inl q⟩
theorem Same.upd {H : Hp} {p : Addr} (h : H p = none) (o : HO) : Same H (upd H p o) := fun b u q => by rw [upd_ne (ne_of_none q h)]; exact q
theorem Ext.laid {S H : Hp} (h : Same S H) {p : Addr} (n : H p = none) (o : HO) : Ext S H (upd S p o) (upd H p o) where
  s := Same.upd (h.free n) o
  h := Same.upd n o
  sub := fun b u q => by
    by_cases e : b = p
    · subst e; rw [upd_same] at q ⊢; exact q
    · rw [upd_ne e] at q ⊢; exact h _ _ q
  new := fun b q => by
    by_cases e : b = p
    · subst e; exact .inr n
    · rw [upd_ne e] at q; exact .inl q
theorem Ext.trans {S H S1 H1 S2 H2 : Hp} (a : Ext S H S1 H1) (b : Ext S1 H1 S2 H2) : Ext S H S2 H2 where
  s := a.s.trans b.s
  h := a.h.trans b.h
  sub := b.sub
  new := fun p q => by
    rcases b.new p q with z | z
    · exact a.new p z
    · exact .inr (a.h.free z)
noncomputable def Own (K : PySem.W.Frag) (S : Hp) (as : List Addr) (H : Hp) (p : Addr) : T → Prop
  | .lst ts => ∃ vs, H p = some (.lst vs) ∧ Reps K S as vs ts
  | .dic ts => ∃ kvs, H p = some (.dK kvs) ∧ RepK K S as kvs ts
  | _ => False
structure OwnAt (K : PySem.W.Frag) (B : Bas) (S : Hp) (as : List Addr) (H : Hp) (p : Addr) (t : T) : Prop where
  own : Own K S as H p t
  out : S p = none
  nas : p ∉ as
  new : B.H p = none
noncomputable def SRep (K : PySem.W.Frag) (S : Hp) (as : List Addr) (H : Hp) (a : Addr) : SO → Prop
  | .dic ts => ∃ kvs, H a = some (.dK kvs) ∧ RepK K S as kvs ts
  | .lst ts => ∃ vs, H a = some (.lst vs) ∧ Reps K S as vs ts
  | .ins _ _ => False
structure StoOk (K : PySem.W.Frag) (S : Hp) (as : List Addr) (H : Hp) (sto : List SO) : Prop where
  len : as.length = sto.length
  nd : as.Nodup
  at' : ∀ (n : Nat) so, sto[n]? = some so → ∃ a, as[n]? = some a ∧ S a = none ∧ SRep K S as H a so
structure Rel (K : PySem.W.Frag) (B : Bas) (st : Sta) (σ : L2.St) (H : Hp) (ps : List (V × T)) (S : Hp) (as : List Addr) : Prop where
  sub : Same S H
  grow : Grow B S as H
  slots : ∀ (i : Nat) t f, st.env[i]? = some (some (t, f)) → ∃ v, σ[i]? = some (some v) ∧ (f = false → Rep K S as v t) ∧ (f = true → ∃ p, v = .ref p ∧ OwnAt K B S as H p t)
  apart : ∀ (i j : Nat) t u p, st.env[i]? = some (some (t, true)) → st.env[j]? = some (some (u, true)) → σ[i]? = some (some (.ref p)) → σ[j]? = some (some (.ref p)) → i = j
  sto : StoOk K S as H st.sto
  pend : ∀ p ∈ ps, Rep K S as p.1 p.2
  len : σ.length = st.env.length
noncomputable section
variable {K : PySem.W.Frag} {B : Bas} {st : Sta} {σ : L2.St} {H H' S S' : Hp} {ps : List (V × T)} {as : List Addr}
theorem nol {as : List Addr} : ∃ l : List Addr, as = as ++ l := ⟨[], (List.append_nil _).symm⟩
theorem Own.mono {p : Addr} {t : T} (hs : Same S S') (hh : H p = H' p) (o : Own K S as H p t) : Own K S' as H' p t := by
  cases t with
  | lst ts => obtain ⟨vs, h, r⟩ := o; exact ⟨vs, hh ▸ h, r.mono hs nol⟩
  | dic ts => obtain ⟨vs, h, r⟩ := o; exact ⟨vs, hh ▸ h, r.mono hs nol⟩
  | _ => exact o.elim
theorem Own.there {p : Addr} {t : T} (o : Own K S as H p t) : ∃ ob, H p = some ob := by
  cases t with
  | lst ts => obtain ⟨vs, h, r⟩ := o; exact ⟨_, h⟩
  | dic ts => obtain ⟨vs, h, r⟩ := o; exact ⟨_, h⟩
  | _ => exact o.elim
theorem SRep.mono {a : Addr} {so : SO} (hs : Same S S') (hh : H a = H' a) (o : SRep K S as H a so) : SRep K S' as H' a so := by
  cases so with
  | dic ts => obtain ⟨vs, h, r⟩ := o; exact ⟨vs, hh ▸ h, r.mono hs nol⟩
  | lst ts => obtain ⟨vs, h, r⟩ := o; exact ⟨vs, hh ▸ h, r.mono hs nol⟩
  | ins c f => exact o.elim
theorem SRep.there {a : Addr} {so : SO} (o : SRep K S as H a so) : ∃ ob, H a = some ob := by
  cases so with
  | dic ts => obtain ⟨vs, h, r⟩ := o; exact ⟨_, h⟩
  | lst ts => obtain ⟨vs, h, r⟩ := o; exact ⟨_, h⟩
  | ins c f => exact o.elim
theorem Ext.outs (x : Ext S H S' H') {p : Addr} {o : HO} (h : H p = some o) (n : S p = none) : S' p = none := by
  cases q : S' p with
  | none => rfl
  | some u =>
    rcases x.new p (by rw [q]; exact Option.some_ne_none _) with z | z
    · exact absurd n z
    · rw [h] at z; cases z
theorem StoOk.ext {sto : List SO} (r : StoOk K S as H sto) (x : Ext S H S' H') : StoOk K S' as H' sto where
  len := r.len
  nd := r.nd
  at' := fun n so e => by
    obtain ⟨a, h1, h2, h3⟩ := r.at' n so e
    obtain ⟨ob, ho⟩ := h3.there
    exact ⟨a, h1, x.outs ho h2, h3.mono x.s (by rw [ho, x.h _ _ ho])⟩
theorem Rel.ext (r : Rel K B st σ H ps S as) (x : Ext S H S' H') : Rel K B st σ H' ps S' as where
  sub := x.sub
  grow := ⟨r.grow.same.trans x.s, r.grow.more, fun p o h1 h2 h3 => by
    obtain ⟨a, b, c⟩ := r.grow.keep p o h1 h2 h3
    exact ⟨x.h _ _ a, x.outs a b, c⟩⟩
  slots := fun i t f e => by
    obtain ⟨v, h1, h2, h3⟩ := r.slots i t f e
    refine ⟨v, h1, fun q => (h2 q).mono x.s nol, fun q => ?_⟩
    obtain ⟨p, e, o⟩ := h3 q
    obtain ⟨ob, ho⟩ := o.own.there
    exact ⟨p, e, o.own.mono x.s (by rw [ho, x.h _ _ ho]), x.outs ho o.out, o.nas, o.new⟩
  apart := r.apart
  sto := r.sto.ext x
  pend := fun p hp => (r.pend p hp).mono x.s nol
  len := r.len
theorem Rel.push (r : Rel K B st σ H ps S as) {v : V} {t : T} (h : Rep K S as v t) : Rel K B st σ H ((v, t) :: ps) S as :=
  ⟨r.sub, r.grow, r.slots, r.apart, r.sto, fun p hp => by
    rcases List.mem_cons.mp hp with rfl | z
    · exact h
    · exact r.pend p z, r.len⟩
theorem Rel.drop {p : V × T} (r : Rel K B st σ H (p :: ps) S as) : Rel K B st σ H ps S as :=
  ⟨r.sub, r.grow, r.slots, r.apart, r.sto, fun q hq => r.pend q (List.mem_cons_of_mem _ hq), r.len⟩
theorem Rel.top {v : V} {t : T} (r : Rel K B st σ H ((v, t) :: ps) S as) : Rep K S as v t := r.pend (v, t) List.mem_cons_self
theorem Rel.top2 {v : V} {t : T} {q : V × T} (r : Rel K B st σ H (q :: (v, t) :: ps) S as) : Rep K S as v t := r.pend (v, t) (List.mem_cons_of_mem _ List.mem_cons_self)
end
noncomputable def tOf (K : PySem.W.Frag) (B : Bas) (m : M T) : TE := fun σ H Q => ∃ st ps S as, Rel K B st σ H ps S as ∧ ∃ t st', m st = some (t, st') ∧
  ∀ v H' S' as', Rel K B st' σ H' ((v, t) :: ps) S' as' → Q v H'
noncomputable def cOf (K : PySem.W.Frag) (B : Bas) (m : M Bool) : TT := fun σ H Q => ∃ st ps S as, Rel K B st σ H ps S as ∧ ∃ b st', m st = some (b, st') ∧
  ∀ H' S' as', Rel K B st' σ H' ps S' as' → Q b H'
noncomputable def aOf (K : PySem.W.Frag) (B : Bas) (m : M (List T)) : TA := fun σ H Q => ∃ st ps S as, Rel K B st σ H ps S as ∧ ∃ ts st', m st = some (ts, st') ∧
  ∀ vs H' S' as', Rel K B st' σ H' ps S' as' → Reps K S' as' vs ts → Q vs H'
theorem _root_.L2.PE.imp {X : Cx} {e : Expr} {t t' : TE} (h : PE X e t) (i : ∀ σ H Q, t' σ H Q → t σ H Q) : PE X e t' := fun pins s σ H Q I q => h pins s σ H Q I (i σ H Q q)
theorem _root_.L2.PT.imp {X : Cx} {e : Expr} {t t' : TT} (h : PT X e t) (i : ∀ σ H Q, t' σ H Q → t σ H Q) : PT X e t' := fun pins s σ H Q I q => h pins s σ H Q I (i σ H Q q)
theorem _root_.L2.PA.imp {X : Cx} {e : List Expr} {t t' : TA} (h : PA X e t) (i : ∀ σ H Q, t' σ H Q → t σ H Q) : PA X e t' := fun pos pins s σ H Q I q => h pos pins s σ H Q I (i σ H Q q)
theorem _root_.L2.PS.imp {X : Cx} {e : Stmt} {t t' : TS} (h : PS X e t) (i : ∀ D σ H, t' D σ H → t D σ H) : PS X e t' := fun pins s σ H D I q => h pins s σ H D I (i D σ H q)
theorem _root_.L2.PSs.imp {X : Cx} {e : List Stmt} {t t' : TS} (h : PSs X e t) (i : ∀ D σ H, t' D σ H → t D σ H) : PSs X e t' := fun pins s σ H D I q => h pins s σ H D I (i D σ H q)
noncomputable def r2 (K : PySem.W.Frag) (f : T → T → Option T) : R2 := fun x y H Q => ∃ S as t u w, Same S H ∧ Rep K S as x t ∧ Rep K S as y u ∧ f t u = some w ∧ ∀ v H' S', Ext S H S' H' → Rep K S' as v w → Q v H'
noncomputable def r1 (K : PySem.W.Frag) (f : T → Option T) : V → Hp → VK → Prop := fun x H Q => ∃ S as t w, Same S H ∧ Rep K S as x t ∧ f t = some w ∧ ∀ v H' S', Ext S H S' H' → Rep K S' as v w → Q v H'
noncomputable def rL (K : PySem.W.Frag) (f : List T → Option T) : List V → Hp → VK → Prop := fun xs H Q => ∃ S as ts w, Same S H ∧ Reps K S as xs ts ∧ f ts = some w ∧ ∀ v H' S', Ext S H S' H' → Rep K S' as v w → Q v H'
noncomputable abbrev OpT (X : Cx) (f : Value → Value → Sem Value) (g : T → T → Option T) : Prop := OpR X f (r2 X.K g)
noncomputable abbrev UnT (X : Cx) (f : Value → Sem Value) (g : T → Option T) : Prop := UnR X f (r1 X.K g)
noncomputable abbrev CallT (X : Cx) (f : Value) (g : List T → Option T) : Prop := CallR X f (rL X.K g)
noncomputable section
variable {X : Cx} {B : Bas} {a b c : Expr} {m m1 m2 : M T} {pos : Pos}
theorem te_const {v : V} {t : T} {e : Expr} (h : PE X e (tC v)) (r : ∀ S as, Rep X.K S as v t) : PE X e (tOf X.K B (mPure t)) := h.imp fun σ H Q ⟨st, ps, S, as, R, t', st', e, q⟩ => by
  cases e
  exact q v H S as (R.push (r S as))
theorem te_int {i : Int} {j : Nat} : PE X (.Constant (.int i) j pos) (tOf X.K B (mPure (.int i))) := te_const pe_int fun _ _ => .int i
theorem te_bl {i : Bool} {j : Nat} : PE X (.Constant (.bool i) j pos) (tOf X.K B (mPure (.bl i))) := te_const pe_bl fun _ _ => .bl i
theorem te_str {i : Str} {j : Nat} : PE X (.Constant (.str i) j pos) (tOf X.K B (mPure (.str i))) := te_const pe_str fun _ _ => .str i
theorem te_non {j : Nat} : PE X (.Constant .none j pos) (tOf X.K B (mPure .non)) := te_const pe_non fun _ _ => .non
theorem te_op {op : Operator} {f : T → T → Option T} (ho : OpT X (binaryOp op) f) (ha : PE X a (tOf X.K B m1)) (hb : PE X b (tOf X.K B m2)) : PE X (.BinOp a op b pos) (tOf X.K B (mOp f m1 m2)) :=
  (pe_op ho ha hb).imp fun σ H Q ⟨st, ps, S, as, R, t, st', e, q⟩ => by
    obtain ⟨t1, s1, t2, e1, e2, e3⟩ := mOp_inv e
    refine ⟨st, ps, S, as, R, t1, s1, e1, fun v H1 S1 as1 R1 => ⟨s1, _, S1, as1, R1, t2, st', e2, fun u H2 S2 as2 R2 => ?_⟩⟩
    exact ⟨S2, as2, t1, t2, t, R2.sub, R2.top2, R2.top, e3, fun w H3 S3 x r => q w H3 S3 as2 ((R2.drop.drop.ext x).push r)⟩
end
end C
end
noncomputable section
set_option linter.all false
set_option maxRecDepth 100000
set_option maxHeartbeats 4000002
set_option autoImplicit false
namespace C
open PySem PySem.Spec PyProof.Rows L2
noncomputable section
variable {K : PySem.W.Frag} {B : Bas} {st : Sta} {σ : L2.St} {H H' S S' : Hp} {ps : List (V × T)} {as : List Addr}
theorem Rel.freeze (r : Rel K B st σ H ps S as) {i : Nat} {t : T} (e : st.env[i]? = some (some (t, true))) :
    ∃ v S', σ[i]? = some (some v) ∧ Rel K B { st with env := st.env.set i (some (t, false)) } σ H ((v, t) :: ps) S' as := by
  obtain ⟨v, h1, _, h3⟩ := r.slots i t true e
  obtain ⟨p, rfl, o⟩ := h3 rfl
  obtain ⟨ob, ho⟩ := o.own.there
  have hi : i < st.env.length := (List.getElem?_eq_some_iff.mp e).1
  have sS : Same S (upd S p ob) := Same.upd o.out ob
  have rep : Rep K (upd S p ob) as (.ref p) t := by
    have w := o.own
    cases t with
    | lst ts => obtain ⟨vs, h, q⟩ := w; rw [ho] at h; cases h; exact .lst (SqL.of upd_same) (q.mono sS nol)
    | dic ts => obtain ⟨vs, h, q⟩ := w; rw [ho] at h; cases h; exact .dic (.inl upd_same) (q.mono sS nol)
    | _ => exact w.elim
  have outs : ∀ q, S q = none → q ≠ p → upd S p ob q = none := fun q h n => by rw [upd_ne n]; exact h
  refine ⟨.ref p, upd S p ob, h1, ?_⟩
  refine Rel.push (v := .ref p) (t := t) ⟨?_, ?_, ?_, ?_, ?_, ?_, ?_⟩ rep
  · intro b u q
    by_cases z : b = p
    · subst z; rw [upd_same] at q; cases q; exact ho
    · rw [upd_ne z] at q; exact r.sub _ _ q
  · refine ⟨r.grow.same.trans sS, r.grow.more, fun q w a b c => ?_⟩
    obtain ⟨x, y, z⟩ := r.grow.keep q w a b c
    refine ⟨x, outs q y fun n => ?_, z⟩
    subst n; rw [o.new] at a; cases a
  · intro j u f ej
    by_cases hij : i = j
    · subst hij
      rw [List.getElem?_set_self hi] at ej
      cases ej
      exact ⟨.ref p, h1, fun _ => rep, fun z => by cases z⟩
    · rw [List.getElem?_set_ne hij] at ej
      obtain ⟨v', a1, a2, a3⟩ := r.slots j u f ej
      refine ⟨v', a1, fun z => (a2 z).mono sS nol, fun z => ?_⟩
      subst z
      obtain ⟨p', rfl, o'⟩ := a3 rfl
      refine ⟨p', rfl, o'.own.mono sS rfl, outs p' o'.out fun n => ?_, o'.nas, o'.new⟩
      subst n
      exact hij (r.apart i j t u p' e ej h1 a1)
  · intro j k u w q ej ek
    have hj : st.env[j]? = some (some (u, true)) := by
      by_cases hij : i = j
      · subst hij; rw [List.getElem?_set_self hi] at ej; cases ej
      · rwa [List.getElem?_set_ne hij] at ej
    have hk : st.env[k]? = some (some (w, true)) := by
      by_cases hij : i = k
      · subst hij; rw [List.getElem?_set_self hi] at ek; cases ek
      · rwa [List.getElem?_set_ne hij] at ek
    exact r.apart j k u w q hj hk
  · refine ⟨r.sto.len, r.sto.nd, fun n so en => ?_⟩
    obtain ⟨a, a1, a2, a3⟩ := r.sto.at' n so en
    refine ⟨a, a1, outs a a2 fun z => ?_, a3.mono sS rfl⟩
    subst z
    exact o.nas (List.mem_of_getElem? a1)
  · exact fun q hq => (r.pend q hq).mono sS nol
  · show σ.length = (st.env.set i _).length
    rw [List.length_set]; exact r.len
end
noncomputable section
variable {X : Cx} {B : Bas} {a b c : Expr} {m m1 m2 : M T} {pos : Pos}
theorem te_var (i : Nat) {e : Expr} (h : PE X e (tVar i)) : PE X e (tOf X.K B (mVar i)) := h.imp fun σ H Q ⟨st, ps, S, as, R, t, st', e, q⟩ => by
  rcases mVar_inv e with ⟨e1, rfl⟩ | ⟨e1, rfl⟩
  · obtain ⟨v, h1, h2, _⟩ := R.slots i t false e1
    exact ⟨v, h1, q v H S as (R.push (h2 rfl))⟩
  · obtain ⟨v, S', h1, R'⟩ := R.freeze e1
    exact ⟨v, h1, q v H S' as R'⟩
theorem ta_nil : PA X [] (aOf X.K B mNil) := pa_nil.imp fun σ H Q ⟨st, ps, S, as, R, ts, st', e, q⟩ => by
  cases e
  exact q [] H S as R .nil
theorem ta_cons {es : List Expr} {ms : M (List T)} (ha : PE X a (tOf X.K B m)) (hr : PA X es (aOf X.K B ms)) (hs : starEach (a :: es) X.env = (false, eval a X.env) :: starEach es X.env := by rfl) : PA X (a :: es) (aOf X.K B (mCons m ms)) :=
  (pa_cons ha hr hs).imp fun σ H Q ⟨st, ps, S, as, R, ts, st', e, q⟩ => by
    obtain ⟨t, s1, us, e1, e2, rfl⟩ := mCons_inv e
    refine ⟨st, ps, S, as, R, t, s1, e1, fun v H1 S1 as1 R1 => ⟨s1, _, S1, as1, R1, us, st', e2, fun vs H2 S2 as2 R2 rs => ?_⟩⟩
    exact q (v :: vs) H2 S2 as2 R2.drop (.cons R2.top rs)
theorem te_tup {es : List Expr} {ms : M (List T)} {k : Nat} (h : PA X es (aOf X.K B ms)) (hm : ∀ st ts st', ms st = some (ts, st') → ts.length ≤ 1000) : PE X (.Tuple es k pos) (tOf X.K B (mMap (fun l => some (.tup l)) ms)) :=
  (pe_tup h).imp fun σ H Q ⟨st, ps, S, as, R, t, st', e, q⟩ => by
    obtain ⟨ts, e1, e2⟩ := mMap_inv e
    cases e2
    refine ⟨st, ps, S, as, R, ts, st', e1, fun vs H1 S1 as1 R1 rs => ⟨?_, fun p hp => ?_⟩⟩
    · rw [rs.length]; exact Nat.le_of_lt (small1000 (hm _ _ _ e1))
    · have x := Ext.laid R1.sub hp (.tup vs)
      exact q _ _ _ _ ((R1.ext x).push (.tup (SqT.of upd_same) (rs.mono x.s nol)))
theorem te_lst {es : List Expr} {ms : M (List T)} (h : PA X es (aOf X.K B ms)) (hm : ∀ st ts st', ms st = some (ts, st') → ts.length ≤ 1000) : PE X (.List es pos) (tOf X.K B (mMap (fun l => some (.lst l)) ms)) :=
  (pe_lst h).imp fun σ H Q ⟨st, ps, S, as, R, t, st', e, q⟩ => by
    obtain ⟨ts, e1, e2⟩ := mMap_inv e
    cases e2
    refine ⟨st, ps, S, as, R, ts, st', e1, fun vs H1 S1 as1 R1 rs => ⟨?_, fun p hp => ?_⟩⟩
    · rw [rs.length]; exact Nat.le_of_lt (small1000 (hm _ _ _ e1))
    · have x := Ext.laid R1.sub hp (.lst vs)
      exact q _ _ _ _ ((R1.ext x).push (.lst (SqL.of upd_same) (rs.mono x.s nol)))
theorem len_nil : ∀ st ts st', mNil st = some (ts, st') → ts.length ≤ 0 := fun st ts st' e => by cases e; exact Nat.le_refl _
theorem len_cons {r : M (List T)} {n : Nat} (h : ∀ st ts st', r st = some (ts, st') → ts.length ≤ n) : ∀ st ts st', mCons m r st = some (ts, st') → ts.length ≤ n + 1 := fun st ts st' e => by
  obtain ⟨t, s1, us, e1, e2, rfl⟩ := mCons_inv e
  exact Nat.succ_le_succ (h _ _ _ e2)
theorem te_of_cb {ms : M (List T)} {f : List T → Option T} {e : Expr} (h : PE X e (tCB (rL X.K f) (aOf X.K B ms))) : PE X e (tOf X.K B (mMap f ms)) :=
  h.imp fun σ H Q ⟨st, ps, S, as, R, t, st', e, q⟩ => by
    obtain ⟨ts, e1, e2⟩ := mMap_inv e
    refine ⟨st, ps, S, as, R, ts, st', e1, fun vs H1 S1 as1 R1 rs => ⟨S1, as1, ts, t, R1.sub, rs, e2, fun v H2 S2 x r => ?_⟩⟩
    exact q v H2 S2 as1 ((R1.ext x).push r)
theorem te_of_op {f : T → T → Option T} {e : Expr} (h : PE X e (tOp (r2 X.K f) (tOf X.K B m1) (tOf X.K B m2))) : PE X e (tOf X.K B (mOp f m1 m2)) :=
  h.imp fun σ H Q ⟨st, ps, S, as, R, t, st', e, q⟩ => by
    obtain ⟨t1, s1, t2, e1, e2, e3⟩ := mOp_inv e
    refine ⟨st, ps, S, as, R, t1, s1, e1, fun v H1 S1 as1 R1 => ⟨s1, _, S1, as1, R1, t2, st', e2, fun u H2 S2 as2 R2 => ?_⟩⟩
    exact ⟨S2, as2, t1, t2, t, R2.sub, R2.top2, R2.top, e3, fun w H3 S3 x r => q w H3 S3 as2 ((R2.drop.drop.ext x).push r)⟩
theorem te_of_un {f : T → Option T} {e : Expr} (h : PE X e (tUn (r1 X.K f) (tOf X.K B m))) : PE X e (tOf X.K B (mUn f m)) :=
  h.imp fun σ H Q ⟨st, ps, S, as, R, t, st', e, q⟩ => by
    obtain ⟨t1, e1, e3⟩ := mUn_inv e
    refine ⟨st, ps, S, as, R, t1, st', e1, fun v H1 S1 as1 R1 => ⟨S1, as1, t1, t, R1.sub, R1.top, e3, fun w H3 S3 x r => q w H3 S3 as1 ((R1.drop.ext x).push r)⟩⟩
theorem te_cmp {op : CmpOp} {f : T → T → Option T} (ho : OpT X (compareOp op) f) (ha : PE X a (tOf X.K B m1)) (hb : PE X b (tOf X.K B m2)) (hm : behindInMarks op b = false) : PE X (.Compare a [op] [b] pos) (tOf X.K B (mOp f m1 m2)) := te_of_op (pe_cmpR ho ha hb hm)
theorem te_un {op : UnaryOp} {f : T → Option T} (ho : UnT X (unaryOp op) f) (ha : PE X a (tOf X.K B m)) : PE X (.UnaryOp op a pos) (tOf X.K B (mUn f m)) := te_of_un (pe_un ho ha)
theorem tc_of_test {e : Expr} (h : PT X e (tTest (tOf X.K B m))) : PT X e (cOf X.K B (mTest m)) := h.imp fun σ H Q ⟨st, ps, S, as, R, t, st', e, q⟩ => by
  refine ⟨st, ps, S, as, R, .bl t, st', mTest_inv e, fun v H1 S1 as1 R1 => ?_⟩
  cases R1.top
  exact ⟨t, rfl, q H1 S1 as1 R1.drop⟩
theorem tc_cmp {op : CmpOp} {f : T → T → Option T} (ho : OpT X (compareOp op) f) (ha : PE X a (tOf X.K B m1)) (hb : PE X b (tOf X.K B m2)) (hm : behindInMarks op b = false) : PT X (.Compare a [op] [b] pos) (cOf X.K B (mTest (mOp f m1 m2))) :=
  tc_of_test ((pt_cmpR ho ha hb hm).imp fun σ H Q ⟨st, ps, S, as, R, t, st', e, q⟩ => by
    obtain ⟨t1, s1, t2, e1, e2, e3⟩ := mOp_inv e
    refine ⟨st, ps, S, as, R, t1, s1, e1, fun v H1 S1 as1 R1 => ⟨s1, _, S1, as1, R1, t2, st', e2, fun u H2 S2 as2 R2 => ?_⟩⟩
    exact ⟨S2, as2, t1, t2, t, R2.sub, R2.top2, R2.top, e3, fun w H3 S3 x r => q w H3 S3 as2 ((R2.drop.drop.ext x).push r)⟩)
theorem tc_val {e : Expr} (h : PE X e (tOf X.K B m)) (he : ∀ whole, isTrue e X.env whole = (do let v ← whole; standAt e.pos; holding [v] (truthy v)) := by intro _; rfl) : PT X e (cOf X.K B (mTest m)) :=
  tc_of_test ((pt_val h he).imp fun σ H Q h => h)
theorem tc_not {c1 : M Bool} (ha : PT X a (cOf X.K B c1)) : PT X (.UnaryOp .Not a pos) (cOf X.K B (mNot c1)) := (pt_not ha).imp fun σ H Q ⟨st, ps, S, as, R, t, st', e, q⟩ => by
  obtain ⟨k, e1, rfl⟩ := mNot_inv e
  exact ⟨st, ps, S, as, R, k, st', e1, q⟩
theorem tc_and1 {c1 : M Bool} (ha : PT X a (cOf X.K B c1)) : PW X (.BoolOp .And [a] pos) (cOf X.K B c1) := pw_and1 ha
theorem tc_or1 {c1 : M Bool} (ha : PT X a (cOf X.K B c1)) : PW X (.BoolOp .Or [a] pos) (cOf X.K B c1) := pw_or1 ha
theorem pwImp {e : Expr} {t t' : TT} (h : PW X e t) (i : ∀ σ H Q, t' σ H Q → t σ H Q) : PW X e t' := fun whole pins s σ H Q I q => h whole pins s σ H Q I (i σ H Q q)
theorem tc_and {c1 c2 : M Bool} {rest : List Expr} (ha : PT X a (cOf X.K B c1)) (hb : PW X (.BoolOp .And (b :: rest) pos) (cOf X.K B c2)) : PW X (.BoolOp .And (a :: b :: rest) pos) (cOf X.K B (mAnd c1 c2)) :=
  pwImp (pw_and ha hb) fun σ H Q ⟨st, ps, S, as, R, t, st', e, q⟩ => by
    rcases mAnd_inv e with ⟨s1, e1, e2⟩ | ⟨e1, rfl⟩
    · exact ⟨st, ps, S, as, R, true, s1, e1, fun H1 S1 as1 R1 => iteT (⟨s1, ps, S1, as1, R1, t, st', e2, q⟩)⟩
    · exact ⟨st, ps, S, as, R, false, st', e1, fun H1 S1 as1 R1 => iteF (q H1 S1 as1 R1)⟩
theorem tc_or {c1 c2 : M Bool} {rest : List Expr} (ha : PT X a (cOf X.K B c1)) (hb : PW X (.BoolOp .Or (b :: rest) pos) (cOf X.K B c2)) : PW X (.BoolOp .Or (a :: b :: rest) pos) (cOf X.K B (mOr c1 c2)) :=
  pwImp (pw_or ha hb) fun σ H Q ⟨st, ps, S, as, R, t, st', e, q⟩ => by
    rcases mOr_inv e with ⟨s1, e1, e2⟩ | ⟨e1, rfl⟩
    · exact ⟨st, ps, S, as, R, false, s1, e1, fun H1 S1 as1 R1 => iteF (⟨s1, ps, S1, as1, R1, t, st', e2, q⟩)⟩
    · exact ⟨st, ps, S, as, R, true, st', e1, fun H1 S1 as1 R1 => iteT (q H1 S1 as1 R1)⟩
theorem te_ifExp {c1 : M Bool} (hc : PT X c (cOf X.K B c1)) (ha : PE X a (tOf X.K B m1)) (hb : PE X b (tOf X.K B m2)) : PE X (.IfExp c a b pos) (tOf X.K B (mIf c1 m1 m2)) :=
  (pe_ifExp hc ha hb).imp fun σ H Q ⟨st, ps, S, as, R, t, st', e, q⟩ => by
    rcases mIf_inv e with ⟨s1, e1, e2⟩ | ⟨s1, e1, e2⟩
    · exact ⟨st, ps, S, as, R, true, s1, e1, fun H1 S1 as1 R1 => iteT (⟨s1, ps, S1, as1, R1, t, st', e2, q⟩)⟩
    · exact ⟨st, ps, S, as, R, false, s1, e1, fun H1 S1 as1 R1 => iteF (⟨s1, ps, S1, as1, R1, t, st', e2, q⟩)⟩
theorem te_not (ha : PE X a (tOf X.K B m)) : PE X (.UnaryOp .Not a pos) (tOf X.K B (mBool (mNot (mTest m)))) := (pe_not ha).imp fun σ H Q ⟨st, ps, S, as, R, t, st', e, q⟩ => by
  obtain ⟨b, e1, rfl⟩ := mBool_inv e
  obtain ⟨k, e2, rfl⟩ := mNot_inv e1
  refine ⟨st, ps, S, as, R, .bl k, st', mTest_inv e2, fun v H1 S1 as1 R1 => ?_⟩
  cases R1.top
  exact ⟨k, rfl, q _ H1 S1 as1 (R1.drop.push (.bl _))⟩
end
end C
end
noncomputable section
set_option linter.all false
set_option maxRecDepth 100000
set_option maxHeartbeats 4000002
set_option autoImplicit false
namespace C
open PySem PySem.Spec PyProof.Rows L2
theorem sSeq_inv {a b : S} {s s' : Sta} {fl : Flow} (h : sSeq a b s = some (fl, s')) : (∃ s1, a s = some (.next, s1) ∧ b s1 = some (fl, s')) ∨ (a s = some (fl, s') ∧ fl ≠ .next) := by
  unfold sSeq at h
  split at h
  · rename_i s1 e; exact .inl ⟨s1, e, h⟩
  · rename_i r hr; exact .inr ⟨h, fun z => by subst z; exact hr _ h⟩
theorem sRet_inv {e : M T} {s s' : Sta} {fl : Flow} (h : sRet e s = some (fl, s')) : ∃ t, e s = some (t, s') ∧ fl = .ret t := by
  unfold sRet at h
  split at h
  · rename_i t s1 e; cases h; exact ⟨t, e, rfl⟩
  · cases h
theorem sIf_inv {c : M Bool} {a b : S} {s s' : Sta} {fl : Flow} (h : sIf c a b s = some (fl, s')) : (∃ s1, c s = some (true, s1) ∧ a s1 = some (fl, s')) ∨ (∃ s1, c s = some (false, s1) ∧ b s1 = some (fl, s')) := by
  unfold sIf at h
  split at h
  · rename_i s1 e; exact .inl ⟨s1, e, h⟩
  · rename_i s1 e; exact .inr ⟨s1, e, h⟩
  · cases h
theorem sSet_inv {i : Nat} {e : M T} {s s' : Sta} {fl : Flow} (h : sSet i e s = some (fl, s')) : ∃ t s1, e s = some (t, s1) ∧ fl = .next ∧ s' = putSlot i t false s1 := by
  unfold sSet at h
  split at h
  · rename_i t s1 e; cases h; exact ⟨t, s1, e, rfl, rfl⟩
  · cases h
theorem sNew_inv {i : Nat} {e : M T} {s s' : Sta} {fl : Flow} (h : sNew i e s = some (fl, s')) : ∃ t s1, e s = some (t, s1) ∧ fl = .next ∧ s' = putSlot i t true s1 := by
  unfold sNew at h
  split at h
  · rename_i t s1 e; cases h; exact ⟨t, s1, e, rfl, rfl⟩
  · cases h
theorem sFor_inv {g : G} {it : M (List T)} {b : S} {s s' : Sta} {fl : Flow} (h : sFor g it b s = some (fl, s')) : ∃ ts s1, it s = some (ts, s1) ∧ forL g b ts s1 = some (fl, s') := by
  unfold sFor at h
  split at h
  · rename_i ts s1 e; exact ⟨ts, s1, e, h⟩
  · cases h
theorem sAppend_inv {i : Nat} {e : M T} {s s' : Sta} {fl : Flow} (h : sAppend i e s = some (fl, s')) :
    lstAt i s = true ∧ ∃ t s1 xs, e s = some (t, s1) ∧ s1.env[i]? = some (some (.lst xs, true)) ∧ xs.length < lim ∧ fl = .next ∧ s' = putSlot i (.lst (xs ++ [t])) true s1 := by
  unfold sAppend at h
  split at h
  · rename_i hd
    refine ⟨hd, ?_⟩
    split at h
    · rename_i t s1 e
      split at h
      · rename_i xs ex
        split at h
        · rename_i hl; cases h; exact ⟨t, s1, xs, e, ex, hl, rfl, rfl⟩
        · cases h
      · cases h
    · cases h
  · cases h
theorem sExtend_inv {i : Nat} {e : M T} {s s' : Sta} {fl : Flow} (h : sExtend i e s = some (fl, s')) :
    lstAt i s = true ∧ ∃ t s1 xs ys, e s = some (t, s1) ∧ seqOf t = some ys ∧ s1.env[i]? = some (some (.lst xs, true)) ∧ xs.length + ys.length < lim ∧ fl = .next ∧ s' = putSlot i (.lst (xs ++ ys)) true s1 := by
  unfold sExtend at h
  split at h
  · rename_i hd
    refine ⟨hd, ?_⟩
    split at h
    · rename_i t s1 e
      split at h
      · rename_i ys xs ey ex
        split at h
        · rename_i hl; cases h; exact ⟨t, s1, _, _, e, ey, ex, hl, rfl, rfl⟩
        · cases h
      · cases h
    · cases h
  · cases h
theorem sOwnPut_inv {i : Nat} {k v : M T} {s s' : Sta} {fl : Flow} (h : sOwnPut i k v s = some (fl, s')) :
    ∃ t s1 kt s2 kvs q, v s = some (t, s1) ∧ dicAt i s1 = true ∧ k s1 = some (kt, s2) ∧ s2.env[i]? = some (some (.dic kvs, true)) ∧ keyOf kt = some q ∧ kvs.length < lim ∧ fl = .next ∧ s' = putSlot i (.dic (dPut q t kvs)) true s2 := by
  unfold sOwnPut at h
  split at h
  · rename_i t s1 e
    split at h
    · rename_i hd
      split at h
      · rename_i kt s2 ek
        split at h
        · rename_i kvs q ex eq
          split at h
          · rename_i hl; cases h; exact ⟨t, s1, kt, s2, _, _, e, hd, ek, ex, eq, hl, rfl, rfl⟩
          · cases h
        · cases h
      · cases h
    · cases h
  · cases h
noncomputable section
variable {K : PySem.W.Frag} {B : Bas} {st : Sta} {σ : L2.St} {H H' S S' : Hp} {ps ps2 : List (V × T)} {as as' : List Addr}
theorem Rel.pick (r : Rel K B st σ H ps S as) (h : ∀ p ∈ ps2, p ∈ ps) : Rel K B st σ H ps2 S as :=
  ⟨r.sub, r.grow, r.slots, r.apart, r.sto, fun p hp => r.pend p (h p hp), r.len⟩
theorem set_out {α : Type} {l : List α} {i : Nat} {x : α} (h : l.length ≤ i) : l.set i x = l := List.set_eq_of_length_le h
theorem Rel.put (r : Rel K B st σ H ps S as) {i : Nat} {v : V} {t : T} (h : Rep K S as v t) : Rel K B (putSlot i t false st) (σ.set i (some v)) H ps S as := by
  by_cases hi : i < st.env.length
  · have hs : i < σ.length := by rw [r.len]; exact hi
    refine ⟨r.sub, r.grow, fun j u f e => ?_, fun j k u w p ej ek sj sk => ?_, r.sto, r.pend, by show _ = (st.env.set i _).length; rw [List.length_set, List.length_set]; exact r.len⟩
    · have e : (st.env.set i (some (t, false)))[j]? = some (some (u, f)) := e
      by_cases hij : i = j
      · subst hij
        rw [List.getElem?_set_self hi] at e; cases e
        exact ⟨v, List.getElem?_set_self hs, fun _ => h, fun z => by cases z⟩
      · rw [List.getElem?_set_ne hij] at e ⊢
        exact r.slots j u f e
    · have ej : (st.env.set i (some (t, false)))[j]? = some (some (u, true)) := ej
      have ek : (st.env.set i (some (t, false)))[k]? = some (some (w, true)) := ek
      have hij : i ≠ j := fun z => by subst z; rw [List.getElem?_set_self hi] at ej; cases ej
      have hik : i ≠ k := fun z => by subst z; rw [List.getElem?_set_self hi] at ek; cases ek
      rw [List.getElem?_set_ne hij] at ej sj
      rw [List.getElem?_set_ne hik] at ek sk
      exact r.apart j k u w p ej ek sj sk
  · have e1 : putSlot i t false st = st := by unfold putSlot; rw [set_out (Nat.le_of_not_lt hi)]
    have e2 : σ.set i (some v) = σ := set_out (by rw [r.len]; exact Nat.le_of_not_lt hi)
    rw [e1, e2]; exact r
noncomputable def NoSlot (st : Sta) (σ : L2.St) (p : Addr) : Prop := ∀ (j : Nat) u, st.env[j]? = some (some (u, true)) → σ[j]? = some (some (.ref p)) → False
theorem Rel.putOwn (r : Rel K B st σ H ps S as) {i : Nat} {p : Addr} {t : T} (h : OwnAt K B S as H p t) (hn : NoSlot st σ p) : Rel K B (putSlot i t true st) (σ.set i (some (.ref p))) H ps S as := by
  by_cases hi : i < st.env.length
  · have hs : i < σ.length := by rw [r.len]; exact hi
    refine ⟨r.sub, r.grow, fun j u f e => ?_, fun j k u w q ej ek sj sk => ?_, r.sto, r.pend, by show _ = (st.env.set i _).length; rw [List.length_set, List.length_set]; exact r.len⟩
    · have e : (st.env.set i (some (t, true)))[j]? = some (some (u, f)) := e
      by_cases hij : i = j
      · subst hij
        rw [List.getElem?_set_self hi] at e; cases e
        exact ⟨.ref p, List.getElem?_set_self hs, (fun z => by cases z), fun _ => ⟨p, rfl, h⟩⟩
      · rw [List.getElem?_set_ne hij] at e ⊢
        exact r.slots j u f e
    · have ej : (st.env.set i (some (t, true)))[j]? = some (some (u, true)) := ej
      have ek : (st.env.set i (some (t, true)))[k]? = some (some (w, true)) := ek
      by_cases hij : i = j
      · by_cases hik : i = k
        · rw [← hij, ← hik]
        · subst hij
          rw [List.getElem?_set_self hs] at sj; cases sj
          rw [List.getElem?_set_ne hik] at ek sk
          exact (hn k w ek sk).elim
      · rw [List.getElem?_set_ne hij] at ej sj
        by_cases hik : i = k
        · subst hik
          rw [List.getElem?_set_self hs] at sk; cases sk
          exact (hn j u ej sj).elim
        · rw [List.getElem?_set_ne hik] at ek sk
          exact r.apart j k u w q ej ek sj sk
  · have e1 : putSlot i t true st = st := by unfold putSlot; rw [set_out (Nat.le_of_not_lt hi)]
    have e2 : σ.set i (some (.ref p)) = σ := set_out (by rw [r.len]; exact Nat.le_of_not_lt hi)
    rw [e1, e2]; exact r
theorem Rel.turn (r : Rel K B st σ H ps S as) {i : Nat} {t t' : T} {p : Addr} {ob : HO} (e : st.env[i]? = some (some (t, true))) (hp : σ[i]? = some (some (.ref p))) (h : Own K S as (upd H p ob) p t') :
    Rel K B (putSlot i t' true st) σ (upd H p ob) ps S as := by
  obtain ⟨v, h1, _, h3⟩ := r.slots i t true e
  rw [hp] at h1; cases h1
  obtain ⟨p', ep, o⟩ := h3 rfl
  cases ep
  have hi : i < st.env.length := (List.getElem?_eq_some_iff.mp e).1
  have other : ∀ q, q ≠ p → H q = upd H p ob q := fun q n => (upd_ne n).symm
  refine ⟨fun b u q => ?_, ⟨r.grow.same, r.grow.more, fun q w a b c => ?_⟩, fun j u f ej => ?_, fun j k u w q ej ek sj sk => ?_, ⟨r.sto.len, r.sto.nd, fun n so en => ?_⟩, r.pend, by show _ = (st.env.set i _).length; rw [List.length_set]; exact r.len⟩
  · have n : b ≠ p := fun z => by subst z; rw [o.out] at q; cases q
    rw [upd_ne n]; exact r.sub _ _ q
  · obtain ⟨x, y, z⟩ := r.grow.keep q w a b c
    have n : q ≠ p := fun z => by subst z; rw [o.new] at a; cases a
    exact ⟨by rw [upd_ne n]; exact x, y, z⟩
  · have ej : (st.env.set i (some (t', true)))[j]? = some (some (u, f)) := ej
    by_cases hij : i = j
    · subst hij
      rw [List.getElem?_set_self hi] at ej; cases ej
      exact ⟨.ref p, hp, (fun z => by cases z), fun _ => ⟨p, rfl, h, o.out, o.nas, o.new⟩⟩
    · rw [List.getElem?_set_ne hij] at ej
      obtain ⟨v', a1, a2, a3⟩ := r.slots j u f ej
      refine ⟨v', a1, a2, fun z => ?_⟩
      subst z
      obtain ⟨p', rfl, o'⟩ := a3 rfl
      have n : p' ≠ p := fun z => by subst z; exact hij (r.apart i j t u p' e ej hp a1)
      exact ⟨p', rfl, o'.own.mono (Same.refl _) (other p' n), o'.out, o'.nas, o'.new⟩
  · have back : ∀ (j : Nat) u, (st.env.set i (some (t', true)))[j]? = some (some (u, true)) → ∃ u', st.env[j]? = some (some (u', true)) := fun j u ej => by
      by_cases hij : i = j
      · subst hij; exact ⟨t, e⟩
      · rw [List.getElem?_set_ne hij] at ej; exact ⟨u, ej⟩
    obtain ⟨u', ej'⟩ := back j u ej
    obtain ⟨w', ek'⟩ := back k w ek
    exact r.apart j k u' w' q ej' ek' sj sk
  · obtain ⟨a, a1, a2, a3⟩ := r.sto.at' n so en
    have n : a ≠ p := fun z => by subst z; exact o.nas (List.mem_of_getElem? a1)
    exact ⟨a, a1, a2, a3.mono (Same.refl _) (other a n)⟩
end
noncomputable def Fin (K : PySem.W.Frag) (B : Bas) (D : Ends) (ps : List (V × T)) : Flow → Sta → Prop
  | .next, st' => ∀ σ' H' S' as', Rel K B st' σ' H' ps S' as' → D.nx σ' H'
  | .ret t, st' => ∀ v σ' H' S' as', Rel K B st' σ' H' ((v, t) :: ps) S' as' → D.rt v H'
  | .brk, st' => ∀ σ' H' S' as', Rel K B st' σ' H' ps S' as' → D.bk σ' H'
  | .cont, st' => ∀ σ' H' S' as', Rel K B st' σ' H' ps S' as' → D.ct σ' H'
noncomputable def sOf (K : PySem.W.Frag) (B : Bas) (s : S) : TS := fun D σ H => ∃ st ps S as, Rel K B st σ H ps S as ∧ ∃ fl st', s st = some (fl, st') ∧ Fin K B D ps fl st'
noncomputable def gOf (K : PySem.W.Frag) (B : Bas) (g : G) : TG := fun v σ H Q => ∃ st ps S as t, Rel K B st σ H ((v, t) :: ps) S as ∧ ∃ st', g t st = some st' ∧ ∀ σ' H' S' as', Rel K B st' σ' H' ps S' as' → Q σ' H'
noncomputable def fOf (K : PySem.W.Frag) (B : Bas) (m : M T) : TE := fun σ H Q => ∃ st ps S as, Rel K B st σ H ps S as ∧ ∃ t st', m st = some (t, st') ∧
  ∀ p H' S' as', Rel K B st' σ H' ps S' as' → OwnAt K B S' as' H' p t → NoSlot st' σ p → Q (.ref p) H'
noncomputable section
variable {X : Cx} {B : Bas} {a b c e : Expr} {m m1 m2 : M T} {pos : Pos} {u v : S}
theorem ts_nil : PSs X [] (sOf X.K B sNil) := pss_nil.imp fun D σ H ⟨st, ps, S, as, R, fl, st', e, q⟩ => by
  cases e; exact q σ H S as R
theorem ts_cons {st : Stmt} {rest : List Stmt} (h1 : PS X st (sOf X.K B u)) (h2 : PSs X rest (sOf X.K B v)) : PSs X (st :: rest) (sOf X.K B (sSeq u v)) := (pss_cons h1 h2).imp fun D σ H ⟨st, ps, S, as, R, fl, st', e, q⟩ => by
  rcases sSeq_inv e with ⟨s1, e1, e2⟩ | ⟨e1, hn⟩
  · exact ⟨st, ps, S, as, R, .next, s1, e1, fun σ' H' S' as' R' => ⟨s1, ps, S', as', R', fl, st', e2, q⟩⟩
  · refine ⟨st, ps, S, as, R, fl, st', e1, ?_⟩
    cases fl with
    | next => exact absurd rfl hn
    | ret t => exact q
    | brk => exact q
    | cont => exact q
theorem ts_one {st : Stmt} (h1 : PS X st (sOf X.K B u)) : PSs X [st] (sOf X.K B u) := pss_one h1
theorem ts_ret (he : PE X e (tOf X.K B m)) : PS X (.Return (some e) pos) (sOf X.K B (sRet m)) := (ps_ret he).imp fun D σ H ⟨st, ps, S, as, R, fl, st', e, q⟩ => by
  obtain ⟨t, e1, rfl⟩ := sRet_inv e
  exact ⟨st, ps, S, as, R, t, st', e1, fun v H' S' as' R' => q v σ H' S' as' R'⟩
theorem ts_if {c1 : M Bool} {sa sb : List Stmt} (hc : PT X c (cOf X.K B c1)) (ha : PSs X sa (sOf X.K B u)) (hb : PSs X sb (sOf X.K B v)) : PS X (.If c sa sb pos) (sOf X.K B (sIf c1 u v)) := (ps_if hc ha hb).imp fun D σ H ⟨st, ps, S, as, R, fl, st', e, q⟩ => by
  rcases sIf_inv e with ⟨s1, e1, e2⟩ | ⟨s1, e1, e2⟩
  · exact ⟨st, ps, S, as, R, true, s1, e1, fun H1 S1 as1 R1 => iteT ⟨s1, ps, S1, as1, R1, fl, st', e2, q⟩⟩
  · exact ⟨st, ps, S, as, R, false, s1, e1, fun H1 S1 as1 R1 => iteF ⟨s1, ps, S1, as1, R1, fl, st', e2, q⟩⟩
theorem tg_name (i : Nat) {tg : Expr} (h : PG X tg (gName i)) : PG X tg (gOf X.K B (hName i)) := fun pins s σ H x u Q I r ⟨st, ps, S, as, t, R, st', e, q⟩ => h pins s σ H x u Q I r (by
  cases e
  exact q _ H S as (R.drop.put R.top))
theorem ts_set (i : Nat) {te : TE} {s : Stmt} (h : PS X s (tAsg te (gName i))) (hm : ∀ σ H Q, tOf X.K B m σ H Q → te σ H Q) : PS X s (sOf X.K B (sSet i m)) := h.imp fun D σ H ⟨st, ps, S, as, R, fl, st', e, q⟩ => by
  obtain ⟨t, s1, e1, rfl, rfl⟩ := sSet_inv e
  exact hm σ H _ ⟨st, ps, S, as, R, t, s1, e1, fun v H' S' as' R' => q _ H' S' as' (R'.drop.put R'.top)⟩
theorem ts_new (i : Nat) {te : TE} {s : Stmt} (h : PS X s (tAsg te (gName i))) (hm : ∀ σ H Q, fOf X.K B m σ H Q → te σ H Q) : PS X s (sOf X.K B (sNew i m)) := h.imp fun D σ H ⟨st, ps, S, as, R, fl, st', e, q⟩ => by
  obtain ⟨t, s1, e1, rfl, rfl⟩ := sNew_inv e
  exact hm σ H _ ⟨st, ps, S, as, R, t, s1, e1, fun p H' S' as' R' o n => q _ H' S' as' (R'.putOwn o n)⟩
end
end C
end
noncomputable section
set_option linter.all false
set_option maxRecDepth 100000
set_option maxHeartbeats 4000002
set_option autoImplicit false
namespace C
open PySem PySem.Spec PyProof.Rows L2
noncomputable section
variable {K : PySem.W.Frag} {B : Bas} {st : Sta} {σ : L2.St} {H H' S S' : Hp} {ps ps2 : List (V × T)} {as as' : List Addr}
theorem Own.more {p : Addr} {t : T} (hs : Same S S') (x : ∃ l, as' = as ++ l) (hh : H p = H' p) (o : Own K S as H p t) : Own K S' as' H' p t := by
  cases t with
  | lst ts => obtain ⟨vs, h, r⟩ := o; exact ⟨vs, hh ▸ h, r.mono hs x⟩
  | dic ts => obtain ⟨vs, h, r⟩ := o; exact ⟨vs, hh ▸ h, r.mono hs x⟩
  | _ => exact o.elim
theorem Rel.call {sto' : List SO} (r : Rel K B st σ H ps S as) (g : Grow ⟨S, as, H⟩ S' as' H') (sub : Same S' H') (so : StoOk K S' as' H' sto') : Rel K B { st with sto := sto' } σ H' ps S' as' where
  sub := sub
  grow := by
    refine ⟨r.grow.same.trans g.same, ?_, fun p o a b c => ?_⟩
    · obtain ⟨l, e⟩ := r.grow.more
      obtain ⟨l', e'⟩ := g.more
      exact ⟨l ++ l', by rw [e', e, List.append_assoc]⟩
    · obtain ⟨x, y, z⟩ := r.grow.keep p o a b c
      exact g.keep p o x y z
  slots := fun i t f e => by
    obtain ⟨v, h1, h2, h3⟩ := r.slots i t f e
    refine ⟨v, h1, fun q => (h2 q).mono g.same g.more, fun q => ?_⟩
    obtain ⟨p, rfl, o⟩ := h3 q
    obtain ⟨ob, ho⟩ := o.own.there
    obtain ⟨x, y, z⟩ := g.keep p ob ho o.out o.nas
    exact ⟨p, rfl, o.own.more g.same g.more (by rw [ho, x]), y, z, o.new⟩
  apart := r.apart
  sto := so
  pend := fun p hp => (r.pend p hp).mono g.same g.more
  len := r.len
end
noncomputable def spF (K : PySem.W.Frag) (ar : Nat) (F : Fn) : Sp := fun vs H Q _ => ∃ S as sto ts t sto', Same S H ∧ StoOk K S as H sto ∧ Reps K S as vs ts ∧ ts.length = ar ∧ F ts sto = some (t, sto') ∧
  ∀ v H' S' as', Grow ⟨S, as, H⟩ S' as' H' → Same S' H' → StoOk K S' as' H' sto' → Rep K S' as' v t → Q v H'
noncomputable section
variable {X : Cx} {B : Bas} {a b c e : Expr} {m m1 m2 : M T} {pos p : Pos} {u v : S} {es : List Expr} {ms : M (List T)} {k : Nat} {f : Addr} {fd : FuncData} {pn : List Str} {F : Fn} {x : Str}
theorem te_call (G : FnOk X.prog X.w X.K X.mg X.base CX0 k f fd pn (spF X.K pn.length F)) (hr : Room k X.A) (hg : Gl X x) (hm : X.mg x = some (.ref f)) (hk : PySem.W.keepIn X.K (.ref f) = true) (hb : Binds X.K fd pn [])
    (ha : PA X (e :: es) (aOf X.K B ms)) (hl : ∀ st ts st', ms st = some (ts, st') → ts.length = pn.length) (hdb : (x == ("__debug__" : Str)) = false := by decide)
    (he : starEach (e :: es) X.env = (false, eval e X.env) :: starEach es X.env := by rfl) (hpl : (backTo pos (starEach es X.env)).any (·.1) = false := by rfl) :
    PE X (.Call (.Name x p) (e :: es) [] pos) (tOf X.K B (mCall F ms)) :=
  (pe_call G hr hg hm hk hb .nil pass0 ha hdb he hpl).imp fun σ H Q ⟨st, ps, S, as, R, t, st', e, q⟩ => by
    obtain ⟨ts, s1, sto, e1, e2, rfl⟩ := mCall_inv e
    refine ⟨st, ps, S, as, R, ts, s1, e1, fun vs H1 S1 as1 R1 rs => ?_⟩
    show spF X.K pn.length F (vs ++ []) H1 Q E0
    rw [List.append_nil]
    exact ⟨S1, as1, s1.sto, ts, t, sto, R1.sub, R1.sto, rs, hl _ _ _ e1, e2, fun v H2 S2 as2 g sub so r => q v H2 S2 as2 ((R1.call g sub so).push r)⟩
theorem eq_nil : ∀ st ts st', mNil st = some (ts, st') → ts.length = 0 := fun st ts st' e => by cases e; rfl
theorem eq_cons {r : M (List T)} {n : Nat} (h : ∀ st ts st', r st = some (ts, st') → ts.length = n) : ∀ st ts st', mCons m r st = some (ts, st') → ts.length = n + 1 := fun st ts st' e => by
  obtain ⟨t, s1, us, e1, e2, rfl⟩ := mCons_inv e
  exact congrArg (· + 1) (h _ _ _ e2)
end
noncomputable section
variable {P : Program} {w : World} {K : PySem.W.Frag} {mg : Str → Option Value} {base : Heap}
theorem start_get {N : List Str} {vs : List V} {i : Nat} {v : V} (h : vs[i]? = some v) : (L2.start N vs)[i]? = some (some v) := by
  unfold L2.start
  have hi := (List.getElem?_eq_some_iff.mp h).1
  rw [List.getElem?_append_left (by rw [List.length_map]; exact hi), List.getElem?_map, h]; rfl
theorem rel_start {S H : Hp} {as : List Addr} {sto : List SO} {vs : List V} {ts : List T} {N : List Str} (h1 : Same S H) (h2 : StoOk K S as H sto) (h3 : Reps K S as vs ts) (hN : ts.length ≤ N.length) :
    Rel K ⟨S, as, H⟩ ⟨ts.map (fun t => some (t, false)) ++ List.replicate (N.length - ts.length) none, sto⟩ (L2.start N vs) H [] S as := by
  have key : ∀ (i : Nat) t fl, (ts.map (fun t => some (t, false)) ++ List.replicate (N.length - ts.length) (none : Slot))[i]? = some (some (t, fl)) → fl = false ∧ ts[i]? = some t := fun i t fl e => by
    by_cases hi : i < ts.length
    · rw [List.getElem?_append_left (by rw [List.length_map]; exact hi), List.getElem?_map] at e
      cases z : ts[i]? with
      | none => rw [z] at e; cases e
      | some t' => rw [z] at e; cases e; exact ⟨rfl, rfl⟩
    · rw [List.getElem?_append_right (by rw [List.length_map]; exact Nat.le_of_not_lt hi)] at e
      have := List.eq_of_mem_replicate (List.mem_of_getElem? e)
      cases this
  refine ⟨h1, ⟨Same.refl _, nol, fun p o a b c => ⟨a, b, c⟩⟩, fun i t fl e => ?_, fun i j t u p ei ej => ?_, h2, (fun p hp => by cases hp), ?_⟩
  · obtain ⟨rfl, e'⟩ := key i t fl e
    obtain ⟨v, hv, r⟩ := h3.get e'
    exact ⟨v, start_get hv, fun _ => r, fun z => by cases z⟩
  · obtain ⟨z, _⟩ := key i t true ei; cases z
  · unfold L2.start
    rw [List.length_append, List.length_append, List.length_map, List.length_map, List.length_replicate, List.length_replicate, h3.length]
theorem fn_tree {x qual : Str} {st : Stmt} {f : Addr} {fd : FuncData} {N ps : List Str} {k : Nat} {b : S} (F : Fun K x qual st f fd) (Sc : FnScope N ps (defScope st)) (hN : ps.length ≤ N.length)
    (hb : ∀ (cdv : Value) (A : Around) (outer : List Env) (s : Shared) (H : Hp) (E : XK) (B : Bas), Room k (A.deeper (envOfC qual (defScope st) s.heap.objs.size f cdv)) →
      PSs (cxOf CX0 P w K mg base N qual (defScope st) f cdv A outer s H E).nox (defBody st) (sOf K B b)) : FnOk P w K mg base CX0 (k + 1) f fd ps (spF K ps.length (runFn N.length b)) := by
  refine F.ok Sc (fun vs H Q E h => ?_) fun cdv A outer s H vs Q E hr h => ?_
  · obtain ⟨S, as, sto, ts, t, sto', h1, h2, h3, h4, _⟩ := h
    rw [h3.length, h4]
  · obtain ⟨S, as, sto, ts, t, sto', h1, h2, h3, h4, h5, q⟩ := h
    refine ⟨_, hb cdv A outer s H E ⟨S, as, H⟩ hr, ?_⟩
    have lv : vs.length = ps.length := by rw [h3.length, h4]
    have R : Rel K ⟨S, as, H⟩ ⟨ts.map (fun t => some (t, false)) ++ List.replicate (N.length - ts.length) none, sto⟩ (L2.start N vs) H [] S as := rel_start h1 h2 h3 (by rw [h4]; exact hN)
    unfold runFn at h5
    split at h5
    · rename_i t' s' e
      cases h5
      exact ⟨_, [], S, as, R, .ret t, s', e, fun v σ' H' S' as' R' => q v H' S' as' R'.grow R'.sub R'.sto R'.top⟩
    · rename_i s' e
      cases h5
      exact ⟨_, [], S, as, R, .next, s', e, fun σ' H' S' as' R' => q .non H' S' as' R'.grow R'.sub R'.sto .non⟩
    · cases h5
end
end C
end
noncomputable section
set_option linter.all false
set_option maxRecDepth 100000
set_option maxHeartbeats 4000002
set_option autoImplicit false
namespace C
open PySem PySem.Spec PyProof.Rows L2
theorem forL_inv {g : G} {b : S} {t : T} {r : List T} {s s' : Sta} {fl : Flow} (h : forL g b (t :: r) s = some (fl, s')) : ∃ s1 fb s2, g t s = some s1 ∧ b s1 = some (fb, s2) ∧
    (match fb with | .next => forL g b r s2 = some (fl, s') | .cont => forL g b r s2 = some (fl, s') | .brk => fl = .next ∧ s' = s2 | .ret v => fl = .ret v ∧ s' = s2) := by
  rw [forL] at h
  dsimp only at h
  split at h
  · rename_i s1 e1
    split at h
    · rename_i s2 e2; exact ⟨s1, .next, s2, e1, e2, h⟩
    · rename_i s2 e2; exact ⟨s1, .cont, s2, e1, e2, h⟩
    · rename_i s2 e2; cases h; exact ⟨s1, .brk, _, e1, e2, rfl, rfl⟩
    · rename_i v s2 e2; cases h; exact ⟨s1, .ret v, _, e1, e2, rfl, rfl⟩
    · cases h
  · cases h
structure ItFacts (K : PySem.W.Frag) (S : Hp) (as : List Addr) (H : Hp) (J : It) (ts : List T) : Prop where
  go : ∀ (i : Nat) t, ts[i]? = some t → J.go i H ∧ ∀ x H', J.yld i H x H' → ∃ S', Ext S H S' H' ∧ Rep K S' as x t
  stop : ∀ i, ts.length ≤ i → J.stop i H
noncomputable def iOf (K : PySem.W.Frag) (B : Bas) (m : M (List T)) : TI := fun σ H R => ∃ st ps S as, Rel K B st σ H ps S as ∧ ∃ ts st', m st = some (ts, st') ∧ ts.length ≤ sizeLine ∧
  ∀ J H' S' as' ps', Rel K B st' σ H' (ps' ++ ps) S' as' → (∀ S as H, (∀ p ∈ ps', Rep K S as p.1 p.2) → Same S H → ItFacts K S as H J ts) → R J H'
noncomputable section
variable {X : Cx} {tg l : Expr} {tl : TE}
noncomputable def iSq (K : PySem.W.Frag) (tl : TE) : TI := fun σ H R => tl σ H fun x H1 => ∃ a, x = .ref a ∧ (((∃ xs, SqL K H1 a xs) ∧ R (Itl K a) H1) ∨ ((∃ xs, SqT K H1 a xs) ∧ R (Itt K a) H1))
theorem pi_sq (hl : PE X l tl) : PI X tg l (iSq X.K tl) := by
  intro pins s σ H R I h
  refine thn (hl pins s σ H _ I h) fun v s1 ⟨x, H1, I1, r1, q1⟩ => ?_
  obtain ⟨a, e, q⟩ := q1
  subst e
  cases r1
  rcases q with ⟨⟨xs, hq⟩, q⟩ | ⟨⟨xs, hq⟩, q⟩
  · obtain ⟨its, rv, p, hz⟩ := I1.list hq
    refine wpAny_pyIter_list p.isList ?_
    refine ⟨s1.heap.objs.size, [s1.heap.objs.size], _, _, H1, rfl, I1.kept (t' := s1.toks) fun b o e => Heap.get?_push_of_some _ e, turn_list a _, ⟨_, Heap.get?_push_size _ rfl, rfl, rfl⟩, fun b hb => ?_, q⟩
    have e : b = s1.heap.objs.size := by simpa using hb
    subst e
    exact I1.fpOk (Nat.le_refl _) (I1.hok.fresh (Nat.le_refl _))
  · obtain ⟨its, rv, p, hz⟩ := I1.tuple hq
    refine wpAny_pyIter_tuple (show s1.heap.IsTuple a its.toArray from p) ?_
    refine ⟨s1.heap.objs.size, [s1.heap.objs.size], _, _, H1, rfl, I1.kept (t' := s1.toks) fun b o e => Heap.get?_push_of_some _ e, turn_tuple a _, ⟨_, Heap.get?_push_size _ rfl, rfl, rfl⟩, fun b hb => ?_, q⟩
    have e : b = s1.heap.objs.size := by simpa using hb
    subst e
    exact I1.fpOk (Nat.le_refl _) (I1.hok.fresh (Nat.le_refl _))
end
noncomputable section
variable {X : Cx} {B : Bas} {a b c e tg iter : Expr} {m m1 m2 : M T} {pos p : Pos} {u v : S} {g : G} {it : M (List T)} {body : List Stmt}
theorem itL {K : PySem.W.Frag} {S : Hp} {as : List Addr} {H : Hp} {p : Addr} {vs : List V} {ts : List T} (sub : Same S H) (h : SqL K H p vs) (r : Reps K S as vs ts) : ItFacts K S as H (Itl K p) ts where
  go := fun i t e => by
    obtain ⟨v, hv, rv⟩ := r.get e
    exact ⟨⟨vs, v, h, hv⟩, fun x H' y => ⟨S, by rw [y.1]; exact Ext.refl sub, by have := y.2 vs h; rw [hv] at this; cases this; exact rv⟩⟩
  stop := fun i hi => ⟨vs, h, by rw [r.length]; exact hi⟩
theorem itT {K : PySem.W.Frag} {S : Hp} {as : List Addr} {H : Hp} {p : Addr} {vs : List V} {ts : List T} (sub : Same S H) (h : SqT K H p vs) (r : Reps K S as vs ts) : ItFacts K S as H (Itt K p) ts where
  go := fun i t e => by
    obtain ⟨v, hv, rv⟩ := r.get e
    exact ⟨⟨vs, v, h, hv⟩, fun x H' y => ⟨S, by rw [y.1]; exact Ext.refl sub, by have := y.2 vs h; rw [hv] at this; cases this; exact rv⟩⟩
  stop := fun i hi => ⟨vs, h, by rw [r.length]; exact hi⟩
theorem lim_line : lim ≤ sizeLine := by rw [sizeLine_eq]; decide
theorem ti_seq (h : PE X iter (tOf X.K B m)) : PI X tg iter (iOf X.K B (iSeq m)) := by
  intro pins s σ H R I hw
  refine pi_sq h pins s σ H R I ?_
  obtain ⟨st, ps, S, as, Rl, ts, st', e, hz, q⟩ := hw
  unfold iSeq at e
  split at e
  · rename_i xs s1 e1
    split at e
    · rename_i hl
      cases e
      refine ⟨st, ps, S, as, Rl, _, _, e1, fun v H1 S1 as1 R1 => ?_⟩
      have top := R1.top
      cases top with
      | @lst a vs _ hs hr =>
        refine ⟨a, rfl, .inl ⟨⟨vs, sqL_mono R1.sub hs⟩, q _ H1 S1 as1 [(.ref a, .lst _)] R1 fun S2 as2 H2 hp hh => ?_⟩⟩
        have := hp _ List.mem_cons_self
        cases this with
        | @lst _ vs2 _ hs2 hr2 => exact itL hh (sqL_mono hh hs2) hr2
    · cases e
  · rename_i xs s1 e1
    split at e
    · rename_i hl
      cases e
      refine ⟨st, ps, S, as, Rl, _, _, e1, fun v H1 S1 as1 R1 => ?_⟩
      have top := R1.top
      cases top with
      | @tup a vs _ hs hr =>
        refine ⟨a, rfl, .inr ⟨⟨vs, sqT_mono R1.sub hs⟩, q _ H1 S1 as1 [(.ref a, .tup _)] R1 fun S2 as2 H2 hp hh => ?_⟩⟩
        have := hp _ List.mem_cons_self
        cases this with
        | @tup _ vs2 _ hs2 hr2 => exact itT hh (sqT_mono hh hs2) hr2
    · cases e
  · cases e
theorem iRange_inv {a : M T} {ts : List T} {s s' : Sta} (h : iRange a s = some (ts, s')) : ∃ n : Int, a s = some (.int n, s') ∧ (-1000000 < n ∧ n < 1000000) ∧ ts = rangeT n.toNat := by
  unfold iRange at h
  split at h
  · rename_i n s1 e
    split at h
    · rename_i hl; cases h; exact ⟨n, e, by have : n.natAbs < 1000000 := hl; omega, rfl⟩
    · cases h
  · cases h
theorem rangeT_get {n i : Nat} {t : T} (h : (rangeT n)[i]? = some t) : i < n ∧ t = .int (i : Int) := by
  unfold rangeT at h
  rw [List.getElem?_map] at h
  cases z : (List.range n)[i]? with
  | none => rw [z] at h; cases h
  | some k =>
    rw [z] at h; cases h
    obtain ⟨hi, e⟩ := List.getElem?_eq_some_iff.mp z
    rw [List.getElem_range] at e; subst e
    rw [List.length_range] at hi
    exact ⟨hi, rfl⟩
theorem ti_range (hg : Gl X "range") (hm : X.mg "range" = none) (h : PE X a (tOf X.K B m)) (hs : starEach [a] X.env = [(false, eval a X.env)] := by rfl) : PI X tg (.Call (.Name "range" p) [a] [] pos) (iOf X.K B (iRange m)) := by
  intro pins s σ H R I hw
  refine pi_range1 (ta := tCons (tOf X.K B m) tNil) hg hm (pa_cons h pa_nil hs) hs pins s σ H R I ?_
  obtain ⟨st, ps, S, as, Rl, ts, st', e, hz, q⟩ := hw
  obtain ⟨n, e1, hl, rfl⟩ := iRange_inv e
  refine ⟨st, ps, S, as, Rl, _, _, e1, fun v H1 S1 as1 R1 => ?_⟩
  cases R1.top
  refine ⟨n, rfl, by omega, by omega, q _ H1 S1 as1 [] R1.drop fun S2 as2 H2 _ hh => ⟨fun i t e => ?_, fun i hi => ?_⟩⟩
  · obtain ⟨hi, rfl⟩ := rangeT_get e
    refine ⟨hi, fun x H' y => ⟨S2, by rw [y.1]; exact Ext.refl hh, ?_⟩⟩
    have := y.2; subst this
    rw [Int.zero_add]; exact .int _
  · show n.toNat ≤ i
    unfold rangeT at hi
    rwa [List.length_map, List.length_range] at hi
theorem ts_for (hp : PassesOwn (model X.prog X.w) X.A X.env X.xe) (hc : X.calm = true) (hi : PI X tg iter (iOf X.K B it)) (hg : PG X tg (gOf X.K B g)) (hb : PSs X body (sOf X.K B u)) (hsz : ∀ st ts st', it st = some (ts, st') → ts.length ≤ sizeLine)
    (hs : ∀ x, foldedSetIterable iter X.env x = pure x := by intro _; rfl) : PS X (.For tg iter body [] pos) (sOf X.K B (sFor g it u)) := (ps_for hp hc hi hg hb hs).imp fun D σ H ⟨st, ps, S, as, R, fl, st', e, q⟩ => by
  obtain ⟨ts, s1, e1, e2⟩ := sFor_inv e
  refine ⟨st, ps, S, as, R, ts, s1, e1, hsz _ _ _ e1, fun J H1 S1 as1 ps' R1 facts => ?_⟩
  refine ⟨fun i m σ H => m = ts.length - i ∧ i ≤ ts.length ∧ ∃ sti Si asi, Rel X.K B sti σ H (ps' ++ ps) Si asi ∧ forL g u (ts.drop i) sti = some (fl, st'), ⟨ts.length, by simp, Nat.zero_le _, s1, S1, as1, R1, by simpa using e2⟩, ?_⟩
  rintro i m σ2 H2 ⟨rfl, hi, sti, Si, asi, Ri, ei⟩
  have F := facts Si asi H2 (fun p hp => Ri.pend p (List.mem_append_left _ hp)) Ri.sub
  have sub : ∀ p ∈ ps, p ∈ ps' ++ ps := fun p hp => List.mem_append_right _ hp
  by_cases hlt : i < ts.length
  · rw [List.drop_eq_getElem_cons hlt] at ei
    obtain ⟨s2, fb, s3, eg, eb, er⟩ := forL_inv ei
    have ht : ts[i]? = some ts[i] := List.getElem?_eq_getElem hlt
    refine .inr ⟨(F.go i _ ht).1, fun σ' H' => ∃ sti Si asi, Rel X.K B sti σ' H' (ps' ++ ps) Si asi ∧ forL g u (ts.drop (i + 1)) sti = some (fl, st'), fun σ' H' h => ⟨ts.length - (i + 1), by omega, rfl, hlt, h⟩, fun x H' y => ?_⟩
    obtain ⟨S', ex, rx⟩ := (F.go i _ ht).2 x H' y
    refine ⟨sti, ps' ++ ps, S', asi, _, (Ri.ext ex).push rx, s2, eg, fun σ3 H3 S3 as3 R3 => ⟨s2, ps' ++ ps, S3, as3, R3, fb, s3, eb, ?_⟩⟩
    cases fb with
    | next => exact fun σ' H' S' as' R' => ⟨s3, S', as', R', er⟩
    | cont => exact fun σ' H' S' as' R' => ⟨s3, S', as', R', er⟩
    | brk =>
      obtain ⟨rfl, rfl⟩ := er
      exact fun σ' H' S' as' R' => q σ' H' S' as' (R'.pick sub)
    | ret v =>
      obtain ⟨rfl, rfl⟩ := er
      exact fun v σ' H' S' as' R' => q v σ' H' S' as' (R'.pick fun p hp => by
        rcases List.mem_cons.mp hp with rfl | z
        · exact List.mem_cons_self
        · exact List.mem_cons_of_mem _ (sub p z))
  · have hie : i = ts.length := by omega
    subst hie
    rw [List.drop_length] at ei
    cases ei
    exact .inl ⟨F.stop _ (Nat.le_refl _), q σ2 H2 Si asi (Ri.pick sub)⟩
end
end C
end
noncomputable section
set_option linter.all false
set_option maxRecDepth 100000
set_option maxHeartbeats 4000002
set_option autoImplicit false
namespace C
open PySem PySem.Spec PyProof.Rows L2
noncomputable section
variable {K : PySem.W.Frag} {B : Bas} {st : Sta} {σ : L2.St} {H H' S S' : Hp} {ps ps2 : List (V × T)} {as as' : List Addr}
theorem Rel.freeze1 (r : Rel K B st σ H ps S as) {i : Nat} {t : T} (e : st.env[i]? = some (some (t, true))) : ∃ S', Rel K B { st with env := st.env.set i (some (t, false)) } σ H ps S' as := by
  obtain ⟨v, S', _, R⟩ := r.freeze e
  exact ⟨S', R.drop⟩
theorem Rel.freezeAt : ∀ (cap : List Nat) {st : Sta} {S : Hp}, Rel K B st σ H ps S as → ∃ S', Rel K B { st with env := freezeAt cap st.env } σ H ps S' as
  | [], st, S, r => ⟨S, r⟩
  | i :: l, st, S, r => by
    unfold C.freezeAt
    rw [List.foldl_cons]
    split
    · rename_i t f e
      cases f with
      | true =>
        obtain ⟨S1, R1⟩ := r.freeze1 e
        exact Rel.freezeAt l R1
      | false =>
        have e2 : st.env.set i (some (t, false)) = st.env := by
          apply List.ext_getElem?
          intro j
          by_cases hij : i = j
          · subst hij
            rw [List.getElem?_set_self (List.getElem?_eq_some_iff.mp e).1, e]
          · rw [List.getElem?_set_ne hij]
        rw [e2]
        exact Rel.freezeAt l r
    · exact Rel.freezeAt l r
noncomputable def thawN (env : List Slot) : Nat → List Slot
  | 0 => env
  | n + 1 => match (thawN env n)[n]? with
    | some (some (t, _)) => (thawN env n).set n (some (t, false))
    | _ => thawN env n
theorem thawN_len (env : List Slot) : ∀ n, (thawN env n).length = env.length
  | 0 => rfl
  | n + 1 => by
    rw [thawN]
    split
    · rw [List.length_set]; exact thawN_len env n
    · exact thawN_len env n
theorem thawN_get (env : List Slot) : ∀ (n j : Nat), (thawN env n)[j]? = if j < n then (env[j]?).map thaw else env[j]?
  | 0, j => by rw [if_neg (Nat.not_lt_zero _)]; rfl
  | n + 1, j => by
    have ihn := thawN_get env n n
    rw [if_neg (Nat.lt_irrefl _)] at ihn
    have ihj := thawN_get env n j
    rw [thawN, ihn]
    by_cases hj : j = n
    · subst hj
      rw [if_pos (Nat.lt_succ_self _)]
      cases z : env[j]? with
      | none => simp only [z, Option.map_none]; rw [ihn, z]
      | some s =>
        have hl : j < (thawN env j).length := by rw [thawN_len]; exact (List.getElem?_eq_some_iff.mp z).1
        cases s with
        | none => simp only [Option.map_some]; rw [ihn, z]; rfl
        | some p => obtain ⟨t, f⟩ := p; simp only [Option.map_some]; rw [List.getElem?_set_self hl]; rfl
    · have e1 : (if j < n + 1 then (env[j]?).map thaw else env[j]?) = (if j < n then (env[j]?).map thaw else env[j]?) := by
        by_cases hlt : j < n
        · rw [if_pos hlt, if_pos (Nat.lt_succ_of_lt hlt)]
        · rw [if_neg hlt, if_neg (by omega)]
      rw [e1, ← ihj]
      split
      · rw [List.getElem?_set_ne (Ne.symm hj)]
      · rfl
theorem thawN_all (env : List Slot) : thawN env env.length = env.map thaw := by
  apply List.ext_getElem?
  intro j
  rw [thawN_get, List.getElem?_map]
  by_cases hj : j < env.length
  · rw [if_pos hj]
  · rw [if_neg hj, List.getElem?_eq_none (Nat.le_of_not_lt hj)]; rfl
theorem Rel.thawN (r : Rel K B st σ H ps S as) : ∀ n, ∃ S', Rel K B { st with env := C.thawN st.env n } σ H ps S' as
  | 0 => ⟨S, r⟩
  | n + 1 => by
    obtain ⟨S1, R1⟩ := Rel.thawN r n
    rw [C.thawN]
    split
    · rename_i t f e
      cases f with
      | true => exact R1.freeze1 e
      | false =>
        have e2 : (C.thawN st.env n).set n (some (t, false)) = C.thawN st.env n := by
          apply List.ext_getElem?
          intro j
          by_cases hij : n = j
          · subst hij
            rw [List.getElem?_set_self (List.getElem?_eq_some_iff.mp e).1, e]
          · rw [List.getElem?_set_ne hij]
        rw [e2]
        exact ⟨S1, R1⟩
    · exact ⟨S1, R1⟩
theorem Rel.freezeAll (r : Rel K B st σ H ps S as) : ∃ S', Rel K B (freezeAll st) σ H ps S' as := by
  obtain ⟨S', R⟩ := r.thawN st.env.length
  rw [thawN_all] at R
  exact ⟨S', R⟩
noncomputable def NoOwn (st : Sta) : Prop := ∀ (i : Nat) t, st.env[i]? ≠ some (some (t, true))
theorem noOwn_freeze (st : Sta) : NoOwn (C.freezeAll st) := fun i t e => by
  unfold C.freezeAll at e
  rw [List.getElem?_map] at e
  cases z : st.env[i]? with
  | none => rw [z] at e; cases e
  | some s =>
    rw [z] at e
    cases s with
    | none => cases e
    | some p => obtain ⟨t, f⟩ := p; cases e
theorem Rel.rebase (r : Rel K B st σ H ps S as) (n : NoOwn st) : Rel K ⟨S, as, H⟩ st σ H ps S as :=
  ⟨r.sub, ⟨Same.refl _, nol, fun p o a b c => ⟨a, b, c⟩⟩, fun i t f e => by
    obtain ⟨v, h1, h2, _⟩ := r.slots i t f e
    exact ⟨v, h1, h2, fun z => by subst z; exact absurd e (n i t)⟩, r.apart, r.sto, r.pend, r.len⟩
end
theorem compL_inv {g : G} {c : M Bool} {e : M T} {t : T} {r acc us : List T} {s s' : Sta} (h : compL g c e (t :: r) s acc = some (us, s')) : ∃ s1 b s2, g t s = some s1 ∧ c s1 = some (b, s2) ∧
    ((b = true ∧ ∃ u s3, e s2 = some (u, s3) ∧ acc.length < lim ∧ compL g c e r (freezeAll s3) (acc ++ [u]) = some (us, s')) ∨ (b = false ∧ compL g c e r (freezeAll s2) acc = some (us, s'))) := by
  rw [compL] at h
  split at h
  · rename_i s1 e1
    split at h
    · rename_i s2 e2
      split at h
      · rename_i u s3 e3
        split at h
        · rename_i hl; exact ⟨s1, true, s2, e1, e2, .inl ⟨rfl, u, s3, e3, hl, h⟩⟩
        · cases h
      · cases h
    · rename_i s2 e2; exact ⟨s1, false, s2, e1, e2, .inr ⟨rfl, h⟩⟩
    · cases h
  · cases h
theorem mComp_inv {nv : Nat} {cap : List Nat} {g : G} {it : M (List T)} {c : M Bool} {e : M T} {s s' : Sta} {v : T} (h : mComp nv cap g it c e s = some (v, s')) : ∃ ts s1 us s2, it s = some (ts, s1) ∧
    compL g c e ts ⟨List.replicate nv none ++ cap.map (fun i => ((freezeAt cap s1.env)[i]?).getD none), s1.sto⟩ [] = some (us, s2) ∧ v = .lst us ∧ s' = ⟨freezeAt cap s1.env, s2.sto⟩ := by
  unfold mComp at h
  split at h
  · rename_i ts s1 e1
    dsimp only at h
    split at h
    · rename_i us s2 e2; cases h; exact ⟨ts, s1, us, s2, e1, e2, rfl, rfl⟩
    · cases h
  · cases h
noncomputable section
variable {K : PySem.W.Frag} {B : Bas} {st : Sta} {σ : L2.St} {H H' S S' : Hp} {ps ps2 : List (V × T)} {as as' : List Addr} {D : Addr} {ob : HO}
theorem StoOk.mem {sto : List SO} (r : StoOk K S as H sto) {a : Addr} (h : a ∈ as) : ∃ o, H a = some o := by
  obtain ⟨n, hn⟩ := List.getElem?_of_mem h
  have hl := (List.getElem?_eq_some_iff.mp hn).1
  rw [r.len] at hl
  obtain ⟨a', h1, h2, h3⟩ := r.at' n _ (List.getElem?_eq_getElem hl)
  rw [hn] at h1; cases h1
  exact h3.there
theorem Rel.fresh (r : Rel K B st σ H ps S as) (h : H D = none) : B.H D = none ∧ S D = none ∧ D ∉ as ∧ NoSlot st σ D := by
  have sD : S D = none := r.sub.free h
  have nD : D ∉ as := fun z => by obtain ⟨o, e⟩ := r.sto.mem z; rw [h] at e; cases e
  refine ⟨?_, sD, nD, fun j u e1 e2 => ?_⟩
  · cases q : B.H D with
    | none => rfl
    | some o =>
      have b1 : B.S D = none := by
        cases z : B.S D with
        | none => rfl
        | some u => have := r.grow.same _ _ z; rw [sD] at this; cases this
      have b2 : D ∉ B.as := fun z => by obtain ⟨l, e⟩ := r.grow.more; exact nD (by rw [e]; exact List.mem_append_left _ z)
      have := (r.grow.keep D o q b1 b2).1
      rw [h] at this; cases this
  · obtain ⟨v, h1, _, h3⟩ := r.slots j u true e1
    rw [e2] at h1; cases h1
    obtain ⟨p, ep, o⟩ := h3 rfl
    cases ep
    obtain ⟨ob, ho⟩ := o.own.there
    rw [h] at ho; cases ho
theorem Rel.poke (r : Rel K B st σ H ps S as) (bD : B.H D = none) (sD : S D = none) (nD : D ∉ as) (no : NoSlot st σ D) : Rel K B st σ (upd H D ob) ps S as := by
  have ne : ∀ b u, S b = some u → b ≠ D := fun b u e z => by subst z; rw [sD] at e; cases e
  refine ⟨fun b u e => by rw [upd_ne (ne b u e)]; exact r.sub _ _ e, ⟨r.grow.same, r.grow.more, fun p o x y z => ?_⟩, fun i t f e => ?_, r.apart, ⟨r.sto.len, r.sto.nd, fun n so e => ?_⟩, r.pend, r.len⟩
  · obtain ⟨a, b, c⟩ := r.grow.keep p o x y z
    exact ⟨by rw [upd_ne (fun w => by subst w; rw [bD] at x; cases x)]; exact a, b, c⟩
  · obtain ⟨v, h1, h2, h3⟩ := r.slots i t f e
    refine ⟨v, h1, h2, fun z => ?_⟩
    obtain ⟨p, rfl, o⟩ := h3 z
    have n : p ≠ D := fun w => by subst w; subst z; exact no i t e h1
    exact ⟨p, rfl, o.own.mono (Same.refl _) (upd_ne n).symm, o.out, o.nas, o.new⟩
  · obtain ⟨a, h1, h2, h3⟩ := r.sto.at' n so e
    exact ⟨a, h1, h2, h3.mono (Same.refl _) (upd_ne (fun w => by subst w; exact nD (List.mem_of_getElem? h1))).symm⟩
theorem Rel.poke0 (r : Rel K B st σ H ps S as) (no : NoOwn st) (sD : S D = none) (nD : D ∉ as) : Rel K ⟨S, as, upd H D ob⟩ st σ (upd H D ob) ps S as := by
  have ne : ∀ b u, S b = some u → b ≠ D := fun b u e z => by subst z; rw [sD] at e; cases e
  refine ⟨fun b u e => by rw [upd_ne (ne b u e)]; exact r.sub _ _ e, ⟨Same.refl _, nol, fun p o x y z => ⟨x, y, z⟩⟩, fun i t f e => ?_, r.apart, ⟨r.sto.len, r.sto.nd, fun n so e => ?_⟩, r.pend, r.len⟩
  · obtain ⟨v, h1, h2, _⟩ := r.slots i t f e
    exact ⟨v, h1, h2, fun z => by subst z; exact absurd e (no i t)⟩
  · obtain ⟨a, h1, h2, h3⟩ := r.sto.at' n so e
    exact ⟨a, h1, h2, h3.mono (Same.refl _) (upd_ne (fun w => by subst w; exact nD (List.mem_of_getElem? h1))).symm⟩
end
theorem freezeAt_keep : ∀ (cap : List Nat) (env : List Slot) (k : Nat), (∀ t, env[k]? ≠ some (some (t, true))) → ∀ t, (freezeAt cap env)[k]? ≠ some (some (t, true))
  | [], env, k, h => h
  | i :: l, env, k, h => by
    have e : freezeAt (i :: l) env = freezeAt l (match env[i]? with | some (some (t, _)) => env.set i (some (t, false)) | _ => env) := rfl
    rw [e]
    refine freezeAt_keep l _ k fun t => ?_
    split
    · rename_i t' f e'
      by_cases hk : i = k
      · subst hk
        rw [List.getElem?_set_self (List.getElem?_eq_some_iff.mp e').1]
        intro z; cases z
      · rw [List.getElem?_set_ne hk]; exact h t
    · exact h t
theorem freezeAt_no : ∀ (cap : List Nat) (env : List Slot) (k : Nat), k ∈ cap → ∀ t, (freezeAt cap env)[k]? ≠ some (some (t, true))
  | [], env, k, h => by simp at h
  | i :: l, env, k, h => by
    have e : freezeAt (i :: l) env = freezeAt l (match env[i]? with | some (some (t, _)) => env.set i (some (t, false)) | _ => env) := rfl
    rw [e]
    rcases List.mem_cons.mp h with rfl | h' -- here
    · refine freezeAt_keep l _ k fun t => ?_
      split
      · rename_i t' f e'
        rw [List.getElem?_set_self (List.getElem?_eq_some_iff.mp e').1]
        intro z; cases z
      · rename_i hx
        intro z
        exact hx _ _ z
    · exact freezeAt_no l _ k h'
noncomputable def gE (K : PySem.W.Frag) (g : G) : TG := fun v σ H Q => ∃ B, gOf K B g v σ H Q
noncomputable def cE (K : PySem.W.Frag) (c : M Bool) : TT := fun σ H Q => ∃ B, cOf K B c σ H Q
noncomputable def eE (K : PySem.W.Frag) (e : M T) : TE := fun σ H Q => ∃ B, tOf K B e σ H Q
theorem pgE {X : Cx} {tg : Expr} {g : G} (h : ∀ B, PG X tg (gOf X.K B g)) : PG X tg (gE X.K g) := fun pins s σ H x u Q I r ⟨B, q⟩ => h B pins s σ H x u Q I r q
theorem ptE {X : Cx} {e : Expr} {c : M Bool} (h : ∀ B, PT X e (cOf X.K B c)) : PT X e (cE X.K c) := fun pins s σ H Q I ⟨B, q⟩ => h B pins s σ H Q I q
theorem peE {X : Cx} {e : Expr} {m : M T} (h : ∀ B, PE X e (tOf X.K B m)) : PE X e (eE X.K m) := fun pins s σ H Q I ⟨B, q⟩ => h B pins s σ H Q I q
theorem ptsE_nil {X : Cx} : PTs X [] (cE X.K mTrue) := fun pins s σ H Q I ⟨B, st, ps, S, as, R, b, st', e, q⟩ => by
  cases e
  exact pts_nil pins s σ H Q I (q H S as R)
theorem ptsE_one {X : Cx} {e : Expr} {c : M Bool} (h : ∀ B, PT X e (cOf X.K B c)) : PTs X [e] (cE X.K c) := pts_one (ptE h)
noncomputable section
variable {X : Cx} {scope : Scope} {N : List Str}
theorem comp_core {B : Bas} {nv : Nat} {cap : List Nat} {g : G} {c : M Bool} {e : M T} {ts us : List T} {env : List Slot} {sto1 : List SO} {s2 : Sta} {σ : L2.St} {H1 S1 : Hp} {as1 : List Addr} {ps ps' : List (V × T)} {J : It} {Q : VK}
    (hN : N.length = nv + cap.length) (hv : ∀ i x, i < nv → N[i]? = some x → True)
    (hcap : ∀ (j k : Nat), cap[j]? = some k → ∃ x, N[nv + j]? = some x ∧ X.N[k]? = some x ∧ CapK X scope x)
    (R1 : Rel X.K B ⟨env, sto1⟩ σ H1 (ps' ++ ps) S1 as1) (hno : ∀ k ∈ cap, ∀ t, env[k]? ≠ some (some (t, true)))
    (facts : ∀ S as H, Same B.S S → (∃ l, as = B.as ++ l) → (∀ p ∈ ps', Rep X.K S as p.1 p.2) → Same S H → ItFacts X.K S as H J ts)
    (hc : compL g c e ts ⟨List.replicate nv none ++ cap.map (fun i => (env[i]?).getD none), sto1⟩ [] = some (us, s2))
    (fin : ∀ D H' S' as', Rel X.K B ⟨env, s2.sto⟩ σ H' (ps' ++ ps) S' as' → OwnAt X.K B S' as' H' D (.lst us) → NoSlot ⟨env, s2.sto⟩ σ D → Q (.ref D) H') :
    tCompIn X scope N (gE X.K g) (cE X.K c) (eE X.K e) σ J H1 Q := by
  intro D hD
  obtain ⟨bD, sD1, nD1, noD⟩ := R1.fresh hD
  have capg : ∀ (i : Nat) s, (List.replicate nv (none : Slot) ++ cap.map (fun i => (env[i]?).getD none))[i]? = some (some s) → ∃ j k, i = nv + j ∧ cap[j]? = some k ∧ env[k]? = some (some s) := fun i s h => by
    by_cases hi : i < nv
    · rw [List.getElem?_append_left (by rw [List.length_replicate]; exact hi)] at h
      have := List.eq_of_mem_replicate (List.mem_of_getElem? h); cases this
    · rw [List.getElem?_append_right (by rw [List.length_replicate]; exact Nat.le_of_not_lt hi), List.length_replicate, List.getElem?_map] at h
      cases z : cap[i - nv]? with
      | none => rw [z] at h; cases h
      | some k =>
        rw [z] at h
        refine ⟨i - nv, k, by omega, z, ?_⟩
        cases w : env[k]? with
        | none => simp [w] at h
        | some s' => simp [w] at h; rw [h]
  have sig : ∀ (j k : Nat) v, cap[j]? = some k → σ[k]? = some (some v) → (List.replicate nv (none : Option V) ++ cap.map (fun i => (σ[i]?).getD none))[nv + j]? = some (some v) := fun j k v h1 h2 => by
    rw [List.getElem?_append_right (by rw [List.length_replicate]; omega), List.length_replicate, Nat.add_sub_cancel_left, List.getElem?_map, h1]
    simp [h2]
  refine ⟨List.replicate nv none ++ cap.map (fun i => (σ[i]?).getD none), by rw [List.length_append, List.length_replicate, List.length_map, hN], fun i v x h1 h2 _ => ?_, ?_⟩
  · by_cases hi : i < nv
    · rw [List.getElem?_append_left (by rw [List.length_replicate]; exact hi)] at h1
      have := List.eq_of_mem_replicate (List.mem_of_getElem? h1); cases this
    · rw [List.getElem?_append_right (by rw [List.length_replicate]; exact Nat.le_of_not_lt hi), List.length_replicate, List.getElem?_map] at h1
      cases z : cap[i - nv]? with
      | none => rw [z] at h1; cases h1
      | some k =>
        rw [z] at h1
        obtain ⟨y, n1, n2, ck⟩ := hcap _ _ z
        have e : nv + (i - nv) = i := by omega
        rw [e, h2] at n1; cases n1
        refine ⟨k, n2, ?_, ck⟩
        cases w : σ[k]? with
        | none => simp [w] at h1
        | some s' => simp [w] at h1; rw [h1]
  refine ⟨fun i m σ' H' => m = ts.length - i ∧ i ≤ ts.length ∧ ∃ sti Si asi acc accv, Rel X.K ⟨Si, asi, H'⟩ sti σ' H' [] Si asi ∧ NoOwn sti ∧ Rel X.K B ⟨env, sti.sto⟩ σ H' (ps' ++ ps) Si asi ∧ H' D = some (.lst accv) ∧ Si D = none ∧ D ∉ asi ∧
    Reps X.K Si asi accv acc ∧ compL g c e (ts.drop i) sti acc = some (us, s2), ⟨ts.length, by simp, Nat.zero_le _, _, S1, as1, [], [], ?_, ?_, ?_, upd_same, sD1, nD1, .nil, hc⟩, ?_⟩
  · refine Rel.poke0 (B := B) (H := H1) ⟨R1.sub, R1.grow, fun i t f h => ?_, fun i j t u p hi hj => ?_, R1.sto, (fun p hp => by cases hp), ?_⟩ (fun i t h => ?_) sD1 nD1
    · obtain ⟨j, k, rfl, hk, ek⟩ := capg i _ h
      obtain ⟨v, h1, h2, h3⟩ := R1.slots k t f ek
      exact ⟨v, sig j k v hk h1, h2, h3⟩
    · obtain ⟨j, k, rfl, hk, ek⟩ := capg i _ hi
      exact absurd ek (hno k (List.mem_of_getElem? hk) t)
    · show (List.replicate nv (none : Option V) ++ cap.map _).length = (List.replicate nv (none : Slot) ++ cap.map _).length
      rw [List.length_append, List.length_append, List.length_replicate, List.length_replicate, List.length_map, List.length_map]
    · obtain ⟨j, k, rfl, hk, ek⟩ := capg i _ h
      exact absurd ek (hno k (List.mem_of_getElem? hk) t)
  · intro i t h
    obtain ⟨j, k, rfl, hk, ek⟩ := capg i _ h
    exact absurd ek (hno k (List.mem_of_getElem? hk) t)
  · exact R1.poke bD sD1 nD1 noD
  rintro i m σ' H' ⟨rfl, hi, sti, Si, asi, acc, accv, Ri, no, Ro, hD', sD, nD, rA, ei⟩
  have F := facts Si asi H' Ro.grow.same Ro.grow.more (fun p hp => Ro.pend p (List.mem_append_left _ hp)) Ri.sub
  by_cases hlt : i < ts.length
  · rw [List.drop_eq_getElem_cons hlt] at ei
    obtain ⟨s3, b, s4, eg, ec, er⟩ := compL_inv ei
    have ht : ts[i]? = some ts[i] := List.getElem?_eq_getElem hlt
    refine .inr ⟨(F.go i _ ht).1, fun x H2 y => ?_⟩
    obtain ⟨S2, ex, rx⟩ := (F.go i _ ht).2 x H2 y
    refine ⟨⟨Si, asi, H'⟩, sti, [], S2, asi, _, (Ri.ext ex).push rx, s3, eg, fun σ3 H3 S3 as3 R3 => ⟨⟨Si, asi, H'⟩, s3, [], S3, as3, R3, b, s4, ec, fun H4 S4 as4 R4 => ?_⟩⟩
    rcases er with ⟨rfl, w, s5, ee, hlen, erest⟩ | ⟨rfl, erest⟩
    · refine iteT ⟨⟨Si, asi, H'⟩, s4, [], S4, as4, R4, w, s5, ee, fun y H5 S5 as5 R5 => ?_⟩
      obtain ⟨S6, R6⟩ := R5.freezeAll
      obtain ⟨k1, k2, k3⟩ := R6.grow.keep D _ hD' sD nD
      have Ro2 := Ro.call R6.grow R6.sub R6.sto
      refine ⟨accv, k1, ?_, ts.length - (i + 1), by omega, rfl, hlt, freezeAll s5, S6, as5, acc ++ [w], accv ++ [y], R6.drop.poke0 (noOwn_freeze _) k2 k3, noOwn_freeze _, Ro2.poke bD k2 k3 noD, upd_same, k2, k3, (rA.mono R6.grow.same R6.grow.more).append (.cons R6.top .nil), erest⟩
      rw [rA.length]; exact Nat.lt_of_lt_of_le hlen lim_line
    · refine iteF ?_
      obtain ⟨S6, R6⟩ := R4.freezeAll
      obtain ⟨k1, k2, k3⟩ := R6.grow.keep D _ hD' sD nD
      have Ro2 := Ro.call R6.grow R6.sub R6.sto
      exact ⟨ts.length - (i + 1), by omega, rfl, hlt, freezeAll s4, S6, as4, acc, accv, R6.rebase (noOwn_freeze _), noOwn_freeze _, Ro2, k1, k2, k3, rA.mono R6.grow.same R6.grow.more, erest⟩
  · have hie : i = ts.length := by omega
    subst hie
    rw [List.drop_length] at ei
    cases ei
    exact .inl ⟨F.stop _ (Nat.le_refl _), fin D H' Si asi Ro ⟨⟨accv, hD', rA⟩, sD, nD, bD⟩ noD⟩
theorem Rel.give {K : PySem.W.Frag} {B : Bas} {st : Sta} {σ : L2.St} {H S : Hp} {ps : List (V × T)} {as : List Addr} {p : Addr} {t : T} (r : Rel K B st σ H ps S as) (o : OwnAt K B S as H p t) (no : NoSlot st σ p) : ∃ S', Rel K B st σ H ((.ref p, t) :: ps) S' as := by
  obtain ⟨ob, ho⟩ := o.own.there
  have sS : Same S (upd S p ob) := Same.upd o.out ob
  have rep : Rep K (upd S p ob) as (.ref p) t := by
    have w := o.own
    cases t with
    | lst ts => obtain ⟨vs, h, q⟩ := w; rw [ho] at h; cases h; exact .lst (SqL.of upd_same) (q.mono sS nol)
    | dic ts => obtain ⟨vs, h, q⟩ := w; rw [ho] at h; cases h; exact .dic (.inl upd_same) (q.mono sS nol)
    | _ => exact w.elim
  have outs : ∀ q, S q = none → q ≠ p → upd S p ob q = none := fun q h n => by rw [upd_ne n]; exact h
  refine ⟨upd S p ob, Rel.push (v := .ref p) (t := t) ⟨?_, ?_, ?_, r.apart, ?_, fun q hq => (r.pend q hq).mono sS nol, r.len⟩ rep⟩
  · intro b u q
    by_cases z : b = p
    · subst z; rw [upd_same] at q; cases q; exact ho
    · rw [upd_ne z] at q; exact r.sub _ _ q
  · refine ⟨r.grow.same.trans sS, r.grow.more, fun q w a b c => ?_⟩
    obtain ⟨x, y, z⟩ := r.grow.keep q w a b c
    refine ⟨x, outs q y fun n => ?_, z⟩
    subst n; rw [o.new] at a; cases a
  · intro j u f ej
    obtain ⟨v', a1, a2, a3⟩ := r.slots j u f ej
    refine ⟨v', a1, fun z => (a2 z).mono sS nol, fun z => ?_⟩
    subst z
    obtain ⟨p', rfl, o'⟩ := a3 rfl
    refine ⟨p', rfl, o'.own.mono sS rfl, outs p' o'.out fun n => ?_, o'.nas, o'.new⟩
    subst n
    exact no j u ej a1
  · refine ⟨r.sto.len, r.sto.nd, fun n so en => ?_⟩
    obtain ⟨a, a1, a2, a3⟩ := r.sto.at' n so en
    refine ⟨a, a1, outs a a2 fun z => ?_, a3.mono sS rfl⟩
    subst z
    exact o.nas (List.mem_of_getElem? a1)
theorem f_of_t {K : PySem.W.Frag} {B : Bas} {m : M T} {σ : L2.St} {H : Hp} {Q : VK} (h : tOf K B m σ H Q) : fOf K B m σ H Q := by
  obtain ⟨st, ps, S, as, R, t, st', e, q⟩ := h
  refine ⟨st, ps, S, as, R, t, st', e, fun p H' S' as' R' o n => ?_⟩
  obtain ⟨S2, R2⟩ := R'.give o n
  exact q _ H' S2 as' R2
theorem te_fresh {e : Expr} {B : Bas} {m : M T} (h : PE X e (fOf X.K B m)) : PE X e (tOf X.K B m) := h.imp fun σ H Q => f_of_t
variable {B : Bas} {nv : Nat} {cap : List Nat} {g : G} {it : M (List T)} {c : M Bool} {e : M T} {tg iter elt : Expr} {ifs : List Expr} {pos : Pos}
structure CapOk (X : Cx) (scope : Scope) (N : List Str) (nv : Nat) (cap : List Nat) : Prop where
  len : N.length = nv + cap.length
  at' : ∀ (j k : Nat), cap[j]? = some k → ∃ x, N[nv + j]? = some x ∧ X.N[k]? = some x ∧ CapK X scope x
theorem comp_f (co : CapOk X scope N nv cap) (hsz : ∀ st ts st', it st = some (ts, st') → ts.length ≤ sizeLine) {σ : L2.St} {H : Hp} {Q : VK} (h : fOf X.K B (mComp nv cap g it c e) σ H Q) :
    tComp X scope N (iOf X.K B it) (gE X.K g) (cE X.K c) (eE X.K e) σ H Q := by
  obtain ⟨st, ps, S, as, R, t, st', e, q⟩ := h
  obtain ⟨ts, s1, us, s2, e1, e2, rfl, rfl⟩ := mComp_inv e
  refine ⟨st, ps, S, as, R, ts, s1, e1, hsz _ _ _ e1, fun J H1 S1 as1 ps' R1 facts => ?_⟩
  obtain ⟨S2, R2⟩ := R1.freezeAt cap
  exact comp_core co.len (fun _ _ _ _ => trivial) co.at' R2 (fun k hk => freezeAt_no cap s1.env k hk) (fun S as H _ _ => facts S as H) e2 fun D H' S' as' R' o n => q D H' S' as' (R'.pick fun p hp => List.mem_append_right _ hp) o n
theorem tf_comp (co : CapOk X scope N nv cap) (sc : CompSc X scope N) (calm : X.calm = true) (hi : PI X tg iter (iOf X.K B it)) (hsz : ∀ st ts st', it st = some (ts, st') → ts.length ≤ sizeLine)
    (hg : ∀ C s₀ H₀ ex pn, PG (compCx X scope N C s₀ H₀ ex pn) tg (gE X.K g)) (hc : ∀ C s₀ H₀ ex pn, PTs (compCx X scope N C s₀ H₀ ex pn) ifs (cE X.K c)) (he : ∀ C s₀ H₀ ex pn, PE (compCx X scope N C s₀ H₀ ex pn) elt (eE X.K e))
    (hs : ∀ x, foldedSetIterable iter X.env x = pure x := by intro _; rfl) : PE X (.ListComp elt [⟨tg, iter, ifs, 0⟩] scope pos) (fOf X.K B (mComp nv cap g it c e)) :=
  (pe_comp sc calm hi hg hc he hs).imp fun σ H Q h => comp_f co hsz h
end
end C
end
noncomputable section
set_option linter.all false
set_option maxRecDepth 100000
set_option maxHeartbeats 4000002
set_option autoImplicit false
namespace C
open PySem PySem.Spec PyProof.Rows L2
noncomputable section
variable {X : Cx}
theorem opInt {f : Value → Value → Sem Value} {g : T → T → Option T} {r : R2} (h : OpR X f r)
    (k : ∀ S as x y t u w, Rep X.K S as x t → Rep X.K S as y u → g t u = some w → ∀ (H : Hp) (Q : VK), Same S H → (∀ v H' S', Ext S H S' H' → Rep X.K S' as v w → Q v H') → r x y H Q) : OpT X f g := by
  intro pins s σ H x y v u Q I rx ry ⟨S, as, t, w, z, sub, ht, hu, hf, q⟩
  exact h pins s σ H x y v u Q I rx ry (k S as x y t w z ht hu hf H Q sub q)
theorem two_ints {K : PySem.W.Frag} {S : Hp} {as : List Addr} {x y : V} {t u w : T} {g : T → T → Option T} {P : Prop} (ht : Rep K S as x t) (hu : Rep K S as y u) (hf : g t u = some w)
    (n1 : ∀ t u, (∀ i, t ≠ .int i) → g t u = none) (n2 : ∀ i u, (∀ j, u ≠ .int j) → g (.int i) u = none) (k : ∀ i j, x = .int i → y = .int j → g (.int i) (.int j) = some w → P) : P := by
  by_cases h1 : ∃ i, t = .int i
  · obtain ⟨i, rfl⟩ := h1
    by_cases h2 : ∃ j, u = .int j
    · obtain ⟨j, rfl⟩ := h2
      cases ht; cases hu
      exact k i j rfl rfl hf
    · rw [n2 i u fun j e => h2 ⟨j, e⟩] at hf; cases hf
  · rw [n1 t u fun i e => h1 ⟨i, e⟩] at hf; cases hf
theorem opT_sub : OpT X (binaryOp .Sub) subT := opInt op_sub fun S as x y t u w ht hu hf H Q sub q =>
  two_ints (g := subT) ht hu hf (fun t u h => by cases t <;> first | rfl | exact absurd rfl (h _)) (fun i u h => by cases u <;> first | rfl | exact absurd rfl (h _)) fun i j ex ey hf => by
  subst ex ey; cases hf
  exact ⟨_, _, rfl, rfl, q _ H S (Ext.refl sub) (.int _)⟩
theorem opT_mod : OpT X (binaryOp .Mod) modT := opInt op_mod fun S as x y t u w ht hu hf H Q sub q =>
  two_ints (g := modT) ht hu hf (fun t u h => by cases t <;> first | rfl | exact absurd rfl (h _)) (fun i u h => by cases u <;> first | rfl | exact absurd rfl (h _)) fun i j ex ey hf => by
  subst ex ey
  simp only [modT] at hf
  split at hf
  · cases hf; exact ⟨_, _, rfl, rfl, by assumption, q _ H S (Ext.refl sub) (.int _)⟩
  · cases hf
noncomputable def CDivB (i j : Int) : Prop := 0 < j ∧ (j < 1073741824 ∨ j.natAbs < fdl)
theorem op_fdivB : OpR X (binaryOp .FloorDiv) (rI CDivB fun i j => .int (i / j)) := opI fun i j _ _ _ _ _ hc q => by
  have h1 : (0 : Int) < j := hc.1
  have h2 : j.natAbs < 2 ^ 200 := by
    rcases hc.2 with h | h
    · exact Nat.lt_trans (show j.natAbs < 1073741824 by omega) (by decide)
    · exact h
  exact floordiv_int (by omega) (by rw [Int.fdiv_eq_ediv_of_nonneg i (by omega)]; exact q) (.inl (PyProof.noPylong_of_log2 (Nat.lt_trans ((Nat.log2_lt (by omega)).mpr h2) (by decide))))
theorem opT_fdiv : OpT X (binaryOp .FloorDiv) fdivT := opInt op_fdivB fun S as x y t u w ht hu hf H Q sub q =>
  two_ints (g := fdivT) ht hu hf (fun t u h => by cases t <;> first | rfl | exact absurd rfl (h _)) (fun i u h => by cases u <;> first | rfl | exact absurd rfl (h _)) fun i j ex ey hf => by
  subst ex ey
  simp only [fdivT] at hf
  split at hf
  · rename_i hc; cases hf; exact ⟨_, _, rfl, rfl, hc, q _ H S (Ext.refl sub) (.int _)⟩
  · cases hf
theorem opT_pow : OpT X (binaryOp .Pow) powT := opInt op_pow fun S as x y t u w ht hu hf H Q sub q =>
  two_ints (g := powT) ht hu hf (fun t u h => by cases t <;> first | rfl | exact absurd rfl (h _)) (fun i u h => by cases u <;> first | rfl | exact absurd rfl (h _)) fun i j ex ey hf => by
  subst ex ey
  simp only [powT] at hf
  split at hf
  · rename_i h; cases hf; exact ⟨_, _, rfl, rfl, ⟨h.1, by omega, by omega⟩, q _ H S (Ext.refl sub) (.int _)⟩
  · cases hf
theorem opT_lt : OpT X (compareOp .Lt) ltT := opInt op_lt fun S as x y t u w ht hu hf H Q sub q =>
  two_ints (g := ltT) ht hu hf (fun t u h => by cases t <;> first | rfl | exact absurd rfl (h _)) (fun i u h => by cases u <;> first | rfl | exact absurd rfl (h _)) fun i j ex ey hf => by
  subst ex ey; cases hf
  exact ⟨_, _, rfl, rfl, q _ H S (Ext.refl sub) (.bl _)⟩
theorem opT_le : OpT X (compareOp .LtE) leT := opInt op_le fun S as x y t u w ht hu hf H Q sub q =>
  two_ints (g := leT) ht hu hf (fun t u h => by cases t <;> first | rfl | exact absurd rfl (h _)) (fun i u h => by cases u <;> first | rfl | exact absurd rfl (h _)) fun i j ex ey hf => by
  subst ex ey; cases hf
  exact ⟨_, _, rfl, rfl, q _ H S (Ext.refl sub) (.bl _)⟩
theorem opT_gt : OpT X (compareOp .Gt) gtT := opInt op_gt fun S as x y t u w ht hu hf H Q sub q =>
  two_ints (g := gtT) ht hu hf (fun t u h => by cases t <;> first | rfl | exact absurd rfl (h _)) (fun i u h => by cases u <;> first | rfl | exact absurd rfl (h _)) fun i j ex ey hf => by
  subst ex ey; cases hf
  exact ⟨_, _, rfl, rfl, q _ H S (Ext.refl sub) (.bl _)⟩
theorem unT_neg : UnT X (unaryOp .USub) negT := by
  intro pins s σ H x v Q I rx ⟨S, as, t, w, sub, ht, hf, q⟩
  cases ht <;> simp only [negT, reduceCtorEq] at hf
  cases hf
  exact un_neg pins s σ H _ v Q I rx ⟨_, rfl, q _ H S (Ext.refl sub) (.int _)⟩
noncomputable def rCatL (K : PySem.W.Frag) : R2 := fun x y H Q => ∃ l b xs zs, x = .ref l ∧ y = .ref b ∧ SqL K H l xs ∧ SqL K H b zs ∧ xs.length + zs.length ≤ sizeLine ∧ ∀ p, H p = none → Q (.ref p) (upd H p (.lst (xs ++ zs)))
theorem op_catL : OpR X (binaryOp .Add) (rCatL X.K) := by
  intro pins s σ H x y v u Q I rx ry h
  obtain ⟨l, b, xs, zs, rfl, rfl, hH, hB, hz, q⟩ := h
  cases rx
  cases ry
  obtain ⟨its, r, p1, hl⟩ := I.list hH
  obtain ⟨its2, r2, p2, hl2⟩ := I.list hB
  obtain ⟨⟨cls, dd, data, sl⟩, n, ho, hc, hd0, hd⟩ := id p1
  obtain ⟨⟨cls2, dd2, data2, sl2⟩, n2, ho2, hc2, hd02, hd2⟩ := id p2
  simp only at hc hd hc2 hd2
  subst hc hd hc2 hd2
  refine concat_meets ⟨_, ho, rfl⟩ ⟨_, ho2, rfl⟩ noFill_list_add seq_list_add PySem.F.slot_list_add PySem.F.entry_list_add (PySem.F.args_list_add_2 _ _)
      (list_addW l b its.toArray its2.toArray n n2 dd dd2 sl sl2 (by rw [List.size_toArray, List.size_toArray, ← r.length, ← r2.length]; exact hz)) ⟨ho, ho2, ?_⟩
  have ea : its.toArray ++ its2.toArray = (its ++ its2).toArray := by simp
  rw [ea]
  exact ⟨.ref _, _, I.lnew (t' := s.toks) (r.append r2) (by rw [List.length_append]; exact hz), rfl, q _ I.fresh⟩
noncomputable def rCatT0 (K : PySem.W.Frag) : R2 := fun x y H Q => ∃ a b ys, x = .ref a ∧ y = .ref b ∧ SqT K H a [] ∧ SqT K H b ys ∧ Q (.ref b) H
theorem op_catT0 : OpR X (binaryOp .Add) (rCatT0 X.K) := by
  intro pins s σ H x y v u Q I rx ry h
  obtain ⟨a, b, ys, rfl, rfl, ha, hb, q⟩ := h
  cases rx
  cases ry
  obtain ⟨its, r1, p1, _⟩ := I.tuple ha
  obtain ⟨its2, r2, p2, _⟩ := I.tuple hb
  cases r1
  obtain ⟨⟨cls, dd, data, sl⟩, ho, hc, n, hd⟩ := id p1
  obtain ⟨⟨cls2, dd2, data2, sl2⟩, ho2, hc2, n2, hd2⟩ := id p2
  simp only at hc hd hc2 hd2
  subst hc hd hc2 hd2
  exact concat_meets ⟨_, ho, rfl⟩ ⟨_, ho2, rfl⟩ noFill_tuple_add seq_tuple_add PySem.F.slot_tuple_add PySem.F.entry_tuple_add (PySem.F.args_tuple_add_2 _ _)
      (tuple_addW0 a b _ its2.toArray n n2 dd dd2 sl sl2 (by rfl)) ⟨ho, ho2, ⟨.ref b, H, I, rfl, q⟩⟩
theorem opT_add : OpT X (binaryOp .Add) addT := by
  intro pins s σ H x y v u Q I rx ry ⟨S, as, t, t2, w, sub, ht, hu, hf, q⟩
  cases ht <;> first | exact nomatch (show none = some w from hf) | cases hu <;> first | exact nomatch (show none = some w from hf) | simp only [addT] at hf
  · cases hf
    exact op_add pins s σ H _ _ v u Q I rx ry ⟨_, _, rfl, rfl, q _ H S (Ext.refl sub) (.int _)⟩
  · split at hf
    · rename_i hl; cases hf
      exact op_add_str pins s σ H _ _ v u Q I rx ry ⟨_, _, rfl, rfl, Nat.le_trans (Nat.le_of_lt hl) lim_line, q _ H S (Ext.refl sub) (.str _)⟩
    · cases hf
  · rename_i a vs ts hs hr b ws us hs2 hr2
    split at hf
    · rename_i hl; cases hf
      have hz : vs.length + ws.length ≤ sizeLine := by rw [hr.length, hr2.length]; exact Nat.le_trans (Nat.le_of_lt hl) lim_line
      cases hr with
      | nil => exact op_catT0 pins s σ H _ _ v u Q I rx ry ⟨_, _, _, rfl, rfl, sqT_mono sub hs, sqT_mono sub hs2, q _ H S (Ext.refl sub) (.tup hs2 hr2)⟩
      | @cons v0 t0 vs0 ts0 h1 h2 =>
        refine op_catT pins s σ H _ _ v u Q I rx ry ⟨_, _, _, _, rfl, rfl, sqT_mono sub hs, sqT_mono sub hs2, by simp, hz, fun z => ?_, fun z p hp => ?_⟩
        · subst z
          cases hr2
          rw [List.append_nil] at q
          exact q _ H S (Ext.refl sub) (.tup hs (.cons h1 h2))
        · have x := Ext.laid sub hp (.tup ((v0 :: vs0) ++ ws))
          exact q _ _ _ x (.tup (SqT.of upd_same) (((Reps.cons h1 h2).append hr2).mono x.s nol))
    · cases hf
  · rename_i a vs ts hs hr b ws us hs2 hr2
    split at hf
    · rename_i hl; cases hf
      have hz : vs.length + ws.length ≤ sizeLine := by rw [hr.length, hr2.length]; exact Nat.le_trans (Nat.le_of_lt hl) lim_line
      refine op_catL pins s σ H _ _ v u Q I rx ry ⟨_, _, _, _, rfl, rfl, sqL_mono sub hs, sqL_mono sub hs2, hz, fun p hp => ?_⟩
      have x := Ext.laid sub hp (.lst (vs ++ ws))
      exact q _ _ _ x (.lst (SqL.of upd_same) ((hr.append hr2).mono x.s nol))
    · cases hf
theorem txt_mul (x : Str) (n : Int) (h : 0 ≤ n) : Txt.mul x n = ⟨((List.replicate n.toNat x.cps.toList).flatten).toArray⟩ := by
  have key : ∀ (k : Nat) (acc : Array Nat), (List.replicate k x.cps).foldl (· ++ ·) acc = acc ++ ((List.replicate k x.cps.toList).flatten).toArray := by
    intro k
    induction k with
    | zero => intro acc; simp
    | succ k ih =>
      intro acc
      rw [List.replicate_succ, List.foldl_cons, ih, List.replicate_succ, List.flatten_cons]
      apply Array.ext'
      simp
  unfold Txt.mul
  by_cases h1 : n < 1
  · have : n = 0 := by omega
    subst this
    rw [if_pos h1]; rfl
  · rw [if_neg h1]
    by_cases h2 : (n == 1 || x.length == 0) = true
    · rw [if_pos h2]
      rw [Bool.or_eq_true] at h2
      rcases h2 with h2 | h2
      · have : n = 1 := by simpa using h2
        subst this
        cases x; simp
      · have h3 : x.cps.size = 0 := by simpa [Str.length] using h2
        obtain ⟨c⟩ := x
        have h4 : c = #[] := Array.eq_empty_of_size_eq_zero h3
        subst h4
        congr 1
        apply Array.ext'
        simp
    · rw [if_neg h2, key]
      congr 1
      apply Array.ext'
      simp
theorem opT_mul : OpT X (binaryOp .Mult) mulT := by
  intro pins s σ H x y v u Q I rx ry ⟨S, as, t, t2, w, sub, ht, hu, hf, q⟩
  cases ht <;> first | exact nomatch (show none = some w from hf) | cases hu <;> first | exact nomatch (show none = some w from hf) | simp only [mulT] at hf
  · split at hf
    · rename_i hb; cases hf
      refine op_mul pins s σ H _ _ v u Q I rx ry ⟨_, _, rfl, rfl, ?_, q _ H S (Ext.refl sub) (.int _)⟩
      rw [Bool.or_eq_true] at hb
      rcases hb with h | h
      · exact .inl (of_decide_eq_true h)
      · exact .inr (of_decide_eq_true h)
    · cases hf
  · rename_i z j
    split at hf
    · rename_i hb; cases hf
      obtain ⟨t', rfl⟩ := rx
      obtain ⟨t2', rfl⟩ := ry
      refine SB.mul ⟨?_, fun _ _ => ?_, fun _ _ => ?_⟩ fun t3 k => ⟨.str (Txt.mul z j), H, I.tok _, ⟨_, rfl⟩, ?_⟩
      · have h1 : ¬ j < -(2 ^ 63 : Int) := by omega
        have h2 : ¬ j ≥ 2 ^ 63 := by omega
        rw [decide_eq_false h1, decide_eq_false h2]; rfl
      · have h1 : (z.length : Int) ≤ 100 := by omega
        have h2 : (100 : Int) ≤ (2 ^ 63 - 1) / j := by
          have hj : 0 < j := by
            rcases Int.lt_or_le 0 j with h | h
            · exact h
            · exfalso
              have : j = 0 := by omega
              subst this
              rename_i a _; exact a (by decide)
          exact (Int.le_ediv_iff_mul_le hj).mpr (by omega)
        omega
      · have h3 : z.length * j.toNat ≤ 100 * 1000 := Nat.mul_le_mul hb.2.2 (by omega)
        unfold Builtin.Str.tooLong
        rw [sizeLine_eq]
        exact decide_eq_false (by omega)
      · rw [txt_mul z j hb.1]; exact q _ H S (Ext.refl sub) (.str _)
    · cases hf
end
end C
end
noncomputable section
set_option linter.all false
set_option maxRecDepth 100000
set_option maxHeartbeats 4000002
set_option autoImplicit false
namespace C
open PySem PySem.Spec PyProof.Rows L2
noncomputable section
variable {X : Cx} {B : Bas} {a b c e o : Expr} {m m1 m2 : M T} {pos p : Pos}
theorem ixI_eq (n : Nat) (i : Int) : ixI n i = ixN n i := rfl
theorem kV_of {K : PySem.W.Frag} {S : Hp} {as : List Addr} {y : V} {t : T} {q : L2.Key} (r : Rep K S as y t) (h : keyOf t = some q) : y = kV q := by
  cases r <;> simp only [keyOf, reduceCtorEq] at h <;> (cases h; rfl)
noncomputable def rDget : R2 := fun x y H Q => ∃ a v, x = .ref a ∧ DGet H a y (some v) ∧ Q v H
theorem ix_dict (hu : X.A.units + 1 < cLine) : IxR X rDget := by
  intro value slice pins s σ H x y v u Q I rx ry ⟨a, w, ex, g, q⟩ hs
  subst ex
  cases rx
  refine tail_any (dict_typeIs I g) slot_dict_getitem.lookup (d_getItem hu I g ry fun w' s' I' r' => ⟨w, H, I', r', q⟩) hs
theorem ixT_item (hu : X.A.units + 1 < cLine) : IxR X (r2 X.K itemT) := by
  intro value slice pins s σ H x y v u Q I rx ry ⟨S, as, t, t2, w, sub, ht, hu2, hf, q⟩ hs
  cases ht with
  | @tup a vs ts h1 h2 =>
    cases hu2 <;> simp only [itemT, reduceCtorEq] at hf
    rename_i i
    obtain ⟨j, e1, e2⟩ := Option.bind_eq_some_iff.mp hf
    obtain ⟨z, hz, rz⟩ := h2.get e2
    refine ix_tup value slice pins s σ H _ _ v u Q I rx ry ⟨a, vs, i, z, rfl, rfl, sqT_mono sub h1, ?_, q z H S (Ext.refl sub) rz⟩ hs
    rw [ixI_eq, ← h2.length] at e1
    unfold atI; rw [e1]; exact hz
  | @lst a vs ts h1 h2 =>
    cases hu2 <;> simp only [itemT, reduceCtorEq] at hf
    rename_i i
    obtain ⟨j, e1, e2⟩ := Option.bind_eq_some_iff.mp hf
    obtain ⟨z, hz, rz⟩ := h2.get e2
    refine ix_list value slice pins s σ H _ _ v u Q I rx ry ⟨a, vs, i, z, rfl, rfl, sqL_mono sub h1, ?_, q z H S (Ext.refl sub) rz⟩ hs
    rw [ixI_eq, ← h2.length] at e1
    unfold atI; rw [e1]; exact hz
  | str z =>
    cases hu2 <;> simp only [itemT, reduceCtorEq] at hf
    rename_i i
    split at hf
    · rename_i hl
      obtain ⟨j, e1, e2⟩ := Option.bind_eq_some_iff.mp hf
      obtain ⟨cc, e3, e4⟩ := Option.map_eq_some_iff.mp e2
      subst e4
      refine ix_str value slice pins s σ H _ _ v u Q I rx ry ⟨z, i, cc, rfl, rfl, Nat.le_trans (Nat.le_of_lt hl) lim_line, ?_, q _ H S (Ext.refl sub) (.str _)⟩ hs
      rw [ixI_eq] at e1
      unfold atI; rw [e1]; exact e3
    · cases hf
  | @dic a kvs ts h1 h2 =>
    simp only [itemT] at hf
    obtain ⟨k, e1, e2⟩ := Option.bind_eq_some_iff.mp hf
    have ey := kV_of hu2 e1
    subst ey
    rcases h2.get k with ⟨z, t', a1, a2, a3⟩ | ⟨_, a2⟩
    · rw [e2] at a2; cases a2
      exact ix_dict hu value slice pins s σ H _ _ v u Q I rx ry ⟨a, z, rfl, .inl ⟨kvs, k, rd_mono sub h1, rfl, a1.symm⟩, q z H S (Ext.refl sub) a3⟩ hs
    · rw [e2] at a2; cases a2
  | _ => simp only [itemT, reduceCtorEq] at hf
theorem te_ix (hu : X.A.units + 1 < cLine) (ha : PE X a (tOf X.K B m1)) (hb : PE X b (tOf X.K B m2)) (hs : PlainIx b) : PE X (.Subscript a b pos) (tOf X.K B (mOp itemT m1 m2)) := te_of_op (pe_ix (ixT_item hu) ha hb hs)
theorem callT_len : CallT X (.builtin "len") lenT := by
  intro pins s σ H xs us Q I rs ⟨S, as, ts, w, sub, hr, hf, q⟩
  cases hr with
  | nil => simp only [lenT, reduceCtorEq] at hf
  | @cons x t xs' ts' h1 h2 =>
    cases h2 with
    | cons h3 h4 => simp only [lenT, reduceCtorEq] at hf
    | nil =>
      cases h1 with
      | tup g1 g2 => simp only [lenT] at hf; cases hf; exact call_len_seq pins s σ H _ us Q I rs ⟨_, _, rfl, .inr (sqT_mono sub g1), by rw [g2.length]; exact q _ H S (Ext.refl sub) (.int _)⟩
      | lst g1 g2 => simp only [lenT] at hf; cases hf; exact call_len_seq pins s σ H _ us Q I rs ⟨_, _, rfl, .inl (sqL_mono sub g1), by rw [g2.length]; exact q _ H S (Ext.refl sub) (.int _)⟩
      | str z =>
        simp only [lenT] at hf
        split at hf
        · rename_i hl; cases hf; exact call_len_str pins s σ H _ us Q I rs ⟨_, rfl, Nat.le_trans (Nat.le_of_lt hl) lim_line, q _ H S (Ext.refl sub) (.int _)⟩
        · cases hf
      | @dic a kvs ts g1 g2 =>
        simp only [lenT] at hf; cases hf
        obtain ⟨u, rfl, ru⟩ := rs.one
        cases ru
        exact d_len I (rd_mono sub g1) fun t s' I' => ⟨.int kvs.length, H, I', ⟨t, rfl⟩, by rw [g2.length]; exact q _ H S (Ext.refl sub) (.int _)⟩
      | _ => simp only [lenT, reduceCtorEq] at hf
theorem callT_tuple : CallT X (.type "tuple") tupleT := by
  intro pins s σ H xs us Q I rs ⟨S, as, ts, w, sub, hr, hf, q⟩
  cases hr with
  | nil => simp only [tupleT, reduceCtorEq] at hf
  | @cons x t xs' ts' h1 h2 =>
    cases h2 with
    | cons h3 h4 => simp only [tupleT, reduceCtorEq] at hf
    | nil =>
      cases h1 with
      | @tup a vs ts g1 g2 => simp only [tupleT] at hf; cases hf; exact call_tuple_of pins s σ H _ us Q I rs ⟨_, _, rfl, .inr ⟨sqT_mono sub g1, q _ H S (Ext.refl sub) (.tup g1 g2)⟩⟩
      | @lst a vs ts g1 g2 =>
        simp only [tupleT] at hf; cases hf
        refine call_tuple_of pins s σ H _ us Q I rs ⟨_, _, rfl, .inl ⟨sqL_mono sub g1, fun p hp => ?_⟩⟩
        have x := Ext.laid sub hp (.tup vs)
        exact q _ _ _ x (.tup (SqT.of upd_same) (g2.mono x.s nol))
      | _ => simp only [tupleT, reduceCtorEq] at hf
theorem RepK.put {K : PySem.W.Frag} {S : Hp} {as : List Addr} {k : L2.Key} {v : V} {t : T} (r : Rep K S as v t) : ∀ {vs : List (L2.Key × V)} {ts : List (L2.Key × T)}, RepK K S as vs ts → RepK K S as (putK vs k v) (dPut k t ts) := by
  intro vs ts h
  have any : ∀ {vs : List (L2.Key × V)} {ts : List (L2.Key × T)}, RepK K S as vs ts → (vs.any fun kv => decide (kv.1 = k)) = (ts.any fun p => decide (p.1 = k)) := by
    intro vs ts h
    induction vs generalizing ts with
    | nil => cases h; rfl
    | cons p r ih => cases h with | cons h1 h2 => rw [List.any_cons, List.any_cons, ih h2]
  have mp : ∀ {vs : List (L2.Key × V)} {ts : List (L2.Key × T)}, RepK K S as vs ts → RepK K S as (vs.map fun kv => if kv.1 = k then (kv.1, v) else kv) (ts.map fun p => if p.1 = k then (p.1, t) else p) := by
    intro vs ts h
    induction vs generalizing ts with
    | nil => cases h; exact .nil
    | cons p rr ih =>
      cases h with
      | @cons q v0 t0 _ _ h1 h2 =>
        rw [List.map_cons, List.map_cons]
        by_cases e : q = k
        · rw [if_pos e, if_pos e]; exact .cons r (ih h2)
        · rw [if_neg e, if_neg e]; exact .cons h1 (ih h2)
  have ap : ∀ {vs : List (L2.Key × V)} {ts : List (L2.Key × T)}, RepK K S as vs ts → RepK K S as (vs ++ [(k, v)]) (ts ++ [(k, t)]) := by
    intro vs ts h
    induction vs generalizing ts with
    | nil => cases h; exact .cons r .nil
    | cons p rr ih => cases h with | cons h1 h2 => exact .cons h1 (ih h2)
  unfold putK dPut
  rw [any h]
  split
  · exact mp h
  · exact ap h
end
end C
end
noncomputable section
set_option linter.all false
set_option maxRecDepth 100000
set_option maxHeartbeats 4000002
set_option autoImplicit false
namespace C
open PySem PySem.Spec PyProof.Rows L2
theorem mOwnGet_inv {i : Nat} {k d : M T} {s s' : Sta} {t : T} (h : mOwnGet i k d s = some (t, s')) : dicAt i s = true ∧ ∃ kt s1 dt kvs f q, k s = some (kt, s1) ∧ d s1 = some (dt, s') ∧ s'.env[i]? = some (some (.dic kvs, f)) ∧ keyOf kt = some q ∧ t = (dGet q kvs).getD dt := by
  unfold mOwnGet at h
  split at h
  · rename_i hd
    refine ⟨hd, ?_⟩
    split at h
    · rename_i kt s1 e1
      split at h
      · rename_i dt s2 e2
        split at h
        · rename_i kvs f e3
          split at h
          · rename_i q e4
            cases h
            exact ⟨kt, s1, dt, kvs, f, q, e1, e2, e3, e4, rfl⟩
          · cases h
        · cases h
      · cases h
    · cases h
  · cases h
theorem mOwnLen_inv {i : Nat} {s s' : Sta} {t : T} (h : mOwnLen i s = some (t, s')) : s' = s ∧ ((∃ xs f, s.env[i]? = some (some (.lst xs, f)) ∧ t = .int xs.length) ∨ (∃ xs f, s.env[i]? = some (some (.dic xs, f)) ∧ t = .int xs.length)) := by
  unfold mOwnLen at h
  split at h
  · rename_i xs f e; cases h; exact ⟨rfl, .inl ⟨xs, f, e, rfl⟩⟩
  · rename_i xs f e; cases h; exact ⟨rfl, .inr ⟨xs, f, e, rfl⟩⟩
  · cases h
noncomputable section
variable {K : PySem.W.Frag} {B : Bas} {st : Sta} {σ : L2.St} {H S : Hp} {ps : List (V × T)} {as : List Addr}
theorem Rel.dictAt (r : Rel K B st σ H ps S as) {i : Nat} {kvs : List (L2.Key × T)} {f : Bool} (e : st.env[i]? = some (some (.dic kvs, f))) : ∃ p vs, σ[i]? = some (some (.ref p)) ∧ Rd H p (.dK vs) ∧ RepK K S as vs kvs := by
  obtain ⟨v, h1, h2, h3⟩ := r.slots i _ f e
  cases f with
  | false =>
    have h := h2 rfl
    cases h with
    | dic a b => exact ⟨_, _, h1, rd_mono r.sub a, b⟩
  | true =>
    obtain ⟨p, rfl, o⟩ := h3 rfl
    obtain ⟨vs, h, q⟩ := o.own
    exact ⟨p, vs, h1, .inl h, q⟩
end
noncomputable section
variable {X : Cx} {B : Bas} {a b c e o k d : Expr} {m mo mk md mv : M T} {pos p : Pos}
theorem dicAt_inv {i : Nat} {s : Sta} (h : dicAt i s = true) : ∃ kvs f, s.env[i]? = some (some (.dic kvs, f)) := by
  unfold dicAt at h
  split at h
  · rename_i kvs f e; exact ⟨kvs, f, e⟩
  · cases h
theorem lstAt_inv {i : Nat} {s : Sta} (h : lstAt i s = true) : ∃ kvs f, s.env[i]? = some (some (.lst kvs, f)) := by
  unfold lstAt at h
  split at h
  · rename_i kvs f e; exact ⟨kvs, f, e⟩
  · cases h
theorem te_ownGet (i : Nat) {apos : Pos} (hu : X.A.units + 1 < cLine) (ho : PE X o (tVar i)) (hk : PE X k (tOf X.K B mk)) (hd : PE X d (tOf X.K B md)) (m : M2 X o "get" apos k d pos) : PE X (.Call (.Attribute o "get" apos) [k, d] [] pos) (tOf X.K B (mOwnGet i mk md)) :=
  (pe_dget2 hu ho hk hd m).imp fun σ H Q ⟨st, ps, S, as, R, t, st', e, q⟩ => by
    obtain ⟨hd, kt, s1, dt, kvs, f, qk, e1, e2, e3, e4, rfl⟩ := mOwnGet_inv e
    obtain ⟨kvs0, f0, e0⟩ := dicAt_inv hd
    obtain ⟨p0, vs0, s0, rd0, _⟩ := R.dictAt e0
    refine ⟨_, s0, p0, rfl, .inl ⟨vs0, rd0⟩, st, ps, S, as, R, kt, s1, e1, fun u H1 S1 as1 R1 => ⟨s1, _, S1, as1, R1, dt, st', e2, fun w H2 S2 as2 R2 => ?_⟩⟩
    obtain ⟨p1, vs1, z1, rd1, h4⟩ := R2.dictAt e3
    rw [s0] at z1; cases z1
    have ey := kV_of R2.top2 e4
    subst ey
    refine ⟨valV vs1 qk, .inl ⟨vs1, qk, rd1, rfl, rfl⟩, ?_⟩
    rcases h4.get qk with ⟨z, t', a1, a2, a3⟩ | ⟨a1, a2⟩
    · rw [a1]; rw [a2] at q; exact q z H2 S2 as2 (R2.drop.drop.push a3)
    · rw [a1]; rw [a2] at q; exact q w H2 S2 as2 (R2.drop.drop.push R2.top)
theorem ts_ownPut (i : Nat) {pos' : Pos} (hu : X.A.units + 1 < cLine) (ho : PE X o (tVar i)) (hk : PE X k (tOf X.K B mk)) (hv : PE X e (tOf X.K B mv)) (hs : swapsWith e (some (.Subscript o k pos')) pos.line X.env = pure false) :
    PS X (.Assign [.Subscript o k pos'] e pos) (sOf X.K B (sOwnPut i mk mv)) := (ps_dput hu ho hk hv hs).imp fun D σ H ⟨st, ps, S, as, R, fl, st', e, q⟩ => by
  obtain ⟨t, s1, kt, s2, kvs, qk, e1, hd, e3, e4, e5, hl, rfl, rfl⟩ := sOwnPut_inv e
  obtain ⟨kvs0, f0, e0⟩ := dicAt_inv hd
  refine ⟨st, ps, S, as, R, t, s1, e1, fun v H1 S1 as1 R1 => ?_⟩
  obtain ⟨p0, vs0, s0, rd0, _⟩ := R1.dictAt e0
  refine ⟨_, s0, s1, _, S1, as1, R1, kt, s2, e3, fun y H3 S3 as3 R3 => ?_⟩
  obtain ⟨w, h1, _, h3⟩ := R3.slots i _ true e4
  rw [s0] at h1; cases h1
  obtain ⟨p', ep, ow⟩ := h3 rfl
  cases ep
  obtain ⟨vs, hH, h4⟩ := ow.own
  have ey := kV_of R3.top e5
  subst ey
  exact ⟨p0, _, rfl, DPut.k hH (by rw [h4.length]; exact Nat.lt_of_lt_of_le hl lim_line), q _ _ S3 as3 (R3.drop.drop.turn e4 s0 ⟨_, upd_same, h4.put R3.top2⟩)⟩
end
end C
end
noncomputable section
set_option linter.all false
set_option maxRecDepth 100000
set_option maxHeartbeats 4000002
set_option autoImplicit false
namespace C
open PySem PySem.Spec PyProof.Rows L2
theorem le1000 {ms : M (List T)} {n : Nat} (h : ∀ st ts st', ms st = some (ts, st') → ts.length ≤ n) (hn : n ≤ 1000) : ∀ st ts st', ms st = some (ts, st') → ts.length ≤ 1000 := fun st ts st' e => Nat.le_trans (h st ts st' e) hn
theorem sz_seq {m : M T} : ∀ st ts st', iSeq m st = some (ts, st') → ts.length ≤ sizeLine := fun st ts st' e => by
  unfold iSeq at e
  split at e
  · split at e
    · rename_i h; cases e; exact Nat.le_trans (Nat.le_of_lt h) lim_line
    · cases e
  · split at e
    · rename_i h; cases e; exact Nat.le_trans (Nat.le_of_lt h) lim_line
    · cases e
  · cases e
theorem sz_range {m : M T} : ∀ st ts st', iRange m st = some (ts, st') → ts.length ≤ sizeLine := fun st ts st' e => by
  obtain ⟨n, _, h, rfl⟩ := iRange_inv e
  unfold rangeT
  rw [List.length_map, List.length_range]
  refine Nat.le_trans ?_ lim_line
  show n.toNat ≤ 1000000
  omega
noncomputable def DefOk (P : Program) (w : World) (K : PySem.W.Frag) (mg : Str → Option Value) (base : Heap) (x : Str) (k : Nat) (ps : List Str) (F : Fn) : Prop :=
  ∃ f fd, FnOk P w K mg base CX0 k f fd ps (spF K ps.length F) ∧ Binds K fd ps [] ∧ PySem.W.keepIn K (.ref f) = true ∧ mg x = some (.ref f)
theorem DefOk.mono {P : Program} {w : World} {K : PySem.W.Frag} {mg : Str → Option Value} {base : Heap} {x : Str} {j k : Nat} {ps : List Str} {F : Fn} (d : DefOk P w K mg base x j ps F) (h : j ≤ k) : DefOk P w K mg base x k ps F := by
  obtain ⟨f, fd, h1, h2⟩ := d
  exact ⟨f, fd, h1.mono h, h2⟩
noncomputable section
variable {X : Cx} {B : Bas} {a b c e o k : Expr} {m m1 m2 : M T} {pos p : Pos} {es : List Expr} {ms : M (List T)} {F : Fn} {x : Str} {n : Nat} {pn : List Str}
theorem te_callD (D : DefOk X.prog X.w X.K X.mg X.base x n pn F) (hr : Room n X.A) (hg : Gl X x)
    (ha : PA X (e :: es) (aOf X.K B ms)) (hl : ∀ st ts st', ms st = some (ts, st') → ts.length = pn.length) (hdb : (x == ("__debug__" : Str)) = false := by decide)
    (he : starEach (e :: es) X.env = (false, eval e X.env) :: starEach es X.env := by rfl) (hpl : (backTo pos (starEach es X.env)).any (·.1) = false := by rfl) :
    PE X (.Call (.Name x p) (e :: es) [] pos) (tOf X.K B (mCall F ms)) := by
  obtain ⟨f, fd, h1, h2, h3, h4⟩ := D
  exact te_call h1 hr hg h4 h3 h2 ha hl hdb he hpl
theorem tf_lst (h : PA X es (aOf X.K B ms)) (hm : ∀ st ts st', ms st = some (ts, st') → ts.length ≤ 1000) : PE X (.List es pos) (fOf X.K B (mMap (fun l => some (.lst l)) ms)) :=
  (pe_lst h).imp fun σ H Q ⟨st, ps, S, as, R, t, st', e, q⟩ => by
    obtain ⟨ts, e1, e2⟩ := mMap_inv e
    cases e2
    refine ⟨st, ps, S, as, R, ts, st', e1, fun vs H1 S1 as1 R1 rs => ⟨?_, fun p hp => ?_⟩⟩
    · rw [rs.length]; exact Nat.le_of_lt (small1000 (hm _ _ _ e1))
    · obtain ⟨bD, sD, nD, no⟩ := R1.fresh hp
      exact q p _ S1 as1 (R1.poke bD sD nD no) ⟨⟨vs, upd_same, rs⟩, sD, nD, bD⟩ no
theorem tf_dnew : PE X (.Dict [] [] pos) (fOf X.K B (mPure (.dic []))) := pe_dnewK.imp fun σ H Q ⟨st, ps, S, as, R, t, st', e, q⟩ => by
  cases e
  intro p hp
  obtain ⟨bD, sD, nD, no⟩ := R.fresh hp
  exact q p _ S as (R.poke bD sD nD no) ⟨⟨[], upd_same, .nil⟩, sD, nD, bD⟩ no
theorem Rel.listAt {K : PySem.W.Frag} {B : Bas} {st : Sta} {σ : L2.St} {H S : Hp} {ps : List (V × T)} {as : List Addr} (r : Rel K B st σ H ps S as) {i : Nat} {xs : List T} {f : Bool} (e : st.env[i]? = some (some (.lst xs, f))) : ∃ p vs, σ[i]? = some (some (.ref p)) ∧ SqL K H p vs ∧ Reps K S as vs xs := by
  obtain ⟨v, h1, h2, h3⟩ := r.slots i _ f e
  cases f with
  | false =>
    have h := h2 rfl
    cases h with
    | lst a b => exact ⟨_, _, h1, sqL_mono r.sub a, b⟩
  | true =>
    obtain ⟨p, rfl, o⟩ := h3 rfl
    obtain ⟨vs, h, q⟩ := o.own
    exact ⟨p, vs, h1, SqL.of h, q⟩
theorem ts_append (i : Nat) {st : Stmt} (h : PS X st (tDrop (tBM X.K "list" rAppend (tVar i) (tCons (tOf X.K B m) tNil)))) : PS X st (sOf X.K B (sAppend i m)) := h.imp fun D σ H ⟨st, ps, S, as, R, fl, st', e, q⟩ => by
  obtain ⟨hd, t, s1, xs, e1, e2, hl, rfl, rfl⟩ := sAppend_inv e
  obtain ⟨xs0, f0, e0⟩ := lstAt_inv hd
  obtain ⟨p0, vs0, s0, q0, _⟩ := R.listAt e0
  refine ⟨_, s0, .inl ⟨rfl, _, q0⟩, st, ps, S, as, R, t, s1, e1, fun v H1 S1 as1 R1 => ?_⟩
  obtain ⟨w, h1, _, h3⟩ := R1.slots i _ true e2
  rw [s0] at h1; cases h1
  obtain ⟨p', ep, ow⟩ := h3 rfl
  cases ep
  obtain ⟨vs, hH, h4⟩ := ow.own
  exact ⟨p0, vs, v, rfl, rfl, hH, by rw [h4.length]; exact Nat.lt_of_lt_of_le hl lim_line, q _ _ S1 as1 (R1.drop.turn e2 s0 ⟨_, upd_same, h4.append (.cons R1.top .nil)⟩)⟩
end
end C
end
noncomputable section
set_option linter.all false
set_option maxRecDepth 100000
set_option maxHeartbeats 4000002
set_option autoImplicit false
namespace C
open PySem PySem.Spec PyProof.Rows L2
noncomputable section
variable {X : Cx} {B : Bas} {a b c e o k : Expr} {m m1 m2 : M T} {pos p : Pos}
theorem ints_vals {K : PySem.W.Frag} {S : Hp} {as : List Addr} : ∀ {vs : List V} {ts : List T} {l : List Int}, Reps K S as vs ts → intsT ts = some l → vs = l.map V.int
  | _, _, l, .nil, h => by cases h; rfl
  | _, _, l, .cons (t := t) h1 h2, h => by
    cases h1 <;> simp only [intsT, reduceCtorEq] at h
    obtain ⟨l', e1, e2⟩ := Option.map_eq_some_iff.mp h
    subst e2
    rw [ints_vals h2 e1]; rfl
theorem strs_vals {K : PySem.W.Frag} {S : Hp} {as : List Addr} : ∀ {vs : List V} {ts : List T} {l : List Str}, Reps K S as vs ts → strsT ts = some l → vs = l.map V.str
  | _, _, l, .nil, h => by cases h; rfl
  | _, _, l, .cons (t := t) h1 h2, h => by
    cases h1 <;> simp only [strsT, reduceCtorEq] at h
    obtain ⟨l', e1, e2⟩ := Option.map_eq_some_iff.mp h
    subst e2
    rw [strs_vals h2 e1]; rfl
theorem vals_get {l : List Int} {us : List Value} (r : Vals (l.map V.int) us) {i : Nat} {v : Value} (h : us.toArray[i]? = some v) : ∃ t, v = .int (l.getD i 0) t := by
  rw [List.getElem?_toArray] at h
  have hi : i < (l.map V.int).length := by rw [r.length]; exact (List.getElem?_eq_some_iff.mp h).1
  rw [List.length_map] at hi
  have e : (l.map V.int)[i]? = some (.int l[i]) := by rw [List.getElem?_map, List.getElem?_eq_getElem hi]; rfl
  obtain ⟨u, h1, t, h2⟩ := r.get e
  rw [h] at h1; cases h1
  exact ⟨t, by rw [h2, List.getD_eq_getElem?_getD, List.getElem?_eq_getElem hi]; rfl⟩
theorem Inv.lstAt {pins : List (Addr × Obj)} {σ : L2.St} {H : Hp} {s : Shared} {a : Addr} {xs : List V} (I : L2.Inv X pins σ H s) (h : SqL X.K H a xs) : a < s.heap.objs.size := by
  obtain ⟨its, _, ⟨o, n, h1, _⟩, _⟩ := I.list h
  exact Heap.lt_size h1
theorem callT_sum (hc : X.calm = true) : CallT X (.builtin "sum") sumT := by
  intro pins s σ H xs us Q I rs ⟨S, as, ts, w, sub, hr, hf, q⟩
  cases hr with
  | nil => simp only [sumT, reduceCtorEq] at hf
  | @cons x t xs' ts' h1 h2 =>
    cases h2 with
    | cons h3 h4 => simp only [sumT, reduceCtorEq] at hf
    | nil =>
      cases h1 with
      | @lst a vs ts g1 g2 =>
        simp only [sumT] at hf
        obtain ⟨l, e1, e2⟩ := Option.map_eq_some_iff.mp hf
        subst e2
        have ev := ints_vals g2 e1
        subst ev
        obtain ⟨u, rfl, ru⟩ := rs.one
        cases ru
        obtain ⟨its, r, p, hz⟩ := I.list (sqL_mono sub g1)
        have hlt := Inv.lstAt I (sqL_mono sub g1)
        refine call_sum_walkG (wpAny_pyIter_list p.isList ?_)
        refine ⟨_, _, _, _, _, _, fun i => l.getD i 0, rfl, Walks.list (A := X.A.in1) (show X.A.in1.handled = none from I.ok.hd hc) s.heap.objs.size a (Nat.ne_of_lt hlt) its.toArray, And.intro ⟨_, Heap.get?_push_size _ rfl, rfl, rfl⟩ (PlainL.keeps p fun b o e => Heap.get?_push_of_some _ e).isList, fun b hb => ?_, fun i v hv => vals_get r hv, fun h' tk t' hk => ?_⟩
        · rw [Heap.size_push]
          rcases List.mem_cons.mp hb with rfl | hb -- here
          · exact Nat.lt_succ_self _
          · rw [List.mem_singleton.mp hb]; exact Nat.lt_succ_of_lt hlt -- here
        · have hl : its.toArray.size = l.length := by rw [List.size_toArray, ← r.length, List.length_map]
          rw [hl, preSum_getD, List.take_length]
          exact ⟨.int l.sum, H, I.kept (h' := h') (t' := tk) fun b u e => hk b u (by simp; exact Nat.ne_of_lt (Heap.lt_size e)) (Heap.get?_push_of_some _ e), ⟨_, rfl⟩, q _ H S (Ext.refl sub) (.int _)⟩
      | _ => simp only [sumT, reduceCtorEq] at hf
theorem strsAre_of : ∀ {l : List Str} {us : List Value}, Vals (l.map V.str) us → StrsAre us l
  | [], _, r => by cases r; exact .nil
  | x :: l, _, r => by
    rw [List.map_cons] at r
    cases r with
    | cons r1 r2 => obtain ⟨t, rfl⟩ := r1; exact .cons x t (strsAre_of r2)
theorem vals_strs : ∀ {l : List Str} {us : List Value}, StrsAre us l → Vals (l.map V.str) us
  | _, _, .nil => .nil
  | _, _, .cons x t h => .cons ⟨t, rfl⟩ (vals_strs h)
noncomputable abbrev leStr (a b : Str) : Prop := ¬ b.cps.toList < a.cps.toList
theorem leStr_trans {a b c : Str} (h1 : leStr a b) (h2 : leStr b c) : leStr a c := fun h => by
  have h3 : a.cps.toList ≤ b.cps.toList := List.not_lt.mp h1
  have h4 : b.cps.toList ≤ c.cps.toList := List.not_lt.mp h2
  exact List.not_lt.mpr (List.le_trans h3 h4) h
theorem leStr_anti {a b : Str} (h1 : leStr a b) (h2 : leStr b a) : a = b := by
  have h3 : a.cps.toList ≤ b.cps.toList := List.not_lt.mp h1
  have h4 : b.cps.toList ≤ a.cps.toList := List.not_lt.mp h2
  have h5 := List.le_antisymm h3 h4
  cases a; cases b
  simp at h5; subst h5; rfl
theorem rising_pair : ∀ (p : Str) (l : List Str), risingS p l = true → (p :: l).Pairwise leStr
  | p, [], _ => by simp
  | p, x :: r, h => by
    rw [risingS, Bool.and_eq_true] at h
    have ih := rising_pair x r h.2
    have hx : leStr p x := fun z => by
      have := h.1
      rw [ltCps_eq, decide_eq_true z] at this
      cases this
    refine List.pairwise_cons.mpr ⟨fun y hy => ?_, ih⟩
    rcases List.mem_cons.mp hy with rfl | hy -- here
    · exact hx
    · exact leStr_trans hx (List.rel_of_pairwise_cons ih hy)
theorem sorted_pair (l : List Str) (h : sortedS l = true) : l.Pairwise leStr := by
  cases l with
  | nil => exact .nil
  | cons x r => exact rising_pair x r h
theorem ins1_perm (x : Str) : ∀ l, (ins1 x l).Perm (x :: l)
  | [] => .refl _
  | y :: r => by
    rw [ins1]
    split
    · exact .refl _
    · exact ((ins1_perm x r).cons y).trans (.swap x y r)
theorem ins1_pair (x : Str) : ∀ l : List Str, l.Pairwise leStr → (ins1 x l).Pairwise leStr
  | [], _ => by simp [ins1]
  | y :: r, h => by
    rw [ins1]
    split
    · rename_i hx
      have hx := of_decide_eq_true hx
      have hxy : leStr x y := fun z => List.lt_irrefl _ (List.lt_trans hx z)
      refine List.pairwise_cons.mpr ⟨fun z hz => ?_, h⟩
      rcases List.mem_cons.mp hz with rfl | hz -- here
      · exact hxy
      · exact leStr_trans hxy (List.rel_of_pairwise_cons h hz)
    · rename_i hx
      have hx : leStr y x := fun z => hx (decide_eq_true z)
      refine List.pairwise_cons.mpr ⟨fun z hz => ?_, ins1_pair x r (List.pairwise_cons.mp h).2⟩
      rcases List.mem_cons.mp ((ins1_perm x r).mem_iff.mp hz) with rfl | hz
      · exact hx
      · exact List.rel_of_pairwise_cons h hz
theorem isort_fold : ∀ (l acc : List Str), acc.Pairwise leStr → (l.foldl (fun acc x => ins1 x acc) acc).Pairwise leStr ∧ (l.foldl (fun acc x => ins1 x acc) acc).Perm (l ++ acc)
  | [], acc, h => ⟨h, .refl _⟩
  | x :: l, acc, h => by
    obtain ⟨h1, h2⟩ := isort_fold l (ins1 x acc) (ins1_pair x acc h)
    exact ⟨h1, h2.trans (((ins1_perm x acc).append_left l).trans (List.perm_middle))⟩
theorem isort_pair (l : List Str) : (isort l).Pairwise leStr := (isort_fold l [] .nil).1
theorem isort_perm (l : List Str) : (isort l).Perm l := by
  have := (isort_fold l [] .nil).2
  rwa [List.append_nil] at this
theorem isort_eq {l l' : List Str} (h1 : sortedS l' = true) (h2 : l'.Perm l) : l' = isort l :=
  List.Perm.eq_of_pairwise (le := leStr) (fun _ _ _ _ => leStr_anti) (sorted_pair l' h1) (isort_pair l) (h2.trans (isort_perm l).symm)
theorem reps_strs {K : PySem.W.Frag} {S : Hp} {as : List Addr} : ∀ l : List Str, Reps K S as (l.map V.str) (l.map T.str)
  | [] => .nil
  | x :: l => .cons (.str x) (reps_strs l)
theorem sortedL_ok {pins : List (Addr × Obj)} {σ : L2.St} {H S : Hp} {s : Shared} {as : List Addr} {a : Addr} {l : List Str} {Q : VK} (I : L2.Inv X pins σ H s) (sub : Same S H) (g1 : SqL X.K H a (l.map V.str)) (h64 : l.length < 64)
    (q : ∀ v H' S', Ext S H S' H' → Rep X.K S' as v (.lst ((isort l).map .str)) → Q v H') : wpAny (model X.prog X.w) X.A (call (.builtin "sorted") [.ref a]) (EP X pins σ Q) X.xe s := by
  obtain ⟨its, r, p, hz⟩ := I.list g1
  refine sorted_strs p.isList (strsAre_of r) (by rw [← r.length, List.length_map]; exact h64) fun out ss' a1 a2 a3 => ?_
  have es := isort_eq a3 a2
  subst es
  obtain ⟨e, he⟩ := sortedAll_at s.heap its out
  have hl : (List.map V.str (isort l)).length ≤ sizeLine := by
    rw [List.length_map, (isort_perm l).length_eq]
    exact Nat.le_trans (Nat.le_of_lt h64) (by rw [sizeLine_eq]; decide)
  have hn : H (s.heap.objs.size + 1) = none := I.hok.fresh (Nat.le_succ _)
  have x := Ext.laid sub hn (.lst ((isort l).map V.str))
  refine ⟨.ref (s.heap.objs.size + 1), _, I.laid (a := s.heap.objs.size + 1) (o := .lst ((isort l).map V.str)) (h' := sortedAll s.heap its out) (t' := s.toks) (fun _ _ => sortedAll_old) (Nat.le_succ _) ⟨hl, out.toList, e, vals_strs a1, he⟩, rfl, q _ _ _ x (.lst (SqL.of upd_same) (reps_strs _))⟩
theorem callT_sortedL : CallR X (.builtin "sorted") (fun xs H Q => ∃ S as ts l, Same S H ∧ Reps X.K S as xs [.lst ts] ∧ ts.length < 64 ∧ strsT ts = some l ∧ ∀ v H' S', Ext S H S' H' → Rep X.K S' as v (.lst ((isort l).map .str)) → Q v H') := by
  intro pins s σ H xs us Q I rs ⟨S, as, ts, l, sub, hr, h64, e1, q⟩
  cases hr with
  | cons h1 h2 =>
    cases h2
    cases h1 with
    | @lst a vs _ g1 g2 =>
      have ev := strs_vals g2 e1
      subst ev
      obtain ⟨u, rfl, ru⟩ := rs.one
      cases ru
      have hl := g2.length
      rw [List.length_map] at hl
      exact sortedL_ok I sub (sqL_mono sub g1) (by omega) q
noncomputable def tyOf : T → Option Value
  | .non => some (.type "NoneType")
  | .bl _ => some (.type "bool")
  | .int _ => some (.type "int")
  | .str _ => some (.type "str")
  | .tup _ => some (.type "tuple")
  | .lst _ => some (.type "list")
  | .dic _ => some (.type "dict")
  | .obj _ => none
theorem isi_ok {pins : List (Addr × Obj)} {σ : L2.St} {H S : Hp} {s : Shared} {as : List Addr} {x : V} {u c : Value} {t : T} {ty : Value} {b : Bool} {Q : Value → Shared → Prop} {E : Value → Shared → Prop} (I : L2.Inv X pins σ H s) (sub : Same S H) (rx : RelV x u) (r : Rep X.K S as x t) (hty : tyOf t = some ty)
    (e : PySem.W.kitOne X.K ty c = some b) (h : ∀ tk, Q (.bool b) { s with toks := tk }) : wpAny (model X.prog X.w) X.A (call (.builtin "isinstance") [u, c]) Q E s := by
  cases r with
  | non => cases hty; exact isinst_ok I rx .non e h
  | bl y => cases hty; exact isinst_ok I rx (.bl y) e h
  | int y => cases hty; exact isinst_ok I rx (.int y) e h
  | str y => cases hty; exact isinst_ok I rx (.str y) e h
  | @tup a vs ts g1 g2 =>
    cases hty
    cases (show u = Value.ref a from rx)
    obtain ⟨its, _, ⟨o, h1, h2, _⟩, _⟩ := I.tuple (sqT_mono sub g1)
    exact PySem.W.kia_one PySem.W.kitx_tuple I.kIn ⟨o, h1, h2⟩ e (fun z => nomatch z) h
  | @lst a vs ts g1 g2 =>
    cases hty
    cases (show u = Value.ref a from rx)
    obtain ⟨its, _, ⟨o, n, h1, h2, _⟩, _⟩ := I.list (sqL_mono sub g1)
    exact PySem.W.kia_one PySem.W.kitx_list I.kIn ⟨o, h1, h2⟩ e (fun z => nomatch z) h
  | @dic a kvs ts g1 g2 =>
    cases hty
    cases (show u = Value.ref a from rx)
    obtain ⟨_, _, vs, _, o, es, ep, h1, h2, _⟩ := dk_rd I.hok (rd_mono sub g1)
    exact PySem.W.kia_one PySem.W.kitx_dict I.kIn ⟨o, h1, h2.1⟩ e (fun z => nomatch z) h
  | obj h => cases hty
noncomputable def isiT (f : Value → Bool) : List T → Option T
  | [t] => (tyOf t).map fun ty => .bl (f ty)
  | _ => none
theorem te_isi {cn : String} {f : Value → Bool} {pc : Pos} (hg : Gl X "isinstance") (hm : X.mg "isinstance" = none) (hg2 : Gl X (Str.ofString cn)) (hm2 : X.mg (Str.ofString cn) = none) (hv : bootBuiltins (Str.ofString cn) = some (.type cn))
    (hf : ∀ t ty, tyOf t = some ty → PySem.W.kitOne X.K ty (.type cn) = some (f ty)) (ha : PE X a (tOf X.K B m)) (hd : ((Str.ofString cn) == ("__debug__" : Str)) = false) (hn : (Str.ofString cn) ≠ "__name__")
    (he : starEach [a, .Name (Str.ofString cn) pc] X.env = (false, eval a X.env) :: starEach [.Name (Str.ofString cn) pc] X.env := by rfl) (he2 : starEach [.Name (Str.ofString cn) pc] X.env = (false, eval (.Name (Str.ofString cn) pc) X.env) :: starEach [] X.env := by rfl)
    (hpl : (backTo pos (starEach [.Name (Str.ofString cn) pc] X.env)).any (·.1) = false := by rfl) :
    PE X (.Call (.Name "isinstance" p) [a, .Name (Str.ofString cn) pc] [] pos) (tOf X.K B (mMap (isiT f) (mCons m mNil))) := by
  have hc : CallR X (.builtin "isinstance") (fun xs H Q => ∃ S as x t ty, xs = [x, .ty cn] ∧ Same S H ∧ Rep X.K S as x t ∧ tyOf t = some ty ∧ Q (.bl (f ty)) H) := by
    intro pins s σ H xs us Q I rs ⟨S, as, x, t, ty, ex, sub, r, hty, q⟩
    subst ex
    obtain ⟨u, w, rfl, r1, r2⟩ := rs.two
    cases r2
    exact isi_ok I sub r1 r hty (hf t ty hty) fun tk => ⟨.bl (f ty), H, I.tok _, rfl, q⟩
  have hnm : PE X (.Name (Str.ofString cn) pc) (tC (.ty cn)) := pe_bltn hg2 hm2 hv rfl hn hd
  refine (pe_callB hc hg hm PyProof.Rows.boot_isinstance (pa_cons ha (pa_cons hnm pa_nil he2) he) (by decide) (by decide) he hpl).imp fun σ H Q ⟨st, ps, S, as, R, t, st', e, q⟩ => ?_
  obtain ⟨ts, e1, e2⟩ := mMap_inv e
  obtain ⟨t1, s1, us, ea, en, rfl⟩ := mCons_inv e1
  cases en
  simp only [isiT] at e2
  obtain ⟨ty, e3, e4⟩ := Option.map_eq_some_iff.mp e2
  subst e4
  exact ⟨st, ps, S, as, R, t1, _, ea, fun v H1 S1 as1 R1 => ⟨S1, as1, v, t1, ty, rfl, R1.sub, R1.top, e3, q _ H1 S1 as1 (R1.drop.push (.bl _))⟩⟩
example (K : PySem.W.Frag) : PySem.W.kitOne K (.type "bool") (.type "int") = some true := by rfl
example (K : PySem.W.Frag) : PySem.W.kitOne K (.type "str") (.type "int") = some false := by rfl
end
end C
end
noncomputable section
set_option linter.all false
set_option maxRecDepth 100000
set_option maxHeartbeats 4000002
set_option autoImplicit false
namespace C
open PySem PySem.Spec PyProof.Rows L2
theorem list_extendL (l b : Addr) (xs0 ys0 : Array Value) (n n2 : Nat) (dd2 : Option Addr) (sl2 : Array (Option Value)) (hs0 : ¬(!xs0.isEmpty && Builtin.List.listTooLong (xs0.size + ys0.size)) = true) (hs1 : xs0.size ≤ sizeLine) (hs2 : xs0.size + ys0.size ≤ sizeLine + 1) :
    Meets (Builtin.«list.extend» ⟨[.ref l, .ref b], []⟩) (fun _ R s => s.heap.get? l = some { cls := .type "list", dict := none, data := .seq xs0 n, slots := #[] } ∧ s.heap.get? b = some { cls := .type "list", dict := dd2, data := .seq ys0 n2, slots := sl2 } ∧ R (.ok (.ret Value.none)) { s with heap := s.heap.update l (Obj.mapSeq fun x => x ++ ys0), toks := s.toks }) :=
  .of_wp fun pr wd Ar R z h => by
    obtain ⟨hp, gs, dr, tk, os⟩ := z; obtain ⟨hl, hb, h⟩ := h; have f1 := AutoSeq1.idx_int; have f2 := AutoSeq1.sub_tuple_tuple; have f3 := AutoSeq1.sub_list_list; have f4 := AutoSeq1.sub_tuple_list; have f5 := AutoSeq1.sub_list_tuple
    have hz' : (xs0 ++ ys0).size ≤ sizeLine + 1 := by rw [Array.size_append]; exact hs2
    wp_walk using (wpAny_updateSeq hl rfl (hz := hs1) (_hz' := hz')), AutoSeq1.wpAny_loadPart' hl, AutoSeq1.wpAny_loadPart' hb; exact ⟨_, rfl, h⟩
theorem list_extendT (l b : Addr) (xs0 ys0 : Array Value) (n n2 : Nat) (dd2 : Option Addr) (sl2 : Array (Option Value)) (hs0 : ¬(!xs0.isEmpty && Builtin.List.listTooLong (xs0.size + ys0.size)) = true) (hs1 : xs0.size ≤ sizeLine) (hs2 : xs0.size + ys0.size ≤ sizeLine + 1) :
    Meets (Builtin.«list.extend» ⟨[.ref l, .ref b], []⟩) (fun _ R s => s.heap.get? l = some { cls := .type "list", dict := none, data := .seq xs0 n, slots := #[] } ∧ s.heap.get? b = some { cls := .type "tuple", dict := dd2, data := .seq ys0 n2, slots := sl2 } ∧ R (.ok (.ret Value.none)) { s with heap := s.heap.update l (Obj.mapSeq fun x => x ++ ys0), toks := s.toks }) :=
  .of_wp fun pr wd Ar R z h => by
    obtain ⟨hp, gs, dr, tk, os⟩ := z; obtain ⟨hl, hb, h⟩ := h; have f1 := AutoSeq1.idx_int; have f2 := AutoSeq1.sub_tuple_tuple; have f3 := AutoSeq1.sub_list_list; have f4 := AutoSeq1.sub_tuple_list; have f5 := AutoSeq1.sub_list_tuple
    have hz' : (xs0 ++ ys0).size ≤ sizeLine + 1 := by rw [Array.size_append]; exact hs2
    wp_walk using (wpAny_updateSeq hl rfl (hz := hs1) (_hz' := hz')), AutoSeq1.wpAny_loadPart' hl, AutoSeq1.wpAny_loadPart' hb; exact ⟨_, rfl, h⟩
noncomputable section
variable {X : Cx} {B : Bas} {m : M T}
noncomputable def rExtendS (K : PySem.W.Frag) : V → List V → Hp → VK → Prop := fun x vs H Q => ∃ l b xs zs, x = .ref l ∧ vs = [.ref b] ∧ H l = some (.lst xs) ∧ (SqL K H b zs ∨ SqT K H b zs) ∧ xs.length + zs.length ≤ sizeLine ∧ Q .non (upd H l (.lst (xs ++ zs)))
theorem mt_extendS : MtM X "list.extend" (rExtendS X.K) := by
  intro pins s σ H x vs v us Q I rx rv h
  obtain ⟨l, b, xs, zs, rfl, rfl, hH, hB, hz, q⟩ := h
  cases rx
  obtain ⟨u, rfl, ru⟩ := rv.one
  cases ru
  obtain ⟨z, its, n, r, hl, e⟩ := I.lstM hH
  have fin : ∀ its2 : List Value, Vals zs its2 → L2.Inv X pins σ (upd H l (.lst (xs ++ zs))) { s with heap := s.heap.update l (Obj.mapSeq fun x => x ++ its2.toArray), toks := s.toks } := fun its2 r2 =>
    I.lset (its' := its ++ its2) hH e (by simp) (r.append r2) (by rw [List.length_append]; exact hz)
  have hlong : ∀ its2 : List Value, Vals zs its2 → ¬ (!its.toArray.isEmpty && Builtin.List.listTooLong (its.toArray.size + its2.toArray.size)) = true := fun its2 r2 => by
    have hsz : its.toArray.size + its2.toArray.size ≤ sizeLine := by rw [List.size_toArray, List.size_toArray, ← hl, ← r2.length]; exact hz
    rw [notLongL hsz, Bool.and_false]
    exact Bool.false_ne_true
  rcases hB with hB | hB
  · obtain ⟨its2, r2, ⟨⟨cls2, dd2, data2, sl2⟩, n2, ho2, hc2, hd02, hd2⟩, _⟩ := I.list hB
    simp only at hc2 hd2
    subst hc2 hd2
    refine call_meets F.slot_list_extend ⟨_, e, rfl⟩ F.entry_list_extend (F.args_list_extend_2 _ _)
      (list_extendL l b its.toArray its2.toArray n n2 dd2 sl2 (hlong its2 r2) (by rw [List.size_toArray, ← hl]; omega) (by rw [List.size_toArray, List.size_toArray, ← hl, ← r2.length]; omega)) ⟨e, ho2, ?_⟩
    exact ⟨.non, _, fin its2 r2, rfl, q⟩
  · obtain ⟨its2, r2, ⟨⟨cls2, dd2, data2, sl2⟩, ho2, hc2, n2, hd2⟩, _⟩ := I.tuple hB
    simp only at hc2 hd2
    subst hc2 hd2
    refine call_meets F.slot_list_extend ⟨_, e, rfl⟩ F.entry_list_extend (F.args_list_extend_2 _ _)
      (list_extendT l b its.toArray its2.toArray n n2 dd2 sl2 (hlong its2 r2) (by rw [List.size_toArray, ← hl]; omega) (by rw [List.size_toArray, List.size_toArray, ← hl, ← r2.length]; omega)) ⟨e, ho2, ?_⟩
    exact ⟨.non, _, fin its2 r2, rfl, q⟩
theorem ts_extend (i : Nat) {st : Stmt} (h : PS X st (tDrop (tBM X.K "list" (rExtendS X.K) (tVar i) (tCons (tOf X.K B m) tNil)))) : PS X st (sOf X.K B (sExtend i m)) := h.imp fun D σ H ⟨st, ps, S, as, R, fl, st', e, q⟩ => by
  obtain ⟨hd, t, s1, xs, ys, e1, ey, e2, hl, rfl, rfl⟩ := sExtend_inv e
  obtain ⟨xs0, f0, e0⟩ := lstAt_inv hd
  obtain ⟨p0, vs0, s0, q0, _⟩ := R.listAt e0
  refine ⟨_, s0, .inl ⟨rfl, _, q0⟩, st, ps, S, as, R, t, s1, e1, fun v H1 S1 as1 R1 => ?_⟩
  obtain ⟨w, h1, _, h3⟩ := R1.slots i _ true e2
  rw [s0] at h1; cases h1
  obtain ⟨p', ep, ow⟩ := h3 rfl
  cases ep
  obtain ⟨vs, hH, h4⟩ := ow.own
  have top := R1.top
  cases top with
  | @tup b zs _ g1 g2 =>
    simp only [seqOf] at ey; cases ey
    exact ⟨p0, b, vs, zs, rfl, rfl, hH, .inr (sqT_mono R1.sub g1), by rw [h4.length, g2.length]; exact Nat.le_trans (Nat.le_of_lt hl) lim_line, q _ _ S1 as1 (R1.drop.turn e2 s0 ⟨_, upd_same, h4.append g2⟩)⟩
  | @lst b zs _ g1 g2 =>
    simp only [seqOf] at ey; cases ey
    exact ⟨p0, b, vs, zs, rfl, rfl, hH, .inl (sqL_mono R1.sub g1), by rw [h4.length, g2.length]; exact Nat.le_trans (Nat.le_of_lt hl) lim_line, q _ _ S1 as1 (R1.drop.turn e2 s0 ⟨_, upd_same, h4.append g2⟩)⟩
  | _ => simp only [seqOf, reduceCtorEq] at ey
end
end C
end
noncomputable section
set_option linter.all false
set_option maxRecDepth 100000
set_option maxHeartbeats 4000002
set_option autoImplicit false
namespace C
open PySem PySem.Spec PyProof.Rows L2
noncomputable def PN (X : Cx) (e : Expr) (N : L2.St → V → Prop) : Prop := PE X e (fun σ H Q => ∃ v, N σ v ∧ Q v H)
noncomputable def MN (K : PySem.W.Frag) (m : M T) (N : L2.St → V → Prop) : Prop := ∀ (B : Bas) (st : Sta) (σ : L2.St) (H : Hp) (ps : List (V × T)) (S : Hp) (as : List Addr) (t : T) (st' : Sta), Rel K B st σ H ps S as → m st = some (t, st') → st' = st ∧ ∃ v, N σ v ∧ Rep K S as v t
structure PM (X : Cx) (e : Expr) (m : M T) (N : L2.St → V → Prop) : Prop where
  p : PN X e N
  m : MN X.K m N
noncomputable section
variable {X : Cx} {B : Bas} {a b e e1 e2 : Expr} {m m1 m2 : M T} {N N1 N2 : L2.St → V → Prop} {pos p : Pos}
end
end C
end
noncomputable section
set_option linter.all false
set_option autoImplicit false
namespace C
open PySem PySem.Spec PyProof.Rows L2
inductive StrEs : List Expr → List Str → Prop where
  | nil : StrEs [] []
  | cons {x : Str} {k : Nat} {q : Pos} {es : List Expr} {xs : List Str} : StrEs es xs → StrEs (.Constant (.str x) k q :: es) (x :: xs)
noncomputable section
variable {X : Cx} {B : Bas} {a b c e o k : Expr} {m m1 m2 : M T} {pos p p2 : Pos}
theorem isTup_eq (l : List T) : isTup l = isiT (fun ty => ty == .type "tuple") l := by
  match l with
  | [] => rfl
  | [t] => cases t <;> rfl
  | x :: y :: r => cases x <;> rfl
theorem isBl_eq (l : List T) : isBl l = isiT (fun ty => ty == .type "bool") l := by
  match l with
  | [] => rfl
  | [t] => cases t <;> rfl
  | x :: y :: r => cases x <;> rfl
theorem boot_bool' : bootBuiltins "bool" = some (.type "bool") := by decide +kernel
theorem te_isi_tuple {pc : Pos} (hg : Gl X "isinstance") (hm : X.mg "isinstance" = none) (hg2 : Gl X "tuple") (hm2 : X.mg "tuple" = none) (ha : PE X a (tOf X.K B m)) (he : starEach [a, .Name "tuple" pc] X.env = (false, eval a X.env) :: starEach [.Name "tuple" pc] X.env := by rfl) :
    PE X (.Call (.Name "isinstance" p) [a, .Name "tuple" pc] [] pos) (tOf X.K B (mMap isTup (mCons m mNil))) := by
  rw [show isTup = _ from funext isTup_eq]
  exact te_isi (cn := "tuple") hg hm hg2 hm2 boot_tuple (fun t ty h => by cases t <;> cases h <;> rfl) ha (by decide) (by decide) he
theorem te_isi_bool {pc : Pos} (hg : Gl X "isinstance") (hm : X.mg "isinstance" = none) (hg2 : Gl X "bool") (hm2 : X.mg "bool" = none) (ha : PE X a (tOf X.K B m)) (he : starEach [a, .Name "bool" pc] X.env = (false, eval a X.env) :: starEach [.Name "bool" pc] X.env := by rfl) :
    PE X (.Call (.Name "isinstance" p) [a, .Name "bool" pc] [] pos) (tOf X.K B (mMap isBl (mCons m mNil))) := by
  rw [show isBl = _ from funext isBl_eq]
  exact te_isi (cn := "bool") hg hm hg2 hm2 boot_bool' (fun t ty h => by cases t <;> cases h <;> rfl) ha (by decide) (by decide) he
theorem te_ownLen (i : Nat) (hm : X.mg "len" = none) {es : Expr} (hg : Gl X "len") (h : PE X es (tVar i)) (he : starEach [es] X.env = (false, eval es X.env) :: starEach [] X.env := by rfl) (hpl : (backTo pos (starEach [] X.env)).any (·.1) = false := by rfl) :
    PE X (.Call (.Name "len" p) [es] [] pos) (tOf X.K B (mOwnLen i)) := by
  have hc : CallR X (.builtin "len") (fun xs H Q => ∃ q, xs = [.ref q] ∧ ((∃ ys, SqL X.K H q ys ∧ Q (.int ys.length) H) ∨ (∃ kvs, Rd H q (.dK kvs) ∧ Q (.int kvs.length) H))) := by
    intro pins s σ H xs us Q I rs ⟨q, ex, h⟩
    rcases h with ⟨ys, h1, h2⟩ | ⟨kvs, h1, h2⟩
    · exact call_len_seq pins s σ H xs us Q I rs ⟨q, ys, ex, .inl h1, h2⟩
    · subst ex
      obtain ⟨u, rfl, ru⟩ := rs.one
      cases ru
      exact d_len I h1 fun t s' I' => ⟨.int kvs.length, H, I', ⟨t, rfl⟩, h2⟩
  refine (pe_callB hc hg hm PySem.boot_len (pa_cons h pa_nil he) (by decide) (by decide) he hpl).imp fun σ H Q ⟨st, ps, S, as, R, t, st', e, q⟩ => ?_
  obtain ⟨rfl, h⟩ := mOwnLen_inv e
  rcases h with ⟨xs, f, e1, rfl⟩ | ⟨xs, f, e1, rfl⟩
  · obtain ⟨p0, vs, s0, h1, h2⟩ := R.listAt e1
    exact ⟨_, s0, p0, rfl, .inl ⟨vs, h1, by rw [h2.length]; exact q _ H S as (R.push (.int _))⟩⟩
  · obtain ⟨p0, vs, s0, h1, h2⟩ := R.dictAt e1
    exact ⟨_, s0, p0, rfl, .inr ⟨vs, h1, by rw [h2.length]; exact q _ H S as (R.push (.int _))⟩⟩
end
end C
end
noncomputable section
set_option linter.all false
set_option autoImplicit false
namespace C
open PySem
mutual
theorem dat_lay : ∀ (t : T) {d : PyData}, dat t = some d → d.canLay0 = true
  | .non, _, h => by simp only [dat] at h; cases h; simp only [PyData.canLay0]
  | .bl b, _, h => by simp only [dat] at h; cases h; simp only [PyData.canLay0]
  | .int i, _, h => by simp only [dat] at h; cases h; simp only [PyData.canLay0]
  | .str x, _, h => by
    simp only [dat] at h
    split at h
    · rename_i hx; cases h; exact hx
    · cases h
  | .tup xs, _, h => by
    simp only [dat] at h
    obtain ⟨l, e1, e2⟩ := Option.map_eq_some_iff.mp h
    subst e2
    simp only [PyData.canLay0]
    exact dats_lay xs e1
  | .lst xs, _, h => by
    simp only [dat] at h
    obtain ⟨l, e1, e2⟩ := Option.map_eq_some_iff.mp h
    subst e2
    simp only [PyData.canLay0]
    exact dats_lay xs e1
  | .dic _, _, h => by simp only [dat] at h; cases h
  | .obj _, _, h => by simp only [dat] at h; cases h
theorem dats_lay : ∀ (ts : List T) {l : List PyData}, dats ts = some l → PyData.canLayAll0 l = true
  | [], _, h => by simp only [dats] at h; cases h; simp only [PyData.canLayAll0]
  | x :: r, _, h => by
    simp only [dats] at h
    split at h
    · rename_i a ea
      obtain ⟨l, e1, e2⟩ := Option.map_eq_some_iff.mp h
      subst e2
      simp only [PyData.canLayAll0]
      rw [dat_lay x ea, dats_lay r e1]; rfl
    · cases h
end
theorem dats_cons {x : T} {r : List T} {l : List PyData} (h : dats (x :: r) = some l) : ∃ a l', dat x = some a ∧ dats r = some l' ∧ l = a :: l' := by
  simp only [dats] at h
  split at h
  · rename_i a ea
    obtain ⟨l, e1, e2⟩ := Option.map_eq_some_iff.mp h
    exact ⟨a, l, ea, e1, e2.symm⟩
  · cases h
theorem eqD_inv {t u : T} {b : Bool} (h : eqD t u = some b) : ∃ x y, dat t = some x ∧ dat u = some y ∧ x.depth ≤ 40 ∧ b = PyData.eqv x y := by
  unfold eqD at h
  split at h
  · rename_i x ex
    split at h
    · rename_i y ey
      split at h
      · rename_i hd; cases h; exact ⟨x, y, ex, ey, hd, rfl⟩
      · cases h
    · cases h
  · cases h
theorem eqT_inv {t u : T} {b : Bool} (h : eqT t u = some b) : (∃ x y, t = .dic x ∧ u = .dic y ∧ ((x.length = y.length ∧ eqKs x y = some b) ∨ (x.length ≠ y.length ∧ b = false))) ∨ eqD t u = some b := by
  unfold eqT at h
  split at h
  · split at h
    · rename_i hl; exact .inl ⟨_, _, rfl, rfl, .inl ⟨hl, h⟩⟩
    · rename_i hl; cases h; exact .inl ⟨_, _, rfl, rfl, .inr ⟨hl, rfl⟩⟩
  · exact .inr h
end C
end
noncomputable section
set_option linter.all false
set_option maxRecDepth 100000
set_option maxHeartbeats 4000002
set_option autoImplicit false
namespace C
open PySem PySem.Spec PyProof.Rows L2
noncomputable section
variable {X : Cx} {pins : List (Addr × Obj)} {σ : L2.St} {H S : Hp} {s : Shared} {as : List Addr}
mutual
theorem Rep.reads (I : L2.Inv X pins σ H s) (sub : Same S H) : ∀ {v : V} {t : T}, Rep X.K S as v t → ∀ {d : PyData} {u : Value}, dat t = some d → RelV v u → ∃ bs, Reads s.heap u d bs
  | _, _, .non, _, _, e, r => by simp only [dat] at e; cases e; cases r; exact ⟨_, .none⟩
  | _, _, .bl b, _, _, e, r => by simp only [dat] at e; cases e; cases r; exact ⟨_, .bool b⟩
  | _, _, .int i, _, _, e, r => by simp only [dat] at e; cases e; obtain ⟨t, rfl⟩ := r; exact ⟨_, .int i t⟩
  | _, _, .str x, _, _, e, r => by
    simp only [dat] at e
    split at e
    · cases e; obtain ⟨t, rfl⟩ := r; exact ⟨_, .str x t⟩
    · cases e
  | _, _, .tup h q, _, _, e, r => by
    simp only [dat] at e
    obtain ⟨l, e1, e2⟩ := Option.map_eq_some_iff.mp e
    subst e2
    cases r
    obtain ⟨its, rv, ⟨o, h1, h2, n, h3⟩, _⟩ := I.tuple (sqT_mono sub h)
    obtain ⟨bs, rb⟩ := Reps.reads I sub q e1 rv
    exact ⟨_, .tuple h1 h2 h3 rb⟩
  | _, _, .lst h q, _, _, e, r => by
    simp only [dat] at e
    obtain ⟨l, e1, e2⟩ := Option.map_eq_some_iff.mp e
    subst e2
    cases r
    obtain ⟨its, rv, ⟨o, n, h1, h2, _, h3⟩, _⟩ := I.list (sqL_mono sub h)
    obtain ⟨bs, rb⟩ := Reps.reads I sub q e1 rv
    exact ⟨_, .list h1 h2 h3 rb⟩
  | _, _, .dic _ _, _, _, e, _ => by simp only [dat] at e; cases e
  | _, _, .obj _, _, _, e, _ => by simp only [dat] at e; cases e
theorem Reps.reads (I : L2.Inv X pins σ H s) (sub : Same S H) : ∀ {vs : List V} {ts : List T}, Reps X.K S as vs ts → ∀ {ds : List PyData} {us : List Value}, dats ts = some ds → Vals vs us → ∃ bs, ReadsAll s.heap us ds bs
  | _, _, .nil, _, _, e, r => by simp only [dats] at e; cases e; cases r; exact ⟨_, .nil⟩
  | _, _, .cons h q, _, _, e, r => by
    obtain ⟨a, l, e1, e2, e3⟩ := dats_cons e
    subst e3
    cases r with
    | cons r1 r2 =>
      obtain ⟨b1, x1⟩ := Rep.reads I sub h e1 r1
      obtain ⟨b2, x2⟩ := Reps.reads I sub q e2 r2
      exact ⟨_, .cons x1 x2⟩
end
theorem eqD_at (I : L2.Inv X pins σ H s) (sub : Same S H) {x y : V} {t u : T} {v w : Value} {b : Bool} {A : Around} (hx : Rep X.K S as x t) (hy : Rep X.K S as y u) (rx : RelV x v) (ry : RelV y w) (e : eqD t u = some b) (hu : A.units + 40 < cLine) : SeqAt.EqAt A s v w b := by
  obtain ⟨dx, dy, e1, e2, hd, rfl⟩ := eqD_inv e
  obtain ⟨b1, x1⟩ := hx.reads I sub e1 rx
  obtain ⟨b2, x2⟩ := hy.reads I sub e2 ry
  exact SeqAt.eqAt_reads dx dy A s v w b1 b2 x1 x2 (dat_lay _ e1) (dat_lay _ e2) (by have := Nat.min_le_left dx.depth dy.depth; omega)
theorem keqHits (I : L2.Inv X pins σ H s) (sub : Same S H) {A : Around} (hu : A.units + 40 < cLine) {kb : List (L2.Key × V)} {ub : List (L2.Key × T)} {wb : List (L2.Key × Value)} (rb : RepK X.K S as kb ub) (vb : KV kb wb) :
    ∀ {ka : List (L2.Key × V)} {ua : List (L2.Key × T)} {wa : List (L2.Key × Value)} {r : Bool}, RepK X.K S as ka ua → KV ka wa → eqKs ua ub = some r → PySem.W.KeqHits A s wb wa r
  | _, _, _, _, .nil, va, e => by
    simp only [eqKs] at e; cases e
    cases va
    exact .nil
  | _, _, _, _, .cons (k := k) h q, va, e => by
    simp only [eqKs] at e
    cases va with
    | @cons _ p2 _ _ hp hr =>
      obtain ⟨pk, pv⟩ := p2
      obtain ⟨ek, rv⟩ := hp
      dsimp only at ek rv
      subst ek
      rcases rb.get k with ⟨z, t', a1, a2, a3⟩ | ⟨a1, a2⟩
      · rw [a2] at e
        dsimp only at e
        have rel := KV.val vb k
        rw [a1] at rel
        obtain ⟨w', hw, rw'⟩ := RelO.some_of rel
        split at e
        · rename_i eb he
          obtain ⟨b', e1, e2⟩ := Option.map_eq_some_iff.mp e
          subst e2
          exact .hit hw (eqD_at I sub h a3 rv rw' he hu) (keqHits I sub hu rb vb q hr e1)
        · cases e
      · rw [a2] at e
        cases e
        have rel := KV.val vb k
        rw [a1] at rel
        exact .miss (RelO.none_of rel)
end
noncomputable section
variable {X : Cx}
theorem opT_eqGen {op : CmpOp} {neg : Bool} (hop : (op = .Eq ∧ neg = false) ∨ (op = .NotEq ∧ neg = true)) {g : T → T → Option T} (hg : ∀ t u w, g t u = some w → ∃ b, eqT t u = some b ∧ w = .bl (xor neg b)) (hu : X.A.units + 64 < cLine) : OpT X (compareOp op) g := by
  intro pins s σ H x y v u Q I rx ry ⟨S, as, t, t2, w, sub, ht, hu2, hf, q⟩
  obtain ⟨b, e, rfl⟩ := hg _ _ _ hf
  have fin : EP X pins σ Q (.bool (xor neg b)) s := ⟨.bl (xor neg b), H, I, rfl, q _ H S (Ext.refl sub) (.bl _)⟩
  rcases eqT_inv e with ⟨xs, ys, rfl, rfl, hd⟩ | he
  · cases ht with
    | @dic a kvs _ g1 g2 =>
      cases hu2 with
      | @dic a' kvs' _ k1 k2 =>
        cases rx
        cases ry
        obtain ⟨z, hs, vs, rel, dd⟩ := dk_rd I.hok (rd_mono sub g1)
        obtain ⟨z', hs', vs', rel', dd'⟩ := dk_rd I.hok (rd_mono sub k1)
        have l1 : vs.length = xs.length := by rw [← rel.length]; exact g2.length
        have l2 : vs'.length = ys.length := by rw [← rel'.length]; exact k2.length
        have hu1 : X.A.in1.units + 40 < cLine := by show X.A.units + 1 + 40 < cLine; omega
        rcases hd with ⟨hl, eb⟩ | ⟨hl, rfl⟩
        · have hits : vs.length = vs'.length → PySem.W.KeqHits X.A.in1 s vs' vs b := fun _ => keqHits I sub hu1 k2 rel' g2 rel eb
          have el : (vs.length == vs'.length) = true := by rw [l1, l2, hl]; exact beq_self_eq_true _
          rcases hop with ⟨rfl, rfl⟩ | ⟨rfl, rfl⟩
          · refine PySem.W.keq_eq hs hs' dd dd' (by omega) hits ?_
            rw [el]; simpa using fin
          · refine PySem.W.keq_ne hs hs' dd dd' (by omega) hits ?_
            rw [el]; simpa using fin
        · have hits : vs.length = vs'.length → PySem.W.KeqHits X.A.in1 s vs' vs true := fun h => absurd (by rw [← l1, ← l2]; exact h) hl
          have el : (vs.length == vs'.length) = false := by rw [l1, l2]; exact beq_eq_false_iff_ne.mpr hl
          rcases hop with ⟨rfl, rfl⟩ | ⟨rfl, rfl⟩
          · refine PySem.W.keq_eq hs hs' dd dd' (by omega) hits ?_
            rw [el]; simpa using fin
          · refine PySem.W.keq_ne hs hs' dd dd' (by omega) hits ?_
            rw [el]; simpa using fin
  · obtain ⟨dx, dy, e1, e2, hd, rfl⟩ := eqD_inv he
    obtain ⟨b1, x1⟩ := ht.reads I sub e1 rx
    obtain ⟨b2, x2⟩ := hu2.reads I sub e2 ry
    have hm : X.A.units + min dx.depth dy.depth < cLine := by have := Nat.min_le_left dx.depth dy.depth; omega
    rcases hop with ⟨rfl, rfl⟩ | ⟨rfl, rfl⟩
    · exact SeqAt.compareEq_reads x1 x2 (dat_lay _ e1) (dat_lay _ e2) hm (by simpa using fin)
    · exact SeqAt.compareNe_reads x1 x2 (dat_lay _ e1) (dat_lay _ e2) hm (by simpa using fin)
theorem opT_eq (hu : X.A.units + 64 < cLine) : OpT X (compareOp .Eq) eqO := opT_eqGen (.inl ⟨rfl, rfl⟩) (fun t u w h => by
  unfold eqO at h
  split at h
  · rename_i b e; cases h; exact ⟨b, e, by simp⟩
  · cases h) hu
theorem opT_ne (hu : X.A.units + 64 < cLine) : OpT X (compareOp .NotEq) neO := opT_eqGen (.inr ⟨rfl, rfl⟩) (fun t u w h => by
  unfold neO at h
  split at h
  · rename_i b e; cases h; exact ⟨b, e, by simp⟩
  · cases h) hu
open Classical in
noncomputable def eqBy (h : Heap) (dx : PyData) (y : Value) : Bool := if e : ∃ d bs, Reads h y d bs ∧ d.canLay0 = true then PyData.eqv (Classical.choose e) dx else false
theorem eqBy_eq {h : Heap} {dx d : PyData} {y : Value} {bs : List Addr} (r : Reads h y d bs) (l : d.canLay0 = true) : eqBy h dx y = PyData.eqv d dx := by
  have e : ∃ d bs, Reads h y d bs ∧ d.canLay0 = true := ⟨d, bs, r, l⟩
  unfold eqBy
  rw [dif_pos e]
  obtain ⟨bs', r', l'⟩ := Classical.choose_spec e
  rw [SeqAt.Reads.unique _ _ _ _ _ l' r' r]
theorem inL_at {pins : List (Addr × Obj)} {σ : L2.St} {H S : Hp} {s : Shared} {as : List Addr} {A : Around} (I : L2.Inv X pins σ H s) (sub : Same S H) (hu : A.units + 40 < cLine) {x : V} {t : T} {v : Value} {dx : PyData} (hx : Rep X.K S as x t) (rx : RelV x v) (ex : dat t = some dx) :
    ∀ {vs : List V} {ts : List T} {us : List Value} {b : Bool}, Reps X.K S as vs ts → Vals vs us → inL t ts = some b → (∀ y ∈ us, SeqAt.EqAt A s y v (eqBy s.heap dx y)) ∧ us.any (eqBy s.heap dx) = b
  | _, _, _, _, .nil, r, e => by simp only [inL] at e; cases e; cases r; exact ⟨fun y h => (nomatch h), rfl⟩
  | _, _, _, _, .cons h q, r, e => by
    simp only [inL] at e
    cases r with
    | @cons _ u1 _ us1 r1 r2 =>
      split at e
      · rename_i eb he
        obtain ⟨b', e1, e2⟩ := Option.map_eq_some_iff.mp e
        subst e2
        obtain ⟨i1, i2⟩ := inL_at I sub hu hx rx ex q r2 e1
        obtain ⟨dy, dx', f1, f2, hd, rfl⟩ := eqD_inv he
        rw [ex] at f2; cases f2
        obtain ⟨b1, x1⟩ := h.reads I sub f1 r1
        have hb := eqBy_eq (dx := dx) x1 (dat_lay _ f1)
        refine ⟨fun y hy => ?_, by rw [List.any_cons, i2, hb]⟩
        rcases List.mem_cons.mp hy with rfl | hy -- here
        · rw [hb]; exact eqD_at I sub h hx r1 rx he hu
        · exact i1 y hy
      · cases e
theorem inT_inv {t u w : T} (h : inT t u = some w) : (∃ ys b, (u = .tup ys ∨ u = .lst ys) ∧ inL t ys = some b ∧ (dat t).isSome = true ∧ w = .bl b) ∨ (∃ kvs q, u = .dic kvs ∧ keyOf t = some q ∧ w = .bl (dGet q kvs).isSome) := by
  unfold inT at h
  split at h
  · obtain ⟨q, e1, e2⟩ := Option.map_eq_some_iff.mp h
    exact .inr ⟨_, q, rfl, e1, e2.symm⟩
  · split at h
    · rename_i hd
      split at h
      · obtain ⟨b, e1, e2⟩ := Option.map_eq_some_iff.mp h; exact .inl ⟨_, b, .inl rfl, e1, hd, e2.symm⟩
      · obtain ⟨b, e1, e2⟩ := Option.map_eq_some_iff.mp h; exact .inl ⟨_, b, .inr rfl, e1, hd, e2.symm⟩
      · cases h
    · cases h
theorem opT_inGen {op : CmpOp} {neg : Bool} (hop : (op = .In ∧ neg = false) ∨ (op = .NotIn ∧ neg = true)) {g : T → T → Option T} (hg : ∀ t u w, g t u = some w → ∃ w', inT t u = some w' ∧ ∃ b, w' = .bl b ∧ w = .bl (xor neg b)) (hu : X.A.units + 64 < cLine) : OpT X (compareOp op) g := by
  intro pins s σ H x y v u Q I rx ry ⟨S, as, t, t2, w, sub, ht, hu2, hf, q⟩
  obtain ⟨w', ei, b0, rfl, rfl⟩ := hg _ _ _ hf
  rcases inT_inv ei with ⟨ys, b, hy, e, hdt, eb⟩ | ⟨kvs, qk, rfl, ek, eb⟩
  · cases eb
    obtain ⟨dx, ex⟩ := Option.isSome_iff_exists.mp hdt
    have fin : EP X pins σ Q (.bool (xor neg b0)) s := ⟨.bl (xor neg b0), H, I, rfl, q _ H S (Ext.refl sub) (.bl _)⟩
    have hu1 : X.A.in1.units + 40 < cLine := by show X.A.units + 1 + 40 < cLine; omega
    rcases hy with rfl | rfl
    · cases hu2 with
      | @tup a vs _ g1 g2 =>
        cases ry
        obtain ⟨its, r, p, hz⟩ := I.tuple (sqT_mono sub g1)
        obtain ⟨i1, i2⟩ := inL_at I sub hu1 ht rx ex g2 r e
        have he : ∀ y, y ∈ its.toArray → SeqAt.EqAt X.A.in1 s y v (eqBy s.heap dx y) := fun y hy => i1 y (by simpa using hy)
        have ha : its.toArray.any (eqBy s.heap dx) = b0 := by rw [← i2]; simp
        rcases hop with ⟨rfl, rfl⟩ | ⟨rfl, rfl⟩
        · exact SeqAt.in_tupleAt _ (show s.heap.IsTuple a its.toArray from p) he (by rw [ha]; simpa using fin)
        · exact SeqAt.notIn_tupleAt _ (show s.heap.IsTuple a its.toArray from p) he (by rw [ha]; simpa using fin)
    · cases hu2 with
      | @lst a vs _ g1 g2 =>
        cases ry
        obtain ⟨its, r, p, hz⟩ := I.list (sqL_mono sub g1)
        obtain ⟨i1, i2⟩ := inL_at I sub hu1 ht rx ex g2 r e
        have he : ∀ y, y ∈ its.toArray → SeqAt.EqAt X.A.in1 s y v (eqBy s.heap dx y) := fun y hy => i1 y (by simpa using hy)
        have ha : its.toArray.any (eqBy s.heap dx) = b0 := by rw [← i2]; simp
        rcases hop with ⟨rfl, rfl⟩ | ⟨rfl, rfl⟩
        · exact SeqAt.in_listAt _ p.isList he (by rw [ha]; simpa using fin)
        · exact SeqAt.notIn_listAt _ p.isList he (by rw [ha]; simpa using fin)
  · cases eb
    cases hu2 with
    | @dic a kv _ g1 g2 =>
      cases ry
      have ey := kV_of ht ek
      subst ey
      have hs : (dGet qk kvs).isSome = (valV kv qk).isSome := by
        rcases g2.get qk with ⟨z, t', a1, a2, _⟩ | ⟨a1, a2⟩
        · simp [a1, a2]
        · simp [a1, a2]
      rw [hs] at q
      have gd : DGet H a (kV qk) (valV kv qk) := .inl ⟨kv, qk, rd_mono sub g1, rfl, rfl⟩
      rcases hop with ⟨rfl, rfl⟩ | ⟨rfl, rfl⟩
      · exact d_in (by omega) I gd rx fun s' I' => ⟨.bl _, H, I', rfl, by simpa using q _ H S (Ext.refl sub) (.bl _)⟩
      · exact d_notIn (by omega) I gd rx fun s' I' => ⟨.bl _, H, I', rfl, by simpa using q _ H S (Ext.refl sub) (.bl _)⟩
theorem opT_in (hu : X.A.units + 64 < cLine) : OpT X (compareOp .In) inT := opT_inGen (.inl ⟨rfl, rfl⟩) (fun t u w h => by
  rcases inT_inv h with ⟨ys, b, h1, h2, h3, rfl⟩ | ⟨kvs, q, rfl, h2, rfl⟩
  · exact ⟨_, h, b, rfl, by simp⟩
  · exact ⟨_, h, _, rfl, by simp⟩) hu
theorem opT_notIn (hu : X.A.units + 64 < cLine) : OpT X (compareOp .NotIn) notInT := opT_inGen (.inr ⟨rfl, rfl⟩) (fun t u w h => by
  unfold notInT at h
  split at h
  · rename_i b e
    cases h
    exact ⟨_, e, b, rfl, by simp⟩
  · cases h) hu
end
end C
end
noncomputable section
set_option linter.all false
set_option maxRecDepth 100000
set_option maxHeartbeats 4000002
set_option autoImplicit false
namespace C
open PySem PySem.Spec PyProof.Rows L2
noncomputable def spFF (K : PySem.W.Frag) (ar : Nat) (F : Fn) : Sp := fun vs H Q _ => ∃ S as sto ts t sto', Same S H ∧ StoOk K S as H sto ∧ Reps K S as vs ts ∧ ts.length = ar ∧ F ts sto = some (t, sto') ∧
  ∀ p H' S' as', Grow ⟨S, as, H⟩ S' as' H' → Same S' H' → StoOk K S' as' H' sto' → OwnAt K ⟨S, as, H⟩ S' as' H' p t → Q (.ref p) H'
noncomputable section
variable {X : Cx} {B : Bas} {a b c e : Expr} {m m1 m2 : M T} {pos p : Pos} {u v : S} {es : List Expr} {ms : M (List T)} {k n : Nat} {f : Addr} {fd : FuncData} {pn : List Str} {F : Fn} {x : Str}
end
noncomputable def DefOkF (P : Program) (w : World) (K : PySem.W.Frag) (mg : Str → Option Value) (base : Heap) (x : Str) (k : Nat) (ps : List Str) (F : Fn) : Prop :=
  ∃ f fd, FnOk P w K mg base CX0 k f fd ps (spFF K ps.length F) ∧ Binds K fd ps [] ∧ PySem.W.keepIn K (.ref f) = true ∧ mg x = some (.ref f)
theorem DefOkF.mono {P : Program} {w : World} {K : PySem.W.Frag} {mg : Str → Option Value} {base : Heap} {x : Str} {j k : Nat} {ps : List Str} {F : Fn} (d : DefOkF P w K mg base x j ps F) (h : j ≤ k) : DefOkF P w K mg base x k ps F := by
  obtain ⟨f, fd, h1, h2⟩ := d
  exact ⟨f, fd, h1.mono h, h2⟩
noncomputable section
variable {X : Cx} {B : Bas} {a b c e : Expr} {m m1 m2 : M T} {pos p : Pos} {es : List Expr} {ms : M (List T)} {n : Nat} {pn : List Str} {F : Fn} {x : Str}
end
noncomputable section
variable {P : Program} {w : World} {K : PySem.W.Frag} {mg : Str → Option Value} {base : Heap}
end
end C
end
noncomputable section
set_option linter.all false
set_option maxRecDepth 100000
set_option maxHeartbeats 4000002
set_option autoImplicit false
namespace C
open PySem PySem.Spec PyProof.Rows L2
noncomputable section
variable {X : Cx} {B : Bas} {a b c e : Expr} {m m1 m2 : M T} {pos p p2 pos2 : Pos}
noncomputable def gNames : List Nat → TGs
  | [] => gNil
  | i :: is => gCons (gName i) (gNames is)
theorem names_ok {K : PySem.W.Frag} {H S : Hp} {as : List Addr} {ps : List (V × T)} : ∀ (is : List Nat) {vs : List V} {xs : List T} {st : Sta} {σ : L2.St} {Q : L2.St → Hp → Prop}, Rel K B st σ H ps S as → Reps K S as vs xs → xs.length = is.length →
    (∀ σ', Rel K B ((is.zip xs).foldl (fun s p => putSlot p.1 p.2 false s) st) σ' H ps S as → Q σ' H) → gNames is vs σ H Q
  | [], _, _, _, _, _, R, .nil, _, q => ⟨rfl, q _ R⟩
  | i :: is, _, _, _, _, _, R, .cons r rs, hl, q => ⟨_, _, rfl, names_ok is (R.put (i := i) r) rs (by simpa using hl) q⟩
  | [], _, _, _, _, _, _, .cons _ _, hl, _ => by simp at hl
  | _ :: _, _, _, _, _, _, _, .nil, hl, _ => by simp at hl
theorem tg_tup {is : List Nat} {tg : Expr} (h : PG X tg (gTup X.K is.length (gNames is))) : PG X tg (gOf X.K B (hTup is)) := fun pins s σ H x u Q I r ⟨st, ps, S, as, t, R, st', e, q⟩ => h pins s σ H x u Q I r (by
  have top := R.top
  cases t with
  | tup xs =>
    cases top with
    | @tup a vs _ g1 g2 =>
      simp only [hTup] at e
      split at e
      · rename_i hl
        cases e
        exact ⟨a, vs, rfl, sqT_mono R.sub g1, by rw [g2.length]; exact hl, names_ok is R.drop g2 hl fun σ' R' => q σ' H S as R'⟩
      · cases e
  | _ => simp only [hTup, reduceCtorEq] at e)
end
end C
namespace C
open PySem PySem.Spec PyProof.Rows L2
theorem law_sp {K : PySem.W.Frag} {F : Fn} {H : Hp} {a : Addr} {ns : List Int} (hS : SqL K H a (ns.map V.int)) (hF : F [.lst (ns.map T.int)] [] = some (.bl true, [])) : spF K 1 F [.ref a] H (fun v _ => v = .bl true) fun _ _ _ => False := by
  have reps : ∀ (S : Hp) (l : List Int), Reps K S [] (l.map V.int) (l.map T.int) := fun S l => by
    induction l with
    | nil => exact .nil
    | cons x l ih => exact .cons (.int x) ih
  let S : Hp := fun p => if p = a then H p else none
  have sa : S a = H a := if_pos rfl
  have sub : Same S H := fun p u h => by
    by_cases e : p = a
    · subst e; rw [← sa]; exact h
    · have : S p = none := if_neg e
      rw [this] at h; cases h
  have sq : SqL K S a (ns.map V.int) := by
    rcases hS with h | h
    · refine .inl ?_
      unfold Rd at h ⊢
      rw [sa]; exact h
    · exact .inr h
  refine ⟨S, [], [], [.lst (ns.map T.int)], .bl true, [], sub, ⟨rfl, .nil, fun n so e => by simp at e⟩, .cons (.lst sq (reps S ns)) .nil, rfl, hF, fun v H' S' as' _ _ _ r => ?_⟩
  cases r
  rfl
end C
end
noncomputable section
set_option autoImplicit false
namespace C
open PySem
noncomputable def whileN : Nat → M Bool → S → S
  | 0, _, _ => fun _ => none
  | n + 1, c, b => fun s => match c s with
    | some (false, s1) => some (.next, s1)
    | some (true, s1) => match b s1 with
      | some (.next, s2) => whileN n c b s2
      | some (.cont, s2) => whileN n c b s2
      | some (.brk, s2) => some (.next, s2)
      | some (.ret v, s2) => some (.ret v, s2)
      | none => none
    | none => none
noncomputable def sPop (i j : Nat) : S := fun s => match s.env[i]? with
  | some (some (.lst xs, true)) => match xs[xs.length - 1]? with
    | some t => some (.next, putSlot j t false (putSlot i (.lst xs.dropLast) true s))
    | none => none
  | _ => none
noncomputable def intT : List T → Option T
  | [.int i] => some (.int i)
  | [.bl k] => some (.int (if k then 1 else 0))
  | _ => none
end C
end
noncomputable section
set_option autoImplicit false
namespace C
open PySem
noncomputable def sIx (n d : Nat) : Option Int → Nat
  | none => d
  | some v => if v < 0 then (v + (n : Int)).toNat else min v.toNat n
noncomputable def cutl (xs : List T) (lo hi : Option Int) : List T := (xs.drop (sIx xs.length 0 lo)).take (sIx xs.length xs.length hi - sIx xs.length 0 lo)
noncomputable def cutX (lo hi : Option Int) : T → Option T
  | .lst xs => some (.lst (cutl xs lo hi))
  | .tup xs => if sIx xs.length 0 lo = 0 ∧ sIx xs.length xs.length hi = xs.length then none else some (.tup (cutl xs lo hi))
  | _ => none
noncomputable def oNone : M (Option Int) := fun s => some (none, s)
noncomputable def oSome (e : M T) : M (Option Int) := fun s => match e s with
  | some (.int i, s1) => some (some i, s1)
  | _ => none
noncomputable def mSlice (m : M T) (lo hi : M (Option Int)) : M T := fun s => match m s with
  | some (t, s1) => match lo s1 with
    | some (l, s2) => match hi s2 with
      | some (h, s3) => match cutX l h t with
        | some u => some (u, s3)
        | none => none
      | none => none
    | none => none
  | none => none
noncomputable def mOwnIx (i : Nat) (k : M T) : M T := fun s => if lstAt i s then (match k s with
  | some (.int j, s1) => match s1.env[i]? with
    | some (some (.lst xs, _)) => match (ixI xs.length j).bind (xs[·]?) with
      | some t => some (t, s1)
      | none => none
    | _ => none
  | _ => none) else none
end C
end
noncomputable section
set_option linter.all false
set_option autoImplicit false
namespace C
open PySem
end C
end
noncomputable section
set_option linter.all false
set_option autoImplicit false
namespace C
open PySem
noncomputable def tabT (tbl : List (Str × Str)) : T → Option T
  | .str x => (tbl.lookup x).map .str
  | _ => none
noncomputable def rangeT2 (lo : Int) (n : Nat) : List T := (List.range n).map fun (k : Nat) => .int (lo + (k : Int))
noncomputable def iRange2 (a b : M T) : M (List T) := fun s => match a s with
  | some (.int lo, s1) => match b s1 with
    | some (.int hi, s2) => if lo.natAbs < lim ∧ hi.natAbs < lim then some (rangeT2 lo (hi - lo).toNat, s2) else none
    | _ => none
  | _ => none
noncomputable def trevT : T → Option T
  | .lst xs => some (.tup xs.reverse)
  | _ => none
noncomputable def mOwnAdd (i : Nat) (m : M T) : M T := fun s => if lstAt i s then (match m s with
  | some (.lst ys, s1) => match s1.env[i]? with
    | some (some (.lst xs, _)) => if xs.length + ys.length < lim then some (.lst (xs ++ ys), s1) else none
    | _ => none
  | _ => none) else none
noncomputable def mOwnSl (i : Nat) (lo hi : M (Option Int)) : M T := fun s => if lstAt i s then (match lo s with
  | some (l, s1) => match hi s1 with
    | some (h, s2) => match s2.env[i]? with
      | some (some (.lst xs, _)) => some (.lst (cutl xs l h), s2)
      | _ => none
    | none => none
  | none => none) else none
noncomputable def dispT2 (k1 k2 : Str) : List T → Option T
  | [a, b] => some (.dic [(.inr k1, a), (.inr k2, b)])
  | _ => none
end C
end
noncomputable section
set_option linter.all false
set_option maxRecDepth 100000
set_option maxHeartbeats 4000002
set_option autoImplicit false
namespace C
open PySem PySem.Spec PyProof.Rows L2
noncomputable section
variable {X : Cx} {B : Bas} {a b c e lo hi : Expr} {m m1 m2 ml mh : M T} {pos p p2 : Pos}
theorem isNon_iff {K : PySem.W.Frag} {S : Hp} {as : List Addr} {x : V} {t : T} (r : Rep K S as x t) : decide (x = V.non) = isNon t := by
  cases r <;> rfl
theorem isNon_eq {K : PySem.W.Frag} {S : Hp} {as : List Addr} {x : V} {t : T} (r : Rep K S as x t) (h : isNon t = true) : x = .non := by
  cases r <;> first | rfl | cases h
theorem opT_is : OpT X (compareOp .Is) isNT := by
  intro pins s σ H x y v u Q I rx ry ⟨S, as, t, t2, w, sub, ht, hu2, hf, q⟩
  unfold isNT at hf
  split at hf
  · rename_i hn; cases hf
    exact op_isN pins s σ H x y v u Q I rx ry ⟨isNon_eq hu2 hn, by rw [isNon_iff ht]; exact q _ H S (Ext.refl sub) (.bl _)⟩
  · cases hf
theorem Reps.take {K : PySem.W.Frag} {S : Hp} {as : List Addr} : ∀ (n : Nat) {vs : List V} {ts : List T}, Reps K S as vs ts → Reps K S as (vs.take n) (ts.take n)
  | 0, _, _, _ => .nil
  | _ + 1, _, _, .nil => .nil
  | n + 1, _, _, .cons h r => .cons h (Reps.take n r)
end
end C
end
noncomputable section
set_option linter.all false
set_option maxRecDepth 100000
set_option maxHeartbeats 4000002
set_option autoImplicit false
namespace C
open PySem PySem.Spec PyProof.Rows L2
noncomputable section
variable {X : Cx} {B : Bas} {a b c e o k : Expr} {m mo mk mv : M T} {pos p : Pos}
end
end C
end
noncomputable section
set_option linter.all false
set_option maxRecDepth 100000
set_option maxHeartbeats 4000002
set_option autoImplicit false
namespace C
open PySem PySem.Spec PyProof.Rows L2
noncomputable section
variable {X : Cx} {B : Bas} {pins : List (Addr × Obj)} {σ : L2.St} {H S : Hp} {s : Shared} {as : List Addr} {Q : VK}
theorem gather {R : List Value → Shared → Prop} {A : Around} {E : Value → Shared → Prop} {T : String} {r d : Addr} {n : Nat} {P : Nat → Value → Prop} {OK : Heap → Prop} (KS : PySem.W.KdlSrc X.prog X.w T r d n P OK) (nh : A.handled = none) (ok0 : OK s.heap) (sz : n ≤ sizeLine)
    (k : ∀ (h1 : Heap) (tk : Nat) (got : Array Value), s.heap.objs.size < h1.objs.size → (∀ b o, s.heap.get? b = some o → h1.get? b = some o) → ItemsOf P got n → R got.toList { s with heap := h1, toks := tk }) :
    wpAny (model X.prog X.w) A (collect (.ref r)) R E s := by
  have lt0 := KS.there _ ok0
  unfold collect
  refine wpAny_bind (wpAny_runValue
    (codeAny_builtin entry_proto_collect' ?_))
  rw [Around.under_plainId
    PySem.F.plain_proto_collect _]
  show wpAny _ A.in1 (newList [] >>= fun z => again (.builtin "list.__iadd__" ⟨[z, .ref r], []⟩)) _ _ s
  refine wpAny_bind (wpAny_newObj_type (wpAny_pure ⟨plainId_quiet PySem.F.plain_list_iadd _, codeAny_builtin entry_list_iadd' ?_⟩))
  rw [Around.under_plainId
    PySem.F.plain_list_iadd _]
  change wpAny _ A.in1 (Builtin.List.listExtendWith (.ref s.heap.objs.size) (.ref r) (.ref s.heap.objs.size)) _ _ _
  have new0 : (s.heap.push { cls := .type "list", data := .seq ([] : List Value).toArray }).get? s.heap.objs.size = some { cls := .type "list", data := .seq #[] } := Heap.get?_push_size _ rfl
  have walk := PySem.W.kdl_extend (A := A) (s := { s with heap := s.heap.push { cls := .type "list", data := .seq ([] : List Value).toArray } })
    (R := fun (f : Result) (s1 : Shared) => ∃ (h1 : Heap) (tk : Nat) (got : Array Value) (c1 : Nat), f = .ok (.ret (.ref s.heap.objs.size)) ∧ s1 = { s with heap := h1, toks := tk } ∧ (∀ b o, s.heap.get? b = some o → h1.get? b = some o) ∧
      h1.get? s.heap.objs.size = some { cls := .type "list", dict := none, data := .seq got c1, slots := #[] } ∧ ItemsOf P got n)
    KS nh (KS.keep _ _ ok0 fun b _ o e => Heap.get?_push_of_some _ e) s.heap.objs.size (Nat.ne_of_gt lt0.1) (Nat.ne_of_gt lt0.2) (.ref s.heap.objs.size) 0 new0
    (fun h1 tk got c1 old at1 its => ⟨h1, tk, got, c1, rfl, rfl, fun b o e => old b o (Nat.ne_of_lt (Heap.lt_size e)) (Heap.get?_push_of_some _ e), at1, its⟩) sz
  have last : ∀ (h1 : Heap) (tk : Nat) (got : Array Value) (c1 : Nat), (∀ b o, s.heap.get? b = some o → h1.get? b = some o) → h1.get? s.heap.objs.size = some { cls := .type "list", dict := none, data := .seq got c1, slots := #[] } → ItemsOf P got n →
      wpAny (model X.prog X.w) A (load s.heap.objs.size >>= fun o => match o.data with | .seq xs _ => pure xs.toList | _ => unsupported "internal:collect") R E { s with heap := h1, toks := tk } :=
    fun h1 tk got c1 old at1 its => wpAny_bind (wpAny_load at1 (wpAny_pure (k h1 tk got (Heap.lt_size at1) old its)))
  refine wpAny_mono walk (fun fin s1 x => ?_) fun e s1 x => ?_
  · cases fin with
    | done f =>
      obtain ⟨h1, tk, got, c1, ef, rfl, old, at1, its⟩ := x
      cases ef
      exact last h1 tk got c1 old at1 its
    | again c =>
      refine ⟨x.1, codeAny_mono x.2 fun f s2 y => ?_⟩
      obtain ⟨h1, tk, got, c1, rfl, rfl, old, at1, its⟩ := y
      exact last h1 tk got c1 old at1 its
  · obtain ⟨_, _, _, _, ef, _⟩ := x
    cases ef
theorem sortedSrc {T : String} {r d : Addr} {n : Nat} {P : Nat → Value → Prop} {OK : Heap → Prop} {l : List Str} (KS : PySem.W.KdlSrc X.prog X.w T r d n P OK) (hc : X.calm = true) (I : L2.Inv X pins σ H s) (sub : Same S H) (hok : OK s.heap) (h64 : n < 64)
    (hi : ∀ vs : List Value, vs.length = n → (∀ (j : Nat) (v : Value), vs[j]? = some v → P j v) → ∃ l', StrsAre vs l' ∧ l'.Perm l)
    (q : ∀ v H' S', Ext S H S' H' → Rep X.K S' as v (.lst ((isort l).map .str)) → Q v H') : wpAny (model X.prog X.w) X.A (call (.builtin "sorted") [.ref r]) (EP X pins σ Q) X.xe s := by
  have hn : n ≤ sizeLine := Nat.le_trans (Nat.le_of_lt h64) (by rw [sizeLine_eq]; decide)
  refine Calls.call_function_entry kind_sorted plain_sorted
    entry_sorted (args_sorted1 _) ?_
  unfold Builtin.«sorted»
  refine wpAny_bind (m := checkCount "sorted" 1 1 _) (wpAny_pure (wpAny_bind ?_))
  refine (gather (A := X.A.in1) KS (show X.A.in1.handled = none from I.ok.hd hc) hok hn fun h' tk acc hlt hk hacc => ?_)
  have hl : acc.toList.length = n := Array.length_toList.trans hacc.1
  obtain ⟨l', hS, hp⟩ := hi acc.toList hl fun j v e => hacc.2 j v (by rw [← Array.getElem?_toList]; exact e)
  refine wpAny_bind (wpAny_newList ?_ (hl ▸ hn))
  have hoL : (h'.push (seqObj "list" acc.toList.toArray 0)).get? h'.objs.size = some (seqObj "list" acc.toList.toArray 0) := Heap.get?_push_size _ rfl
  refine wpAny_bind (wpAny_holding (wpAny_call_entry slot_list_sort ⟨_, hoL, rfl⟩ entry_list_sort (list_sort_treeK strKind_oneLt hoL hS.keysOf (fun v₁ v₂ rest e => keyKind_strs (by rw [← e]; exact hS)) (by rw [hl]; exact h64) fun st' a1 a2 => ⟨_, rfl, ?_⟩) (args_list_sort _)))
  refine wpAny_pure ⟨_, rfl, (?_ : EP X pins σ Q _ _)⟩
  obtain ⟨ss', b1, b2, b3⟩ := sorted_out_str hS a1 a2
  have es := isort_eq b3 (b2.trans hp)
  subst es
  have hle := Nat.le_of_lt hlt
  obtain ⟨e, he⟩ := sortedHeap_at (out := (arrOf st').map (·.2)) hoL
  have hsz : (List.map V.str (isort l)).length ≤ sizeLine := by
    rw [List.length_map, (isort_perm l).length_eq, ← hp.length_eq, ← hS.length, hl]
    exact hn
  have hnn : H h'.objs.size = none := I.hok.fresh hle
  have x := Ext.laid sub hnn (.lst ((isort l).map V.str))
  refine ⟨.ref h'.objs.size, _, I.laid (a := h'.objs.size) (o := .lst ((isort l).map V.str)) (t' := tk) (fun b u eb => ?_) hle ⟨hsz, _, e, vals_strs b1, he⟩, rfl, q _ _ _ x (.lst (SqL.of upd_same) (reps_strs _))⟩
  have hb := Heap.lt_size (hk _ _ eb)
  rw [sortedHeap_old (Nat.ne_of_lt hb) (by rw [Heap.size_push]; exact Nat.lt_succ_of_lt hb)]
  exact Heap.get?_push_of_some _ (hk _ _ eb)
theorem keys_strs : ∀ {kvs : List (L2.Key × V)} {ts : List (L2.Key × T)} {l : List Str}, kvs.map (·.1) = ts.map (·.1) → strsT (ts.map fun p => ofKey p.1) = some l → kvs.map (·.1) = l.map Sum.inr
  | [], [], l, _, h => by simp only [List.map_nil, strsT] at h; cases h; rfl
  | (k, v) :: kvs, (k2, t) :: ts, l, e, h => by
    simp only [List.map_cons, List.cons.injEq] at e
    obtain ⟨e1, e2⟩ := e
    subst e1
    cases k with
    | inl i => simp only [List.map_cons, ofKey, strsT, reduceCtorEq] at h
    | inr x =>
      simp only [List.map_cons, ofKey, strsT] at h
      obtain ⟨l', h1, h2⟩ := Option.map_eq_some_iff.mp h
      subst h2
      rw [List.map_cons, List.map_cons, keys_strs e2 h1]
theorem RepK.keys {K : PySem.W.Frag} {S : Hp} {as : List Addr} : ∀ {kvs : List (L2.Key × V)} {ts : List (L2.Key × T)}, RepK K S as kvs ts → kvs.map (·.1) = ts.map (·.1)
  | _, _, .nil => rfl
  | _, _, .cons h q => by rw [List.map_cons, List.map_cons, RepK.keys q]
theorem strs_of_keys {prog : Program} {w : World} : ∀ {vs : List (L2.Key × Value)} {us : List Value} {l : List Str}, vs.map (·.1) = l.map Sum.inr → us.length = vs.length → (∀ (j : Nat) (v : Value), us[j]? = some v → ∃ k x, vs[j]? = some (k, x) ∧ (mixKind prog w).is k v = true) → StrsAre us l
  | [], us, l, e, hl, h => by
    cases us with
    | cons _ _ => simp at hl
    | nil => cases l with
      | nil => exact .nil
      | cons _ _ => simp at e
  | (k, x) :: vs, us, l, e, hl, h => by
    cases us with
    | nil => simp at hl
    | cons u us =>
      cases l with
      | nil => simp at e
      | cons y l =>
        simp only [List.map_cons, List.cons.injEq] at e
        obtain ⟨e1, e2⟩ := e
        subst e1
        obtain ⟨k', x', h1, h2⟩ := h 0 u rfl
        simp only [List.getElem?_cons_zero, Option.some.injEq, Prod.mk.injEq] at h1
        obtain ⟨rfl, rfl⟩ := h1
        rw [mixKind_is] at h2
        have hu : ∃ t, u = .str y t := by
          rcases keyIs_shape h2 with ⟨i, t, e', _⟩ | ⟨z, t, e', hz⟩
          · cases e'
          · cases e'; exact ⟨t, hz⟩
        obtain ⟨t, rfl⟩ := hu
        exact .cons y t (strs_of_keys e2 (by simpa using hl) fun j v ev => by simpa using h (j + 1) v (by simpa using ev))
theorem callT_sorted (hc : X.calm = true) : CallT X (.builtin "sorted") sortedT := by
  intro pins s σ H xs us Q I rs ⟨S, as, ts, w, sub, hr, hf, q⟩
  cases hr with
  | nil => simp only [sortedT, reduceCtorEq] at hf
  | @cons x t xs' ts' h1 h2 =>
    cases h2 with
    | cons h3 h4 => cases h1 <;> simp only [sortedT, reduceCtorEq] at hf
    | nil =>
      cases h1 with
      | @lst a vs ts g1 g2 =>
        simp only [sortedT] at hf
        split at hf
        · rename_i h64
          obtain ⟨l, e1, e2⟩ := Option.map_eq_some_iff.mp hf
          subst e2
          exact callT_sortedL pins s σ H _ us Q I rs ⟨S, as, ts, l, sub, .cons (.lst g1 g2) .nil, h64, e1, q⟩
        · cases hf
      | @dic a kvs ts g1 g2 =>
        simp only [sortedT] at hf
        split at hf
        · rename_i h64
          obtain ⟨l, e1, e2⟩ := Option.map_eq_some_iff.mp hf
          subst e2
          obtain ⟨u, rfl, ru⟩ := rs.one
          cases ru
          obtain ⟨z, hd, vs, rel, dd⟩ := dk_rd I.hok (rd_mono sub g1)
          obtain ⟨ep, hat⟩ := dd.dictAt
          have hlen : vs.length = ts.length := by rw [← rel.length]; exact g2.length
          have hk := keys_strs g2.keys e1
          rw [KV.keys rel] at hk
          exact sortedSrc (PySem.W.kdl_dict (knd := mixKind X.prog X.w) (kvs := vs) (ep := ep) hd) hc I sub hat (by rw [hlen]; exact h64) (fun us hl hp => ⟨l, strs_of_keys hk hl hp, .refl _⟩) q
        · cases hf
      | _ => simp only [sortedT, reduceCtorEq] at hf
end
end C
end
noncomputable section
set_option linter.all false
set_option maxRecDepth 100000
set_option maxHeartbeats 4000002
set_option autoImplicit false
namespace C
open PySem PySem.Spec PyProof.Rows L2
noncomputable section
variable {prog : Program} {w : World} {A : Around} {E : Value → Shared → Prop} {s : Shared}
theorem keys_miss_list : typeLookup (.type "list") "keys" = pure none := am_miss_of_fast (by decide +kernel)
theorem keys_list {l : Addr} {xs : Array Value} {k : Nat} {sl : Array (Option Value)} {Q : Option Value → Shared → Prop} (hx : s.heap.get? l = some { cls := .type "list", dict := none, data := .seq xs k, slots := sl }) (nh : A.handled = none)
    (h : ∀ h' tk e, Heap.NewExcOf s.heap h' e "AttributeError" → Q none { s with heap := h', toks := tk }) : wpAny (model prog w) A (getAttr? (.ref l) "keys") Q E s := by
  obtain ⟨h0, g0, d0, tk, os⟩ := s
  have hT : ∀ tk', (⟨h0, g0, d0, tk', os⟩ : Shared).TypeIs (.ref l) "list" := fun _ => ⟨_, hx, rfl⟩
  have g1 := sub_AttributeError
  have g3 := F.slot_list_getattribute.lookup
  have g4 := F.slot_list_getattribute.bind (.ref l)
  have g5 := am_list_getattr_none
  unfold getAttr?
  unfold getAttrBy?
  unfold getAttrBy
  repeat (any_goals (first | assumption | exact hT _ | ((with_reducible show wpAny _ _ (call (Value.builtin "list.__getattribute__") _ _) _ _ _); refine call_meets F.slot_list_getattribute (hT _) am_entry_list_getattribute (F.args_list_getattribute_2 _ _) (meets_getattribute_miss_list l xs k sl "keys" _ keys_miss_list (by decide +kernel)) ⟨hx, nh, fun h' tk' e y => ?_⟩) | wp_step))
  obtain ⟨t', u', he⟩ := y.there
  change wpAny _ _ (getattributeRaised _ _ _ _ _ _ _) _ _ _
  unfold getattributeRaised
  repeat (any_goals first | assumption | wp_step)
  exact h _ _ _ y.of
theorem keys_miss_tuple : typeLookup (.type "tuple") "keys" = pure none := am_miss_of_fast (by decide +kernel)
theorem keys_tuple {l : Addr} {xs : Array Value} {k : Nat} {sl : Array (Option Value)} {Q : Option Value → Shared → Prop} (hx : s.heap.get? l = some { cls := .type "tuple", dict := none, data := .seq xs k, slots := sl }) (nh : A.handled = none)
    (h : ∀ h' tk e, Heap.NewExcOf s.heap h' e "AttributeError" → Q none { s with heap := h', toks := tk }) : wpAny (model prog w) A (getAttr? (.ref l) "keys") Q E s := by
  obtain ⟨h0, g0, d0, tk, os⟩ := s
  have hT : ∀ tk', (⟨h0, g0, d0, tk', os⟩ : Shared).TypeIs (.ref l) "tuple" := fun _ => ⟨_, hx, rfl⟩
  have g1 := sub_AttributeError
  have g3 := F.slot_tuple_getattribute.lookup
  have g4 := F.slot_tuple_getattribute.bind (.ref l)
  have g5 := am_tuple_getattr_none
  unfold getAttr?
  unfold getAttrBy?
  unfold getAttrBy
  repeat (any_goals (first | assumption | exact hT _ | ((with_reducible show wpAny _ _ (call (Value.builtin "tuple.__getattribute__") _ _) _ _ _); refine call_meets F.slot_tuple_getattribute (hT _) am_entry_tuple_getattribute (F.args_tuple_getattribute_2 _ _) (meets_getattribute_miss_tuple l xs k sl "keys" _ keys_miss_tuple (by decide +kernel)) ⟨hx, nh, fun h' tk' e y => ?_⟩) | wp_step))
  obtain ⟨t', u', he⟩ := y.there
  change wpAny _ _ (getattributeRaised _ _ _ _ _ _ _) _ _ _
  unfold getattributeRaised
  repeat (any_goals first | assumption | wp_step)
  exact h _ _ _ y.of
end
end C
end
noncomputable section
set_option linter.all false
set_option maxRecDepth 100000
set_option maxHeartbeats 4000002
set_option autoImplicit false
namespace C
open PySem PySem.Spec PyProof.Rows L2
theorem seqItems_at {prog : Program} {w : World} {A : Around} {E : Value → Shared → Prop} {s : Shared} {t : Addr} {o : Obj} {xs : Array Value} {m : Nat} {Q : Option (Array Value) → Shared → Prop} (h : s.heap.get? t = some o) (hd : o.data = .seq xs m) (q : Q (some xs) s) : wpAny (model prog w) A (seqItems? (.ref t)) Q E s := by
  show wpAny _ A (load t >>= fun o => match o.data with | .seq xs _ => pure (some xs) | _ => pure none) _ _ s
  refine wpAny_bind (wpAny_load h ?_)
  rw [hd]
  exact wpAny_pure q
theorem entry_update_loop : entryFor table "dict.update.loop" = some Builtin.«dict.update.loop» := entryFor_of_tree (by kernel_rfl)
theorem plain_update_loop : plainId "dict.update.loop" = true := by decide +kernel
noncomputable section
variable {prog : Program} {w : World} {A : Around} {R : Result → Shared → Prop} {I : Addr} {fp wr : List Addr} {G : Array GenState → Array GenState → Prop} {n : Nat} {P : Nat → Value → Prop} {St : Nat → Shared → Prop} {κ : Type} [DecidableEq κ] {knd : PySem.KeyKind prog w κ}
theorem upd_loop (W : WalksS prog w A.in1 I fp wr G n P St) (D : Addr) (hDf : D ∉ fp) (result : Value) (h0 : Heap) (kvs : Nat → List (κ × Value)) (key : Nat → κ) (val : Nat → Value) (hs : ∀ i, kvs (i + 1) = stored (kvs i) (key i) (val i)) (hz : ∀ i, i ≤ n → (kvs i).length ≤ sizeLine)
    (hit : ∀ i v, P i v → ∃ t kx o m, v = .ref t ∧ t ≠ D ∧ t ∉ wr ∧ h0.get? t = some o ∧ o.cls = .type "tuple" ∧ o.data = .seq #[kx, val i] m ∧ knd.is (key i) kx = true) :
    ∀ (j i : Nat) (c : Nat) (s : Shared), n - i = j → i ≤ n → St i s → (∀ b o, b ≠ D → b ∉ wr → h0.get? b = some o → s.heap.get? b = some o) → s.heap.DictOf knd D (kvs i) →
      (∀ s', Moved (D :: wr) G s s' → s'.heap.DictOf knd D (kvs n) → R (.ok (.ret result)) s') → codeAny (model prog w) A (.builtin "dict.update.loop" ⟨[.ref D, .ref I, rawInt (c : Int), result], []⟩) R s := by
  have hDw : D ∉ wr := fun z => hDf (W.sub _ z)
  have more : ∀ b ∈ wr, b ∈ D :: wr := fun b hb => List.mem_cons_of_mem _ hb
  intro j
  induction j with
  | zero =>
    intro i c s hk hi hst keep hD hR
    have e : i = n := by omega
    subst e
    refine codeAny_builtin entry_update_loop ?_
    rw [Around.under_plainId plain_update_loop _]
    change wpAny _ A.in1 (pyNext (.ref I) >>= _) _ _ s
    refine wpAny_bind (W.done s _ _ hst (fun s' hm => ?_))
    show wpAny _ A.in1 (Builtin.Dict.addKeywords D [] >>= fun _ => ret result) _ _ s'
    refine wpAny_bind (wpAny_pure (wpAny_pure (hR s' (hm.mono more) ?_)))
    obtain ⟨o, es, ep, ho, rest⟩ := hD
    exact ⟨o, es, ep, hm.heap D _ hDw ho, rest⟩
  | succ j ih =>
    intro i c s hk hi hst keep hD hR
    have hlt : i < n := by omega
    refine codeAny_builtin entry_update_loop ?_
    rw [Around.under_plainId plain_update_loop _]
    change wpAny _ A.in1 (pyNext (.ref I) >>= _) _ _ s
    refine wpAny_bind (W.item i s _ _ hlt hst (fun v s' hP hst' hm => ?_))
    obtain ⟨t, kx, o, m, rfl, htD, htw, ht, hc, hd, hkey⟩ := hit i v hP
    have ht' : s'.heap.get? t = some o := hm.heap t o htw (keep t o htD htw ht)
    have hD' : s'.heap.DictOf knd D (kvs i) := by
      obtain ⟨o, es, ep, ho, rest⟩ := hD
      exact ⟨o, es, ep, hm.heap D _ hDw ho, rest⟩
    have hT : s'.TypeIs (.ref t) "tuple" := ⟨o, ht', hc⟩
    dsimp only
    refine wpAny_bind (wpAny_holding (wpAny_bind (wpAny_tryCatch ?_)))
    unfold Builtin.Dict.pairItems
    refine wpAny_bind (wpAny_typeOf (T := "tuple") hT ?_)
    rw [if_pos (by decide)]
    refine wpAny_bind (seqItems_at ht' hd ?_)
    refine wpAny_pure ?_
    show wpAny _ A.in1 (holding [kx, val i] (dictSet D kx (val i))) _ _ s'
    refine wpAny_holding (wpAny_dictSet_pairs hkey hD' (fun h2 hD2 same => ?_) (hz i hi))
    rw [← hs i] at hD2
    refine wpAny_pure ⟨plainId_quiet plain_update_loop _, ?_⟩
    have ec : ((c : Int) + 1) = ((c + 1 : Nat) : Int) := by omega
    rw [ec]
    refine ih (i + 1) (c + 1) _ (by omega) hlt (W.frame _ s' _ _ hst' (Nat.le_succ _) fun b hb o e => ?_) (fun b o hb hw e => ?_) hD2 fun s2 hm2 hD3 => ?_
    · rw [same.2 b (fun h : b = D => hDf (by rw [← h]; exact hb))]; exact e
    · show h2.get? b = some o
      rw [same.2 b hb]; exact hm.heap b o hw (keep b o hb hw e)
    · refine hR s2 (Moved.trans W.gtrans ((hm.mono more).then_heap (Nat.le_succ _) fun b o hb e => ?_) hm2) hD3
      rw [same.2 b (fun h : b = D => hb (by rw [h]; exact List.mem_cons_self))]; exact e
end
end C
end
noncomputable section
set_option linter.all false
set_option maxRecDepth 100000
set_option maxHeartbeats 4000002
set_option autoImplicit false
namespace C
open PySem PySem.Spec PyProof.Rows L2
noncomputable section
variable {prog : Program} {w : World} {A : Around} {E : Value → Shared → Prop} {s : Shared} {κ : Type} [DecidableEq κ] {knd : PySem.KeyKind prog w κ}
noncomputable def told (key : Nat → κ) (val : Nat → Value) : Nat → List (κ × Value)
  | 0 => []
  | i + 1 => stored (told key val i) (key i) (val i)
theorem stored_len (l : List (κ × Value)) (k : κ) (v : Value) : (stored l k v).length ≤ l.length + 1 := by
  unfold stored
  split
  · rw [List.length_map]; omega
  · rw [List.length_append, List.length_singleton]; exact Nat.le_refl _
theorem told_len (key : Nat → κ) (val : Nat → Value) : ∀ i, (told key val i).length ≤ i
  | 0 => Nat.le_refl _
  | i + 1 => Nat.le_trans (stored_len _ _ _) (Nat.succ_le_succ (told_len key val i))
theorem dict_of_list {l : Addr} {its : Array Value} {m : Nat} {sl : Array (Option Value)} {key : Nat → κ} {val : Nat → Value} {Q : Value → Shared → Prop} (nh : A.handled = none) (hl : s.heap.get? l = some { cls := .type "list", dict := none, data := .seq its m, slots := sl }) (hz : its.size ≤ sizeLine)
    (hit : ∀ i v, its[i]? = some v → ∃ t kx o n, v = .ref t ∧ s.heap.get? t = some o ∧ o.cls = .type "tuple" ∧ o.data = .seq #[kx, val i] n ∧ knd.is (key i) kx = true)
    (q : ∀ h' tk, h'.DictOf knd s.heap.objs.size (told key val its.size) → (∀ b o, s.heap.get? b = some o → h'.get? b = some o) → Q (.ref s.heap.objs.size) { s with heap := h', toks := tk }) :
    wpAny (model prog w) A (call (.type "dict") [.ref l]) Q E s := by
  refine callType_codes (Q₁ := fun ob z => ob = .ref s.heap.objs.size ∧ z = { s with heap := s.heap.push { cls := .type "dict", data := .dict #[] } }) F.kt_called_dict (F.kt_typeCall_dict_1 _) F.entry_dict_init (kt_code_dict_new _ ⟨rfl, rfl⟩) ?_
  rintro obj s₁ ⟨rfl, rfl⟩
  have new0 : (s.heap.push { cls := .type "dict", data := .dict #[] }).DictOf knd s.heap.objs.size [] := Heap.DictOf.new s.heap
  have hl1 : (s.heap.push { cls := .type "dict", data := .dict #[] }).get? l = some { cls := .type "list", dict := none, data := .seq its m, slots := sl } := Heap.get?_push_of_some _ hl
  have hll : l < s.heap.objs.size := Heap.lt_size hl
  refine ⟨new0.typeIs, F.args_dict_init_2 _ _, ?_⟩
  unfold Builtin.«dict.__init__» Builtin.Dict.selfAndRest
  refine wpAny_bind (wpAny_bind (wpAny_notOrdered_dict new0.typeIs ?_))
  show wpAny _ _ (pure (s.heap.objs.size, [Value.ref l])) _ _ _
  refine wpAny_pure ?_
  show wpAny _ _ (Builtin.Dict.updateFrom "dict.__init__" s.heap.objs.size (.ref l) [] .none) _ _ _
  unfold Builtin.Dict.updateFrom; refine wpAny_bind (wpAny_typeOf (T := "list") ⟨_, hl1, rfl⟩ ?_)
  rw [if_pos (by decide)]
  refine wpAny_bind (keys_list hl1 nh fun h2 tk e ne => ?_)
  rw [if_pos (show (none : Option Value).isNone = true from rfl)]
  have old2 : ∀ b o, (s.heap.push { cls := .type "dict", data := .dict #[] }).get? b = some o → h2.get? b = some o := fun b o hb => ne.keeps b o hb
  have hl2 : h2.IsList l its := ⟨_, old2 _ _ hl1, rfl, m, rfl⟩
  have hD2 : s.heap.objs.size < h2.objs.size := by
    obtain ⟨o, es, ep, ho, rest⟩ := new0
    exact Heap.lt_size (old2 _ _ ho)
  refine wpAny_bind (wpAny_rule (wpAny_bind (wpAny_pyIter_list hl2 ?_)))
  refine wpAny_pure ⟨plainId_quiet plain_update_loop _, ?_⟩
  have nl : l ≠ h2.objs.size := Nat.ne_of_lt (Nat.lt_trans hll hD2)
  have nD : s.heap.objs.size ∉ [h2.objs.size, l] := by
    simp only [List.mem_cons, List.mem_singleton, List.not_mem_nil, or_false, not_or]
    exact ⟨Nat.ne_of_lt hD2, Nat.ne_of_gt hll⟩
  have hD3 : (h2.push { cls := .type "list_iterator", data := .fields #[.ref l, .int 0 0] }).DictOf knd s.heap.objs.size (told key val 0) := by
    obtain ⟨o, es, ep, ho, rest⟩ := new0
    exact ⟨o, es, ep, Heap.get?_push_of_some _ (old2 _ _ ho), rest⟩
  refine upd_loop (knd := knd) ((Walks.list (A := A.in1.in1) (show A.in1.in1.handled = none from nh) h2.objs.size l nl its).toS) s.heap.objs.size nD .none s.heap (told key val) key val (fun _ => rfl) (fun i hi => Nat.le_trans (told_len key val i) (Nat.le_trans hi hz))
    (fun i v hv => ?_) (its.size - 0) 0 0 _ rfl (Nat.zero_le _) ⟨⟨_, Heap.get?_push_size _ rfl, rfl, rfl⟩, hl2.push _⟩ (fun b o _ _ hb => Heap.get?_push_of_some _ (old2 _ _ (Heap.get?_push_of_some _ hb))) hD3 fun s3 hm hD4 => ?_
  · obtain ⟨t, kx, o, n, rfl, ht, hc, hd, hk⟩ := hit i v hv
    have tl := Heap.lt_size ht
    refine ⟨t, kx, o, n, rfl, Nat.ne_of_lt tl, ?_, ht, hc, hd, hk⟩
    simp only [List.mem_singleton]
    exact Nat.ne_of_lt (Nat.lt_trans tl hD2)
  · obtain ⟨h3, g3, d3, t3, o3⟩ := s3
    have eg : g3 = s.gens := hm.gens
    have ed : d3 = s.drawn := hm.drawn
    have eo : o3 = s.os := hm.os
    subst eg; subst ed; subst eo
    refine ⟨rfl, q h3 t3 hD4 fun b o hb => ?_⟩
    have bl := Heap.lt_size hb
    refine hm.heap b o ?_ (Heap.get?_push_of_some _ (old2 _ _ (Heap.get?_push_of_some _ hb)))
    simp only [List.mem_cons, List.mem_singleton, List.not_mem_nil, or_false, not_or]
    exact ⟨Nat.ne_of_lt bl, Nat.ne_of_lt (Nat.lt_trans bl hD2)⟩
theorem dict_of_tuple {l : Addr} {its : Array Value} {m : Nat} {sl : Array (Option Value)} {key : Nat → κ} {val : Nat → Value} {Q : Value → Shared → Prop} (nh : A.handled = none) (hl : s.heap.get? l = some { cls := .type "tuple", dict := none, data := .seq its m, slots := sl }) (hz : its.size ≤ sizeLine)
    (hit : ∀ i v, its[i]? = some v → ∃ t kx o n, v = .ref t ∧ s.heap.get? t = some o ∧ o.cls = .type "tuple" ∧ o.data = .seq #[kx, val i] n ∧ knd.is (key i) kx = true)
    (q : ∀ h' tk, h'.DictOf knd s.heap.objs.size (told key val its.size) → (∀ b o, s.heap.get? b = some o → h'.get? b = some o) → Q (.ref s.heap.objs.size) { s with heap := h', toks := tk }) :
    wpAny (model prog w) A (call (.type "dict") [.ref l]) Q E s := by
  refine callType_codes (Q₁ := fun ob z => ob = .ref s.heap.objs.size ∧ z = { s with heap := s.heap.push { cls := .type "dict", data := .dict #[] } }) F.kt_called_dict (F.kt_typeCall_dict_1 _) F.entry_dict_init (kt_code_dict_new _ ⟨rfl, rfl⟩) ?_
  rintro obj s₁ ⟨rfl, rfl⟩
  have new0 : (s.heap.push { cls := .type "dict", data := .dict #[] }).DictOf knd s.heap.objs.size [] := Heap.DictOf.new s.heap
  have hl1 : (s.heap.push { cls := .type "dict", data := .dict #[] }).get? l = some { cls := .type "tuple", dict := none, data := .seq its m, slots := sl } := Heap.get?_push_of_some _ hl
  have hll : l < s.heap.objs.size := Heap.lt_size hl
  refine ⟨new0.typeIs, F.args_dict_init_2 _ _, ?_⟩
  unfold Builtin.«dict.__init__» Builtin.Dict.selfAndRest
  refine wpAny_bind (wpAny_bind (wpAny_notOrdered_dict new0.typeIs ?_))
  show wpAny _ _ (pure (s.heap.objs.size, [Value.ref l])) _ _ _
  refine wpAny_pure ?_
  show wpAny _ _ (Builtin.Dict.updateFrom "dict.__init__" s.heap.objs.size (.ref l) [] .none) _ _ _
  unfold Builtin.Dict.updateFrom; refine wpAny_bind (wpAny_typeOf (T := "tuple") ⟨_, hl1, rfl⟩ ?_)
  rw [if_pos (by decide)]
  refine wpAny_bind (keys_tuple hl1 nh fun h2 tk e ne => ?_)
  rw [if_pos (show (none : Option Value).isNone = true from rfl)]
  have old2 : ∀ b o, (s.heap.push { cls := .type "dict", data := .dict #[] }).get? b = some o → h2.get? b = some o := fun b o hb => ne.keeps b o hb
  have hl2 : h2.IsTuple l its := ⟨_, old2 _ _ hl1, rfl, m, rfl⟩
  have hD2 : s.heap.objs.size < h2.objs.size := by
    obtain ⟨o, es, ep, ho, rest⟩ := new0
    exact Heap.lt_size (old2 _ _ ho)
  refine wpAny_bind (wpAny_rule (wpAny_bind (wpAny_pyIter_tuple hl2 ?_)))
  refine wpAny_pure ⟨plainId_quiet plain_update_loop _, ?_⟩
  have nl : l ≠ h2.objs.size := Nat.ne_of_lt (Nat.lt_trans hll hD2)
  have nD : s.heap.objs.size ∉ [h2.objs.size, l] := by
    simp only [List.mem_cons, List.mem_singleton, List.not_mem_nil, or_false, not_or]
    exact ⟨Nat.ne_of_lt hD2, Nat.ne_of_gt hll⟩
  have hD3 : (h2.push { cls := .type "tuple_iterator", data := .fields #[.ref l, .int 0 0] }).DictOf knd s.heap.objs.size (told key val 0) := by
    obtain ⟨o, es, ep, ho, rest⟩ := new0
    exact ⟨o, es, ep, Heap.get?_push_of_some _ (old2 _ _ ho), rest⟩
  refine upd_loop (knd := knd) ((Walks.tuple (A := A.in1.in1) (show A.in1.in1.handled = none from nh) h2.objs.size l nl its).toS) s.heap.objs.size nD .none s.heap (told key val) key val (fun _ => rfl) (fun i hi => Nat.le_trans (told_len key val i) (Nat.le_trans hi hz))
    (fun i v hv => ?_) (its.size - 0) 0 0 _ rfl (Nat.zero_le _) ⟨⟨_, Heap.get?_push_size _ rfl, rfl, rfl⟩, hl2.push _⟩ (fun b o _ _ hb => Heap.get?_push_of_some _ (old2 _ _ (Heap.get?_push_of_some _ hb))) hD3 fun s3 hm hD4 => ?_
  · obtain ⟨t, kx, o, n, rfl, ht, hc, hd, hk⟩ := hit i v hv
    have tl := Heap.lt_size ht
    refine ⟨t, kx, o, n, rfl, Nat.ne_of_lt tl, ?_, ht, hc, hd, hk⟩
    simp only [List.mem_singleton]
    exact Nat.ne_of_lt (Nat.lt_trans tl hD2)
  · obtain ⟨h3, g3, d3, t3, o3⟩ := s3
    have eg : g3 = s.gens := hm.gens
    have ed : d3 = s.drawn := hm.drawn
    have eo : o3 = s.os := hm.os
    subst eg; subst ed; subst eo
    refine ⟨rfl, q h3 t3 hD4 fun b o hb => ?_⟩
    have bl := Heap.lt_size hb
    refine hm.heap b o ?_ (Heap.get?_push_of_some _ (old2 _ _ (Heap.get?_push_of_some _ hb)))
    simp only [List.mem_cons, List.mem_singleton, List.not_mem_nil, or_false, not_or]
    exact ⟨Nat.ne_of_lt bl, Nat.ne_of_lt (Nat.lt_trans bl hD2)⟩
end
end C
end
noncomputable section
set_option linter.all false
set_option maxRecDepth 100000
set_option maxHeartbeats 4000002
set_option autoImplicit false
namespace C
open PySem PySem.Spec PyProof.Rows L2
theorem pairsT_cons {x : T} {xs : List T} {l : List (Key × T)} (h : pairsT (x :: xs) = some l) : ∃ k v q l', x = .tup [k, v] ∧ keyOf k = some q ∧ pairsT xs = some l' ∧ l = (q, v) :: l' := by
  match x, h with
  | .tup [k, v], h =>
    simp only [pairsT] at h
    split at h
    · rename_i q l' e1 e2; cases h; exact ⟨k, v, q, l', rfl, e1, e2, rfl⟩
    · cases h
noncomputable section
variable {X : Cx} {pins : List (Addr × Obj)} {σ : L2.St} {H S : Hp} {s : Shared} {as : List Addr}
inductive PairsAt (h : Heap) (prog : Program) (w : World) : List Value → List L2.Key → List Value → Prop where
  | nil : PairsAt h prog w [] [] []
  | cons {t : Addr} {kx wv : Value} {o : Obj} {n : Nat} {q : L2.Key} {us : List Value} {qs : List L2.Key} {ws : List Value} : h.get? t = some o → o.cls = .type "tuple" → o.data = .seq #[kx, wv] n → (mixKind prog w).is q kx = true →
      PairsAt h prog w us qs ws → PairsAt h prog w (.ref t :: us) (q :: qs) (wv :: ws)
theorem PairsAt.get {h : Heap} {prog : Program} {w : World} : ∀ {us : List Value} {qs : List L2.Key} {ws : List Value}, PairsAt h prog w us qs ws → ∀ (i : Nat) (v : Value), us[i]? = some v → ∃ t kx o n, v = .ref t ∧ h.get? t = some o ∧ o.cls = .type "tuple" ∧ o.data = .seq #[kx, ws.getD i .none] n ∧ (mixKind prog w).is (qs.getD i (.inl 0)) kx = true
  | _, _, _, .nil, i, v, e => by simp at e
  | _, _, _, .cons h1 h2 h3 h4 r, 0, v, e => by simp at e; subst e; exact ⟨_, _, _, _, rfl, h1, h2, h3, h4⟩
  | _, _, _, .cons h1 h2 h3 h4 r, i + 1, v, e => by simpa using r.get i v (by simpa using e)
theorem PairsAt.len {h : Heap} {prog : Program} {w : World} : ∀ {us : List Value} {qs : List L2.Key} {ws : List Value}, PairsAt h prog w us qs ws → us.length = qs.length ∧ us.length = ws.length
  | _, _, _, .nil => ⟨rfl, rfl⟩
  | _, _, _, .cons _ _ _ _ r => ⟨congrArg (· + 1) r.len.1, congrArg (· + 1) r.len.2⟩
theorem pairs_at (I : L2.Inv X pins σ H s) (sub : Same S H) : ∀ {vs : List V} {xs : List T} {us : List Value} {l : List (L2.Key × T)}, Reps X.K S as vs xs → Vals vs us → pairsT xs = some l →
    ∃ ys ws, PairsAt s.heap X.prog X.w us (l.map (·.1)) ws ∧ Vals ys ws ∧ Reps X.K S as ys (l.map (·.2))
  | _, _, _, _, .nil, r, e => by simp only [pairsT] at e; cases e; cases r; exact ⟨[], [], .nil, .nil, .nil⟩
  | _, _, _, _, .cons h q, r, e => by
    obtain ⟨k, v, qk, l', rfl, e1, e2, rfl⟩ := pairsT_cons e
    cases r with
    | cons r1 r2 =>
      obtain ⟨ys, ws, p1, p2, p3⟩ := pairs_at I sub q r2 e2
      cases h with
      | tup g1 g2 =>
        cases g2 with
        | cons a1 g2 =>
          cases g2 with
          | cons a2 g2 =>
            cases g2
            cases r1
            obtain ⟨its, rv, ⟨o, o1, o2, n, o3⟩, _⟩ := I.tuple (sqT_mono sub g1)
            cases rv with
            | cons b1 rv =>
              cases rv with
              | cons b2 rv =>
                cases rv
                have ek := kV_of a1 e1
                subst ek
                exact ⟨_ :: ys, _ :: ws, .cons o1 o2 o3 (kV_is b1) p1, .cons b2 p2, .cons a2 p3⟩
theorem told_rep (l : List (L2.Key × T)) {ys : List V} {ws : List Value} (hv : Vals ys ws) (hr : Reps X.K S as ys (l.map (·.2))) : ∀ i, i ≤ l.length →
    ∃ kv, KV kv (told (fun i => (l.map (·.1)).getD i (.inl 0)) (fun i => ws.getD i .none) i) ∧ RepK X.K S as kv ((l.take i).foldl (fun d p => dPut p.1 p.2 d) [])
  | 0, _ => ⟨[], .nil, .nil⟩
  | i + 1, hi => by
    obtain ⟨kv, k1, k2⟩ := told_rep l hv hr i (by omega)
    have hlt : i < l.length := Nat.lt_of_succ_le hi
    have e1 : (l.map (·.2))[i]? = some l[i].2 := by rw [List.getElem?_map, List.getElem?_eq_getElem hlt]; rfl
    obtain ⟨y, h1, h2⟩ := hr.get e1
    obtain ⟨u, h3, h4⟩ := hv.get h1
    have e2 : (l.map (·.1)).getD i (.inl 0) = l[i].1 := by rw [List.getD_eq_getElem?_getD, List.getElem?_map, List.getElem?_eq_getElem hlt]; rfl
    have e3 : ws.getD i .none = u := by rw [List.getD_eq_getElem?_getD, h3]; rfl
    refine ⟨putK kv l[i].1 y, ?_, ?_⟩
    · have := k1.put l[i].1 h4
      show KV (putK kv l[i].1 y) (stored (told (fun i => (l.map (·.1)).getD i (.inl 0)) (fun i => ws.getD i .none) i) ((l.map (·.1)).getD i (.inl 0)) (ws.getD i .none))
      rw [e2, e3]
      exact this
    · rw [List.take_succ_eq_append_getElem hlt, List.foldl_append]
      exact k2.put h2
theorem call_dict_ok {Q : VK} {a : Addr} {vs : List V} {xs : List T} {l : List (L2.Key × T)} (hc : X.calm = true) (I : L2.Inv X pins σ H s) (sub : Same S H) (g1 : SqL X.K S a vs) (g2 : Reps X.K S as vs xs) (e : pairsT xs = some l) (hz : xs.length ≤ sizeLine)
    (q : ∀ p kv, H p = none → kv.length ≤ sizeLine → RepK X.K S as kv (l.foldl (fun d p => dPut p.1 p.2 d) []) → Q (.ref p) (upd H p (.dK kv))) : wpAny (model X.prog X.w) X.A (call (.type "dict") [.ref a]) (EP X pins σ Q) X.xe s := by
  obtain ⟨its, r, p, _⟩ := I.list (sqL_mono sub g1)
  obtain ⟨⟨cls, dd, data, sl⟩, n, ho, hcl, hd0, hd⟩ := id p
  simp only at hcl hd0 hd
  subst hcl hd0 hd
  obtain ⟨ys, ws, p1, p2, p3⟩ := pairs_at I sub g2 r e
  have hlen : its.length = l.length := by rw [p1.len.1, List.length_map]
  have hlx : vs.length = its.length := r.length
  obtain ⟨kv, k1, k2⟩ := told_rep l p2 p3 l.length (Nat.le_refl _)
  rw [List.take_length] at k2
  refine dict_of_list (knd := mixKind X.prog X.w) (key := fun i => (l.map (·.1)).getD i (.inl 0)) (val := fun i => ws.getD i .none) (I.ok.hd hc) ho (by rw [List.size_toArray, ← hlx, g2.length]; exact hz)
    (fun i v hv => p1.get i v (by rw [List.getElem?_toArray] at hv; exact hv)) fun h' tk hD old => ?_
  rw [show its.toArray.size = l.length by rw [List.size_toArray, hlen]] at hD
  have kl : kv.length ≤ sizeLine := by
    rw [k1.length]
    exact Nat.le_trans (told_len _ _ _) (by rw [← hlen, ← hlx, g2.length]; exact hz)
  have hp : H s.heap.objs.size = none := I.hok.fresh (Nat.le_refl _)
  exact ⟨.ref s.heap.objs.size, _, I.laid (a := s.heap.objs.size) (o := .dK kv) (h' := h') (t' := tk) old (Nat.le_refl _) (dk_new kl (beq_eq_false_iff_ne.mpr (Ne.symm (Nat.ne_of_lt I.big))) k1 hD), rfl, q _ kv hp kl k2⟩
theorem call_dict_okT {Q : VK} {a : Addr} {vs : List V} {xs : List T} {l : List (L2.Key × T)} (hc : X.calm = true) (I : L2.Inv X pins σ H s) (sub : Same S H) (g1 : SqT X.K S a vs) (g2 : Reps X.K S as vs xs) (e : pairsT xs = some l) (hz : xs.length ≤ sizeLine)
    (q : ∀ p kv, H p = none → kv.length ≤ sizeLine → RepK X.K S as kv (l.foldl (fun d p => dPut p.1 p.2 d) []) → Q (.ref p) (upd H p (.dK kv))) : wpAny (model X.prog X.w) X.A (call (.type "dict") [.ref a]) (EP X pins σ Q) X.xe s := by
  obtain ⟨its, r, p, _⟩ := I.tupleD (sqT_mono sub g1)
  obtain ⟨⟨cls, dd, data, sl⟩, ho, hcl, hd0, n, hd⟩ := id p
  simp only at hcl hd0 hd
  subst hcl hd0 hd
  obtain ⟨ys, ws, p1, p2, p3⟩ := pairs_at I sub g2 r e
  have hlen : its.length = l.length := by rw [p1.len.1, List.length_map]
  have hlx : vs.length = its.length := r.length
  obtain ⟨kv, k1, k2⟩ := told_rep l p2 p3 l.length (Nat.le_refl _)
  rw [List.take_length] at k2
  refine dict_of_tuple (knd := mixKind X.prog X.w) (key := fun i => (l.map (·.1)).getD i (.inl 0)) (val := fun i => ws.getD i .none) (I.ok.hd hc) ho (by rw [List.size_toArray, ← hlx, g2.length]; exact hz)
    (fun i v hv => p1.get i v (by rw [List.getElem?_toArray] at hv; exact hv)) fun h' tk hD old => ?_
  rw [show its.toArray.size = l.length by rw [List.size_toArray, hlen]] at hD
  have kl : kv.length ≤ sizeLine := by
    rw [k1.length]
    exact Nat.le_trans (told_len _ _ _) (by rw [← hlen, ← hlx, g2.length]; exact hz)
  have hp : H s.heap.objs.size = none := I.hok.fresh (Nat.le_refl _)
  exact ⟨.ref s.heap.objs.size, _, I.laid (a := s.heap.objs.size) (o := .dK kv) (h' := h') (t' := tk) old (Nat.le_refl _) (dk_new kl (beq_eq_false_iff_ne.mpr (Ne.symm (Nat.ne_of_lt I.big))) k1 hD), rfl, q _ kv hp kl k2⟩
end
noncomputable section
variable {X : Cx} {B : Bas} {a : Expr} {m : M T} {pos p : Pos}
end
end C
end
noncomputable section
set_option linter.all false
set_option autoImplicit false
namespace C
open PySem PySem.Spec PyProof.Rows L2
theorem DefOk.zero {P : Program} {w : World} {K : PySem.W.Frag} {mg : Str → Option Value} {base : Heap} {x qual : Str} {st : Stmt} {f : Addr} {fd : FuncData} {ps : List Str} {k : Nat} (F : Fun K x qual st f fd) (h : mg x = some (.ref f)) (b : Binds K fd ps []) : DefOk P w K mg base x k ps (fun _ _ => none) := by
  have no : ∀ vs H Q E, ¬ spF K ps.length (fun _ _ => none) vs H Q E := fun vs H Q E z => by
    obtain ⟨S, as, sto, ts, t, sto', _, _, _, _, e, _⟩ := z
    cases e
  exact ⟨f, fd, ⟨fun vs H Q E z => absurd z (no vs H Q E), fun A outer s H args us vs Q E _ _ _ _ z => absurd z (no vs H Q E)⟩, b, F.kp, h⟩
end C
end
noncomputable section
set_option linter.all false
set_option maxRecDepth 100000
set_option maxHeartbeats 4000002
set_option autoImplicit false
namespace C
open PySem PySem.Spec PyProof.Rows L2
theorem whileN_inv {n : Nat} {c : M Bool} {b : S} {s s' : Sta} {fl : Flow} (h : whileN (n + 1) c b s = some (fl, s')) : (∃ s1, c s = some (false, s1) ∧ fl = .next ∧ s' = s1) ∨
    ∃ s1 fb s2, c s = some (true, s1) ∧ b s1 = some (fb, s2) ∧ (match fb with | .next => whileN n c b s2 = some (fl, s') | .cont => whileN n c b s2 = some (fl, s') | .brk => fl = .next ∧ s' = s2 | .ret v => fl = .ret v ∧ s' = s2) := by
  rw [whileN] at h
  dsimp only at h
  split at h
  · rename_i s1 e1; cases h; exact .inl ⟨_, e1, rfl, rfl⟩
  · rename_i s1 e1
    split at h
    · rename_i s2 e2; exact .inr ⟨s1, .next, s2, e1, e2, h⟩
    · rename_i s2 e2; exact .inr ⟨s1, .cont, s2, e1, e2, h⟩
    · rename_i s2 e2; cases h; exact .inr ⟨s1, .brk, _, e1, e2, rfl, rfl⟩
    · rename_i v s2 e2; cases h; exact .inr ⟨s1, .ret v, _, e1, e2, rfl, rfl⟩
    · cases h
  · cases h
theorem sPop_inv {i j : Nat} {s s' : Sta} {fl : Flow} (h : sPop i j s = some (fl, s')) : ∃ xs t, s.env[i]? = some (some (.lst xs, true)) ∧ xs[xs.length - 1]? = some t ∧ fl = .next ∧ s' = putSlot j t false (putSlot i (.lst xs.dropLast) true s) := by
  unfold sPop at h
  split at h
  · rename_i xs e
    split at h
    · rename_i t e2; cases h; exact ⟨xs, t, e, e2, rfl, rfl⟩
    · cases h
  · cases h
theorem Reps.dropLast {K : PySem.W.Frag} {S : Hp} {as : List Addr} : ∀ {vs : List V} {ts : List T}, Reps K S as vs ts → Reps K S as vs.dropLast ts.dropLast
  | _, _, .nil => .nil
  | _, _, .cons h .nil => .nil
  | _, _, .cons h (.cons h2 r) => .cons h (Reps.dropLast (.cons h2 r))
noncomputable section
variable {X : Cx} {B : Bas} {c e : Expr} {m : M T} {pos p : Pos} {u : S} {body : List Stmt}
theorem ts_while (n : Nat) {mc : M Bool} (hp : PassesOwn (model X.prog X.w) X.A X.env X.xe) (hc : PT X c (cOf X.K B mc)) (hb : PSs X body (sOf X.K B u)) : PS X (.While c body [] pos) (sOf X.K B (whileN n mc u)) := (ps_while hp hc hb).imp fun D σ H ⟨st, ps, S, as, R, fl, st', e, q⟩ => by
  refine ⟨fun k σ H => ∃ sti Si asi, Rel X.K B sti σ H ps Si asi ∧ whileN k mc u sti = some (fl, st'), ⟨n, st, S, as, R, e⟩, ?_⟩
  rintro k σ2 H2 ⟨sti, Si, asi, Ri, ei⟩
  cases k with
  | zero => rw [whileN] at ei; cases ei
  | succ k =>
    rcases whileN_inv ei with ⟨s1, e1, rfl, rfl⟩ | ⟨s1, fb, s2, e1, e2, er⟩
    · exact ⟨sti, ps, Si, asi, Ri, false, _, e1, fun H3 S3 as3 R3 => iteF (q σ2 H3 S3 as3 R3)⟩
    · refine ⟨sti, ps, Si, asi, Ri, true, s1, e1, fun H3 S3 as3 R3 => iteT ⟨fun σ' H' => ∃ sti Si asi, Rel X.K B sti σ' H' ps Si asi ∧ whileN k mc u sti = some (fl, st'), fun σ' H' h => ⟨k, Nat.lt_succ_self _, h⟩, s1, ps, S3, as3, R3, fb, s2, e2, ?_⟩⟩
      cases fb with
      | next => exact fun σ' H' S' as' R' => ⟨s2, S', as', R', er⟩
      | cont => exact fun σ' H' S' as' R' => ⟨s2, S', as', R', er⟩
      | brk =>
        obtain ⟨rfl, rfl⟩ := er
        exact fun σ' H' S' as' R' => q σ' H' S' as' R'
      | ret v =>
        obtain ⟨rfl, rfl⟩ := er
        exact fun v σ' H' S' as' R' => q v σ' H' S' as' R'
theorem ts_pop (i j : Nat) {st : Stmt} (h : PS X st (tAsg (tBM0 X.K "list" rPop (tVar i)) (gName j))) : PS X st (sOf X.K B (sPop i j)) := h.imp fun D σ H ⟨st, ps, S, as, R, fl, st', e, q⟩ => by
  obtain ⟨xs, t, e2, e3, rfl, rfl⟩ := sPop_inv e
  obtain ⟨w, h1, _, h3⟩ := R.slots i _ true e2
  obtain ⟨p0, rfl, ow⟩ := h3 rfl
  obtain ⟨vs, hH, h4⟩ := ow.own
  obtain ⟨y, hy, ry⟩ := h4.get e3
  have hy' : vs[vs.length - 1]? = some y := by rw [h4.length]; exact hy
  have R2 := R.turn (ob := .lst vs.dropLast) (t' := .lst xs.dropLast) e2 h1 ⟨_, upd_same, h4.dropLast⟩
  exact ⟨_, h1, .inl ⟨rfl, _, SqL.of hH⟩, p0, vs, y, rfl, rfl, hH, hy', q _ _ S as (R2.put (i := j) ry)⟩
theorem callT_int : CallT X (.type "int") intT := by
  intro pins s σ H xs us Q I rs ⟨S, as, ts, w, sub, hr, hf, q⟩
  cases hr with
  | nil => simp only [intT, reduceCtorEq] at hf
  | @cons x t xs' ts' h1 h2 =>
    cases h2 with
    | cons h3 h4 => cases h1 <;> simp only [intT, reduceCtorEq] at hf
    | nil =>
      cases h1 <;> simp only [intT, reduceCtorEq] at hf
      · cases hf
        exact call_int1 pins s σ H _ us Q I rs (.inr ⟨_, rfl, q _ H S (Ext.refl sub) (.int _)⟩)
      · cases hf
        exact call_int1 pins s σ H _ us Q I rs (.inl ⟨_, rfl, q _ H S (Ext.refl sub) (.int _)⟩)
end
end C
end
noncomputable section
set_option linter.all false
set_option maxRecDepth 100000
set_option maxHeartbeats 4000002
set_option autoImplicit false
namespace C
open PySem PySem.Spec PyProof.Rows L2
noncomputable section
variable {X : Cx} {B : Bas} {e st : Expr} {te : TE} {m : M T} {pos p2 p3 p4 : Pos} {j : Nat}
end
end C
end
noncomputable section
set_option linter.all false
set_option maxRecDepth 100000
set_option maxHeartbeats 4000002
set_option autoImplicit false
namespace C
open PySem PySem.Spec PyProof.Rows L2
noncomputable section
variable {X : Cx} {B : Bas} {a : Expr} {m : M T} {pos p : Pos}
noncomputable def rDictF (K : PySem.W.Frag) : List V → Hp → VK → Prop := fun xs H Q => ∃ S as t u, Same S H ∧ Reps K S as xs [t] ∧ dictT [t] = some (.dic u) ∧ ∀ p kv, H p = none → RepK K S as kv u → Q (.ref p) (upd H p (.dK kv))
theorem call_dictF (hc : X.calm = true) : CallR X (.type "dict") (rDictF X.K) := by
  intro pins s σ H xs us Q I rs ⟨S, as, t, u, sub, hr, hf, q⟩
  cases hr with
  | cons h1 h2 =>
    cases h2
    obtain ⟨v, rfl, ru⟩ := rs.one
    cases h1 with
    | @lst a vs ts g1 g2 =>
      cases ru
      simp only [dictT] at hf
      split at hf
      · rename_i hl
        obtain ⟨l, e1, e2⟩ := Option.map_eq_some_iff.mp hf
        cases e2
        exact call_dict_ok hc I sub g1 g2 e1 (Nat.le_trans (Nat.le_of_lt hl) lim_line) fun p kv hp _ k2 => q p kv hp k2
      · cases hf
    | @tup a vs ts g1 g2 =>
      cases ru
      simp only [dictT] at hf
      split at hf
      · rename_i hl
        obtain ⟨l, e1, e2⟩ := Option.map_eq_some_iff.mp hf
        cases e2
        exact call_dict_okT hc I sub g1 g2 e1 (Nat.le_trans (Nat.le_of_lt hl) lim_line) fun p kv hp _ k2 => q p kv hp k2
      · cases hf
    | @dic a kvs ts g1 g2 =>
      cases ru
      simp only [dictT] at hf
      cases hf
      exact d_copyOf I (rd_mono sub g1) fun p s' hp I' => ⟨.ref p, _, I', rfl, q p kvs hp g2⟩
    | _ => simp only [dictT, reduceCtorEq] at hf
theorem dictT_dic {t w : T} (h : dictT [t] = some w) : ∃ u, w = .dic u := by
  cases t <;> simp only [dictT, reduceCtorEq] at h
  · split at h
    · obtain ⟨l, _, e⟩ := Option.map_eq_some_iff.mp h; exact ⟨_, e.symm⟩
    · cases h
  · split at h
    · obtain ⟨l, _, e⟩ := Option.map_eq_some_iff.mp h; exact ⟨_, e.symm⟩
    · cases h
  · cases h; exact ⟨_, rfl⟩
theorem tf_dict (hc : X.calm = true) (hg : Gl X "dict") (hm : X.mg "dict" = none) (ha : PE X a (tOf X.K B m)) (he : starEach [a] X.env = (false, eval a X.env) :: starEach [] X.env := by rfl) (hpl : (backTo pos (starEach [] X.env)).any (·.1) = false := by rfl) :
    PE X (.Call (.Name "dict" p) [a] [] pos) (fOf X.K B (mMap dictT (mCons m mNil))) := by
  refine (pe_callTy (call_dictF hc) hg hm PyProof.Rows.boot_dict (pa_cons ha pa_nil he) (by decide) (by decide) he hpl).imp fun σ H Q ⟨st, ps, S, as, R, t, st', e, q⟩ => ?_
  obtain ⟨ts, e1, e2⟩ := mMap_inv e
  obtain ⟨t1, s1, us, ea, en, rfl⟩ := mCons_inv e1
  cases en
  obtain ⟨u, rfl⟩ := dictT_dic e2
  refine ⟨st, ps, S, as, R, t1, _, ea, fun v H1 S1 as1 R1 => ⟨S1, as1, t1, u, R1.sub, .cons R1.top .nil, e2, fun p kv hp k2 => ?_⟩⟩
  obtain ⟨bD, sD, nD, no⟩ := R1.fresh hp
  exact q p _ S1 as1 (R1.drop.poke bD sD nD (fun j w e1 e2 => no j w e1 e2)) ⟨⟨kv, upd_same, k2⟩, sD, nD, bD⟩ (fun j w e1 e2 => no j w e1 e2)
end
end C
end
noncomputable section
set_option linter.all false
set_option autoImplicit false
namespace C
open PySem PySem.Sem
noncomputable section
variable {prog : Program} {w : World} {A : Around} {E : Value → Shared → Prop} {s : Shared}
end
structure ZipAt (h : Heap) (z ti to' i1 i2 : Addr) (f : Value) : Prop where
  zip : IsZip h z ti to' f
  its : IsPair h ti (.ref i1) (.ref i2)
  kept : ∃ a b, IsPair h to' a b
structure Far (z ti to' i1 i2 : Addr) : Prop where
  nd : [z, ti, to', i1, i2].Nodup
theorem Far.all {z ti to' i1 i2 : Addr} (f : Far z ti to' i1 i2) : ti ≠ z ∧ to' ≠ z ∧ i1 ≠ z ∧ i2 ≠ z ∧ ti ≠ to' ∧ ti ≠ i1 ∧ ti ≠ i2 ∧ to' ≠ i1 ∧ to' ≠ i2 ∧ i1 ≠ i2 := by
  have := f.nd
  simp only [List.nodup_cons, List.mem_cons, List.not_mem_nil, or_false, not_or] at this
  obtain ⟨⟨a, b, c, d⟩, ⟨e, f, g⟩, ⟨h, i⟩, j, _⟩ := this
  exact ⟨Ne.symm a, Ne.symm b, Ne.symm c, Ne.symm d, e, f, g, h, i, j⟩
noncomputable section
variable {prog : Program} {w : World} {A : Around} {E : Value → Shared → Prop} {s : Shared}
end
noncomputable section
variable {prog : Program} {w : World} {A : Around} {E : Value → Shared → Prop} {s : Shared}
end
end C
end
noncomputable section
set_option linter.all false
set_option maxRecDepth 100000
set_option maxHeartbeats 4000002
set_option autoImplicit false
namespace C
open PySem PySem.Spec PyProof.Rows L2
noncomputable def Sq : Bool → PySem.W.Frag → Hp → Addr → List V → Prop
  | true, K, H, a, xs => SqL K H a xs
  | false, K, H, a, xs => SqT K H a xs
noncomputable section
variable {X : Cx} {pins : List (Addr × Obj)} {σ : L2.St} {H : Hp} {s : Shared} {a : Addr} {xs ys : List V} {k : Bool}
end
noncomputable section
variable {X : Cx} {B : Bas} {a b : Expr} {m m1 m2 : M T} {pos p : Pos} {elts : List Expr} {x1 : Nat} {tpos : Pos}
theorem Sq.mono {k : Bool} {K : PySem.W.Frag} {S H : Hp} {a : Addr} {vs : List V} (e : Same S H) (h : Sq k K S a vs) : Sq k K H a vs := by
  cases k with
  | true => exact sqL_mono e h
  | false => exact sqT_mono e h
end
end C
end
noncomputable section
set_option linter.all false
set_option maxRecDepth 100000
set_option maxHeartbeats 4000002
set_option autoImplicit false
namespace C
open PySem PySem.Spec PyProof.Rows L2
noncomputable section
variable {X : Cx}
variable {B : Bas} {o e : Expr} {m1 m2 : M T} {apos cpos : Pos}
end
end C
end
noncomputable section
set_option linter.all false
set_option maxRecDepth 100000
set_option maxHeartbeats 4000002
set_option autoImplicit false
namespace C
open PySem PySem.Spec PyProof.Rows L2
theorem sIx_eq (n d : Nat) (o : Option Int) : sIx n d o = HT.sIx n d o := by cases o <;> rfl
noncomputable def oOf (K : PySem.W.Frag) (B : Bas) (m : M (Option Int)) : TO := fun σ H Q => ∃ st ps S as, Rel K B st σ H ps S as ∧ ∃ o st', m st = some (o, st') ∧ ∀ H' S' as', Rel K B st' σ H' ps S' as' → Q o H'
noncomputable section
variable {X : Cx} {B : Bas} {a e : Expr} {m : M T} {ml mh : M (Option Int)} {lo hi : Option Expr} {pos p2 : Pos}
theorem to_none : PO X none (oOf X.K B oNone) := fun pins s σ H Q I ⟨st, ps, S, as, R, o, st', e, q⟩ => po_none pins s σ H Q I (by cases e; exact q H S as R)
theorem to_some (h : PE X e (tOf X.K B m)) : PO X (some e) (oOf X.K B (oSome m)) := fun pins s σ H Q I ⟨st, ps, S, as, R, o, st', eo, q⟩ => po_some h pins s σ H Q I (by
  unfold oSome at eo
  split at eo
  · rename_i i s1 e1
    cases eo
    refine ⟨st, ps, S, as, R, .int i, _, e1, fun v H1 S1 as1 R1 => ?_⟩
    cases R1.top
    exact ⟨i, rfl, q H1 S1 as1 R1.drop⟩
  · cases eo)
theorem mSlice_inv {s s' : Sta} {v : T} (h : mSlice m ml mh s = some (v, s')) : ∃ t s1 l s2 u, m s = some (t, s1) ∧ ml s1 = some (l, s2) ∧ mh s2 = some (u, s') ∧ cutX l u t = some v := by
  unfold mSlice at h
  split at h
  · rename_i t s1 e1
    split at h
    · rename_i l s2 e2
      split at h
      · rename_i u s3 e3
        split at h
        · rename_i w e4; cases h; exact ⟨t, s1, l, s2, u, e1, e2, e3, e4⟩
        · cases h
      · cases h
    · cases h
  · cases h
theorem Reps.takes {K : PySem.W.Frag} {S : Hp} {as : List Addr} : ∀ (n : Nat) {vs : List V} {ts : List T}, Reps K S as vs ts → Reps K S as (vs.take n) (ts.take n)
  | 0, _, _, _ => .nil
  | _ + 1, _, _, .nil => .nil
  | n + 1, _, _, .cons h r => .cons h (Reps.takes n r)
theorem reps_cut {K : PySem.W.Frag} {S : Hp} {as : List Addr} {vs : List V} {ts : List T} (r : Reps K S as vs ts) (lo hi : Option Int) : Reps K S as (cutV vs lo hi) (cutl ts lo hi) := by
  unfold cutV cutl
  rw [sIx_eq, sIx_eq, r.length]
  exact Reps.takes _ (r.drop _)
theorem te_slice (ha : PE X a (tOf X.K B m)) (hl : PO X lo (oOf X.K B ml)) (hh : PO X hi (oOf X.K B mh)) : PE X (.Subscript a (.Slice lo hi none p2) pos) (tOf X.K B (mSlice m ml mh)) :=
  (pe_slice (sl_list.or sl_tup) ha hl hh).imp fun σ H Q ⟨st, ps, S, as, R, t, st', e, q⟩ => by
    obtain ⟨t1, s1, l, s2, u, e1, e2, e3, e4⟩ := mSlice_inv e
    refine ⟨st, ps, S, as, R, t1, s1, e1, fun v H1 S1 as1 R1 => ⟨s1, _, S1, as1, R1, l, s2, e2, fun H2 S2 as2 R2 => ⟨s2, _, S2, as2, R2, u, st', e3, fun H3 S3 as3 R3 => ?_⟩⟩⟩
    have top := R3.top
    cases top with
    | @lst b vs ts g1 g2 =>
      simp only [cutX] at e4; cases e4
      refine .inl ⟨b, vs, rfl, sqL_mono R3.sub g1, fun p hp => ?_⟩
      have x := Ext.laid R3.sub hp (.lst (cutV vs l u))
      exact q _ _ _ _ ((R3.drop.ext x).push (.lst (SqL.of upd_same) ((reps_cut g2 l u).mono x.s nol)))
    | @tup b vs ts g1 g2 =>
      simp only [cutX] at e4
      split at e4
      · cases e4
      · rename_i hw
        cases e4
        refine .inr ⟨b, vs, rfl, sqT_mono R3.sub g1, ?_, fun p hp => ?_⟩
        · rw [sIx_eq, sIx_eq, ← g2.length] at hw; exact hw
        · have x := Ext.laid R3.sub hp (.tup (cutV vs l u))
          exact q _ _ _ _ ((R3.drop.ext x).push (.tup (SqT.of upd_same) ((reps_cut g2 l u).mono x.s nol)))
    | _ => simp only [cutX, reduceCtorEq] at e4
end
noncomputable section
variable {prog : Program} {w : World} {A : Around} {E : Value → Shared → Prop} {s : Shared}
theorem applied_back {sl : Addr} {t : Tok} {n : Nat} {Q : Int × Int × Nat → Shared → Prop} (hs : s.heap.IsSliceOf sl .none .none (.int (-1) t)) (h : Q ((n : Int) - 1, -1, n) s) : wpAny (model prog w) A (Builtin.Slice.sliceApplied (.ref sl) (pure (n : Int))) Q E s := by
  obtain ⟨os, g1, g2, g3⟩ := id hs
  have ea : Builtin.Slice.sliceAdjust none none (-1) (n : Int) = ((n : Int) - 1, -1) := by
    unfold Builtin.Slice.sliceAdjust
    simp
  have en : Builtin.Slice.slicePlaces ((n : Int) - 1) (-1) (-1) = n := by
    unfold Builtin.Slice.slicePlaces
    have h1 : ¬ ((-1 : Int) > 0) := by decide -- here
    rw [if_neg h1]
    split
    · first
      | (simp; done)
      | (simp; omega)
    · omega
  unfold Builtin.Slice.sliceApplied Builtin.Slice.sliceFields
  refine wpAny_bind (wpAny_bind (wpAny_field g1 g3 (x := .none) rfl (wpAny_bind (wpAny_field g1 g3 (x := .none) rfl (wpAny_bind (wpAny_field g1 g3 (x := .int (-1) t) rfl (wpAny_pure ?_)))))))
  refine wpAny_bind (HT.slicePart_ (.int (-1) t) ?_)
  refine (show wpAny _ _ (if ((-1 : Int) == 0) = true then _ else _) _ _ s from ?_)
  rw [if_neg (by decide)]
  refine wpAny_bind (HT.slicePart_ .none (wpAny_bind (HT.slicePart_ .none (wpAny_bind (wpAny_pure ?_)))))
  refine (show wpAny _ _ (match Builtin.Slice.sliceAdjust none none (-1) (n : Int) with | (lo, hi) => pure (lo, (-1 : Int), Builtin.Slice.slicePlaces lo hi (-1))) _ _ s from ?_)
  rw [ea]
  refine (show wpAny _ _ (pure ((n : Int) - 1, (-1 : Int), Builtin.Slice.slicePlaces ((n : Int) - 1) (-1) (-1))) _ _ s from ?_)
  rw [en]
  exact wpAny_pure h
theorem fm_eq {α β : Type} {f g : α → Option β} : ∀ {l : List α}, (∀ a ∈ l, f a = g a) → l.filterMap f = l.filterMap g
  | [], _ => rfl
  | a :: l, h => by rw [List.filterMap_cons, List.filterMap_cons, h a List.mem_cons_self, fm_eq fun b hb => h b (List.mem_cons_of_mem _ hb)]
theorem pick_back (xs : Array Value) : ((List.range xs.size).filterMap fun (m : Nat) => xs[(((xs.size : Nat) : Int) - 1 + (m : Int) * (-1)).toNat]?) = xs.toList.reverse := by
  have e : ∀ m ∈ List.range xs.size, xs[(((xs.size : Nat) : Int) - 1 + (m : Int) * (-1)).toNat]? = some (xs.toList.reverse.getD m .none) := fun m hm => by
    have hm := List.mem_range.mp hm
    have e1 : (((xs.size : Nat) : Int) - 1 + (m : Int) * (-1)).toNat = xs.size - 1 - m := by omega
    rw [e1, List.getD_eq_getElem?_getD, List.getElem?_reverse (by rw [Array.length_toList]; exact hm), Array.getElem?_toList, Array.length_toList, Array.getElem?_eq_getElem (by omega)]
    rfl
  rw [fm_eq e]
  rw [show (fun (x : Nat) => some (xs.toList.reverse.getD x Value.none)) = some ∘ fun x => xs.toList.reverse.getD x .none from rfl, List.filterMap_eq_map]
  apply List.ext_getElem
  · simp
  · intro i h1 h2
    simp [List.getD_eq_getElem?_getD, List.getElem?_eq_getElem h2]
theorem tuple_back {t sl : Addr} {k : Tok} {items : Array Value} {Q : Value → Shared → Prop} (ht : IsTup s.heap t items) (hs : s.heap.IsSliceOf sl .none .none (.int (-1) k))
    (h : Q (.ref s.heap.objs.size) { s with heap := s.heap.push { cls := .type "tuple", data := .seq items.toList.reverse.toArray } }) (hsz : items.size ≤ sizeLine) : wpAny (model prog w) A (getItem (.ref t) (.ref sl)) Q E s := by
  have hz : sizeOk (.seq items.toList.reverse.toArray) := by
    show items.toList.reverse.toArray.size ≤ sizeLine
    rw [List.size_toArray, List.length_reverse, Array.length_toList]; exact hsz
  obtain ⟨os, g1, g2, g3⟩ := id hs
  have ty : s.TypeIs (.ref sl) "slice" := ⟨os, g1, g2⟩
  unfold getItem
  try with_reducible refine wpAny_holding ?_
  first | refine wpAny_bind (wpAny_pure ?_) | skip
  refine wpAny_bind (wpAny_sequenceKey ht.typeIs (by decide) (wpAny_bind (wpAny_callSpecial?_slot (name := Str.ofString "__getitem__") ht.typeIs PyProof.Rows.slot_tuple_getitem
    (wpAny_call_entry PyProof.Rows.slot_tuple_getitem ht.typeIs entry_tuple_getitem ?_ (args_tuple_getitem _ _)))))
  refine (show wpAny _ _ (Builtin.Tuple.tupleItemsOf (.ref t) >>= _) _ _ s from wpAny_bind (tupleItemsOf_ ht (wpAny_bind (wpAny_typeOf ty ?_))))
  rw [if_pos (by decide)]
  refine wpAny_bind (applied_back hs ?_)
  refine (show wpAny _ _ (if ((((items.size : Nat) : Int) - 1) == 0 && (-1 : Int) == 1 && items.size == items.size) = true then _ else _) _ _ s from ?_)
  rw [if_neg (by rw [show ((-1 : Int) == 1) = false from rfl, Bool.and_false, Bool.false_and]; exact Bool.false_ne_true), pick_back]
  first
    | exact wpAny_bind (m := Builtin.Tuple.tupleExact _) (wpAny_newObj_type (wpAny_pure ⟨_, rfl, wpAny_pure h⟩) hz)
    | exact wpAny_bind (m := Builtin.Tuple.tupleExact _) (wpAny_newObj_type (wpAny_bind (wpAny_pure (wpAny_pure ⟨_, rfl, wpAny_pure h⟩))) hz)
    | exact wpAny_bind (wpAny_bind (m := Builtin.Tuple.tupleExact _) (wpAny_newObj_type (wpAny_pure (wpAny_pure ⟨_, rfl, wpAny_pure h⟩)) hz))
    | exact wpAny_bind (wpAny_bind (m := Builtin.Tuple.tupleExact _) (wpAny_newObj_type (wpAny_pure ⟨_, rfl, wpAny_pure h⟩) hz))
end
noncomputable section
variable {X : Cx} {B : Bas} {e : Expr} {te : TE} {m m1 m2 : M T} {pos p p2 p3 p4 : Pos} {j : Nat}
noncomputable def rRevX (K : PySem.W.Frag) : V → Hp → VK → Prop := fun x H Q => ∃ a xs, x = .ref a ∧ ((SqL K H a xs ∧ ∀ p, H p = none → Q (.ref p) (upd H p (.lst xs.reverse))) ∨ (SqT K H a xs ∧ ∀ p, H p = none → Q (.ref p) (upd H p (.tup xs.reverse))))
theorem pe_one' : PE X (.UnaryOp .USub (.Constant (.int 1) j p4) p3) (tC (.int (-1))) := (pe_un un_neg pe_int).imp fun σ H Q q => ⟨1, rfl, q⟩
theorem pe_revX (he : PE X e te) : PE X (.Subscript e (.Slice none none (some (.UnaryOp .USub (.Constant (.int 1) j p4) p3)) p2) pos) (fun σ H Q => te σ H fun x H1 => rRevX X.K x H1 Q) := by
  intro pins s σ H Q I h
  refine Subscript_ (thn (he pins s σ H _ I h) fun v s1 ⟨x, H1, I1, r1, q1⟩ => ?_)
  refine wpAny_Slice ?_
  rw [evalPart_none]
  refine wpAny_pure (wpAny_pure ?_) -- here
  rw [evalPart_some]
  refine thn (pe_one' pins s1 σ H1 (fun v H2 => v = .int (-1) ∧ H2 = H1) I1 ⟨rfl, rfl⟩) fun vk s2 ⟨y, H2, I2, r2, ey, eH⟩ => ?_
  subst ey eH
  obtain ⟨t, rfl⟩ := r2
  obtain ⟨a, xs, rfl, hx⟩ := q1
  cases r1
  have I4 : L2.Inv X pins σ H2 { s2 with heap := s2.heap.push { cls := .type "slice", data := .fields #[.none, .none, .int (-1) t] } } := I2.kept (t' := s2.toks) fun b ob q => Heap.get?_push_of_some _ q
  rcases hx with ⟨hx, q⟩ | ⟨hx, q⟩
  · obtain ⟨its, r, ht, hz⟩ := I4.list hx
    have hlen := r.length
    refine tail_any (ops := [.ref a, .ref s2.heap.objs.size]) (T := "list") ht.isList.typeIs slot_list_getitem.lookup ?_ (by with_unfolding_all rfl)
    refine wpAny_getItem_list_slice ht.isList (Heap.IsSliceOf.new ..) .none .none (.int (-1) t) (by decide) ?_ (by rw [List.size_toArray] <;> omega)
    rw [PySem.W.krv_pick]
    refine ⟨.ref _, _, I4.laid (t' := s2.toks) (o := .lst xs.reverse) (fun b ob q => Heap.get?_push_of_some _ q) (Nat.le_refl _) ?_, rfl, q _ (I4.hok.fresh (Nat.le_refl _))⟩
    exact ⟨by rw [List.length_reverse]; exact hz, _, 0, by simpa using r.reverse, Heap.get?_push_size _ rfl⟩
  · obtain ⟨its, r, ht, hz⟩ := I4.tuple hx
    have hlen := r.length
    refine tail_any (ops := [.ref a, .ref s2.heap.objs.size]) (T := "tuple") ht.typeIs PyProof.Rows.slot_tuple_getitem.lookup ?_ (by with_unfolding_all rfl)
    refine tuple_back ht (Heap.IsSliceOf.new ..) ?_ (by rw [List.size_toArray] <;> omega)
    refine ⟨.ref _, _, I4.laid (t' := s2.toks) (o := .tup xs.reverse) (fun b ob q => Heap.get?_push_of_some _ q) (Nat.le_refl _) ?_, rfl, q _ (I4.hok.fresh (Nat.le_refl _))⟩
    exact ⟨by rw [List.length_reverse]; exact hz, its.reverse, r.reverse, TupD.new _ its.reverse.toArray⟩
theorem te_revT (ha : PE X e (tOf X.K B m)) : PE X (.Subscript e (.Slice none none (some (.UnaryOp .USub (.Constant (.int 1) j p4) p3)) p2) pos) (tOf X.K B (mUn revT m)) :=
  (pe_revX ha).imp fun σ H Q ⟨st, ps, S, as, R, t, st', e, q⟩ => by
    obtain ⟨t1, e1, e3⟩ := mUn_inv e
    refine ⟨st, ps, S, as, R, t1, st', e1, fun v H1 S1 as1 R1 => ?_⟩
    have top := R1.top
    cases top with
    | @lst a vs ts g1 g2 =>
      simp only [revT] at e3; cases e3
      refine ⟨a, vs, rfl, .inl ⟨sqL_mono R1.sub g1, fun p hp => ?_⟩⟩
      have x := Ext.laid R1.sub hp (.lst vs.reverse)
      exact q _ _ _ _ ((R1.drop.ext x).push (.lst (SqL.of upd_same) (g2.reverse.mono x.s nol)))
    | @tup a vs ts g1 g2 =>
      simp only [revT] at e3; cases e3
      refine ⟨a, vs, rfl, .inr ⟨sqT_mono R1.sub g1, fun p hp => ?_⟩⟩
      have x := Ext.laid R1.sub hp (.tup vs.reverse)
      exact q _ _ _ _ ((R1.drop.ext x).push (.tup (SqT.of upd_same) (g2.reverse.mono x.s nol)))
    | _ => simp only [revT, reduceCtorEq] at e3
theorem mOwnIx_inv {i : Nat} {k : M T} {s s' : Sta} {t : T} (h : mOwnIx i k s = some (t, s')) : lstAt i s = true ∧ ∃ j xs f n, k s = some (.int j, s') ∧ s'.env[i]? = some (some (.lst xs, f)) ∧ ixI xs.length j = some n ∧ xs[n]? = some t := by
  unfold mOwnIx at h
  split at h
  · rename_i hd
    refine ⟨hd, ?_⟩
    split at h
    · rename_i j s1 e1
      split at h
      · rename_i xs f e2
        split at h
        · rename_i u e3
          cases h
          obtain ⟨n, h1, h2⟩ := Option.bind_eq_some_iff.mp e3
          exact ⟨j, xs, f, n, e1, e2, h1, h2⟩
        · cases h
      · cases h
    · cases h
  · cases h
theorem te_ownIx (i : Nat) {o k : Expr} {mk : M T} (ho : PE X o (tVar i)) (hk : PE X k (tOf X.K B mk)) (hs : PlainIx k) : PE X (.Subscript o k pos) (tOf X.K B (mOwnIx i mk)) := (pe_ix ix_list ho hk hs).imp fun σ H Q ⟨st, ps, S, as, R, t, st', e, q⟩ => by
  obtain ⟨hd, j, xs, f, n, e1, e2, e3, e4⟩ := mOwnIx_inv e
  obtain ⟨xs0, f0, e0⟩ := lstAt_inv hd
  obtain ⟨p0, vs0, s0, _⟩ := R.listAt e0
  refine ⟨_, s0, st, ps, S, as, R, .int j, st', e1, fun u H2 S2 as2 R2 => ?_⟩
  cases R2.top
  obtain ⟨p1, vs1, s1, rd1, h4⟩ := R2.listAt e2
  rw [s0] at s1; cases s1
  obtain ⟨z, hz, rz⟩ := h4.get e4
  refine ⟨p0, vs1, j, z, rfl, rfl, rd1, ?_, q z H2 S2 as2 (R2.drop.push rz)⟩
  rw [ixI_eq, ← h4.length] at e3
  unfold atI; rw [e3]; exact hz
end
end C
end
noncomputable section
set_option linter.all false
set_option autoImplicit false
namespace C
open PySem PySem.Spec L2
noncomputable def Held (K : PySem.W.Frag) (u : Value) (t : T) : Prop := ∃ v, RelV v u ∧ ∀ S as, Rep K S as v t
noncomputable def Helds (K : PySem.W.Frag) (us : List Value) (ts : List T) : Prop := ∃ vs, Vals vs us ∧ ∀ S as, Reps K S as vs ts
noncomputable section
variable {K : PySem.W.Frag}
theorem Held.int {i : Int} {tk : Tok} : Held K (.int i tk) (.int i) := ⟨.int i, ⟨tk, rfl⟩, fun _ _ => .int i⟩
theorem Held.str {x : Str} {tk : Tok} : Held K (.str x tk) (.str x) := ⟨.str x, ⟨tk, rfl⟩, fun _ _ => .str x⟩
theorem Held.bl {b : Bool} : Held K (.bool b) (.bl b) := ⟨.bl b, rfl, fun _ _ => .bl b⟩
theorem Held.non : Held K .none .non := ⟨.non, rfl, fun _ _ => .non⟩
theorem Helds.nil : Helds K [] [] := ⟨[], .nil, fun _ _ => .nil⟩
theorem Helds.cons {u : Value} {t : T} {us : List Value} {ts : List T} (h : Held K u t) (hs : Helds K us ts) : Helds K (u :: us) (t :: ts) := by
  obtain ⟨v, r, e⟩ := h
  obtain ⟨vs, rs, es⟩ := hs
  exact ⟨v :: vs, .cons r rs, fun S as => .cons (e S as) (es S as)⟩
theorem Held.tup {a : Addr} {us : List Value} {n : Nat} {sl : Array (Option Value)} {ts : List T} (h : K.lookup a = some ⟨.type "tuple", none, .seq us.toArray n, sl⟩) (hz : us.length ≤ 1000) (hs : Helds K us ts) : Held K (.ref a) (.tup ts) := by
  obtain ⟨vs, rs, es⟩ := hs
  refine ⟨.ref a, rfl, fun S as => .tup (.inr ⟨_, us.toArray, n, h, rfl, rfl, rfl, ?_, ?_⟩) (es S as)⟩
  · rw [List.size_toArray, sizeLine_eq]; omega
  · exact rs
theorem Held.lst {a : Addr} {us : List Value} {n : Nat} {sl : Array (Option Value)} {ts : List T} (h : K.lookup a = some ⟨.type "list", none, .seq us.toArray n, sl⟩) (hz : us.length ≤ 1000) (hs : Helds K us ts) : Held K (.ref a) (.lst ts) := by
  obtain ⟨vs, rs, es⟩ := hs
  refine ⟨.ref a, rfl, fun S as => .lst (.inr ⟨_, us.toArray, n, h, rfl, rfl, rfl, ?_, ?_⟩) (es S as)⟩
  · rw [List.size_toArray, sizeLine_eq]; omega
  · exact rs
end
noncomputable section
variable {X : Cx} {B : Bas} {pos : Pos}
end
end C
end
noncomputable section
set_option linter.all false
set_option maxRecDepth 100000
set_option autoImplicit false
namespace C
open PySem PySem.Spec L2
inductive Tabs (w : World) : List DictEntry → List (Str × Str) → Prop
  | nil : Tabs w [] []
  | cons {k v : Str} {t u : Tok} {h : Int} {es : List DictEntry} {tbl : List (Str × Str)} : h = hashStr w k → Tabs w es tbl → Tabs w ({ hash := h, key := .str k t, val := .str v u } :: es) ((k, v) :: tbl)
noncomputable def TabIn (K : PySem.W.Frag) (w : World) (a : Addr) (tbl : List (Str × Str)) : Prop :=
  ∃ es ep, K.lookup a = some ⟨.type "dict", none, .dict es ep, #[]⟩ ∧ Tabs w es.toList tbl ∧ (tbl.map (·.1)).Nodup
theorem Tabs.of {P : Program} {w : World} {es : List DictEntry} {tbl : List (Str × Str)} (h : Tabs w es tbl) :
    ∃ vs : List (Key × Value), Pairs (mixKind P w) es vs ∧ vs.map (·.1) = tbl.map (fun p => (Sum.inr p.1 : Key)) ∧ (∀ e ∈ es, ∃ k, (mixKind P w).is k e.key = true ∧ e.hash = (mixKind P w).hash k) ∧
      ∀ x v, tbl.lookup x = some v → ∃ tk, valueAt vs (Sum.inr x) = some (.str v tk) := by
  induction h with
  | nil => exact ⟨[], .nil, rfl, fun e he => (nomatch he), fun x v e => (nomatch e)⟩
  | @cons k v t u h es tbl hh _ ih =>
    obtain ⟨vs, p, e1, e2, e3⟩ := ih
    refine ⟨(.inr k, .str v u) :: vs, .cons (keyIs_str k t) rfl p, by simp [e1], fun e he => ?_, fun x y e => ?_⟩
    · rcases List.mem_cons.mp he with rfl | he -- here
      · exact ⟨.inr k, keyIs_str k t, hh⟩
      · exact e2 e he
    · rw [List.lookup_cons] at e
      unfold valueAt
      rw [List.find?_cons]
      by_cases hx : x = k
      · subst hx
        simp at e
        subst e
        exact ⟨u, by simp⟩
      · have h1 : (x == k) = false := beq_eq_false_iff_ne.mpr hx
        rw [h1] at e
        have h2 : decide ((Sum.inr k : Key) = Sum.inr x) = false := decide_eq_false fun z => hx (Sum.inr.inj z).symm
        simp only [h2]
        exact e3 x y e
noncomputable section
variable {X : Cx} {B : Bas} {e : Expr} {m : M T} {pos p : Pos}
theorem te_tab {x : Str} {tbl : List (Str × Str)} (hg : Gl X x) (h : ∃ a, X.mg x = some (.ref a) ∧ TabIn X.K X.w a tbl) (he : PE X e (tOf X.K B m)) (hs : NoSl e) (hd : (x == ("__debug__" : Str)) = false := by decide) :
    PE X (.Subscript (.Name x p) e pos) (tOf X.K B (mUn (tabT tbl) m)) := by
  obtain ⟨a, hm, es, ep, hk, tb, nd⟩ := h
  obtain ⟨vs, hp, e1, e2, e3⟩ := tb.of (P := X.prog)
  intro pins s σ H Q I hw
  obtain ⟨st, ps, S, as, R, t, st', em, q⟩ := hw
  obtain ⟨k, em1, em2⟩ := mUn_inv em
  refine subD_of PySem.F.slot_dict_getitem.lookup hs (thn ((pe_glob (v := .ref a) hg hm rfl hd) pins s σ H (fun v H' => v = .ref a ∧ H' = H) I ⟨rfl, rfl⟩) fun u s1 z1 => ?_)
  obtain ⟨v1, H1, I1, r1, rfl, rfl⟩ := z1
  obtain rfl : u = Value.ref a := r1
  refine thn (he pins s1 σ H1 (fun v H2 => ∃ y w', v = .str y ∧ tbl.lookup y = some w' ∧ Q (.str w') H2) I1 ⟨st, ps, S, as, R, k, st', em1, fun v H2 S2 as2 R2 => ?_⟩) fun iv s2 z2 => ?_
  · unfold tabT at em2
    split at em2
    · rename_i y
      cases hl : tbl.lookup y with
      | none => rw [hl] at em2; cases em2
      | some w' =>
        rw [hl] at em2
        cases em2
        have top := R2.top
        cases top
        exact ⟨y, w', rfl, hl, q _ H2 S2 as2 (R2.drop.push (.str w'))⟩
    · cases em2
  · obtain ⟨v2, H2, I2, r2, y, w', rfl, hl, hq⟩ := z2
    have dd : s2.heap.DictOf (mixKind X.prog X.w) a vs := ⟨_, es, ep, I2.kIn a _ hk, ⟨rfl, rfl, rfl⟩, rfl, fun e he => e2 e (Array.mem_toList_iff.mpr he), hp, by
      rw [e1]
      have : (tbl.map fun p => (Sum.inr p.1 : Key)) = (tbl.map (·.1)).map Sum.inr := by rw [List.map_map]; rfl
      rw [this]
      exact List.Pairwise.map _ (fun a b hab z => hab (Sum.inr.inj z)) nd⟩
    obtain ⟨tk, hv⟩ := e3 y w' hl
    exact ⟨dd.typeIs, wpAny_getItem_of (kV_is (k := .inr y) r2) dd.mapOf hv ⟨.str w', H2, I2.tok _, ⟨tk, rfl⟩, hq⟩⟩
end
end C
end
noncomputable section
set_option linter.all false
set_option maxRecDepth 100000
set_option autoImplicit false
namespace C
open PySem L2
theorem iRange2_inv {a b : M T} {ts : List T} {s s' : Sta} (h : iRange2 a b s = some (ts, s')) : ∃ (lo hi : Int) (s1 : Sta), a s = some (.int lo, s1) ∧ b s1 = some (.int hi, s') ∧ (-1000000 < lo ∧ lo < 1000000 ∧ -1000000 < hi ∧ hi < 1000000) ∧ ts = rangeT2 lo (hi - lo).toNat := by
  unfold iRange2 at h
  split at h
  · rename_i lo s1 e1
    split at h
    · rename_i hi s2 e2
      split at h
      · rename_i hl; cases h; exact ⟨lo, hi, s1, e1, e2, by have : lo.natAbs < 1000000 ∧ hi.natAbs < 1000000 := hl; omega, rfl⟩
      · cases h
    · cases h
  · cases h
theorem rangeT2_get {lo : Int} {n i : Nat} {t : T} (h : (rangeT2 lo n)[i]? = some t) : i < n ∧ t = .int (lo + (i : Int)) := by
  unfold rangeT2 at h
  rw [List.getElem?_map] at h
  cases z : (List.range n)[i]? with
  | none => rw [z] at h; cases h
  | some k =>
    rw [z] at h; cases h
    obtain ⟨hi, e⟩ := List.getElem?_eq_some_iff.mp z
    rw [List.getElem_range] at e; subst e
    rw [List.length_range] at hi
    exact ⟨hi, rfl⟩
theorem sz_range2 {m1 m2 : M T} : ∀ st ts st', iRange2 m1 m2 st = some (ts, st') → ts.length ≤ sizeLine := fun st ts st' e => by
  obtain ⟨lo, hi, s1, _, _, hl, rfl⟩ := iRange2_inv e
  unfold rangeT2
  rw [List.length_map, List.length_range, sizeLine_eq]
  omega
noncomputable section
variable {X : Cx} {B : Bas} {a b tg : Expr} {m1 m2 : M T} {pos p : Pos}
theorem ti_range2 (hg : Gl X "range") (hm : X.mg "range" = none) (h1 : PE X a (tOf X.K B m1)) (h2 : PE X b (tOf X.K B m2)) (hs : starEach [a, b] X.env = [(false, eval a X.env), (false, eval b X.env)] := by rfl) (hs2 : starEach [b] X.env = [(false, eval b X.env)] := by rfl) :
    PI X tg (.Call (.Name "range" p) [a, b] [] pos) (iOf X.K B (iRange2 m1 m2)) := by
  intro pins s σ H R I hw
  refine pi_range2 (ta := tCons (tOf X.K B m1) (tCons (tOf X.K B m2) tNil)) hg hm (pa_cons h1 (pa_cons h2 pa_nil hs2) (by rw [hs, hs2])) hs hs2 pins s σ H R I ?_
  obtain ⟨st, ps, S, as, Rl, ts, st', e, hz, q⟩ := hw
  obtain ⟨lo, hi, s1, e1, e2, hl, rfl⟩ := iRange2_inv e
  refine ⟨st, ps, S, as, Rl, _, _, e1, fun v H1 S1 as1 R1 => ⟨s1, _, S1, as1, R1, _, _, e2, fun u H2 S2 as2 R2 => ?_⟩⟩
  have t2 := R2.top
  have t1 := R2.top2
  cases t2
  cases t1
  refine ⟨lo, hi, rfl, by omega, q _ H2 S2 as2 [] R2.drop.drop fun S3 as3 H3 _ hh => ⟨fun i t e => ?_, fun i hj => ?_⟩⟩
  · obtain ⟨hi, rfl⟩ := rangeT2_get e
    refine ⟨hi, fun x H' y => ⟨S3, by rw [y.1]; exact Ext.refl hh, ?_⟩⟩
    have := y.2; subst this
    exact .int _
  · show (hi - lo).toNat ≤ i
    unfold rangeT2 at hj
    rwa [List.length_map, List.length_range] at hj
end
end C
end
noncomputable section
set_option linter.all false
set_option maxRecDepth 100000
set_option maxHeartbeats 4000002
set_option autoImplicit false
namespace C
open PySem PySem.Spec PyProof.Rows L2
noncomputable section
variable {K : PySem.W.Frag} {S : Hp} {as : List Addr}
end
noncomputable section
variable {X : Cx} {B : Bas} {a b e : Expr} {m m2 : M T} {pos p1 : Pos} {es : List Expr} {ms : M (List T)}
theorem Rel.base {K : PySem.W.Frag} {B : Bas} {st : Sta} {σ : L2.St} {H S : Hp} {ps : List (V × T)} {as : List Addr} (r : Rel K B st σ H ps S as) : Rel K ⟨S, as, B.H⟩ st σ H ps S as :=
  ⟨r.sub, ⟨Same.refl _, nol, fun p o h1 h2 h3 => by
    change S p = none at h2
    have b2 : B.S p = none := by
      cases q : B.S p with
      | none => rfl
      | some u => have := r.grow.same _ _ q; rw [h2] at this; cases this
    have b3 : p ∉ B.as := fun q => by obtain ⟨l, e⟩ := r.grow.more; exact h3 (by show p ∈ as; rw [e]; exact List.mem_append_left _ q)
    exact ⟨(r.grow.keep p o h1 b2 b3).1, h2, h3⟩⟩, fun i t f e => by
      obtain ⟨v, h1, h2, h3⟩ := r.slots i t f e
      exact ⟨v, h1, h2, fun q => by obtain ⟨p, ep, o⟩ := h3 q; exact ⟨p, ep, o.own, o.out, o.nas, o.new⟩⟩, r.apart, r.sto, r.pend, r.len⟩
end
end C
end
noncomputable section
set_option linter.all false
set_option maxRecDepth 100000
set_option maxHeartbeats 4000002
set_option autoImplicit false
namespace C
open PySem PySem.Spec
theorem lr_len : typeLookup (.type "list_reverseiterator") "__len__" = pure none := by rw [typeLookup_type, builtinLookup_eq_fast]; kernel_rfl
theorem lr_hint : typeLookup (.type "list_reverseiterator") "__length_hint__" = pure (some (.builtin "list_reverseiterator.__length_hint__")) := by rw [typeLookup_type, builtinLookup_eq_fast]; kernel_rfl
noncomputable section
variable {prog : Program} {w : World} {A : Around} {E : Value → Shared → Prop} {s : Shared} {it l : Addr} {xs : Array Value}
theorem hint_rev {Q : Bool → Shared → Prop} (hT : s.TypeIs (.ref it) "list_reverseiterator") (q : Q false s) : wpAny (model prog w) A (Builtin.List.listLengthHint (.ref it)) Q E s := by
  unfold Builtin.List.listLengthHint -- here
  refine wpAny_bind (wpAny_specialOf hT lr_len ?_)
  change wpAny _ A (specialOf (Value.ref it) (Str.ofString "__length_hint__") >>= _) _ _ _
  refine wpAny_bind (wpAny_specialOf hT lr_hint ?_)
  generalize hw : ("list_reverseiterator.__length_hint__" : String) = nm
  wp_delta
  rw [show splitId nm = some ("list_reverseiterator", "__length_hint__") from by subst hw; decide +kernel]
  subst hw
  refine wpAny_bind (wpAny_isInstance (b := true) hT (by rw [isSubtype_type]; kernel_rfl) ?_)
  exact wpAny_pure q
theorem collect_rev {Q : List Value → Shared → Prop} (nh : A.handled = none) (hne : l ≠ it) (hi : s.heap.IsRevIter it l ((xs.size : Int) - 1)) (hl : s.heap.IsList l xs) (hz : xs.size ≤ sizeLine)
    (q : ∀ (h' : Heap) (tk : Nat), (∀ b o, b ≠ it → s.heap.get? b = some o → h'.get? b = some o) → s.heap.objs.size ≤ h'.objs.size → Q xs.toList.reverse { s with heap := h', toks := tk }) :
    wpAny (model prog w) A (collect (.ref it)) Q E s := by -- here
  have W := (Walks.listRev (prog := prog) (w := w) (A := A.in1) nh it l hne xs).toS
  have ltI : it < s.heap.objs.size := by obtain ⟨o, ho, _⟩ := id hi; exact Heap.lt_size ho
  have ltL : l < s.heap.objs.size := by obtain ⟨o, ho, _⟩ := id hl; exact Heap.lt_size ho
  have out : s.heap.objs.size ∉ [it, l] := fun hm => by
    rcases List.mem_cons.mp hm with e | hm -- here
    · exact Nat.lt_irrefl _ (e ▸ ltI)
    · exact Nat.lt_irrefl _ ((List.mem_singleton.mp hm) ▸ ltL)
  have dif : s.heap.objs.size ≠ it := fun e => out (e ▸ List.mem_cons_self ..)
  unfold collect
  refine wpAny_bind (wpAny_runValue (codeAny_builtin F.entry_proto_collect ?_)) -- here
  rw [Around.under_plainId F.plain_proto_collect _] -- here
  change wpAny _ A.in1 (newList [] >>= fun p => again (.builtin "list.__iadd__" ⟨[p, .ref it], []⟩)) _ _ s
  refine wpAny_bind (wpAny_newObj_type (wpAny_pure ⟨plainId_quiet F.plain_list_iadd _, codeAny_builtin F.entry_list_iadd ?_⟩))
  rw [Around.under_plainId F.plain_list_iadd _] -- here
  generalize hn : ({ cls := .type "list", data := .seq ([] : List Value).toArray } : Obj) = new
  have up : ∀ b o, s.heap.get? b = some o → (s.heap.push new).get? b = some o := fun b o e => Heap.get?_push_of_some _ e
  have hi1 : (s.heap.push new).IsRevIter it l ((xs.size : Int) - 1) := hi.at fun o e => up _ o e
  have hl1 : (s.heap.push new).IsList l xs := hl.at fun o e => up _ o e
  have hS : (s.heap.push new).get? s.heap.objs.size = some new := by subst hn; exact Heap.get?_push_size _ rfl
  have same : Builtin.List.listSameRef (.ref s.heap.objs.size) (.ref it) = false := by simp [Builtin.List.listSameRef, dif]
  have hT : ({ s with heap := s.heap.push new } : Shared).TypeIs (.ref it) "list_reverseiterator" := Heap.IsRevIter.typeIs (s := { s with heap := s.heap.push new }) hi1
  change wpAny _ A.in1 (Builtin.List.listExtendWith (.ref s.heap.objs.size) (.ref it) (.ref s.heap.objs.size)) _ _ _
  unfold Builtin.List.listExtendWith -- here
  refine wpAny_bind (wpAny_typeOf hT ?_) -- here
  rw [if_neg (by rw [same]; decide)]
  refine wpAny_bind (wpAny_pyIter_revIter (s := { s with heap := s.heap.push new }) hi1 ?_)
  refine wpAny_bind (wpAny_holding (hint_rev hT ?_))
  rw [if_neg (by decide)]
  have e0 : ((xs.size : Int) - 1 - ((0 : Nat) : Int)) = (xs.size : Int) - 1 := by omega
  subst hn
  refine wpAny_pure ⟨plainId_quiet F.plain_extend_loop _, codeAny_extend_loopS W hz _ out _ xs.size 0 _ _ _ rfl (Nat.zero_le _) ⟨Nat.zero_le _, by rw [e0]; exact hi1, hl1⟩ hS (ItemsOf.nil _) fun s' acc c hm hS' ha => ?_⟩
  change wpAny _ A (load s.heap.objs.size >>= _) _ _ s'
  refine wpAny_bind (wpAny_load hS' (wpAny_pure ?_))
  have hm' := Moved.drop_new (o := { cls := .type "list", data := .seq ([] : List Value).toArray }) (tk := s.toks) hm (Nat.le_refl _)
  have ea : acc.toList = xs.toList.reverse := by
    apply List.ext_getElem?
    intro i
    by_cases hi' : i < xs.size
    · have h1 : acc[i]? = some (acc[i]'(by rw [ha.1]; exact hi')) := Array.getElem?_eq_getElem _
      have h2 := ha.2 i _ h1
      rw [List.getElem?_reverse (by simpa using hi'), Array.getElem?_toList, Array.getElem?_toList, h1]
      simpa using h2.symm
    · rw [List.getElem?_eq_none (by simpa [ha.1] using hi'), List.getElem?_eq_none (by simpa using hi')]
  rw [ea]
  have hlt := Heap.lt_size hS'
  obtain ⟨h', gs, dr, tk, os⟩ := s'
  obtain ⟨m1, m2, m3, m4, m5⟩ := hm'
  simp only at m1 m2 m3 m4 m5 hlt
  subst m2 m3 m4
  exact q h' tk (fun b o hb e => m1 b o (fun hm => hb (List.mem_singleton.mp hm)) e) (Nat.le_of_lt hlt)
theorem code_tuple_rev {Q₁ : Value → Shared → Prop} (nh : A.handled = none) (hne : l ≠ it) (hi : s.heap.IsRevIter it l ((xs.size : Int) - 1)) (hl : s.heap.IsList l xs) (hz : xs.size ≤ sizeLine)
    (q : ∀ (h' : Heap) (tk : Nat), (∀ b o, b ≠ it → s.heap.get? b = some o → h'.get? b = some o) → s.heap.objs.size ≤ h'.objs.size → Q₁ (.ref h'.objs.size) { s with heap := h'.push { cls := .type "tuple", data := .seq xs.toList.reverse.toArray }, toks := tk }) :
    codeAny (model prog w) A (.call (.builtin "tuple.__new__") ⟨[.type "tuple", .ref it], []⟩) (wants Q₁ E) s := by
  refine codeAny_of_tree ?_
  change wpAny _ A.in1 (do checkBuiltinCall "tuple.__new__" ⟨[.type "tuple", .ref it], []⟩; again (.builtin "tuple.__new__" ⟨[.type "tuple", .ref it], []⟩)) _ _ s
  refine wpAny_bind (wpAny_of_eq (F.newCall_tuple_1 _) (wpAny_pure ⟨plainId_quiet F.plain_tuple_new _, codeAny_builtin F.entry_tuple_new ?_⟩)) -- here
  rw [Around.under_plainId F.plain_tuple_new _] -- here
  have s1 := sub_tuple_self
  have s2 := init_tuple_lookup
  have s3 := madeHere_tuple
  have hT := Heap.IsRevIter.typeIs (s := s) hi
  wp_walk using wpAny_typeOf hT, collect_rev (A := A.in1) (hz := hz) nh hne hi hl
  intro h' tk kp sz
  change wpAny _ _ (Builtin.Tuple.tupleExact xs.toList.reverse.toArray >>= fun v => ret v) _ _ _
  unfold Builtin.Tuple.tupleExact -- here
  refine wpAny_bind (wpAny_newObj_type ?_ (by change xs.toList.reverse.toArray.size ≤ sizeLine; simpa using hz))
  exact wpAny_pure (q h' tk kp sz)
theorem tuple_rev {Q : Value → Shared → Prop} (nh : A.handled = none) (hne : l ≠ it) (hi : s.heap.IsRevIter it l ((xs.size : Int) - 1)) (hl : s.heap.IsList l xs) (hz : xs.size ≤ sizeLine)
    (q : ∀ (h' : Heap) (tk : Nat), (∀ b o, b ≠ it → s.heap.get? b = some o → h'.get? b = some o) → s.heap.objs.size ≤ h'.objs.size → Q (.ref h'.objs.size) { s with heap := h'.push { cls := .type "tuple", data := .seq xs.toList.reverse.toArray }, toks := tk }) :
    wpAny (model prog w) A (call (.type "tuple") [.ref it]) Q E s := by
  refine callType_codes (Q₁ := fun ob z => z.TypeIs ob "tuple" ∧ Q ob z) F.called_tuple (F.typeCall_tuple_1 _) F.entry_object_init
    (code_tuple_rev nh hne hi hl hz fun h' tk kp sz => ⟨⟨_, Heap.get?_push_size _ rfl, rfl⟩, q h' tk kp sz⟩) fun ob z h1 => ?_
  exact ⟨h1.1, F.args_object_init_2 ob _, object_init_meets F.called_tuple.init.lookup F.called_tuple.made (by decide) prog w A.in1 _ z ⟨h1.1, rfl, h1.2⟩⟩
end
end C
end
noncomputable section
set_option linter.all false
set_option maxRecDepth 100000
set_option maxHeartbeats 4000002
set_option autoImplicit false
namespace C
open PySem PySem.Spec PyProof.Rows L2
noncomputable section
variable {X : Cx} {B : Bas} {a b e e1 e2 : Expr} {m m1 m2 : M T} {pos p1 p2 p3 p4 : Pos} {lo hi : Option Expr} {ml mh : M (Option Int)}
theorem mOwnAdd_inv {i : Nat} {s s' : Sta} {t : T} (h : mOwnAdd i m s = some (t, s')) : lstAt i s = true ∧ ∃ xs f ys, m s = some (.lst ys, s') ∧ s'.env[i]? = some (some (.lst xs, f)) ∧ xs.length + ys.length < lim ∧ t = .lst (xs ++ ys) := by
  unfold mOwnAdd at h
  split at h
  · rename_i hd
    refine ⟨hd, ?_⟩
    split at h
    · rename_i ys s1 e1
      split at h
      · rename_i xs f e2
        split at h
        · rename_i hl
          cases h
          exact ⟨xs, f, ys, e1, e2, hl, rfl⟩
        · cases h
      · cases h
    · cases h
  · cases h
theorem tf_ownAdd (i : Nat) (hi : PE X a (tVar i)) (hb : PE X b (tOf X.K B m)) : PE X (.BinOp a .Add b pos) (fOf X.K B (mOwnAdd i m)) := (pe_op op_catL hi hb).imp fun σ H Q ⟨st, ps, S, as, R, t, st', ev, q⟩ => by
  obtain ⟨hd, xs, f, ys, e1, e2, hl, rfl⟩ := mOwnAdd_inv ev
  obtain ⟨xs0, f0, e0⟩ := lstAt_inv hd
  obtain ⟨p0, vs0, s0, _⟩ := R.listAt e0
  refine ⟨_, s0, st, ps, S, as, R, .lst ys, st', e1, fun u H2 S2 as2 R2 => ?_⟩
  have tp := R2.top
  cases tp with
  | @lst c vs ts g1 g2 =>
    obtain ⟨q1, vs1, s1, rd1, h4⟩ := R2.listAt e2
    rw [s0] at s1; cases s1
    refine ⟨p0, c, vs1, vs, rfl, rfl, rd1, sqL_mono R2.sub g1, ?_, fun l hl2 => ?_⟩
    · rw [h4.length, g2.length]; exact Nat.le_trans (Nat.le_of_lt hl) lim_line
    · obtain ⟨bD, sD, nD, no⟩ := R2.fresh hl2
      exact q l _ S2 as2 (R2.drop.poke bD sD nD (fun j w e1 e2 => no j w e1 e2)) ⟨⟨vs1 ++ vs, upd_same, h4.append g2⟩, sD, nD, bD⟩ (fun j w e1 e2 => no j w e1 e2)
theorem mOwnSl_inv {i : Nat} {s s' : Sta} {t : T} (h : mOwnSl i ml mh s = some (t, s')) : lstAt i s = true ∧ ∃ l s1 u xs f, ml s = some (l, s1) ∧ mh s1 = some (u, s') ∧ s'.env[i]? = some (some (.lst xs, f)) ∧ t = .lst (cutl xs l u) := by
  unfold mOwnSl at h
  split at h
  · rename_i hd
    refine ⟨hd, ?_⟩
    split at h
    · rename_i l s1 e1
      split at h
      · rename_i u s2 e2
        split at h
        · rename_i xs f e3
          cases h
          exact ⟨l, s1, u, xs, f, e1, e2, e3, rfl⟩
        · cases h
      · cases h
    · cases h
  · cases h
theorem te_ownSl (i : Nat) (ha : PE X a (tVar i)) (hl : PO X lo (oOf X.K B ml)) (hh : PO X hi (oOf X.K B mh)) : PE X (.Subscript a (.Slice lo hi none p2) pos) (tOf X.K B (mOwnSl i ml mh)) :=
  (pe_slice (sl_list.or sl_tup) ha hl hh).imp fun σ H Q ⟨st, ps, S, as, R, t, st', ev, q⟩ => by
    obtain ⟨hd, l, s1, u, xs, f, e1, e2, e3, rfl⟩ := mOwnSl_inv ev
    obtain ⟨xs0, f0, e0⟩ := lstAt_inv hd
    obtain ⟨p0, vs0, s0, _⟩ := R.listAt e0
    refine ⟨_, s0, st, _, S, as, R, l, s1, e1, fun H2 S2 as2 R2 => ⟨s1, _, S2, as2, R2, u, st', e2, fun H3 S3 as3 R3 => ?_⟩⟩
    obtain ⟨q1, vs1, s1', rd1, h4⟩ := R3.listAt e3
    rw [s0] at s1'; cases s1'
    refine .inl ⟨p0, vs1, rfl, rd1, fun p hp => ?_⟩
    have x := Ext.laid R3.sub hp (.lst (cutV vs1 l u))
    exact q _ _ _ _ ((R3.ext x).push (.lst (SqL.of upd_same) ((reps_cut h4 l u).mono x.s nol)))
theorem Rel.pin {K : PySem.W.Frag} {st : Sta} {σ : L2.St} {H S : Hp} {ps : List (V × T)} {as : List Addr} {p : Addr} {ob : HO} (r : Rel K B st σ H ps S as) (hp : H p = none) :
    Rel K ⟨S, as, upd B.H p ob⟩ st σ (upd H p ob) ps S as := by
  obtain ⟨bD, sD, nD, no⟩ := r.fresh hp
  have r2 := (r.poke (ob := ob) bD sD nD no).base
  refine ⟨r2.sub, ⟨Same.refl _, nol, fun q o h1 h2 h3 => ?_⟩, fun i t f ei => ?_, r2.apart, r2.sto, r2.pend, r2.len⟩
  · by_cases hq : q = p
    · subst hq
      change upd B.H q ob q = some o at h1
      rw [upd_same] at h1
      cases h1
      exact ⟨upd_same, sD, nD⟩
    · change upd B.H p ob q = some o at h1
      rw [upd_ne hq] at h1
      exact r2.grow.keep q o h1 h2 h3
  · obtain ⟨v, h1, h2, h3⟩ := r2.slots i t f ei
    refine ⟨v, h1, h2, fun q => ?_⟩
    obtain ⟨p', ep, o⟩ := h3 q
    refine ⟨p', ep, o.own, o.out, o.nas, ?_⟩
    have : p' ≠ p := fun z => by
      subst z
      subst ep
      subst q
      exact no i t ei h1
    change upd B.H p ob p' = none
    rw [upd_ne this]
    exact o.new
theorem Rel.unpin {K : PySem.W.Frag} {st st' : Sta} {σ σ' : L2.St} {H H' S S' : Hp} {ps ps' : List (V × T)} {as as' : List Addr} {p : Addr} {ob : HO} (r : Rel K B st σ H ps S as) (hp : H p = none) (r' : Rel K ⟨S, as, upd B.H p ob⟩ st' σ' H' ps' S' as') :
    Rel K B st' σ' H' ps' S' as' ∧ H' p = some ob ∧ B.H p = none ∧ S' p = none ∧ p ∉ as' ∧ NoSlot st' σ' p := by
  obtain ⟨bD, sD, nD, no⟩ := r.fresh hp
  obtain ⟨k1, k2, k3⟩ := r'.grow.keep p ob upd_same sD nD
  refine ⟨⟨r'.sub, ⟨r.grow.same.trans r'.grow.same, ?_, fun q o h1 h2 h3 => ?_⟩, fun i t f ei => ?_, r'.apart, r'.sto, r'.pend, r'.len⟩, k1, bD, k2, k3, fun i t ei es => ?_⟩
  · obtain ⟨l, el⟩ := r.grow.more
    obtain ⟨l', el'⟩ := r'.grow.more
    exact ⟨l ++ l', by rw [el', ← List.append_assoc, ← el]⟩
  · have hq : q ≠ p := fun z => by subst z; rw [bD] at h1; cases h1
    obtain ⟨x, y, z⟩ := r.grow.keep q o h1 h2 h3
    exact r'.grow.keep q o (by change upd B.H p ob q = some o; rw [upd_ne hq]; exact h1) y z
  · obtain ⟨v, h1, h2, h3⟩ := r'.slots i t f ei
    refine ⟨v, h1, h2, fun q => ?_⟩
    obtain ⟨p', ep, o⟩ := h3 q
    have : p' ≠ p := fun z => by
      have := o.new
      subst z
      change upd B.H p' ob p' = none at this
      rw [upd_same] at this; cases this
    exact ⟨p', ep, o.own, o.out, o.nas, by have := o.new; change upd B.H p ob p' = none at this; rwa [upd_ne ‹p' ≠ p›] at this⟩
  · obtain ⟨v, h1, h2, h3⟩ := r'.slots i t true ei
    obtain ⟨p', ep, o⟩ := h3 rfl
    rw [es] at h1
    cases h1
    cases ep
    have := o.new
    change upd B.H p ob p = none at this
    rw [upd_same] at this; cases this
theorem tf_disp2 {k1 k2 : Str} {j1 j2 : Nat} (h1 : ∀ B, PE X e1 (tOf X.K B m1)) (h2 : ∀ B, PE X e2 (tOf X.K B m2)) (hk : k1 ≠ k2) :
    PE X (.Dict [some (.Constant (.str k1) j1 p1), some (.Constant (.str k2) j2 p2)] [e1, e2] pos) (fOf X.K B (mMap (dispT2 k1 k2) (mCons m1 (mCons m2 mNil)))) :=
  (pe_disp (pps_cons pe_str (peE h1) (pps_cons pe_str (peE h2) pps_nil)) rfl rfl (by simp) (by simp)).imp fun σ H Q ⟨st, ps, S, as, R, t, st', ev, q⟩ => by
    intro p hp
    obtain ⟨ts, ea, eb⟩ := mMap_inv ev
    obtain ⟨t1, s1, us, c1, cr, rfl⟩ := mCons_inv ea
    obtain ⟨t2, s2, us2, c2, cr2, rfl⟩ := mCons_inv cr
    cases cr2
    simp only [dispT2] at eb
    cases eb
    refine ⟨_, st, ps, S, as, R.pin (ob := .dK []) hp, t1, s1, c1, fun v1 H1 S1 as1 R1 => ?_⟩
    refine ⟨_, s1, _, S1, as1, R1, t2, _, c2, fun v2 H2 S2 as2 R2 => ?_⟩
    obtain ⟨R3, a1, a2, a3, a4, a5⟩ := R.unpin hp R2
    refine ⟨a1, [(.inr k1, v1), (.inr k2, v2)], rfl, by simp, ?_⟩
    have em : mergeK [] [((.inr k1 : L2.Key), v1), (.inr k2, v2)] = [(.inr k1, v1), (.inr k2, v2)] := by
      have hne : ¬ ((.inr k1 : L2.Key) = .inr k2) := fun z => hk (Sum.inr.inj z)
      simp [mergeK, putK, hne]
    rw [em]
    exact q p _ S2 as2 (R3.drop.drop.poke a2 a3 a4 a5) ⟨⟨_, upd_same, .cons R3.top2 (.cons R3.top .nil)⟩, a3, a4, a2⟩ a5
theorem te_trev (hc : X.calm = true) (hg : Gl X "tuple") (hm : X.mg "tuple" = none) (hg2 : Gl X "reversed") (hm2 : X.mg "reversed" = none) (ha : PE X a (tOf X.K B m))
    (hs : starEach [a] X.env = (false, eval a X.env) :: starEach [] X.env := by rfl) (hp2 : (backTo p3 (starEach [] X.env)).any (·.1) = false := by rfl)
    (he : starEach [.Call (.Name "reversed" p2) [a] [] p3] X.env = (false, eval (.Call (.Name "reversed" p2) [a] [] p3) X.env) :: starEach [] X.env := by rfl) (hpl : (backTo p4 (starEach [] X.env)).any (·.1) = false := by rfl) :
    PE X (.Call (.Name "tuple" p1) [.Call (.Name "reversed" p2) [a] [] p3] [] p4) (tOf X.K B (mUn trevT m)) := by
  intro pins s σ H Q I ⟨st, ps, S, as, R, t, st', ev, q⟩
  obtain ⟨t1, e1, e3⟩ := mUn_inv ev
  refine wpAny_Call_Name_kw (ld_blt I hg hm PyProof.Rows.boot_tuple ?_ (by decide) (by decide))
  refine PyProof.Rows.callWith_type1 ?_ he hpl
  rw [he]
  change wpAny _ _ (spliced ((false, eval (.Call (.Name "reversed" p2) [a] [] p3) X.env) :: backTo p4 (starEach [] X.env))) _ _ s
  refine Calls.spliced_cons ?_
  have pa := pa_cons ha pa_nil hs
  refine Call_ (ld_blt I hg2 hm2 (by rfl) (PyProof.Rows.callWith_type1 (thn (pa p3 pins s σ H (fun vs H2 => ∃ c ws xs S2 as2, vs = [.ref c] ∧ t1 = .lst xs ∧ Rel X.K B st' σ H2 ps S2 as2 ∧ SqL X.K S2 c ws ∧ Reps X.K S2 as2 ws xs) I ?_) fun us s2 ⟨vs, H1, I1, r1, q1⟩ => ?_) hs hp2))
  · refine ⟨st, ps, S, as, R, t1, st', e1, fun v H1 S1 as1 R1 => ?_⟩
    have tp := R1.top
    cases tp with
    | @lst c ws xs g1 g2 => exact ⟨c, ws, xs, S1, as1, rfl, rfl, R1.drop, g1, g2⟩
    | _ => simp only [trevT, reduceCtorEq] at e3
  obtain ⟨c, ws, xs, S2, as2, rfl, rfl, R2, w1, g1⟩ := q1
  simp only [trevT] at e3
  cases e3
  cases r1 with
  | cons r rr =>
    cases rr
    cases r
    obtain ⟨its, vv, hl, hz⟩ := I1.list (sqL_mono R2.sub w1)
    have hlen := vv.length
    have lt : c < s2.heap.objs.size := by obtain ⟨o, ho, _⟩ := hl.isList; exact Heap.lt_size ho
    refine call_reversed_list hl.isList (Calls.spliced_nil ?_)
    have up : ∀ b o, s2.heap.get? b = some o → (s2.heap.push (revObj c ((its.toArray.size : Int) - 1))).get? b = some o := fun b o e => Heap.get?_push_of_some _ e
    refine tuple_rev (s := { s2 with heap := s2.heap.push (revObj c ((its.toArray.size : Int) - 1)) }) (l := c) (it := s2.heap.objs.size) (xs := its.toArray) (I1.ok.hd hc) (Nat.ne_of_lt lt) ⟨_, Heap.get?_push_size _ rfl, rfl, rfl⟩ (hl.isList.at fun o e => up _ o e) (by rw [List.size_toArray]; omega) fun h' tk kp sz => ?_
    have sz' : s2.heap.objs.size ≤ h'.objs.size := Nat.le_trans (Nat.le_of_lt (Heap.lt_size (Heap.get?_push_size s2.heap (o := revObj c ((its.toArray.size : Int) - 1)) rfl))) sz
    have hf : H1 h'.objs.size = none := I1.hok.fresh sz'
    have x := Ext.laid R2.sub hf (.tup ws.reverse)
    refine ⟨.ref h'.objs.size, _, I1.laid (a := h'.objs.size) (o := .tup ws.reverse) (h' := h'.push { cls := .type "tuple", data := .seq its.toArray.toList.reverse.toArray }) (t' := tk) (fun b o e => Heap.get?_push_of_some _ (kp b o (Nat.ne_of_lt (Heap.lt_size e)) (up b o e))) sz' ?_, rfl, q _ _ _ _ ((R2.ext x).push (.tup (SqT.of upd_same) (g1.reverse.mono x.s nol)))⟩
    exact ⟨by rw [List.length_reverse]; exact hz, its.reverse, by simpa using vv.reverse, _, Heap.get?_push_size _ rfl, rfl, rfl, 0, rfl⟩
end
end C
end
noncomputable section
set_option linter.all false
set_option maxRecDepth 100000
set_option autoImplicit false
namespace C
open PySem
theorem compL_map {α : Type} {h f : α → T} {g : G} {c : M Bool} {e : M T} {nv : Nat} {cap : List Slot} {sto : List SO} (hcap : cap.map thaw = cap) :
    ∀ (l : List α) (acc : List T) (pre : List Slot), pre.length = nv → acc.length + l.length ≤ lim →
      (∀ a ∈ l, ∀ pre : List Slot, pre.length = nv → ∃ pre', pre'.length = nv ∧ g (h a) ⟨pre ++ cap, sto⟩ = some ⟨pre' ++ cap, sto⟩ ∧ c ⟨pre' ++ cap, sto⟩ = some (true, ⟨pre' ++ cap, sto⟩) ∧ e ⟨pre' ++ cap, sto⟩ = some (f a, ⟨pre' ++ cap, sto⟩)) →
      ∃ s', compL g c e (l.map h) ⟨pre ++ cap, sto⟩ acc = some (acc ++ l.map f, s') ∧ s'.sto = sto
  | [], acc, pre, hp, hl, H => ⟨⟨pre ++ cap, sto⟩, by simp [compL], rfl⟩
  | a :: l, acc, pre, hp, hl, H => by
    obtain ⟨pre', p1, p2, p3, p4⟩ := H a List.mem_cons_self pre hp
    have hlen : acc.length < lim := by simp at hl ⊢; omega
    obtain ⟨s', q1, q2⟩ := compL_map hcap l (acc ++ [f a]) (pre'.map thaw) (by simpa using p1) (by simp at hl ⊢; omega) fun b hb => H b (List.mem_cons_of_mem _ hb)
    refine ⟨s', ?_, q2⟩
    rw [List.map_cons, compL, p2]
    dsimp only
    rw [p3]
    dsimp only
    rw [p4]
    dsimp only
    rw [if_pos hlen, freezeAll]
    dsimp only
    rw [List.map_append, hcap, q1]
    simp
theorem mComp_map {α : Type} (h f : α → T) (l : List α) {g : G} {c : M Bool} {e : M T} {nv : Nat} {ci : List Nat} {it : M (List T)} {s s1 : Sta} (env : List Slot) (cap : List Slot) (hit : it s = some (l.map h, s1)) (henv : freezeAt ci s1.env = env) (hci : ci.map (fun i => (env[i]?).getD none) = cap) (hcap : cap.map thaw = cap) (hl : l.length ≤ lim)
    (H : ∀ a ∈ l, ∀ pre : List Slot, pre.length = nv → ∃ pre', pre'.length = nv ∧ g (h a) ⟨pre ++ cap, s1.sto⟩ = some ⟨pre' ++ cap, s1.sto⟩ ∧ c ⟨pre' ++ cap, s1.sto⟩ = some (true, ⟨pre' ++ cap, s1.sto⟩) ∧ e ⟨pre' ++ cap, s1.sto⟩ = some (f a, ⟨pre' ++ cap, s1.sto⟩)) :
    mComp nv ci g it c e s = some (.lst (l.map f), ⟨env, s1.sto⟩) := by
  obtain ⟨s', q1, q2⟩ := compL_map hcap l [] (List.replicate nv none) (by simp) (by simpa using hl) H
  unfold mComp
  rw [hit]
  dsimp only
  rw [henv, hci, q1]
  dsimp only
  rw [q2]; rfl
noncomputable def okS (x : Str) : Prop := PyData.canLay0 (.str x) = true
theorem dat_str {x : Str} (h : okS x) : dat (.str x) = some (.str x) := by
  unfold okS at h
  simp [dat, h]
noncomputable def Pl (n : Nat) (t : T) : Prop := ∃ d, dat t = some d ∧ d.depth ≤ n
theorem pl_int (n : Nat) (i : Int) : Pl n (.int i) := ⟨.int i, by simp [dat], by simp [PyData.depth]⟩
theorem pl_str (n : Nat) {x : Str} (h : okS x) : Pl n (.str x) := ⟨.str x, dat_str h, by simp [PyData.depth]⟩
theorem pls {n : Nat} : ∀ ts : List T, (∀ t ∈ ts, Pl n t) → ∃ ds, dats ts = some ds ∧ PyData.depthAll ds ≤ n
  | [], _ => ⟨[], by simp [dats], by simp [PyData.depthAll]⟩
  | t :: r, h => by
    obtain ⟨d, d1, d2⟩ := h t List.mem_cons_self
    obtain ⟨ds, e1, e2⟩ := pls r fun x hx => h x (List.mem_cons_of_mem _ hx)
    exact ⟨d :: ds, by simp [dats, d1, e1], by simp only [PyData.depthAll]; omega⟩
theorem pl_tup {n : Nat} {ts : List T} (h : ∀ t ∈ ts, Pl n t) : Pl (n + 1) (.tup ts) := by
  obtain ⟨ds, e1, e2⟩ := pls ts h
  exact ⟨.tuple ds, by simp [dat, e1], by simp only [PyData.depth]; omega⟩
mutual
theorem eqv_self : ∀ d : PyData, d.canLay0 = true → PyData.eqv d d = true
  | .none, _ => by simp [PyData.eqv]
  | .bool b, _ => by simp [PyData.eqv] -- here
  | .int i, _ => by simp [PyData.eqv] -- here
  | .str x, _ => by simp [PyData.eqv] -- here
  | .list xs, h => by simp only [PyData.eqv]; exact eqvs_self xs (by simpa [PyData.canLay0] using h)
  | .tuple xs, h => by simp only [PyData.eqv]; exact eqvs_self xs (by simpa [PyData.canLay0] using h)
  | .dict _, h => by simp [PyData.canLay0] at h
theorem eqvs_self : ∀ xs : List PyData, PyData.canLayAll0 xs = true → PyData.eqvAll xs xs = true
  | [], _ => by simp [PyData.eqvAll]
  | x :: xs, h => by
    simp only [PyData.canLayAll0, Bool.and_eq_true] at h
    simp only [PyData.eqvAll, eqv_self x h.1, eqvs_self xs h.2, Bool.and_self]
end
end C
namespace C
open PySem
theorem forL_go {g : G} {b : S} (P : List T → Sta → Prop) (H : ∀ t r s, P (t :: r) s → ∃ s1 s2, g t s = some s1 ∧ b s1 = some (.next, s2) ∧ P r s2) : ∀ (ts : List T) (s : Sta), P ts s → ∃ s', forL g b ts s = some (.next, s') ∧ P [] s'
  | [], s, h => ⟨s, by simp [forL], h⟩
  | t :: r, s, h => by
    obtain ⟨s1, s2, h1, h2, h3⟩ := H t r s h
    obtain ⟨s', e, p⟩ := forL_go P H r s2 h3
    refine ⟨s', ?_, p⟩
    rw [forL]; dsimp only; rw [h1]; dsimp only; rw [h2]; dsimp only; exact e
theorem forL_at {g : G} {b : S} {ts : List T} {s : Sta} {r : Option (Flow × Sta)} (hF : forL g b ts s = r) (P : List T → Sta → Prop) (hP : P ts s) (H : ∀ t r s, P (t :: r) s → ∃ s1 s2, g t s = some s1 ∧ b s1 = some (.next, s2) ∧ P r s2) : ∃ s', r = some (.next, s') ∧ P [] s' := by
  obtain ⟨s', e, p⟩ := forL_go P H ts s hP
  exact ⟨s', hF.symm.trans e, p⟩
end C
namespace C
open PySem
theorem mComp_at {α : Type} {g : G} {c : M Bool} {e : M T} {nv : Nat} {ci : List Nat} {it : M (List T)} {s : Sta} {r : Option (T × Sta)} (hF : mComp nv ci g it c e s = r) (h f : α → T) (l : List α) (s1 : Sta) (env cap : List Slot) (hit : it s = some (l.map h, s1)) (henv : freezeAt ci s1.env = env) (hci : ci.map (fun i => (env[i]?).getD none) = cap) (hcap : cap.map thaw = cap) (hl : l.length ≤ lim)
    (H : ∀ a ∈ l, ∀ pre : List Slot, pre.length = nv → ∃ pre', pre'.length = nv ∧ g (h a) ⟨pre ++ cap, s1.sto⟩ = some ⟨pre' ++ cap, s1.sto⟩ ∧ c ⟨pre' ++ cap, s1.sto⟩ = some (true, ⟨pre' ++ cap, s1.sto⟩) ∧ e ⟨pre' ++ cap, s1.sto⟩ = some (f a, ⟨pre' ++ cap, s1.sto⟩)) :
    r = some (.lst (l.map f), ⟨env, s1.sto⟩) := hF.symm.trans (mComp_map h f l env cap hit henv hci hcap hl H)
end C
end
noncomputable section
set_option linter.all false
set_option maxRecDepth 100000
set_option autoImplicit false
namespace C
open PySem
theorem compL_filter {α : Type} {h f : α → T} {q : α → Bool} {g : G} {c : M Bool} {e : M T} {nv : Nat} {cap : List Slot} {sto : List SO} (hcap : cap.map thaw = cap) :
    ∀ (l : List α) (acc : List T) (pre : List Slot), pre.length = nv → acc.length + l.length ≤ lim →
      (∀ a ∈ l, ∀ pre : List Slot, pre.length = nv → ∃ pre', pre'.length = nv ∧ g (h a) ⟨pre ++ cap, sto⟩ = some ⟨pre' ++ cap, sto⟩ ∧ c ⟨pre' ++ cap, sto⟩ = some (q a, ⟨pre' ++ cap, sto⟩) ∧ (q a = true → e ⟨pre' ++ cap, sto⟩ = some (f a, ⟨pre' ++ cap, sto⟩))) →
      ∃ s', compL g c e (l.map h) ⟨pre ++ cap, sto⟩ acc = some (acc ++ (l.filter q).map f, s') ∧ s'.sto = sto
  | [], acc, pre, hp, hl, H => ⟨⟨pre ++ cap, sto⟩, by simp [compL], rfl⟩
  | a :: l, acc, pre, hp, hl, H => by
    obtain ⟨pre', p1, p2, p3, p4⟩ := H a List.mem_cons_self pre hp
    have hlen : acc.length < lim := by simp at hl ⊢; omega
    rw [List.map_cons, compL, p2]
    dsimp only
    rw [p3]
    cases hq : q a with
    | true =>
      obtain ⟨s', q1, q2⟩ := compL_filter hcap l (acc ++ [f a]) (pre'.map thaw) (by simpa using p1) (by simp at hl ⊢; omega) fun b hb => H b (List.mem_cons_of_mem _ hb)
      refine ⟨s', ?_, q2⟩
      dsimp only
      rw [p4 hq]
      dsimp only
      rw [if_pos hlen, freezeAll]
      dsimp only
      rw [List.map_append, hcap, q1]
      simp [hq]
    | false =>
      obtain ⟨s', q1, q2⟩ := compL_filter hcap l acc (pre'.map thaw) (by simpa using p1) (by simp at hl ⊢; omega) fun b hb => H b (List.mem_cons_of_mem _ hb)
      refine ⟨s', ?_, q2⟩
      dsimp only
      rw [freezeAll]
      dsimp only
      rw [List.map_append, hcap, q1]
      simp [hq]
theorem mComp_met {α : Type} {g : G} {c : M Bool} {e : M T} {nv : Nat} {ci : List Nat} {it : M (List T)} {s : Sta} {r : Option (T × Sta)} (hF : mComp nv ci g it c e s = r) (h f : α → T) (q : α → Bool) (l : List α) (s1 : Sta) (env cap : List Slot) (hit : it s = some (l.map h, s1)) (henv : freezeAt ci s1.env = env) (hci : ci.map (fun i => (env[i]?).getD none) = cap) (hcap : cap.map thaw = cap) (hl : l.length ≤ lim)
    (H : ∀ a ∈ l, ∀ pre : List Slot, pre.length = nv → ∃ pre', pre'.length = nv ∧ g (h a) ⟨pre ++ cap, s1.sto⟩ = some ⟨pre' ++ cap, s1.sto⟩ ∧ c ⟨pre' ++ cap, s1.sto⟩ = some (q a, ⟨pre' ++ cap, s1.sto⟩) ∧ (q a = true → e ⟨pre' ++ cap, s1.sto⟩ = some (f a, ⟨pre' ++ cap, s1.sto⟩))) :
    r = some (.lst ((l.filter q).map f), ⟨env, s1.sto⟩) := by
  obtain ⟨s', q1, q2⟩ := compL_filter hcap l [] (List.replicate nv none) (by simp) (by simpa using hl) H
  rw [← hF]
  unfold mComp
  rw [hit]
  dsimp only
  rw [henv, hci, q1]
  dsimp only
  rw [q2]; rfl
theorem eqD_self {n : Nat} {t : T} (h : Pl n t) (hn : n ≤ 40) : eqD t t = some true := by
  obtain ⟨d, e1, e2⟩ := h
  have : d.depth ≤ 40 := Nat.le_trans e2 hn
  simp [eqD, e1, this, eqv_self d (dat_lay _ e1)]
theorem eqT_same {n : Nat} {t : T} (h : Pl n t) (hn : n ≤ 40) : eqT t t = some true := by
  cases t with
  | dic k => obtain ⟨d, e1, _⟩ := h; simp [dat] at e1
  | _ => exact eqD_self h hn
theorem neO_same {n : Nat} {t : T} (h : Pl n t) (hn : n ≤ 40) : neO t t = some (.bl false) := by simp [neO, eqT_same h hn]
theorem eqO_int {a b : Int} : eqO (.int a) (.int b) = some (.bl (a == b)) := by simp [eqO, eqT, eqD, dat, PyData.depth, PyData.eqv]
theorem neO_int {a b : Int} : neO (.int a) (.int b) = some (.bl (!(a == b))) := by simp [neO, eqT, eqD, dat, PyData.depth, PyData.eqv]
theorem eqO_str {a b : Str} (ha : okS a) (hb : okS b) : eqO (.str a) (.str b) = some (.bl (a == b)) := by
  simp [eqO, eqT, eqD, dat_str ha, dat_str hb, PyData.depth, PyData.eqv]
theorem itemU_n {xs : List T} {k : Nat} {t : T} (h : xs[k]? = some t) : itemT (.tup xs) (.int (k : Int)) = some t := by
  have hk : k < xs.length := (List.getElem?_eq_some_iff.mp h).1
  have h1 : (k : Int) < (xs.length : Int) := by omega
  simp [itemT, ixI, h1, h]
theorem item0t {a : T} {r : List T} : itemT (.tup (a :: r)) (.int 0) = some a := itemU_n (k := 0) rfl
theorem item1t {a b : T} {r : List T} : itemT (.tup (a :: b :: r)) (.int 1) = some b := itemU_n (k := 1) rfl
theorem item2t {a b c : T} {r : List T} : itemT (.tup (a :: b :: c :: r)) (.int 2) = some c := itemU_n (k := 2) rfl
theorem hTup2 {i j : Nat} {x y : T} {s : Sta} : hTup [i, j] (.tup [x, y]) s = some (putSlot j y false (putSlot i x false s)) := by simp [hTup]
theorem seq_step {a b : S} {s s' : Sta} (h : a s = some (.next, s')) : sSeq a b s = b s' := by unfold sSeq; rw [h]
theorem while_next {n : Nat} {c : M Bool} {b : S} {s s1 s2 : Sta} (hc : c s = some (true, s1)) (hb : b s1 = some (.next, s2)) : whileN (n + 1) c b s = whileN n c b s2 := by
  rw [whileN]; dsimp only; rw [hc]; dsimp only; rw [hb]
theorem while_stop {n : Nat} {c : M Bool} {b : S} {s s1 : Sta} (hc : c s = some (false, s1)) : whileN (n + 1) c b s = some (.next, s1) := by
  rw [whileN]; dsimp only; rw [hc]
end C
end
noncomputable section
set_option linter.all false
namespace K
open C PySem
noncomputable def m_sum_of : Fn := runFn 6
  (sSeq (sNew 2 (mPure (.dic [])))
  (sSeq (sFor (hTup [3, 4]) (iSeq (mVar 1))
  (sOwnPut 2 (mVar 3) (mOp addT (mOwnGet 2 (mVar 3) (mPure (.int 0))) (mVar 4))))
  (sSeq (sSet 5 (mComp 1 [2] (hName 0) (iSeq (mMap sortedT (mCons (mVar 2) mNil))) (mTest (mOp neO (mOp itemT (mVar 1) (mVar 0)) (mPure (.int 0)))) (mMap (fun l => some (.tup l)) (mCons (mVar 0) (mCons (mOp itemT (mVar 1) (mVar 0)) mNil)))))
  (sRet (mMap (fun l => some (.tup l)) (mCons (mVar 0) (mCons (mMap tupleT (mCons (mVar 5) mNil)) mNil)))))))
noncomputable def m_plus : Fn := runFn 2
  (sRet (mCall m_sum_of (mCons (mOp addT (mOp itemT (mVar 0) (mPure (.int 0))) (mOp itemT (mVar 1) (mPure (.int 0)))) (mCons (mOp addT (mOp itemT (mVar 0) (mPure (.int 1))) (mOp itemT (mVar 1) (mPure (.int 1)))) mNil))))
noncomputable def m_by : Fn := runFn 2
  (sRet (mCall m_sum_of (mCons (mOp mulT (mOp itemT (mVar 0) (mPure (.int 0))) (mVar 1)) (mCons (mComp 2 [1] (hTup [0, 1]) (iSeq (mOp itemT (mVar 0) (mPure (.int 1)))) mTrue (mMap (fun l => some (.tup l)) (mCons (mVar 0) (mCons (mOp mulT (mVar 1) (mVar 2)) mNil)))) mNil))))
noncomputable def m_minus : Fn := runFn 2
  (sRet (mCall m_plus (mCons (mVar 0) (mCons (mCall m_by (mCons (mVar 1) (mCons (mUn negT (mPure (.int 1))) mNil))) mNil))))
noncomputable def m_value : Fn := runFn 2
  (sRet (mOp addT (mOp itemT (mVar 0) (mPure (.int 0))) (mMap sumT (mCons (mComp 2 [1] (hTup [0, 1]) (iSeq (mOp itemT (mVar 0) (mPure (.int 1)))) mTrue (mOp mulT (mVar 1) (mOp itemT (mVar 2) (mVar 0)))) mNil))))
mutual
noncomputable def m_holds : Nat → Fn
  | 0 => fun _ _ => none
  | n + 1 => runFn 4
      (sSeq (sSet 3 (mOp itemT (mVar 0) (mPure (.int 0))))
      (sSeq (sIf (mTest (mOp eqO (mVar 3) (mPure (.str "most"))))
      (sRet (mOp leT (mCall m_value (mCons (mOp itemT (mVar 0) (mPure (.int 1))) (mCons (mVar 1) mNil))) (mPure (.int 0))))
      sNil)
      (sSeq (sIf (mTest (mOp eqO (mVar 3) (mPure (.str "rest"))))
      (sRet (mOp eqO (mOp modT (mCall m_value (mCons (mOp itemT (mVar 0) (mPure (.int 1))) (mCons (mVar 1) mNil))) (mOp itemT (mVar 0) (mPure (.int 2)))) (mPure (.int 0))))
      sNil)
      (sSeq (sIf (mTest (mOp eqO (mVar 3) (mPure (.str "at"))))
      (sRet (mOp eqO (mOp itemT (mVar 2) (mOp itemT (mVar 0) (mPure (.int 1)))) (mOp itemT (mVar 0) (mPure (.int 2)))))
      sNil)
      (sSeq (sIf (mTest (mOp eqO (mVar 3) (mPure (.str "not"))))
      (sRet (mBool (mNot (mTest (mCall (m_holds n) (mCons (mOp itemT (mVar 0) (mPure (.int 1))) (mCons (mVar 1) (mCons (mVar 2) mNil))))))))
      sNil)
      (sSeq (sIf (mTest (mOp eqO (mVar 3) (mPure (.str "and"))))
      (sRet (mBool (mNot (mTest (mCall (m_any_is n) (mCons (mPure (.bl false)) (mCons (mOp itemT (mVar 0) (mPure (.int 1))) (mCons (mVar 1) (mCons (mVar 2) mNil)))))))))
      sNil)
      (sRet (mCall (m_any_is n) (mCons (mPure (.bl true)) (mCons (mOp itemT (mVar 0) (mPure (.int 1))) (mCons (mVar 1) (mCons (mVar 2) mNil))))))))))))
noncomputable def m_any_is : Nat → Fn
  | 0 => fun _ _ => none
  | n + 1 => runFn 5
      (sSeq (sFor (hName 4) (iSeq (mVar 1))
      (sIf (mTest (mOp eqO (mCall (m_holds n) (mCons (mVar 4) (mCons (mVar 2) (mCons (mVar 3) mNil)))) (mVar 0)))
      (sRet (mPure (.bl true)))
      sNil))
      (sRet (mPure (.bl false))))
end
noncomputable def m_members_of : Fn := runFn 1
  (sSeq (sIf (mTest (mOp eqO (mOp itemT (mVar 0) (mPure (.int 0))) (mPure (.str "not"))))
  (sRet (mMap (fun l => some (.tup l)) (mCons (mOp itemT (mVar 0) (mPure (.int 1))) mNil)))
  sNil)
  (sRet (mIf (mTest (mOp inT (mOp itemT (mVar 0) (mPure (.int 0))) (mMap (fun l => some (.tup l)) (mCons (mPure (.str "and")) (mCons (mPure (.str "or")) mNil))))) (mOp itemT (mVar 0) (mPure (.int 1))) (mMap (fun l => some (.tup l)) mNil))))
noncomputable def m_parts_of : Fn := runFn 4
  (sSeq (sNew 1 (mMap (fun l => some (.lst l)) mNil))
  (sSeq (sNew 2 (mMap (fun l => some (.lst l)) (mCons (mVar 0) mNil)))
  (sSeq (whileN 1000 (mTest (mOp gtT (mOwnLen 2) (mPure (.int 0))))
  (sSeq (sPop 2 3)
  (sSeq (sAppend 1 (mVar 3))
  (sExtend 2 (mUn revT (mCall m_members_of (mCons (mVar 3) mNil)))))))
  (sRet (mVar 1)))))
noncomputable def m_parts_in : Fn := runFn 1
  (sRet (mMap lenT (mCons (mCall m_parts_of (mCons (mVar 0) mNil)) mNil)))
noncomputable def m_form_true : Fn := runFn 2
  (sRet (mCall (m_holds 40) (mCons (mVar 0) (mCons (mVar 1) (mCons (mPure (.dic [])) mNil)))))
noncomputable def m_form_parts : Fn := runFn 1
  (sRet (mCall m_parts_in (mCons (mVar 0) mNil)))
noncomputable def m_place_box : Fn := runFn 1
  (sRet (mOp addT (mPure (.str "@")) (mVar 0)))
noncomputable def m_equal_form : Fn := runFn 2
  (sRet (mMap (fun l => some (.tup l)) (mCons (mPure (.str "and")) (mCons (mMap (fun l => some (.tup l)) (mCons (mMap (fun l => some (.tup l)) (mCons (mPure (.str "most")) (mCons (mMap (fun l => some (.tup l)) (mCons (mUn negT (mVar 1)) (mCons (mMap (fun l => some (.tup l)) (mCons (mMap (fun l => some (.tup l)) (mCons (mVar 0) (mCons (mPure (.int 1)) mNil))) mNil)) mNil))) mNil))) (mCons (mMap (fun l => some (.tup l)) (mCons (mPure (.str "most")) (mCons (mMap (fun l => some (.tup l)) (mCons (mVar 1) (mCons (mMap (fun l => some (.tup l)) (mCons (mMap (fun l => some (.tup l)) (mCons (mVar 0) (mCons (mUn negT (mPure (.int 1))) mNil))) mNil)) mNil))) mNil))) mNil))) mNil))))
noncomputable def m_unequal_form : Fn := runFn 2
  (sRet (mMap (fun l => some (.tup l)) (mCons (mPure (.str "or")) (mCons (mMap (fun l => some (.tup l)) (mCons (mMap (fun l => some (.tup l)) (mCons (mPure (.str "most")) (mCons (mMap (fun l => some (.tup l)) (mCons (mOp subT (mPure (.int 1)) (mVar 1)) (mCons (mMap (fun l => some (.tup l)) (mCons (mMap (fun l => some (.tup l)) (mCons (mVar 0) (mCons (mPure (.int 1)) mNil))) mNil)) mNil))) mNil))) (mCons (mMap (fun l => some (.tup l)) (mCons (mPure (.str "most")) (mCons (mMap (fun l => some (.tup l)) (mCons (mOp addT (mVar 1) (mPure (.int 1))) (mCons (mMap (fun l => some (.tup l)) (mCons (mMap (fun l => some (.tup l)) (mCons (mVar 0) (mCons (mUn negT (mPure (.int 1))) mNil))) mNil)) mNil))) mNil))) mNil))) mNil))))
mutual
noncomputable def m_plain_form : Nat → Fn
  | 0 => fun _ _ => none
  | n + 1 => runFn 2
      (sSeq (sSet 1 (mOp itemT (mVar 0) (mPure (.int 0))))
      (sSeq (sIf (mTest (mOp eqO (mVar 1) (mPure (.str "at"))))
      (sRet (mCall m_equal_form (mCons (mCall m_place_box (mCons (mOp itemT (mVar 0) (mPure (.int 1))) mNil)) (mCons (mOp itemT (mVar 0) (mPure (.int 2))) mNil))))
      sNil)
      (sSeq (sIf (mTest (mOp eqO (mVar 1) (mPure (.str "not"))))
      (sRet (mCall (m_against_form n) (mCons (mOp itemT (mVar 0) (mPure (.int 1))) mNil)))
      sNil)
      (sSeq (sIf (mTest (mOp inT (mVar 1) (mMap (fun l => some (.tup l)) (mCons (mPure (.str "and")) (mCons (mPure (.str "or")) mNil)))))
      (sRet (mMap (fun l => some (.tup l)) (mCons (mVar 1) (mCons (mMap tupleT (mCons (mComp 1 [] (hName 0) (iSeq (mOp itemT (mVar 0) (mPure (.int 1)))) mTrue (mCall (m_plain_form n) (mCons (mVar 0) mNil))) mNil)) mNil))))
      sNil)
      (sRet (mVar 0))))))
noncomputable def m_against_form : Nat → Fn
  | 0 => fun _ _ => none
  | n + 1 => runFn 2
      (sSeq (sSet 1 (mOp itemT (mVar 0) (mPure (.int 0))))
      (sSeq (sIf (mTest (mOp eqO (mVar 1) (mPure (.str "most"))))
      (sRet (mMap (fun l => some (.tup l)) (mCons (mPure (.str "most")) (mCons (mCall m_minus (mCons (mMap (fun l => some (.tup l)) (mCons (mPure (.int 1)) (mCons (mMap (fun l => some (.tup l)) mNil) mNil))) (mCons (mOp itemT (mVar 0) (mPure (.int 1))) mNil))) mNil))))
      sNil)
      (sSeq (sIf (mTest (mOp eqO (mVar 1) (mPure (.str "rest"))))
      (sRet (mMap (fun l => some (.tup l)) (mCons (mPure (.str "or")) (mCons (mMap tupleT (mCons (mComp 1 [0] (hName 0) (iRange2 (mPure (.int 1)) (mOp itemT (mVar 0) (mPure (.int 2)))) mTrue (mMap (fun l => some (.tup l)) (mCons (mPure (.str "rest")) (mCons (mCall m_minus (mCons (mOp itemT (mVar 1) (mPure (.int 1))) (mCons (mMap (fun l => some (.tup l)) (mCons (mVar 0) (mCons (mMap (fun l => some (.tup l)) mNil) mNil))) mNil))) (mCons (mOp itemT (mVar 1) (mPure (.int 2))) mNil))))) mNil)) mNil))))
      sNil)
      (sSeq (sIf (mTest (mOp eqO (mVar 1) (mPure (.str "at"))))
      (sRet (mCall m_unequal_form (mCons (mCall m_place_box (mCons (mOp itemT (mVar 0) (mPure (.int 1))) mNil)) (mCons (mOp itemT (mVar 0) (mPure (.int 2))) mNil))))
      sNil)
      (sSeq (sIf (mTest (mOp eqO (mVar 1) (mPure (.str "not"))))
      (sRet (mCall (m_plain_form n) (mCons (mOp itemT (mVar 0) (mPure (.int 1))) mNil)))
      sNil)
      (sRet (mMap (fun l => some (.tup l)) (mCons (mUn (tabT [("and", "or"), ("or", "and")]) (mVar 1)) (mCons (mMap tupleT (mCons (mComp 1 [] (hName 0) (iSeq (mOp itemT (mVar 0) (mPure (.int 1)))) mTrue (mCall (m_against_form n) (mCons (mVar 0) mNil))) mNil)) mNil)))))))))
end
noncomputable def m_law_cell_at : Fn := runFn 2
  (sSeq (sIf (mTest (mOp ltT (mVar 1) (mMap lenT (mCons (mVar 0) mNil))))
  (sRet (mOp itemT (mVar 0) (mVar 1)))
  sNil)
  (sRet (mPure (.int 0))))
noncomputable def m_law_signed : Fn := runFn 2
  (sSeq (sIf (mTest (mOp ltT (mVar 0) (mPure (.int 0))))
  (sRet (mUn negT (mOp modT (mUn negT (mVar 0)) (mVar 1))))
  sNil)
  (sRet (mOp modT (mVar 0) (mVar 1))))
noncomputable def m_law_sum : Fn := runFn 3
  (sSeq (sSet 1 (mOp subT (mOp modT (mVar 0) (mPure (.int 41))) (mPure (.int 20))))
  (sSeq (sIf (mTest (mOp eqO (mOp modT (mOp fdivT (mVar 0) (mPure (.int 41))) (mPure (.int 5))) (mPure (.int 1))))
  (sSet 1 (mCall m_law_signed (mCons (mOp fdivT (mVar 0) (mPure (.int 205))) (mCons (mOp powT (mPure (.int 10)) (mPure (.int 9))) mNil))))
  sNil)
  (sSeq (sSet 2 (mMap (fun l => some (.lst l)) (mCons (mMap (fun l => some (.tup l)) (mCons (mPure (.str "x")) (mCons (mOp subT (mOp modT (mOp fdivT (mVar 0) (mPure (.int 7))) (mPure (.int 7))) (mPure (.int 3))) mNil))) (mCons (mMap (fun l => some (.tup l)) (mCons (mPure (.str "y")) (mCons (mOp subT (mOp modT (mOp fdivT (mVar 0) (mPure (.int 49))) (mPure (.int 7))) (mPure (.int 3))) mNil))) mNil))))
  (sRet (mMap (fun l => some (.tup l)) (mCons (mVar 1) (mCons (mMap tupleT (mCons (mComp 1 [] (hName 0) (iSeq (mVar 2)) (mTest (mOp neO (mOp itemT (mVar 0) (mPure (.int 1))) (mPure (.int 0)))) (mVar 0)) mNil)) mNil)))))))
mutual
noncomputable def m_law_many : Nat → Fn
  | 0 => fun _ _ => none
  | n + 1 => runFn 1
      (sSeq (sIf (mTest (mOp eqO (mOp itemT (mVar 0) (mPure (.int 0))) (mPure (.str "not"))))
      (sRet (mOp addT (mPure (.int 1)) (mCall (m_law_many n) (mCons (mOp itemT (mVar 0) (mPure (.int 1))) mNil))))
      sNil)
      (sSeq (sIf (mOr (mTest (mOp eqO (mOp itemT (mVar 0) (mPure (.int 0))) (mPure (.str "and")))) (mTest (mOp eqO (mOp itemT (mVar 0) (mPure (.int 0))) (mPure (.str "or")))))
      (sRet (mOp addT (mPure (.int 1)) (mMap sumT (mCons (mComp 1 [] (hName 0) (iSeq (mOp itemT (mVar 0) (mPure (.int 1)))) mTrue (mCall (m_law_many n) (mCons (mVar 0) mNil))) mNil))))
      sNil)
      (sRet (mPure (.int 1)))))
end
noncomputable def m_law_remark : Fn := runFn 8
  (sSeq (sNew 2 (mMap (fun l => some (.lst l)) (mCons (mMap (fun l => some (.tup l)) (mCons (mPure (.str "most")) (mCons (mMap (fun l => some (.tup l)) (mCons (mPure (.int 0)) (mCons (mMap (fun l => some (.tup l)) (mCons (mMap (fun l => some (.tup l)) (mCons (mPure (.str "x")) (mCons (mPure (.int 1)) mNil))) mNil)) mNil))) mNil))) mNil)))
  (sSeq (sFor (hName 3) (iSeq (mVar 0))
  (sSeq (sIf (mTest (mOp gtT (mCall (m_law_many 40) (mCons (mOwnIx 2 (mUn negT (mPure (.int 1)))) mNil)) (mPure (.int 28))))
  (sNew 2 (mOwnAdd 2 (mMap (fun l => some (.lst l)) (mCons (mMap (fun l => some (.tup l)) (mCons (mPure (.str "at")) (mCons (mPure (.str "p")) (mCons (mPure (.int 1)) mNil)))) (mCons (mMap (fun l => some (.tup l)) (mCons (mPure (.str "at")) (mCons (mPure (.str "q")) (mCons (mPure (.int 0)) mNil)))) mNil)))))
  sNil)
  (sSeq (sSet 4 (mOp fdivT (mOp modT (mOp mulT (mVar 3) (mPure (.int 48271))) (mPure (.int 2147483647))) (mPure (.int 37))))
  (sSeq (sIf (mTest (mVar 1))
  (sSet 4 (mVar 3))
  sNil)
  (sSeq (sSet 5 (mOp modT (mVar 4) (mPure (.int 7))))
  (sSeq (sSet 6 (mOp fdivT (mVar 4) (mPure (.int 7))))
  (sIf (mTest (mOp eqO (mVar 5) (mPure (.int 0))))
  (sAppend 2 (mMap (fun l => some (.tup l)) (mCons (mPure (.str "most")) (mCons (mCall m_law_sum (mCons (mVar 6) mNil)) mNil))))
  (sIf (mTest (mOp eqO (mVar 5) (mPure (.int 1))))
  (sAppend 2 (mMap (fun l => some (.tup l)) (mCons (mPure (.str "rest")) (mCons (mCall m_law_sum (mCons (mOp fdivT (mVar 6) (mPure (.int 11))) mNil)) (mCons (mOp addT (mPure (.int 2)) (mOp modT (mVar 6) (mPure (.int 11)))) mNil)))))
  (sIf (mTest (mOp eqO (mVar 5) (mPure (.int 2))))
  (sAppend 2 (mMap (fun l => some (.tup l)) (mCons (mPure (.str "at")) (mCons (mOp itemT (mMap (fun l => some (.lst l)) (mCons (mPure (.str "p")) (mCons (mPure (.str "q")) mNil))) (mOp modT (mVar 6) (mPure (.int 2)))) (mCons (mOp modT (mOp fdivT (mVar 6) (mPure (.int 2))) (mPure (.int 4))) mNil)))))
  (sIf (mTest (mOp eqO (mVar 5) (mPure (.int 3))))
  (sAppend 2 (mMap (fun l => some (.tup l)) (mCons (mPure (.str "not")) (mCons (mOwnIx 2 (mUn negT (mPure (.int 1)))) mNil))))
  (sIf (mAnd (mTest (mOp inT (mVar 5) (mMap (fun l => some (.tup l)) (mCons (mPure (.int 4)) (mCons (mPure (.int 5)) mNil))))) (mTest (mOp gtT (mOwnLen 2) (mPure (.int 1)))))
  (sSeq (sSet 7 (mOwnSl 2 (oSome (mOp subT (mUn negT (mPure (.int 2))) (mOp modT (mVar 6) (mPure (.int 5))))) oNone))
  (sSeq (whileN 1000 (mTest (mOp gtT (mMap sumT (mCons (mComp 1 [] (hName 0) (iSeq (mVar 7)) mTrue (mCall (m_law_many 40) (mCons (mVar 0) mNil))) mNil)) (mPure (.int 56))))
  (sSet 7 (mSlice (mVar 7) (oSome (mPure (.int 1))) oNone)))
  (sAppend 2 (mMap (fun l => some (.tup l)) (mCons (mOp itemT (mMap (fun l => some (.lst l)) (mCons (mPure (.str "and")) (mCons (mPure (.str "or")) mNil))) (mOp subT (mVar 5) (mPure (.int 4)))) (mCons (mUn trevT (mVar 7)) mNil))))))
  (sAppend 2 (mOp itemT (mMap (fun l => some (.lst l)) (mCons (mMap (fun l => some (.tup l)) (mCons (mPure (.str "and")) (mCons (mMap (fun l => some (.tup l)) mNil) mNil))) (mCons (mMap (fun l => some (.tup l)) (mCons (mPure (.str "or")) (mCons (mMap (fun l => some (.tup l)) mNil) mNil))) mNil))) (mOp modT (mVar 6) (mPure (.int 2))))))))))))))))
  (sRet (mOwnIx 2 (mUn negT (mPure (.int 1)))))))
noncomputable def m_law_value : Fn := runFn 5
  (sSeq (sSet 2 (mOp itemT (mVar 0) (mPure (.int 0))))
  (sSeq (sFor (hTup [3, 4]) (iSeq (mOp itemT (mVar 0) (mPure (.int 1))))
  (sSet 2 (mOp addT (mVar 2) (mOp mulT (mVar 4) (mOp itemT (mVar 1) (mVar 3))))))
  (sRet (mVar 2))))
mutual
noncomputable def m_law_holds : Nat → Fn
  | 0 => fun _ _ => none
  | n + 1 => runFn 2
      (sSeq (sIf (mTest (mOp eqO (mOp itemT (mVar 0) (mPure (.int 0))) (mPure (.str "most"))))
      (sRet (mOp leT (mCall m_law_value (mCons (mOp itemT (mVar 0) (mPure (.int 1))) (mCons (mVar 1) mNil))) (mPure (.int 0))))
      sNil)
      (sSeq (sIf (mTest (mOp eqO (mOp itemT (mVar 0) (mPure (.int 0))) (mPure (.str "rest"))))
      (sRet (mOp eqO (mOp modT (mCall m_law_value (mCons (mOp itemT (mVar 0) (mPure (.int 1))) (mCons (mVar 1) mNil))) (mOp itemT (mVar 0) (mPure (.int 2)))) (mPure (.int 0))))
      sNil)
      (sSeq (sIf (mTest (mOp eqO (mOp itemT (mVar 0) (mPure (.int 0))) (mPure (.str "at"))))
      (sRet (mOp eqO (mOp itemT (mVar 1) (mOp addT (mPure (.str "@")) (mOp itemT (mVar 0) (mPure (.int 1))))) (mOp itemT (mVar 0) (mPure (.int 2)))))
      sNil)
      (sSeq (sIf (mTest (mOp eqO (mOp itemT (mVar 0) (mPure (.int 0))) (mPure (.str "not"))))
      (sRet (mBool (mNot (mTest (mCall (m_law_holds n) (mCons (mOp itemT (mVar 0) (mPure (.int 1))) (mCons (mVar 1) mNil)))))))
      sNil)
      (sSeq (sIf (mTest (mOp eqO (mOp itemT (mVar 0) (mPure (.int 0))) (mPure (.str "and"))))
      (sRet (mOp eqO (mMap lenT (mCons (mComp 1 [1] (hName 0) (iSeq (mOp itemT (mVar 0) (mPure (.int 1)))) (mNot (mTest (mCall (m_law_holds n) (mCons (mVar 0) (mCons (mVar 1) mNil))))) (mPure (.int 1))) mNil)) (mPure (.int 0))))
      sNil)
      (sRet (mOp gtT (mMap lenT (mCons (mComp 1 [1] (hName 0) (iSeq (mOp itemT (mVar 0) (mPure (.int 1)))) (mTest (mCall (m_law_holds n) (mCons (mVar 0) (mCons (mVar 1) mNil)))) (mPure (.int 1))) mNil)) (mPure (.int 0)))))))))
end
mutual
noncomputable def m_law_parts : Nat → Fn
  | 0 => fun _ _ => none
  | n + 1 => runFn 4
      (sSeq (sIf (mNot (mTest (mMap isTup (mCons (mVar 0) mNil))))
      (sRet (mPure .non))
      sNil)
      (sSeq (sIf (mAnd (mTest (mOp eqO (mOp itemT (mVar 0) (mPure (.int 0))) (mPure (.str "most")))) (mTest (mOp eqO (mMap lenT (mCons (mVar 0) mNil)) (mPure (.int 2)))))
      (sRet (mPure (.int 1)))
      sNil)
      (sSeq (sIf (mAnd (mTest (mOp eqO (mOp itemT (mVar 0) (mPure (.int 0))) (mPure (.str "rest")))) (mTest (mOp eqO (mMap lenT (mCons (mVar 0) mNil)) (mPure (.int 3)))))
      (sRet (mPure (.int 1)))
      sNil)
      (sSeq (sIf (mOr (mTest (mOp notInT (mOp itemT (mVar 0) (mPure (.int 0))) (mMap (fun l => some (.tup l)) (mCons (mPure (.str "and")) (mCons (mPure (.str "or")) mNil))))) (mOr (mTest (mOp neO (mMap lenT (mCons (mVar 0) mNil)) (mPure (.int 2)))) (mNot (mTest (mMap isTup (mCons (mOp itemT (mVar 0) (mPure (.int 1))) mNil))))))
      (sRet (mPure .non))
      sNil)
      (sSeq (sSet 1 (mPure (.int 1)))
      (sSeq (sFor (hName 2) (iSeq (mOp itemT (mVar 0) (mPure (.int 1))))
      (sSeq (sSet 3 (mCall (m_law_parts n) (mCons (mVar 2) mNil)))
      (sSeq (sIf (mTest (mOp isNT (mVar 3) (mPure .non)))
      (sRet (mPure .non))
      sNil)
      (sSet 1 (mOp addT (mVar 1) (mVar 3))))))
      (sRet (mVar 1))))))))
end
noncomputable def m_law_less : Fn := runFn 5
  (sSeq (sNew 2 (mMap dictT (mCons (mOp itemT (mVar 0) (mPure (.int 1))) mNil)))
  (sSeq (sFor (hTup [3, 4]) (iSeq (mOp itemT (mVar 1) (mPure (.int 1))))
  (sOwnPut 2 (mVar 3) (mOp subT (mOwnGet 2 (mVar 3) (mPure (.int 0))) (mVar 4))))
  (sRet (mMap (fun l => some (.tup l)) (mCons (mOp subT (mOp itemT (mVar 0) (mPure (.int 0))) (mOp itemT (mVar 1) (mPure (.int 0)))) (mCons (mMap tupleT (mCons (mComp 1 [2] (hName 0) (iSeq (mMap sortedT (mCons (mVar 2) mNil))) (mTest (mOp neO (mOp itemT (mVar 1) (mVar 0)) (mPure (.int 0)))) (mMap (fun l => some (.tup l)) (mCons (mVar 0) (mCons (mOp itemT (mVar 1) (mVar 0)) mNil)))) mNil)) mNil))))))
mutual
noncomputable def m_law_plain : Nat → Fn
  | 0 => fun _ _ => none
  | n + 1 => runFn 2
      (sSeq (sIf (mTest (mOp eqO (mOp itemT (mVar 0) (mPure (.int 0))) (mPure (.str "at"))))
      (sSeq (sSet 1 (mOp addT (mPure (.str "@")) (mOp itemT (mVar 0) (mPure (.int 1)))))
      (sRet (mMap (fun l => some (.tup l)) (mCons (mPure (.str "and")) (mCons (mMap (fun l => some (.tup l)) (mCons (mMap (fun l => some (.tup l)) (mCons (mPure (.str "most")) (mCons (mMap (fun l => some (.tup l)) (mCons (mUn negT (mOp itemT (mVar 0) (mPure (.int 2)))) (mCons (mMap (fun l => some (.tup l)) (mCons (mMap (fun l => some (.tup l)) (mCons (mVar 1) (mCons (mPure (.int 1)) mNil))) mNil)) mNil))) mNil))) (mCons (mMap (fun l => some (.tup l)) (mCons (mPure (.str "most")) (mCons (mMap (fun l => some (.tup l)) (mCons (mOp itemT (mVar 0) (mPure (.int 2))) (mCons (mMap (fun l => some (.tup l)) (mCons (mMap (fun l => some (.tup l)) (mCons (mVar 1) (mCons (mUn negT (mPure (.int 1))) mNil))) mNil)) mNil))) mNil))) mNil))) mNil)))))
      sNil)
      (sSeq (sIf (mTest (mOp eqO (mOp itemT (mVar 0) (mPure (.int 0))) (mPure (.str "not"))))
      (sRet (mCall (m_law_against n) (mCons (mOp itemT (mVar 0) (mPure (.int 1))) mNil)))
      sNil)
      (sSeq (sIf (mTest (mOp inT (mOp itemT (mVar 0) (mPure (.int 0))) (mMap (fun l => some (.tup l)) (mCons (mPure (.str "and")) (mCons (mPure (.str "or")) mNil)))))
      (sRet (mMap (fun l => some (.tup l)) (mCons (mOp itemT (mVar 0) (mPure (.int 0))) (mCons (mMap tupleT (mCons (mComp 1 [] (hName 0) (iSeq (mOp itemT (mVar 0) (mPure (.int 1)))) mTrue (mCall (m_law_plain n) (mCons (mVar 0) mNil))) mNil)) mNil))))
      sNil)
      (sRet (mVar 0)))))
noncomputable def m_law_against : Nat → Fn
  | 0 => fun _ _ => none
  | n + 1 => runFn 2
      (sSeq (sIf (mTest (mOp eqO (mOp itemT (mVar 0) (mPure (.int 0))) (mPure (.str "most"))))
      (sRet (mMap (fun l => some (.tup l)) (mCons (mPure (.str "most")) (mCons (mCall m_law_less (mCons (mMap (fun l => some (.tup l)) (mCons (mPure (.int 1)) (mCons (mMap (fun l => some (.tup l)) mNil) mNil))) (mCons (mOp itemT (mVar 0) (mPure (.int 1))) mNil))) mNil))))
      sNil)
      (sSeq (sIf (mTest (mOp eqO (mOp itemT (mVar 0) (mPure (.int 0))) (mPure (.str "rest"))))
      (sRet (mMap (fun l => some (.tup l)) (mCons (mPure (.str "or")) (mCons (mMap tupleT (mCons (mComp 1 [0] (hName 0) (iRange2 (mPure (.int 1)) (mOp itemT (mVar 0) (mPure (.int 2)))) mTrue (mMap (fun l => some (.tup l)) (mCons (mPure (.str "rest")) (mCons (mCall m_law_less (mCons (mOp itemT (mVar 1) (mPure (.int 1))) (mCons (mMap (fun l => some (.tup l)) (mCons (mVar 0) (mCons (mMap (fun l => some (.tup l)) mNil) mNil))) mNil))) (mCons (mOp itemT (mVar 1) (mPure (.int 2))) mNil))))) mNil)) mNil))))
      sNil)
      (sSeq (sIf (mTest (mOp eqO (mOp itemT (mVar 0) (mPure (.int 0))) (mPure (.str "at"))))
      (sSeq (sSet 1 (mOp addT (mPure (.str "@")) (mOp itemT (mVar 0) (mPure (.int 1)))))
      (sRet (mMap (fun l => some (.tup l)) (mCons (mPure (.str "or")) (mCons (mMap (fun l => some (.tup l)) (mCons (mMap (fun l => some (.tup l)) (mCons (mPure (.str "most")) (mCons (mMap (fun l => some (.tup l)) (mCons (mOp subT (mPure (.int 1)) (mOp itemT (mVar 0) (mPure (.int 2)))) (mCons (mMap (fun l => some (.tup l)) (mCons (mMap (fun l => some (.tup l)) (mCons (mVar 1) (mCons (mPure (.int 1)) mNil))) mNil)) mNil))) mNil))) (mCons (mMap (fun l => some (.tup l)) (mCons (mPure (.str "most")) (mCons (mMap (fun l => some (.tup l)) (mCons (mOp addT (mOp itemT (mVar 0) (mPure (.int 2))) (mPure (.int 1))) (mCons (mMap (fun l => some (.tup l)) (mCons (mMap (fun l => some (.tup l)) (mCons (mVar 1) (mCons (mUn negT (mPure (.int 1))) mNil))) mNil)) mNil))) mNil))) mNil))) mNil)))))
      sNil)
      (sSeq (sIf (mTest (mOp eqO (mOp itemT (mVar 0) (mPure (.int 0))) (mPure (.str "not"))))
      (sRet (mCall (m_law_plain n) (mCons (mOp itemT (mVar 0) (mPure (.int 1))) mNil)))
      sNil)
      (sRet (mMap (fun l => some (.tup l)) (mCons (mOp itemT (mMap (fun l => some (.lst l)) (mCons (mPure (.str "and")) (mCons (mPure (.str "or")) mNil))) (mMap intT (mCons (mOp eqO (mOp itemT (mVar 0) (mPure (.int 0))) (mPure (.str "and"))) mNil))) (mCons (mMap tupleT (mCons (mComp 1 [] (hName 0) (iSeq (mOp itemT (mVar 0) (mPure (.int 1)))) mTrue (mCall (m_law_against n) (mCons (mVar 0) mNil))) mNil)) mNil))))))))
end
noncomputable def m_law_book : Fn := runFn 5
  (sSeq (sSet 2 (mCall m_law_cell_at (mCons (mVar 0) (mCons (mOp modT (mVar 1) (mPure (.int 2))) mNil))))
  (sSeq (sSet 3 (mCall m_law_cell_at (mCons (mVar 0) (mCons (mOp subT (mPure (.int 1)) (mOp modT (mVar 1) (mPure (.int 2)))) mNil))))
  (sSeq (sNew 4 (mMap (dispT2 "x" "y") (mCons (mCall m_law_signed (mCons (mOp fdivT (mVar 2) (mOp addT (mPure (.int 1)) (mVar 1))) (mCons (mOp powT (mPure (.int 10)) (mPure (.int 30))) mNil))) (mCons (mCall m_law_signed (mCons (mOp fdivT (mVar 3) (mOp addT (mPure (.int 1)) (mVar 1))) (mCons (mOp powT (mPure (.int 10)) (mPure (.int 30))) mNil))) mNil))))
  (sSeq (sIf (mTest (mOp gtT (mVar 1) (mPure (.int 1))))
  (sSeq (sOwnPut 4 (mPure (.str "x")) (mOp subT (mOp modT (mOp fdivT (mVar 2) (mOp addT (mPure (.int 3)) (mVar 1))) (mPure (.int 9))) (mPure (.int 4))))
  (sOwnPut 4 (mPure (.str "y")) (mOp subT (mOp modT (mOp fdivT (mVar 3) (mOp addT (mPure (.int 5)) (mVar 1))) (mPure (.int 9))) (mPure (.int 4)))))
  sNil)
  (sSeq (sOwnPut 4 (mPure (.str "@p")) (mOp modT (mOp fdivT (mVar 2) (mOp addT (mPure (.int 7)) (mVar 1))) (mPure (.int 4))))
  (sSeq (sOwnPut 4 (mPure (.str "@q")) (mOp modT (mOp fdivT (mVar 3) (mOp addT (mPure (.int 11)) (mVar 1))) (mPure (.int 4))))
  (sRet (mVar 4))))))))
noncomputable def m_law : Fn := runFn 10
  (sSeq (sSet 1 (mOp eqO (mOp modT (mCall m_law_cell_at (mCons (mVar 0) (mCons (mPure (.int 0)) mNil))) (mPure (.int 2))) (mPure (.int 1))))
  (sSeq (sSet 2 (mCall m_law_remark (mCons (mSlice (mVar 0) (oSome (mPure (.int 2))) (oSome (mPure (.int 18)))) (mCons (mVar 1) mNil))))
  (sSeq (sSet 3 (mCall (m_plain_form 40) (mCons (mVar 2) mNil)))
  (sSeq (sSet 4 (mCall (m_against_form 40) (mCons (mVar 2) mNil)))
  (sSeq (sSet 5 (mCall (m_law_parts 40) (mCons (mVar 3) mNil)))
  (sSeq (sIf (mOr (mTest (mOp isNT (mVar 5) (mPure .non))) (mOr (mTest (mOp isNT (mCall (m_law_parts 40) (mCons (mVar 4) mNil)) (mPure .non))) (mTest (mOp neO (mCall m_form_parts (mCons (mVar 3) mNil)) (mVar 5)))))
  (sRet (mPure (.bl false)))
  sNil)
  (sSeq (sIf (mOr (mTest (mOp neO (mVar 3) (mCall (m_law_plain 40) (mCons (mVar 2) mNil)))) (mTest (mOp neO (mVar 4) (mCall (m_law_against 40) (mCons (mVar 2) mNil)))))
  (sRet (mPure (.bl false)))
  sNil)
  (sSeq (sFor (hName 6) (iRange (mPure (.int 8)))
  (sSeq (sSet 7 (mCall m_law_book (mCons (mVar 0) (mCons (mVar 6) mNil))))
  (sSeq (sSet 8 (mCall (m_law_holds 40) (mCons (mVar 2) (mCons (mVar 7) mNil))))
  (sSeq (sSet 9 (mCall m_form_true (mCons (mVar 3) (mCons (mVar 7) mNil))))
  (sSeq (sIf (mOr (mNot (mTest (mMap isBl (mCons (mVar 9) mNil)))) (mOr (mTest (mOp neO (mVar 9) (mVar 8))) (mTest (mOp eqO (mCall m_form_true (mCons (mVar 4) (mCons (mVar 7) mNil))) (mVar 8)))))
  (sRet (mPure (.bl false)))
  sNil)
  (sIf (mOr (mTest (mOp neO (mCall (m_law_holds 40) (mCons (mVar 3) (mCons (mVar 7) mNil))) (mVar 8))) (mTest (mOp eqO (mCall (m_law_holds 40) (mCons (mVar 4) (mCons (mVar 7) mNil))) (mVar 8))))
  (sRet (mPure (.bl false)))
  sNil))))))
  (sRet (mPure (.bl true)))))))))))
end K
end
noncomputable section
set_option linter.all false
set_option maxRecDepth 100000
set_option autoImplicit false
namespace K
open C PySem
noncomputable abbrev scr (cs : List Int) : T := .lst (cs.map .int)
noncomputable def cell (cs : List Int) (k : Nat) : Int := cs.getD k 0
theorem cell_at {cs : List Int} {k : Nat} {sto : List SO} : m_law_cell_at [scr cs, .int (k : Int)] sto = some (.int (cell cs k), sto) := by
  by_cases h : k < cs.length
  · have h1 : ((k : Int) < (cs.length : Int)) := by omega
    have h2 : cs[k]? = some cs[k] := List.getElem?_eq_getElem h
    simp [runFn, sSeq, sIf, sSet, sNew, sRet, sNil, sNx, sRetOwn, sGo, sReverse, sFor, sAppend, sExtend, lstAt, mTest, mNot, mAnd, mOr, mBool, mIf, mOp, mUn, mVar, mMap, mCons, mNil, mPure, mStrs, mCall, putSlot, hName, hTup, iRange, iSeq, ltT, leT, lenT, addT, subT, modT, fdivT, negT, absT, seqOf, mTrue, freezeAt, thaw, m_law_cell_at, itemT, ixI, h1, h2, cell, List.getD]
  · have h1 : ¬ ((k : Int) < (cs.length : Int)) := by omega
    have h2 : cs[k]? = none := List.getElem?_eq_none_iff.mpr (by omega)
    simp [runFn, sSeq, sIf, sSet, sNew, sRet, sNil, sNx, sRetOwn, sGo, sReverse, sFor, sAppend, sExtend, lstAt, mTest, mNot, mAnd, mOr, mBool, mIf, mOp, mUn, mVar, mMap, mCons, mNil, mPure, mStrs, mCall, putSlot, hName, hTup, iRange, iSeq, ltT, leT, lenT, addT, subT, modT, fdivT, negT, absT, seqOf, mTrue, freezeAt, thaw, m_law_cell_at, itemT, ixI, h1, h2, cell, List.getD]
theorem cell_n {cs : List Int} {k : Nat} {i : Int} {sto : List SO} (h : i = (k : Int)) : m_law_cell_at [scr cs, .int i] sto = some (.int (cell cs k), sto) := by
  rw [h]; exact cell_at
noncomputable abbrev Pr := Str × Int
noncomputable abbrev Sm := Int × List Pr
noncomputable def NN : List Str := ["x", "y", "@p", "@q"]
noncomputable def pT (p : Str × Int) : T := .tup [.str p.1, .int p.2]
noncomputable def smT (s : Sm) : T := .tup [.int s.1, .tup (s.2.map pT)]
noncomputable def okSm (s : Sm) : Prop := s.2.length ≤ 6 ∧ ∀ p ∈ s.2, p.1 ∈ NN ∧ -1000000000 < p.2 ∧ p.2 < 1000000000
theorem eqC {a b : Str} {c : Bool} (h : (PyData.canLay0 (.str a) && PyData.canLay0 (.str b) && ((a == b) == c)) = true) : eqO (.str a) (.str b) = some (.bl c) := by
  simp only [Bool.and_eq_true, beq_iff_eq] at h
  rw [eqO_str h.1.1 h.1.2, h.2]
theorem inC {w a b : Str} {c : Bool} (h : (PyData.canLay0 (.str w) && PyData.canLay0 (.str a) && PyData.canLay0 (.str b) && ((a == w || b == w) == c)) = true) : inT (.str w) (.tup [.str a, .str b]) = some (.bl c) := by
  simp only [Bool.and_eq_true, beq_iff_eq] at h
  obtain ⟨⟨⟨h1, h2⟩, h3⟩, h4⟩ := h -- here
  simp [inT, inL, eqD, dat, h1, h2, h3, PyData.depth, PyData.eqv, ← h4]
theorem e_most_most : eqO (.str "most") (.str "most") = some (.bl true) := eqC (by decide +kernel)
theorem e_most_rest : eqO (.str "most") (.str "rest") = some (.bl false) := eqC (by decide +kernel)
theorem e_most_at : eqO (.str "most") (.str "at") = some (.bl false) := eqC (by decide +kernel)
theorem e_most_not : eqO (.str "most") (.str "not") = some (.bl false) := eqC (by decide +kernel)
theorem e_most_and : eqO (.str "most") (.str "and") = some (.bl false) := eqC (by decide +kernel)
theorem e_rest_most : eqO (.str "rest") (.str "most") = some (.bl false) := eqC (by decide +kernel)
theorem e_rest_rest : eqO (.str "rest") (.str "rest") = some (.bl true) := eqC (by decide +kernel)
theorem e_rest_at : eqO (.str "rest") (.str "at") = some (.bl false) := eqC (by decide +kernel)
theorem e_rest_not : eqO (.str "rest") (.str "not") = some (.bl false) := eqC (by decide +kernel)
theorem e_rest_and : eqO (.str "rest") (.str "and") = some (.bl false) := eqC (by decide +kernel)
theorem e_at_most : eqO (.str "at") (.str "most") = some (.bl false) := eqC (by decide +kernel)
theorem e_at_rest : eqO (.str "at") (.str "rest") = some (.bl false) := eqC (by decide +kernel)
theorem e_at_at : eqO (.str "at") (.str "at") = some (.bl true) := eqC (by decide +kernel)
theorem e_at_not : eqO (.str "at") (.str "not") = some (.bl false) := eqC (by decide +kernel)
theorem e_at_and : eqO (.str "at") (.str "and") = some (.bl false) := eqC (by decide +kernel)
theorem e_not_most : eqO (.str "not") (.str "most") = some (.bl false) := eqC (by decide +kernel)
theorem e_not_rest : eqO (.str "not") (.str "rest") = some (.bl false) := eqC (by decide +kernel)
theorem e_not_at : eqO (.str "not") (.str "at") = some (.bl false) := eqC (by decide +kernel)
theorem e_not_not : eqO (.str "not") (.str "not") = some (.bl true) := eqC (by decide +kernel)
theorem e_not_and : eqO (.str "not") (.str "and") = some (.bl false) := eqC (by decide +kernel)
theorem e_and_most : eqO (.str "and") (.str "most") = some (.bl false) := eqC (by decide +kernel)
theorem e_and_rest : eqO (.str "and") (.str "rest") = some (.bl false) := eqC (by decide +kernel)
theorem e_and_at : eqO (.str "and") (.str "at") = some (.bl false) := eqC (by decide +kernel)
theorem e_and_not : eqO (.str "and") (.str "not") = some (.bl false) := eqC (by decide +kernel)
theorem e_and_and : eqO (.str "and") (.str "and") = some (.bl true) := eqC (by decide +kernel)
theorem e_or_most : eqO (.str "or") (.str "most") = some (.bl false) := eqC (by decide +kernel)
theorem e_or_rest : eqO (.str "or") (.str "rest") = some (.bl false) := eqC (by decide +kernel)
theorem e_or_at : eqO (.str "or") (.str "at") = some (.bl false) := eqC (by decide +kernel)
theorem e_or_not : eqO (.str "or") (.str "not") = some (.bl false) := eqC (by decide +kernel)
theorem e_or_and : eqO (.str "or") (.str "and") = some (.bl false) := eqC (by decide +kernel)
theorem i_most : inT (.str "most") (.tup [.str "and", .str "or"]) = some (.bl false) := inC (by decide +kernel)
theorem i_rest : inT (.str "rest") (.tup [.str "and", .str "or"]) = some (.bl false) := inC (by decide +kernel)
theorem i_at : inT (.str "at") (.tup [.str "and", .str "or"]) = some (.bl false) := inC (by decide +kernel)
theorem i_not : inT (.str "not") (.tup [.str "and", .str "or"]) = some (.bl false) := inC (by decide +kernel)
theorem i_and : inT (.str "and") (.tup [.str "and", .str "or"]) = some (.bl true) := inC (by decide +kernel)
theorem i_or : inT (.str "or") (.tup [.str "and", .str "or"]) = some (.bl true) := inC (by decide +kernel)
noncomputable def bk (B : List (Key × T)) (x : Str) : Int := match dGet (.inr x) B with
  | some (.int v) => v
  | _ => 0
structure Bk (N : List Str) (B : List (Key × T)) : Prop where
  has : ∀ x ∈ N, ∃ v : Int, dGet (.inr x) B = some (.int v)
  nums : ∀ p ∈ B, ∃ v : Int, p.2 = .int v
  nd : (B.map fun p => p.1).Nodup
theorem Bk.at {N : List Str} {B : List (Key × T)} (h : Bk N B) {x : Str} (hx : x ∈ N) : dGet (.inr x) B = some (.int (bk B x)) := by
  obtain ⟨v, e⟩ := h.has x hx
  rw [e]; unfold bk; rw [e]
noncomputable def val (B : List (Key × T)) (s : Sm) : Int := s.1 + (s.2.map fun p => p.2 * bk B p.1).sum
noncomputable section
variable {B : List (Key × T)} {sto : List SO}
theorem b64 {i : Int} (h0 : -1000000000 < i) (h1 : i < 1000000000) : bnd64 i = true := by simp only [bnd64, decide_eq_true_eq]; omega
theorem ints_map {α : Type} (f : α → Int) : ∀ l : List α, intsT (l.map fun a => T.int (f a)) = some (l.map f)
  | [] => rfl
  | a :: l => by simp [intsT, ints_map f l]
theorem sm_len {s : Sm} (hs : okSm s) : s.2.length < lim := by
  have := hs.1; show _ < 1000000; omega
theorem value {s : Sm} (hs : okSm s) (hB : Bk NN B) : m_value [smT s, .dic B] sto = some (.int (val B s), sto) := by
  have hl := sm_len hs
  unfold m_value smT
  simp [runFn, sSeq, sIf, sSet, sNew, sRet, sNil, sNx, sRetOwn, sGo, sReverse, sFor, sAppend, sExtend, lstAt, mTest, mNot, mAnd, mOr, mBool, mIf, mOp, mUn, mVar, mMap, mCons, mNil, mPure, mStrs, mCall, putSlot, hName, hTup, iRange, iSeq, ltT, leT, lenT, addT, subT, modT, fdivT, negT, absT, seqOf, mTrue, freezeAt, thaw, item0t]
  generalize hF : mComp _ _ _ _ _ _ _ = r
  obtain rfl := mComp_at hF pT (fun p => .int (p.2 * bk B p.1)) s.2 ⟨[some (smT s, false), some (.dic B, false)], sto⟩ [some (smT s, false), some (.dic B, false)] [some (.dic B, false)]
    (by unfold smT; simp [runFn, sSeq, sIf, sSet, sNew, sRet, sNil, sNx, sRetOwn, sGo, sReverse, sFor, sAppend, sExtend, lstAt, mTest, mNot, mAnd, mOr, mBool, mIf, mOp, mUn, mVar, mMap, mCons, mNil, mPure, mStrs, mCall, putSlot, hName, hTup, iRange, iSeq, ltT, leT, lenT, addT, subT, modT, fdivT, negT, absT, seqOf, mTrue, freezeAt, thaw, item1t, hl]) rfl rfl rfl (Nat.le_of_lt hl) (by
      intro p hp pre hpre
      obtain ⟨a, b, rfl⟩ : ∃ a b, pre = [a, b] := by
        match pre, hpre with
        | [a, b], _ => exact ⟨a, b, rfl⟩
      obtain ⟨h1, h2, h3⟩ := hs.2 p hp
      refine ⟨[some (.str p.1, false), some (.int p.2, false)], rfl, by unfold pT; rw [hTup2]; rfl, rfl, ?_⟩
      simp [runFn, sSeq, sIf, sSet, sNew, sRet, sNil, sNx, sRetOwn, sGo, sReverse, sFor, sAppend, sExtend, lstAt, mTest, mNot, mAnd, mOr, mBool, mIf, mOp, mUn, mVar, mMap, mCons, mNil, mPure, mStrs, mCall, putSlot, hName, hTup, iRange, iSeq, ltT, leT, lenT, addT, subT, modT, fdivT, negT, absT, seqOf, mTrue, freezeAt, thaw, itemT, keyOf, hB.at h1, mulT, b64 h2 h3])
  simp [runFn, sSeq, sIf, sSet, sNew, sRet, sNil, sNx, sRetOwn, sGo, sReverse, sFor, sAppend, sExtend, lstAt, mTest, mNot, mAnd, mOr, mBool, mIf, mOp, mUn, mVar, mMap, mCons, mNil, mPure, mStrs, mCall, putSlot, hName, hTup, iRange, iSeq, ltT, leT, lenT, addT, subT, modT, fdivT, negT, absT, seqOf, mTrue, freezeAt, thaw, sumT, ints_map, val]
theorem law_value {s : Sm} (hs : okSm s) (hB : Bk NN B) : m_law_value [smT s, .dic B] sto = some (.int (val B s), sto) := by
  have hl := sm_len hs
  unfold m_law_value
  simp [runFn, sSeq, sIf, sSet, sNew, sRet, sNil, sNx, sRetOwn, sGo, sReverse, sFor, sAppend, sExtend, lstAt, mTest, mNot, mAnd, mOr, mBool, mIf, mOp, mUn, mVar, mMap, mCons, mNil, mPure, mStrs, mCall, putSlot, hName, hTup, iRange, iSeq, ltT, leT, lenT, addT, subT, modT, fdivT, negT, absT, seqOf, mTrue, freezeAt, thaw, smT, item0t, item1t, hl]
  generalize hF : forL _ _ _ _ = r
  obtain ⟨s', rfl, P⟩ := forL_at hF (fun ts st => ∃ (l : List (Str × Int)) (a b : Slot) (k : Int), ts = l.map pT ∧ (∀ p ∈ l, p ∈ s.2) ∧ st = ⟨[some (smT s, false), some (.dic B, false), some (.int k, false), a, b], sto⟩ ∧ k + (l.map fun p => p.2 * bk B p.1).sum = val B s)
    ⟨s.2, none, none, s.1, rfl, fun p hp => hp, rfl, rfl⟩ (by
      rintro t r st ⟨l, a, b, k, e1, e2, rfl, e3⟩
      cases l with
      | nil => cases e1
      | cons p l =>
        cases e1
        obtain ⟨h1, h2, h3⟩ := hs.2 p (e2 p List.mem_cons_self)
        refine ⟨_, ⟨[some (smT s, false), some (.dic B, false), some (.int (k + p.2 * bk B p.1), false), some (.str p.1, false), some (.int p.2, false)], sto⟩, by unfold pT; exact hTup2, ?_, l, _, _, _, rfl, fun q hq => e2 q (List.mem_cons_of_mem _ hq), rfl, ?_⟩
        · simp [runFn, sSeq, sIf, sSet, sNew, sRet, sNil, sNx, sRetOwn, sGo, sReverse, sFor, sAppend, sExtend, lstAt, mTest, mNot, mAnd, mOr, mBool, mIf, mOp, mUn, mVar, mMap, mCons, mNil, mPure, mStrs, mCall, putSlot, hName, hTup, iRange, iSeq, ltT, leT, lenT, addT, subT, modT, fdivT, negT, absT, seqOf, mTrue, freezeAt, thaw, itemT, keyOf, hB.at h1, mulT, b64 h2 h3]
        · simp only [List.map_cons, List.sum_cons] at e3; omega)
  obtain ⟨l, a, b, k, e1, e2, rfl, e3⟩ := P
  cases l with
  | cons _ _ => cases e1
  | nil =>
    have : k = val B s := by simpa using e3
    simp [runFn, sSeq, sIf, sSet, sNew, sRet, sNil, sNx, sRetOwn, sGo, sReverse, sFor, sAppend, sExtend, lstAt, mTest, mNot, mAnd, mOr, mBool, mIf, mOp, mUn, mVar, mMap, mCons, mNil, mPure, mStrs, mCall, putSlot, hName, hTup, iRange, iSeq, ltT, leT, lenT, addT, subT, modT, fdivT, negT, absT, seqOf, mTrue, freezeAt, thaw, this]
end
end K
end
noncomputable section
set_option linter.all false
set_option maxRecDepth 100000
set_option autoImplicit false
namespace K
open C PySem
noncomputable def hn (h : Bool) : Str := if h then "q" else "p"
noncomputable def hb (h : Bool) : Str := if h then "@q" else "@p"
inductive Rem where
  | most (s : Sm) | rest (s : Sm) (m : Int) | pl (h : Bool) (p : Int) | all (l : List Rem) | any (l : List Rem) | no (r : Rem)
mutual
noncomputable def remT : Rem → T
  | .most s => .tup [.str "most", smT s]
  | .rest s m => .tup [.str "rest", smT s, .int m]
  | .pl h p => .tup [.str "at", .str (hn h), .int p]
  | .all l => .tup [.str "and", .tup (remsT l)]
  | .any l => .tup [.str "or", .tup (remsT l)]
  | .no r => .tup [.str "not", remT r]
noncomputable def remsT : List Rem → List T
  | [] => []
  | r :: l => remT r :: remsT l
end
theorem remsT_map : ∀ l : List Rem, remsT l = l.map remT
  | [] => rfl
  | r :: l => by rw [remsT, remsT_map l]; rfl
noncomputable def shp (a b : Int) : List Pr := ([("x", a), ("y", b)] : List Pr).filter fun p => p.2 != 0
noncomputable def okX (s : Sm) : Prop := ∃ a b : Int, s.2 = shp a b ∧ -4 < a ∧ a < 4 ∧ -4 < b ∧ b < 4
inductive OkR : Nat → Rem → Prop where
  | most {d : Nat} {s : Sm} : okX s → OkR d (.most s)
  | rest {d : Nat} {s : Sm} {m : Int} : okX s → 2 ≤ m → m ≤ 12 → OkR d (.rest s m)
  | pl {d : Nat} {h : Bool} {p : Int} : OkR d (.pl h p)
  | all {d : Nat} {l : List Rem} : l.length ≤ 100 → (∀ r ∈ l, OkR d r) → OkR (d + 1) (.all l)
  | any {d : Nat} {l : List Rem} : l.length ≤ 100 → (∀ r ∈ l, OkR d r) → OkR (d + 1) (.any l)
  | no {d : Nat} {r : Rem} : OkR d r → OkR (d + 1) (.no r)
theorem OkR.up {d : Nat} {r : Rem} (h : OkR d r) : OkR (d + 1) r := by
  induction h with
  | most h => exact .most h
  | rest h a b => exact .rest h a b
  | pl => exact .pl
  | all h _ ih => exact .all h ih
  | any h _ ih => exact .any h ih
  | no _ ih => exact .no ih
theorem OkR.le {d e : Nat} {r : Rem} (h : OkR d r) (hd : d ≤ e) : OkR e r := by
  induction hd with
  | refl => exact h
  | step _ ih => exact ih.up
inductive Fm : Nat → Rem → Prop where
  | most {d : Nat} {s : Sm} : okSm s → Fm d (.most s)
  | rest {d : Nat} {s : Sm} {m : Int} : okSm s → 2 ≤ m → m ≤ 12 → Fm d (.rest s m)
  | all {d : Nat} {l : List Rem} : l.length ≤ 100 → (∀ r ∈ l, Fm d r) → Fm (d + 1) (.all l)
  | any {d : Nat} {l : List Rem} : l.length ≤ 100 → (∀ r ∈ l, Fm d r) → Fm (d + 1) (.any l)
theorem shp_sub {a b : Int} {p : Pr} (h : p ∈ shp a b) : p = (("x" : Str), a) ∨ p = (("y" : Str), b) := by
  unfold shp at h
  have := (List.mem_filter.mp h).1
  simpa using this
theorem shp_len (a b : Int) : (shp a b).length ≤ 2 := List.length_filter_le _ ([("x", a), ("y", b)] : List Pr)
theorem okX.ok {s : Sm} (h : okX s) : okSm s := by
  obtain ⟨a, b, e, h1, h2, h3, h4⟩ := h
  refine ⟨by rw [e]; have := shp_len a b; omega, fun p hp => ?_⟩
  rw [e] at hp
  rcases shp_sub hp with rfl | rfl
  · exact ⟨by simp [NN], by dsimp only; omega, by dsimp only; omega⟩
  · exact ⟨by simp [NN], by dsimp only; omega, by dsimp only; omega⟩
mutual
noncomputable def tv (B : List (Key × T)) : Rem → Bool
  | .most s => decide (val B s ≤ 0)
  | .rest s m => val B s % m == 0
  | .pl h p => bk B (hb h) == p
  | .all l => tvAll B l
  | .any l => tvAny B l
  | .no r => !tv B r
noncomputable def tvAll (B : List (Key × T)) : List Rem → Bool
  | [] => true
  | r :: l => tv B r && tvAll B l
noncomputable def tvAny (B : List (Key × T)) : List Rem → Bool
  | [] => false
  | r :: l => tv B r || tvAny B l
end
noncomputable section
variable {B : List (Key × T)} {sto : List SO}
theorem tvAll_eq : ∀ l : List Rem, tvAll B l = !(l.any fun r => tv B r == false)
  | [] => rfl
  | r :: l => by rw [tvAll, tvAll_eq l, List.any_cons]; cases tv B r <;> simp
theorem tvAny_eq : ∀ l : List Rem, tvAny B l = l.any fun r => tv B r == true
  | [] => rfl
  | r :: l => by rw [tvAny, tvAny_eq l, List.any_cons]; cases tv B r <;> simp
theorem eqO_bl {a b : Bool} : eqO (.bl a) (.bl b) = some (.bl (a == b)) := by simp [eqO, eqT, eqD, dat, PyData.depth, PyData.eqv]
theorem any_loop {k : Nat} {w : Bool} {ms g : T} : ∀ (l : List Rem) (o : Slot), (∀ r ∈ l, m_holds k [remT r, .dic B, g] sto = some (.bl (tv B r), sto)) →
    ∃ o', forL (hName 4) (sIf (mTest (mOp eqO (mCall (m_holds k) (mCons (mVar 4) (mCons (mVar 2) (mCons (mVar 3) mNil)))) (mVar 0))) (sRet (mPure (.bl true))) sNil) (l.map remT) ⟨[some (.bl w, false), some (ms, false), some (.dic B, false), some (g, false), o], sto⟩
      = some (if (l.any fun r => tv B r == w) then .ret (.bl true) else .next, ⟨[some (.bl w, false), some (ms, false), some (.dic B, false), some (g, false), o'], sto⟩)
  | [], o, _ => ⟨o, by simp [forL]⟩
  | r :: l, o, h => by
    have h1 := h r List.mem_cons_self
    obtain ⟨o', e⟩ := any_loop (w := w) (ms := ms) l (some (remT r, false)) fun q hq => h q (List.mem_cons_of_mem _ hq)
    cases hw : (tv B r == w) with
    | true =>
      refine ⟨some (remT r, false), ?_⟩
      rw [List.map_cons, forL]
      simp [runFn, sSeq, sIf, sSet, sNew, sRet, sNil, sNx, sRetOwn, sGo, sReverse, sFor, sAppend, sExtend, lstAt, mTest, mNot, mAnd, mOr, mBool, mIf, mOp, mUn, mVar, mMap, mCons, mNil, mPure, mStrs, mCall, putSlot, hName, hTup, iRange, iSeq, ltT, leT, lenT, addT, subT, modT, fdivT, negT, absT, seqOf, mTrue, freezeAt, thaw, h1, eqO_bl, hw]
    | false =>
      refine ⟨o', ?_⟩
      rw [List.map_cons, forL]
      simp [runFn, sSeq, sIf, sSet, sNew, sRet, sNil, sNx, sRetOwn, sGo, sReverse, sFor, sAppend, sExtend, lstAt, mTest, mNot, mAnd, mOr, mBool, mIf, mOp, mUn, mVar, mMap, mCons, mNil, mPure, mStrs, mCall, putSlot, hName, hTup, iRange, iSeq, ltT, leT, lenT, addT, subT, modT, fdivT, negT, absT, seqOf, mTrue, freezeAt, thaw, h1, eqO_bl, hw]
      simpa using e
theorem any_is {k : Nat} {w : Bool} {g : T} {l : List Rem} (hl : l.length ≤ 100) (h : ∀ r ∈ l, m_holds k [remT r, .dic B, g] sto = some (.bl (tv B r), sto)) :
    m_any_is (k + 1) [.bl w, .tup (l.map remT), .dic B, g] sto = some (.bl (l.any fun r => tv B r == w), sto) := by
  have lm : l.length < lim := by show _ < 1000000; omega
  obtain ⟨o', e⟩ := any_loop (w := w) (ms := .tup (l.map remT)) l none h
  unfold m_any_is
  cases hw : l.any fun r => tv B r == w
  all_goals
    rw [hw] at e
    simp only [if_true, if_false, Bool.false_eq_true] at e
    simp [runFn, sSeq, sFor, iSeq, mVar, lm, e, sRet, mPure]
theorem holds (hB : Bk NN B) {g : T} {d : Nat} {r : Rem} (h : Fm d r) : ∀ k, 2 * d < k → m_holds k [remT r, .dic B, g] sto = some (.bl (tv B r), sto) := by
  induction h with
  | most h =>
    intro k hk
    obtain ⟨k, rfl⟩ : ∃ j, k = j + 1 := ⟨k - 1, by omega⟩
    unfold m_holds remT tv
    simp [runFn, sSeq, sIf, sSet, sNew, sRet, sNil, sNx, sRetOwn, sGo, sReverse, sFor, sAppend, sExtend, lstAt, mTest, mNot, mAnd, mOr, mBool, mIf, mOp, mUn, mVar, mMap, mCons, mNil, mPure, mStrs, mCall, putSlot, hName, hTup, iRange, iSeq, ltT, leT, lenT, addT, subT, modT, fdivT, negT, absT, seqOf, mTrue, freezeAt, thaw, item0t, item1t, e_most_most, e_most_rest, e_most_at, e_most_not, e_most_and, e_rest_most, e_rest_rest, e_rest_at, e_rest_not, e_rest_and, e_at_most, e_at_rest, e_at_at, e_at_not, e_at_and, e_not_most, e_not_rest, e_not_at, e_not_not, e_not_and, e_and_most, e_and_rest, e_and_at, e_and_not, e_and_and, e_or_most, e_or_rest, e_or_at, e_or_not, e_or_and, i_most, i_rest, i_at, i_not, i_and, i_or, value h hB]
  | rest h a b =>
    rename_i m
    intro k hk
    obtain ⟨k, rfl⟩ : ∃ j, k = j + 1 := ⟨k - 1, by omega⟩
    have hm : 0 < m := by omega
    unfold m_holds remT tv
    simp [runFn, sSeq, sIf, sSet, sNew, sRet, sNil, sNx, sRetOwn, sGo, sReverse, sFor, sAppend, sExtend, lstAt, mTest, mNot, mAnd, mOr, mBool, mIf, mOp, mUn, mVar, mMap, mCons, mNil, mPure, mStrs, mCall, putSlot, hName, hTup, iRange, iSeq, ltT, leT, lenT, addT, subT, modT, fdivT, negT, absT, seqOf, mTrue, freezeAt, thaw, item0t, item1t, item2t, e_most_most, e_most_rest, e_most_at, e_most_not, e_most_and, e_rest_most, e_rest_rest, e_rest_at, e_rest_not, e_rest_and, e_at_most, e_at_rest, e_at_at, e_at_not, e_at_and, e_not_most, e_not_rest, e_not_at, e_not_not, e_not_and, e_and_most, e_and_rest, e_and_at, e_and_not, e_and_and, e_or_most, e_or_rest, e_or_at, e_or_not, e_or_and, i_most, i_rest, i_at, i_not, i_and, i_or, value h hB, hm, eqO_int]
  | all hl _ ih =>
    intro k hk
    obtain ⟨k, rfl⟩ : ∃ j, k = j + 2 := ⟨k - 2, by omega⟩
    have e := any_is (w := false) (g := g) hl fun r hr => ih r hr k (by omega)
    unfold m_holds remT tv
    simp [runFn, sSeq, sIf, sSet, sNew, sRet, sNil, sNx, sRetOwn, sGo, sReverse, sFor, sAppend, sExtend, lstAt, mTest, mNot, mAnd, mOr, mBool, mIf, mOp, mUn, mVar, mMap, mCons, mNil, mPure, mStrs, mCall, putSlot, hName, hTup, iRange, iSeq, ltT, leT, lenT, addT, subT, modT, fdivT, negT, absT, seqOf, mTrue, freezeAt, thaw, item0t, item1t, e_most_most, e_most_rest, e_most_at, e_most_not, e_most_and, e_rest_most, e_rest_rest, e_rest_at, e_rest_not, e_rest_and, e_at_most, e_at_rest, e_at_at, e_at_not, e_at_and, e_not_most, e_not_rest, e_not_at, e_not_not, e_not_and, e_and_most, e_and_rest, e_and_at, e_and_not, e_and_and, e_or_most, e_or_rest, e_or_at, e_or_not, e_or_and, i_most, i_rest, i_at, i_not, i_and, i_or, remsT_map, e, tvAll_eq]
  | any hl _ ih =>
    intro k hk
    obtain ⟨k, rfl⟩ : ∃ j, k = j + 2 := ⟨k - 2, by omega⟩
    have e := any_is (w := true) (g := g) hl fun r hr => ih r hr k (by omega)
    unfold m_holds remT tv
    simp [runFn, sSeq, sIf, sSet, sNew, sRet, sNil, sNx, sRetOwn, sGo, sReverse, sFor, sAppend, sExtend, lstAt, mTest, mNot, mAnd, mOr, mBool, mIf, mOp, mUn, mVar, mMap, mCons, mNil, mPure, mStrs, mCall, putSlot, hName, hTup, iRange, iSeq, ltT, leT, lenT, addT, subT, modT, fdivT, negT, absT, seqOf, mTrue, freezeAt, thaw, item0t, item1t, e_most_most, e_most_rest, e_most_at, e_most_not, e_most_and, e_rest_most, e_rest_rest, e_rest_at, e_rest_not, e_rest_and, e_at_most, e_at_rest, e_at_at, e_at_not, e_at_and, e_not_most, e_not_rest, e_not_at, e_not_not, e_not_and, e_and_most, e_and_rest, e_and_at, e_and_not, e_and_and, e_or_most, e_or_rest, e_or_at, e_or_not, e_or_and, i_most, i_rest, i_at, i_not, i_and, i_or, remsT_map, e, tvAny_eq]
theorem form_true (hB : Bk NN B) {d : Nat} {r : Rem} (h : Fm d r) (hd : d ≤ 17) : m_form_true [remT r, .dic B] sto = some (.bl (tv B r), sto) := by
  unfold m_form_true
  simp [runFn, sSeq, sIf, sSet, sNew, sRet, sNil, sNx, sRetOwn, sGo, sReverse, sFor, sAppend, sExtend, lstAt, mTest, mNot, mAnd, mOr, mBool, mIf, mOp, mUn, mVar, mMap, mCons, mNil, mPure, mStrs, mCall, putSlot, hName, hTup, iRange, iSeq, ltT, leT, lenT, addT, subT, modT, fdivT, negT, absT, seqOf, mTrue, freezeAt, thaw, holds (g := .dic []) hB h 40 (by omega)]
end
end K
end
noncomputable section
set_option linter.all false
set_option maxRecDepth 100000
set_option autoImplicit false
namespace K
open C PySem
theorem nxy : ¬ ((.inr "x" : C.Key) = .inr "y") := by decide
theorem nyx : ¬ ((.inr "y" : C.Key) = .inr "x") := by decide
theorem sxy : ¬ (Str.ofString "x" = Str.ofString "y") := by decide
theorem syx : ¬ (Str.ofString "y" = Str.ofString "x") := by decide
theorem ss2 {a b : T} : sortedT [.dic [(.inr "x", a), (.inr "y", b)]] = some (.lst [.str "x", .str "y"]) := rfl
theorem ss1 {a : T} : sortedT [.dic [(.inr "x", a)]] = some (.lst [.str "x"]) := rfl
theorem sy1 {a : T} : sortedT [.dic [(.inr "y", a)]] = some (.lst [.str "y"]) := rfl
theorem ss0 : sortedT [.dic []] = some (.lst []) := rfl
theorem neZ {v : Int} (h : v ≠ 0) : neO (.int v) (.int 0) = some (.bl true) := by rw [neO_int]; simp [h]
theorem b1 : bnd64 (-1) = true := by decide
theorem it_d {B : List (Key × T)} {x : Str} : itemT (.dic B) (.str x) = dGet (.inr x) B := by simp [itemT, keyOf]
noncomputable section
variable {n a b : Int} {sto : List SO} {t : T}
theorem so0 : m_sum_of [.int n, .lst []] sto = some (smT (n, []), sto) := by
  unfold m_sum_of
  simp [runFn, sSeq, sIf, sSet, sNew, sRet, sNil, sNx, sRetOwn, sGo, sReverse, sFor, sAppend, sExtend, lstAt, mTest, mNot, mAnd, mOr, mBool, mIf, mOp, mUn, mVar, mMap, mCons, mNil, mPure, mStrs, mCall, putSlot, hName, hTup, iRange, iSeq, ltT, leT, lenT, addT, subT, modT, fdivT, negT, absT, seqOf, mTrue, freezeAt, thaw, sFor, iSeq, forL, lim, hTup, sOwnPut, dicAt, mOwnGet, keyOf, dGet, dPut, nxy, nyx, sxy, syx, ss0, mComp, compL, freezeAt, freezeAll, thaw, itemT, smT, pT, tupleT]
theorem so1 (ha : a ≠ 0) : m_sum_of [.int n, .lst [.tup [.str "x", .int a]]] sto = some (smT (n, [("x", a)]), sto) := by
  unfold m_sum_of
  simp [runFn, sSeq, sIf, sSet, sNew, sRet, sNil, sNx, sRetOwn, sGo, sReverse, sFor, sAppend, sExtend, lstAt, mTest, mNot, mAnd, mOr, mBool, mIf, mOp, mUn, mVar, mMap, mCons, mNil, mPure, mStrs, mCall, putSlot, hName, hTup, iRange, iSeq, ltT, leT, lenT, addT, subT, modT, fdivT, negT, absT, seqOf, mTrue, freezeAt, thaw, sFor, iSeq, forL, lim, hTup, sOwnPut, dicAt, mOwnGet, keyOf, dGet, dPut, nxy, nyx, sxy, syx, ss1, mComp, compL, freezeAt, freezeAll, thaw, itemT, neZ ha, smT, pT, tupleT]
theorem so1y (ha : a ≠ 0) : m_sum_of [.int n, .lst [.tup [.str "y", .int a]]] sto = some (smT (n, [("y", a)]), sto) := by
  unfold m_sum_of
  simp [runFn, sSeq, sIf, sSet, sNew, sRet, sNil, sNx, sRetOwn, sGo, sReverse, sFor, sAppend, sExtend, lstAt, mTest, mNot, mAnd, mOr, mBool, mIf, mOp, mUn, mVar, mMap, mCons, mNil, mPure, mStrs, mCall, putSlot, hName, hTup, iRange, iSeq, ltT, leT, lenT, addT, subT, modT, fdivT, negT, absT, seqOf, mTrue, freezeAt, thaw, sFor, iSeq, forL, lim, hTup, sOwnPut, dicAt, mOwnGet, keyOf, dGet, dPut, nxy, nyx, sxy, syx, sy1, mComp, compL, freezeAt, freezeAll, thaw, itemT, neZ ha, smT, pT, tupleT]
theorem so2 (ha : a ≠ 0) (hb : b ≠ 0) : m_sum_of [.int n, .lst [.tup [.str "x", .int a], .tup [.str "y", .int b]]] sto = some (smT (n, [("x", a), ("y", b)]), sto) := by
  unfold m_sum_of
  simp [runFn, sSeq, sIf, sSet, sNew, sRet, sNil, sNx, sRetOwn, sGo, sReverse, sFor, sAppend, sExtend, lstAt, mTest, mNot, mAnd, mOr, mBool, mIf, mOp, mUn, mVar, mMap, mCons, mNil, mPure, mStrs, mCall, putSlot, hName, hTup, iRange, iSeq, ltT, leT, lenT, addT, subT, modT, fdivT, negT, absT, seqOf, mTrue, freezeAt, thaw, sFor, iSeq, forL, lim, hTup, sOwnPut, dicAt, mOwnGet, keyOf, dGet, dPut, nxy, nyx, sxy, syx, ss2, mComp, compL, freezeAt, freezeAll, thaw, itemT, neZ ha, neZ hb, smT, pT, tupleT]
theorem to0 : m_sum_of [.int n, .tup []] sto = some (smT (n, []), sto) := by
  unfold m_sum_of
  simp [runFn, sSeq, sIf, sSet, sNew, sRet, sNil, sNx, sRetOwn, sGo, sReverse, sFor, sAppend, sExtend, lstAt, mTest, mNot, mAnd, mOr, mBool, mIf, mOp, mUn, mVar, mMap, mCons, mNil, mPure, mStrs, mCall, putSlot, hName, hTup, iRange, iSeq, ltT, leT, lenT, addT, subT, modT, fdivT, negT, absT, seqOf, mTrue, freezeAt, thaw, sFor, iSeq, forL, lim, hTup, sOwnPut, dicAt, mOwnGet, keyOf, dGet, dPut, nxy, nyx, sxy, syx, ss0, mComp, compL, freezeAt, freezeAll, thaw, itemT, smT, pT, tupleT]
theorem to1 (ha : a ≠ 0) : m_sum_of [.int n, .tup [.tup [.str "x", .int a]]] sto = some (smT (n, [("x", a)]), sto) := by
  unfold m_sum_of
  simp [runFn, sSeq, sIf, sSet, sNew, sRet, sNil, sNx, sRetOwn, sGo, sReverse, sFor, sAppend, sExtend, lstAt, mTest, mNot, mAnd, mOr, mBool, mIf, mOp, mUn, mVar, mMap, mCons, mNil, mPure, mStrs, mCall, putSlot, hName, hTup, iRange, iSeq, ltT, leT, lenT, addT, subT, modT, fdivT, negT, absT, seqOf, mTrue, freezeAt, thaw, sFor, iSeq, forL, lim, hTup, sOwnPut, dicAt, mOwnGet, keyOf, dGet, dPut, nxy, nyx, sxy, syx, ss1, mComp, compL, freezeAt, freezeAll, thaw, itemT, neZ ha, smT, pT, tupleT]
theorem to1y (ha : a ≠ 0) : m_sum_of [.int n, .tup [.tup [.str "y", .int a]]] sto = some (smT (n, [("y", a)]), sto) := by
  unfold m_sum_of
  simp [runFn, sSeq, sIf, sSet, sNew, sRet, sNil, sNx, sRetOwn, sGo, sReverse, sFor, sAppend, sExtend, lstAt, mTest, mNot, mAnd, mOr, mBool, mIf, mOp, mUn, mVar, mMap, mCons, mNil, mPure, mStrs, mCall, putSlot, hName, hTup, iRange, iSeq, ltT, leT, lenT, addT, subT, modT, fdivT, negT, absT, seqOf, mTrue, freezeAt, thaw, sFor, iSeq, forL, lim, hTup, sOwnPut, dicAt, mOwnGet, keyOf, dGet, dPut, nxy, nyx, sxy, syx, sy1, mComp, compL, freezeAt, freezeAll, thaw, itemT, neZ ha, smT, pT, tupleT]
theorem to2 (ha : a ≠ 0) (hb : b ≠ 0) : m_sum_of [.int n, .tup [.tup [.str "x", .int a], .tup [.str "y", .int b]]] sto = some (smT (n, [("x", a), ("y", b)]), sto) := by
  unfold m_sum_of
  simp [runFn, sSeq, sIf, sSet, sNew, sRet, sNil, sNx, sRetOwn, sGo, sReverse, sFor, sAppend, sExtend, lstAt, mTest, mNot, mAnd, mOr, mBool, mIf, mOp, mUn, mVar, mMap, mCons, mNil, mPure, mStrs, mCall, putSlot, hName, hTup, iRange, iSeq, ltT, leT, lenT, addT, subT, modT, fdivT, negT, absT, seqOf, mTrue, freezeAt, thaw, sFor, iSeq, forL, lim, hTup, sOwnPut, dicAt, mOwnGet, keyOf, dGet, dPut, nxy, nyx, sxy, syx, ss2, mComp, compL, freezeAt, freezeAll, thaw, itemT, neZ ha, neZ hb, smT, pT, tupleT]
theorem shp00 : shp 0 0 = [] := rfl
theorem shp10 (ha : a ≠ 0) : shp a 0 = ([("x", a)] : List Pr) := by simp [shp, ha]
theorem shp01 (hb : b ≠ 0) : shp 0 b = ([("y", b)] : List Pr) := by simp [shp, hb]
theorem shp11 (ha : a ≠ 0) (hb : b ≠ 0) : shp a b = ([("x", a), ("y", b)] : List Pr) := by simp [shp, ha, hb]
noncomputable def ng (s : Sm) : Sm := (1 - s.1, s.2.map fun p => (p.1, -p.2))
theorem mulM {v : Int} : mulT (.int v) (.int (-1)) = some (.int (-v)) := by
  simp [mulT, b1]
theorem ng_ne {v : Int} (h : v ≠ 0) : -v ≠ 0 := by omega
theorem minus1 : m_minus [smT (1, []), smT (n, shp a b)] sto = some (smT (ng (n, shp a b)), sto) := by
  by_cases ha : a = 0
  · by_cases hb : b = 0
    · subst ha hb
      rw [shp00]
      unfold m_minus m_plus m_by ng
      simp [runFn, sSeq, sIf, sSet, sNew, sRet, sNil, sNx, sRetOwn, sGo, sReverse, sFor, sAppend, sExtend, lstAt, mTest, mNot, mAnd, mOr, mBool, mIf, mOp, mUn, mVar, mMap, mCons, mNil, mPure, mStrs, mCall, putSlot, hName, hTup, iRange, iSeq, ltT, leT, lenT, addT, subT, modT, fdivT, negT, absT, seqOf, mTrue, freezeAt, thaw, smT, item0t, item1t, mComp, compL, freezeAt, freezeAll, thaw, iSeq, lim, hTup, pT, mulM, so0, to0, negT]
      try simp [smT, Int.sub_eq_add_neg]
    · subst ha
      rw [shp01 hb]
      unfold m_minus m_plus m_by ng
      simp [runFn, sSeq, sIf, sSet, sNew, sRet, sNil, sNx, sRetOwn, sGo, sReverse, sFor, sAppend, sExtend, lstAt, mTest, mNot, mAnd, mOr, mBool, mIf, mOp, mUn, mVar, mMap, mCons, mNil, mPure, mStrs, mCall, putSlot, hName, hTup, iRange, iSeq, ltT, leT, lenT, addT, subT, modT, fdivT, negT, absT, seqOf, mTrue, freezeAt, thaw, smT, item0t, item1t, mComp, compL, freezeAt, freezeAll, thaw, iSeq, lim, hTup, pT, mulM, so1y (ng_ne hb), to1y (ng_ne hb), negT]
      try simp [smT, Int.sub_eq_add_neg]
  · by_cases hb : b = 0
    · subst hb
      rw [shp10 ha]
      unfold m_minus m_plus m_by ng
      simp [runFn, sSeq, sIf, sSet, sNew, sRet, sNil, sNx, sRetOwn, sGo, sReverse, sFor, sAppend, sExtend, lstAt, mTest, mNot, mAnd, mOr, mBool, mIf, mOp, mUn, mVar, mMap, mCons, mNil, mPure, mStrs, mCall, putSlot, hName, hTup, iRange, iSeq, ltT, leT, lenT, addT, subT, modT, fdivT, negT, absT, seqOf, mTrue, freezeAt, thaw, smT, item0t, item1t, mComp, compL, freezeAt, freezeAll, thaw, iSeq, lim, hTup, pT, mulM, so1 (ng_ne ha), to1 (ng_ne ha), negT]
      try simp [smT, Int.sub_eq_add_neg]
    · rw [shp11 ha hb]
      unfold m_minus m_plus m_by ng
      simp [runFn, sSeq, sIf, sSet, sNew, sRet, sNil, sNx, sRetOwn, sGo, sReverse, sFor, sAppend, sExtend, lstAt, mTest, mNot, mAnd, mOr, mBool, mIf, mOp, mUn, mVar, mMap, mCons, mNil, mPure, mStrs, mCall, putSlot, hName, hTup, iRange, iSeq, ltT, leT, lenT, addT, subT, modT, fdivT, negT, absT, seqOf, mTrue, freezeAt, thaw, smT, item0t, item1t, mComp, compL, freezeAt, freezeAll, thaw, iSeq, lim, hTup, pT, mulM, so2 (ng_ne ha) (ng_ne hb), to2 (ng_ne ha) (ng_ne hb), negT]
      try simp [smT, Int.sub_eq_add_neg]
theorem minusK {k : Int} : m_minus [smT (n, shp a b), smT (k, [])] sto = some (smT (n - k, shp a b), sto) := by
  by_cases ha : a = 0
  · by_cases hb : b = 0
    · subst ha hb
      rw [shp00]
      unfold m_minus m_plus m_by
      simp [runFn, sSeq, sIf, sSet, sNew, sRet, sNil, sNx, sRetOwn, sGo, sReverse, sFor, sAppend, sExtend, lstAt, mTest, mNot, mAnd, mOr, mBool, mIf, mOp, mUn, mVar, mMap, mCons, mNil, mPure, mStrs, mCall, putSlot, hName, hTup, iRange, iSeq, ltT, leT, lenT, addT, subT, modT, fdivT, negT, absT, seqOf, mTrue, freezeAt, thaw, smT, item0t, item1t, mComp, compL, freezeAt, freezeAll, thaw, iSeq, lim, hTup, pT, mulM, so0, to0, negT]
      try simp [smT, Int.sub_eq_add_neg]
    · subst ha
      rw [shp01 hb]
      unfold m_minus m_plus m_by
      simp [runFn, sSeq, sIf, sSet, sNew, sRet, sNil, sNx, sRetOwn, sGo, sReverse, sFor, sAppend, sExtend, lstAt, mTest, mNot, mAnd, mOr, mBool, mIf, mOp, mUn, mVar, mMap, mCons, mNil, mPure, mStrs, mCall, putSlot, hName, hTup, iRange, iSeq, ltT, leT, lenT, addT, subT, modT, fdivT, negT, absT, seqOf, mTrue, freezeAt, thaw, smT, item0t, item1t, mComp, compL, freezeAt, freezeAll, thaw, iSeq, lim, hTup, pT, mulM, so0, so1y hb, to1y hb, negT]
      try simp [smT, Int.sub_eq_add_neg]
  · by_cases hb : b = 0
    · subst hb
      rw [shp10 ha]
      unfold m_minus m_plus m_by
      simp [runFn, sSeq, sIf, sSet, sNew, sRet, sNil, sNx, sRetOwn, sGo, sReverse, sFor, sAppend, sExtend, lstAt, mTest, mNot, mAnd, mOr, mBool, mIf, mOp, mUn, mVar, mMap, mCons, mNil, mPure, mStrs, mCall, putSlot, hName, hTup, iRange, iSeq, ltT, leT, lenT, addT, subT, modT, fdivT, negT, absT, seqOf, mTrue, freezeAt, thaw, smT, item0t, item1t, mComp, compL, freezeAt, freezeAll, thaw, iSeq, lim, hTup, pT, mulM, so0, so1 ha, to1 ha, negT]
      try simp [smT, Int.sub_eq_add_neg]
    · rw [shp11 ha hb]
      unfold m_minus m_plus m_by
      simp [runFn, sSeq, sIf, sSet, sNew, sRet, sNil, sNx, sRetOwn, sGo, sReverse, sFor, sAppend, sExtend, lstAt, mTest, mNot, mAnd, mOr, mBool, mIf, mOp, mUn, mVar, mMap, mCons, mNil, mPure, mStrs, mCall, putSlot, hName, hTup, iRange, iSeq, ltT, leT, lenT, addT, subT, modT, fdivT, negT, absT, seqOf, mTrue, freezeAt, thaw, smT, item0t, item1t, mComp, compL, freezeAt, freezeAll, thaw, iSeq, lim, hTup, pT, mulM, so0, so2 ha hb, to2 ha hb, negT]
      try simp [smT, Int.sub_eq_add_neg]
theorem less1 : m_law_less [smT (1, []), smT (n, shp a b)] sto = some (smT (ng (n, shp a b)), sto) := by
  by_cases ha : a = 0
  · by_cases hb : b = 0
    · subst ha hb
      rw [shp00]
      unfold m_law_less ng
      simp [runFn, sSeq, sIf, sSet, sNew, sRet, sNil, sNx, sRetOwn, sGo, sReverse, sFor, sAppend, sExtend, lstAt, mTest, mNot, mAnd, mOr, mBool, mIf, mOp, mUn, mVar, mMap, mCons, mNil, mPure, mStrs, mCall, putSlot, hName, hTup, iRange, iSeq, ltT, leT, lenT, addT, subT, modT, fdivT, negT, absT, seqOf, mTrue, freezeAt, thaw, smT, item0t, item1t, sFor, iSeq, forL, lim, hTup, sOwnPut, dicAt, mOwnGet, keyOf, dGet, dPut, nxy, nyx, sxy, syx, ss0, mComp, compL, freezeAt, freezeAll, thaw, it_d, pT, tupleT, dictT, pairsT]
    · subst ha
      rw [shp01 hb]
      unfold m_law_less ng
      simp [runFn, sSeq, sIf, sSet, sNew, sRet, sNil, sNx, sRetOwn, sGo, sReverse, sFor, sAppend, sExtend, lstAt, mTest, mNot, mAnd, mOr, mBool, mIf, mOp, mUn, mVar, mMap, mCons, mNil, mPure, mStrs, mCall, putSlot, hName, hTup, iRange, iSeq, ltT, leT, lenT, addT, subT, modT, fdivT, negT, absT, seqOf, mTrue, freezeAt, thaw, smT, item0t, item1t, sFor, iSeq, forL, lim, hTup, sOwnPut, dicAt, mOwnGet, keyOf, dGet, dPut, nxy, nyx, sxy, syx, sy1, mComp, compL, freezeAt, freezeAll, thaw, it_d, pT, tupleT, dictT, pairsT, neZ (ng_ne hb)]
  · by_cases hb : b = 0
    · subst hb
      rw [shp10 ha]
      unfold m_law_less ng
      simp [runFn, sSeq, sIf, sSet, sNew, sRet, sNil, sNx, sRetOwn, sGo, sReverse, sFor, sAppend, sExtend, lstAt, mTest, mNot, mAnd, mOr, mBool, mIf, mOp, mUn, mVar, mMap, mCons, mNil, mPure, mStrs, mCall, putSlot, hName, hTup, iRange, iSeq, ltT, leT, lenT, addT, subT, modT, fdivT, negT, absT, seqOf, mTrue, freezeAt, thaw, smT, item0t, item1t, sFor, iSeq, forL, lim, hTup, sOwnPut, dicAt, mOwnGet, keyOf, dGet, dPut, nxy, nyx, sxy, syx, ss1, mComp, compL, freezeAt, freezeAll, thaw, it_d, pT, tupleT, dictT, pairsT, neZ (ng_ne ha)]
    · rw [shp11 ha hb]
      unfold m_law_less ng
      simp [runFn, sSeq, sIf, sSet, sNew, sRet, sNil, sNx, sRetOwn, sGo, sReverse, sFor, sAppend, sExtend, lstAt, mTest, mNot, mAnd, mOr, mBool, mIf, mOp, mUn, mVar, mMap, mCons, mNil, mPure, mStrs, mCall, putSlot, hName, hTup, iRange, iSeq, ltT, leT, lenT, addT, subT, modT, fdivT, negT, absT, seqOf, mTrue, freezeAt, thaw, smT, item0t, item1t, sFor, iSeq, forL, lim, hTup, sOwnPut, dicAt, mOwnGet, keyOf, dGet, dPut, nxy, nyx, sxy, syx, ss2, mComp, compL, freezeAt, freezeAll, thaw, it_d, pT, tupleT, dictT, pairsT, neZ (ng_ne ha), neZ (ng_ne hb)]
theorem lessK {k : Int} : m_law_less [smT (n, shp a b), smT (k, [])] sto = some (smT (n - k, shp a b), sto) := by
  by_cases ha : a = 0
  · by_cases hb : b = 0
    · subst ha hb
      rw [shp00]
      unfold m_law_less
      simp [runFn, sSeq, sIf, sSet, sNew, sRet, sNil, sNx, sRetOwn, sGo, sReverse, sFor, sAppend, sExtend, lstAt, mTest, mNot, mAnd, mOr, mBool, mIf, mOp, mUn, mVar, mMap, mCons, mNil, mPure, mStrs, mCall, putSlot, hName, hTup, iRange, iSeq, ltT, leT, lenT, addT, subT, modT, fdivT, negT, absT, seqOf, mTrue, freezeAt, thaw, smT, item0t, item1t, sFor, iSeq, forL, lim, hTup, sOwnPut, dicAt, mOwnGet, keyOf, dGet, dPut, nxy, nyx, sxy, syx, ss0, mComp, compL, freezeAt, freezeAll, thaw, it_d, pT, tupleT, dictT, pairsT]
    · subst ha
      rw [shp01 hb]
      unfold m_law_less
      simp [runFn, sSeq, sIf, sSet, sNew, sRet, sNil, sNx, sRetOwn, sGo, sReverse, sFor, sAppend, sExtend, lstAt, mTest, mNot, mAnd, mOr, mBool, mIf, mOp, mUn, mVar, mMap, mCons, mNil, mPure, mStrs, mCall, putSlot, hName, hTup, iRange, iSeq, ltT, leT, lenT, addT, subT, modT, fdivT, negT, absT, seqOf, mTrue, freezeAt, thaw, smT, item0t, item1t, sFor, iSeq, forL, lim, hTup, sOwnPut, dicAt, mOwnGet, keyOf, dGet, dPut, nxy, nyx, sxy, syx, sy1, mComp, compL, freezeAt, freezeAll, thaw, it_d, pT, tupleT, dictT, pairsT, neZ hb]
  · by_cases hb : b = 0
    · subst hb
      rw [shp10 ha]
      unfold m_law_less
      simp [runFn, sSeq, sIf, sSet, sNew, sRet, sNil, sNx, sRetOwn, sGo, sReverse, sFor, sAppend, sExtend, lstAt, mTest, mNot, mAnd, mOr, mBool, mIf, mOp, mUn, mVar, mMap, mCons, mNil, mPure, mStrs, mCall, putSlot, hName, hTup, iRange, iSeq, ltT, leT, lenT, addT, subT, modT, fdivT, negT, absT, seqOf, mTrue, freezeAt, thaw, smT, item0t, item1t, sFor, iSeq, forL, lim, hTup, sOwnPut, dicAt, mOwnGet, keyOf, dGet, dPut, nxy, nyx, sxy, syx, ss1, mComp, compL, freezeAt, freezeAll, thaw, it_d, pT, tupleT, dictT, pairsT, neZ ha]
    · rw [shp11 ha hb]
      unfold m_law_less
      simp [runFn, sSeq, sIf, sSet, sNew, sRet, sNil, sNx, sRetOwn, sGo, sReverse, sFor, sAppend, sExtend, lstAt, mTest, mNot, mAnd, mOr, mBool, mIf, mOp, mUn, mVar, mMap, mCons, mNil, mPure, mStrs, mCall, putSlot, hName, hTup, iRange, iSeq, ltT, leT, lenT, addT, subT, modT, fdivT, negT, absT, seqOf, mTrue, freezeAt, thaw, smT, item0t, item1t, sFor, iSeq, forL, lim, hTup, sOwnPut, dicAt, mOwnGet, keyOf, dGet, dPut, nxy, nyx, sxy, syx, ss2, mComp, compL, freezeAt, freezeAll, thaw, it_d, pT, tupleT, dictT, pairsT, neZ ha, neZ hb]
end
end K
end
noncomputable section
set_option linter.all false
set_option maxRecDepth 100000
set_option autoImplicit false
namespace K
open C PySem
noncomputable def few (s : Sm) (m : Int) : List Rem := (List.range (m - 1).toNat).map fun (k : Nat) => .rest (s.1 - (1 + (k : Int)), s.2) m
mutual
noncomputable def fo : Rem → Bool → Rem
  | .most s, g => .most (if g then ng s else s)
  | .rest s m, g => if g then .any (few s m) else .rest s m
  | .pl h p, g => if g then .any [.most (1 - p, [(hb h, 1)]), .most (p + 1, [(hb h, -1)])] else .all [.most (-p, [(hb h, 1)]), .most (p, [(hb h, -1)])]
  | .no r, g => fo r (!g)
  | .all l, g => if g then .any (fos l g) else .all (fos l g)
  | .any l, g => if g then .all (fos l g) else .any (fos l g)
noncomputable def fos : List Rem → Bool → List Rem
  | [], _ => []
  | r :: l, g => fo r g :: fos l g
end
theorem fos_map : ∀ (l : List Rem) (g : Bool), fos l g = l.map fun r => fo r g
  | [], _ => rfl
  | r :: l, g => by rw [fos, fos_map l g]; rfl
theorem at_len {h : Bool} : (Str.ofString "@").length + (hn h).length < lim := by cases h <;> decide
theorem at_cat {h : Bool} : Str.ofString "@" ++ hn h = hb h := by cases h <;> decide
theorem rem_no {r : Rem} : remT (.no r) = .tup [.str "not", remT r] := by rw [remT]
theorem fo_no {r : Rem} {g : Bool} : fo (.no r) g = fo r (!g) := by rw [fo]
theorem place_box {h : Bool} {sto : List SO} : m_place_box [.str (hn h)] sto = some (.str (hb h), sto) := by
  unfold m_place_box
  simp [runFn, sSeq, sIf, sSet, sNew, sRet, sNil, sNx, sRetOwn, sGo, sReverse, sFor, sAppend, sExtend, lstAt, mTest, mNot, mAnd, mOr, mBool, mIf, mOp, mUn, mVar, mMap, mCons, mNil, mPure, mStrs, mCall, putSlot, hName, hTup, iRange, iSeq, ltT, leT, lenT, addT, subT, modT, fdivT, negT, absT, seqOf, mTrue, freezeAt, thaw, at_len, at_cat]
theorem tab_and : tabT [("and", "or"), ("or", "and")] (.str "and") = some (.str "or") := rfl
theorem tab_or : tabT [("and", "or"), ("or", "and")] (.str "or") = some (.str "and") := rfl
noncomputable section
variable {sto : List SO}
theorem rangeR {m : Int} (h : 2 ≤ m) (h2 : m ≤ 12) {s s1 : Sta} {e : M T} (he : e s = some (.int m, s1)) : iRange2 (mPure (.int 1)) e s = some ((List.range (m - 1).toNat).map fun (k : Nat) => .int (1 + (k : Int)), s1) := by
  have h3 : (1 : Int).natAbs < lim ∧ m.natAbs < lim := by
    refine ⟨by decide, ?_⟩
    show _ < 1000000
    omega
  simp only [iRange2, mPure, he, if_pos h3, rangeT2]
theorem comp_few {f : Fn} {s : Sm} {m : Int} (h : 2 ≤ m) (h2 : m ≤ 12) (hf : ∀ k : Int, f [smT s, smT (k, [])] sto = some (smT (s.1 - k, s.2), sto)) {o : Slot} :
    mComp 1 [0] (hName 0) (iRange2 (mPure (.int 1)) (mOp itemT (mVar 0) (mPure (.int 2)))) mTrue (mMap (fun l => some (.tup l)) (mCons (mPure (.str "rest")) (mCons (mCall f (mCons (mOp itemT (mVar 1) (mPure (.int 1))) (mCons (mMap (fun l => some (.tup l)) (mCons (mVar 0) (mCons (mMap (fun l => some (.tup l)) mNil) mNil))) mNil))) (mCons (mOp itemT (mVar 1) (mPure (.int 2))) mNil)))) ⟨[some (remT (.rest s m), false), o], sto⟩
      = some (.lst ((few s m).map remT), ⟨[some (remT (.rest s m), false), o], sto⟩) := by
  rw [few, List.map_map]
  refine mComp_map (fun (k : Nat) => .int (1 + (k : Int))) _ (List.range (m - 1).toNat) (s1 := ⟨[some (remT (.rest s m), false), o], sto⟩) _ [some (remT (.rest s m), false)] (rangeR h h2 (by unfold remT; simp [runFn, sSeq, sIf, sSet, sNew, sRet, sNil, sNx, sRetOwn, sGo, sReverse, sFor, sAppend, sExtend, lstAt, mTest, mNot, mAnd, mOr, mBool, mIf, mOp, mUn, mVar, mMap, mCons, mNil, mPure, mStrs, mCall, putSlot, hName, hTup, iRange, iSeq, ltT, leT, lenT, addT, subT, modT, fdivT, negT, absT, seqOf, mTrue, freezeAt, thaw, item2t])) rfl rfl rfl (by rw [List.length_range]; show _ ≤ 1000000; omega) ?_
  intro k _ pre hpre
  match pre, hpre with
  | [a], _ =>
    refine ⟨[some (.int (1 + (k : Int)), false)], rfl, rfl, rfl, ?_⟩
    have e := hf (1 + (k : Int))
    unfold smT at e
    simp only [List.map_nil] at e
    dsimp only [Function.comp]
    unfold remT smT
    simp [runFn, sSeq, sIf, sSet, sNew, sRet, sNil, sNx, sRetOwn, sGo, sReverse, sFor, sAppend, sExtend, lstAt, mTest, mNot, mAnd, mOr, mBool, mIf, mOp, mUn, mVar, mMap, mCons, mNil, mPure, mStrs, mCall, putSlot, hName, hTup, iRange, iSeq, ltT, leT, lenT, addT, subT, modT, fdivT, negT, absT, seqOf, mTrue, freezeAt, thaw, item1t, item2t, e]
theorem comp_all {F : Fn} {w : Str} {l : List Rem} {g : Rem → Rem} {o : Slot} (hl : l.length ≤ 100) (h : ∀ r ∈ l, F [remT r] sto = some (remT (g r), sto)) :
    mComp 1 [] (hName 0) (iSeq (mOp itemT (mVar 0) (mPure (.int 1)))) mTrue (mCall F (mCons (mVar 0) mNil)) ⟨[some (.tup [.str w, .tup (l.map remT)], false), o], sto⟩
      = some (.lst ((l.map g).map remT), ⟨[some (.tup [.str w, .tup (l.map remT)], false), o], sto⟩) := by
  have lm : l.length < lim := by show _ < 1000000; omega
  rw [List.map_map]
  refine mComp_map remT _ l (s1 := ⟨[some (.tup [.str w, .tup (l.map remT)], false), o], sto⟩) _ [] (by simp [runFn, sSeq, sIf, sSet, sNew, sRet, sNil, sNx, sRetOwn, sGo, sReverse, sFor, sAppend, sExtend, lstAt, mTest, mNot, mAnd, mOr, mBool, mIf, mOp, mUn, mVar, mMap, mCons, mNil, mPure, mStrs, mCall, putSlot, hName, hTup, iRange, iSeq, ltT, leT, lenT, addT, subT, modT, fdivT, negT, absT, seqOf, mTrue, freezeAt, thaw, item1t, lm]) rfl rfl rfl (Nat.le_of_lt lm) ?_
  intro r hr pre hpre
  match pre, hpre with
  | [a], _ =>
    refine ⟨[some (remT r, false)], rfl, rfl, rfl, ?_⟩
    dsimp only [Function.comp]
    simp [runFn, sSeq, sIf, sSet, sNew, sRet, sNil, sNx, sRetOwn, sGo, sReverse, sFor, sAppend, sExtend, lstAt, mTest, mNot, mAnd, mOr, mBool, mIf, mOp, mUn, mVar, mMap, mCons, mNil, mPure, mStrs, mCall, putSlot, hName, hTup, iRange, iSeq, ltT, leT, lenT, addT, subT, modT, fdivT, negT, absT, seqOf, mTrue, freezeAt, thaw, h r hr]
theorem forms {d : Nat} {r : Rem} (h : OkR d r) : ∀ k, d < k → m_plain_form k [remT r] sto = some (remT (fo r false), sto) ∧ m_against_form k [remT r] sto = some (remT (fo r true), sto) := by
  induction h with
  | @most d s h =>
    intro k hk
    obtain ⟨k, rfl⟩ : ∃ j, k = j + 1 := ⟨k - 1, by omega⟩
    obtain ⟨a, b, e, _⟩ := h
    obtain ⟨n, l⟩ := s
    dsimp only at e
    subst e
    have e1 := minus1 (n := n) (a := a) (b := b) (sto := sto)
    constructor
    · unfold m_plain_form remT fo
      simp [runFn, sSeq, sIf, sSet, sNew, sRet, sNil, sNx, sRetOwn, sGo, sReverse, sFor, sAppend, sExtend, lstAt, mTest, mNot, mAnd, mOr, mBool, mIf, mOp, mUn, mVar, mMap, mCons, mNil, mPure, mStrs, mCall, putSlot, hName, hTup, iRange, iSeq, ltT, leT, lenT, addT, subT, modT, fdivT, negT, absT, seqOf, mTrue, freezeAt, thaw, item0t, item1t, e_most_most, e_most_rest, e_most_at, e_most_not, e_most_and, e_rest_most, e_rest_rest, e_rest_at, e_rest_not, e_rest_and, e_at_most, e_at_rest, e_at_at, e_at_not, e_at_and, e_not_most, e_not_rest, e_not_at, e_not_not, e_not_and, e_and_most, e_and_rest, e_and_at, e_and_not, e_and_and, e_or_most, e_or_rest, e_or_at, e_or_not, e_or_and, i_most, i_rest, i_at, i_not, i_and, i_or]
    · unfold m_against_form remT fo
      rw [show smT (1, []) = .tup [.int 1, .tup []] from rfl] at e1
      simp [runFn, sSeq, sIf, sSet, sNew, sRet, sNil, sNx, sRetOwn, sGo, sReverse, sFor, sAppend, sExtend, lstAt, mTest, mNot, mAnd, mOr, mBool, mIf, mOp, mUn, mVar, mMap, mCons, mNil, mPure, mStrs, mCall, putSlot, hName, hTup, iRange, iSeq, ltT, leT, lenT, addT, subT, modT, fdivT, negT, absT, seqOf, mTrue, freezeAt, thaw, item0t, item1t, e_most_most, e_most_rest, e_most_at, e_most_not, e_most_and, e_rest_most, e_rest_rest, e_rest_at, e_rest_not, e_rest_and, e_at_most, e_at_rest, e_at_at, e_at_not, e_at_and, e_not_most, e_not_rest, e_not_at, e_not_not, e_not_and, e_and_most, e_and_rest, e_and_at, e_and_not, e_and_and, e_or_most, e_or_rest, e_or_at, e_or_not, e_or_and, i_most, i_rest, i_at, i_not, i_and, i_or, e1]
  | @rest d s m h a b =>
    intro k hk
    obtain ⟨k, rfl⟩ : ∃ j, k = j + 1 := ⟨k - 1, by omega⟩
    have e1 := comp_few (f := m_minus) (s := s) (sto := sto) a b (fun k => by
      obtain ⟨a, b, e, _⟩ := h
      obtain ⟨n, l⟩ := s
      dsimp only at e
      subst e
      exact minusK) (o := some (.str "rest", false))
    constructor
    · unfold m_plain_form remT fo
      simp [runFn, sSeq, sIf, sSet, sNew, sRet, sNil, sNx, sRetOwn, sGo, sReverse, sFor, sAppend, sExtend, lstAt, mTest, mNot, mAnd, mOr, mBool, mIf, mOp, mUn, mVar, mMap, mCons, mNil, mPure, mStrs, mCall, putSlot, hName, hTup, iRange, iSeq, ltT, leT, lenT, addT, subT, modT, fdivT, negT, absT, seqOf, mTrue, freezeAt, thaw, item0t, item1t, e_most_most, e_most_rest, e_most_at, e_most_not, e_most_and, e_rest_most, e_rest_rest, e_rest_at, e_rest_not, e_rest_and, e_at_most, e_at_rest, e_at_at, e_at_not, e_at_and, e_not_most, e_not_rest, e_not_at, e_not_not, e_not_and, e_and_most, e_and_rest, e_and_at, e_and_not, e_and_and, e_or_most, e_or_rest, e_or_at, e_or_not, e_or_and, i_most, i_rest, i_at, i_not, i_and, i_or]
    · unfold m_against_form fo
      unfold remT at e1 ⊢
      simp [runFn, sSeq, sIf, sSet, sNew, sRet, sNil, sNx, sRetOwn, sGo, sReverse, sFor, sAppend, sExtend, lstAt, mTest, mNot, mAnd, mOr, mBool, mIf, mOp, mUn, mVar, mMap, mCons, mNil, mPure, mStrs, mCall, putSlot, hName, hTup, iRange, iSeq, ltT, leT, lenT, addT, subT, modT, fdivT, negT, absT, seqOf, mTrue, freezeAt, thaw, item0t, item1t, e_most_most, e_most_rest, e_most_at, e_most_not, e_most_and, e_rest_most, e_rest_rest, e_rest_at, e_rest_not, e_rest_and, e_at_most, e_at_rest, e_at_at, e_at_not, e_at_and, e_not_most, e_not_rest, e_not_at, e_not_not, e_not_and, e_and_most, e_and_rest, e_and_at, e_and_not, e_and_and, e_or_most, e_or_rest, e_or_at, e_or_not, e_or_and, i_most, i_rest, i_at, i_not, i_and, i_or, e1, tupleT, remsT_map]
  | @pl d h p =>
    intro k hk
    obtain ⟨k, rfl⟩ : ∃ j, k = j + 1 := ⟨k - 1, by omega⟩
    constructor
    · unfold m_plain_form remT fo
      simp [runFn, sSeq, sIf, sSet, sNew, sRet, sNil, sNx, sRetOwn, sGo, sReverse, sFor, sAppend, sExtend, lstAt, mTest, mNot, mAnd, mOr, mBool, mIf, mOp, mUn, mVar, mMap, mCons, mNil, mPure, mStrs, mCall, putSlot, hName, hTup, iRange, iSeq, ltT, leT, lenT, addT, subT, modT, fdivT, negT, absT, seqOf, mTrue, freezeAt, thaw, item0t, item1t, item2t, e_most_most, e_most_rest, e_most_at, e_most_not, e_most_and, e_rest_most, e_rest_rest, e_rest_at, e_rest_not, e_rest_and, e_at_most, e_at_rest, e_at_at, e_at_not, e_at_and, e_not_most, e_not_rest, e_not_at, e_not_not, e_not_and, e_and_most, e_and_rest, e_and_at, e_and_not, e_and_and, e_or_most, e_or_rest, e_or_at, e_or_not, e_or_and, i_most, i_rest, i_at, i_not, i_and, i_or, place_box, m_equal_form, remT, remsT, smT, pT, negT]
    · unfold m_against_form remT fo
      simp [runFn, sSeq, sIf, sSet, sNew, sRet, sNil, sNx, sRetOwn, sGo, sReverse, sFor, sAppend, sExtend, lstAt, mTest, mNot, mAnd, mOr, mBool, mIf, mOp, mUn, mVar, mMap, mCons, mNil, mPure, mStrs, mCall, putSlot, hName, hTup, iRange, iSeq, ltT, leT, lenT, addT, subT, modT, fdivT, negT, absT, seqOf, mTrue, freezeAt, thaw, item0t, item1t, item2t, e_most_most, e_most_rest, e_most_at, e_most_not, e_most_and, e_rest_most, e_rest_rest, e_rest_at, e_rest_not, e_rest_and, e_at_most, e_at_rest, e_at_at, e_at_not, e_at_and, e_not_most, e_not_rest, e_not_at, e_not_not, e_not_and, e_and_most, e_and_rest, e_and_at, e_and_not, e_and_and, e_or_most, e_or_rest, e_or_at, e_or_not, e_or_and, i_most, i_rest, i_at, i_not, i_and, i_or, place_box, m_unequal_form, remT, remsT, smT, pT, negT]
  | @all d l hl _ ih =>
    intro k hk
    obtain ⟨k, rfl⟩ : ∃ j, k = j + 1 := ⟨k - 1, by omega⟩
    have e1 := comp_all (w := "and") (F := m_plain_form k) (g := fun r => fo r false) (sto := sto) (o := some (.str "and", false)) hl (fun r hr => (ih r hr k (by omega)).1)
    have e2 := comp_all (w := "and") (F := m_against_form k) (g := fun r => fo r true) (sto := sto) (o := some (.str "and", false)) hl (fun r hr => (ih r hr k (by omega)).2)
    constructor
    · unfold m_plain_form remT fo
      simp [runFn, sSeq, sIf, sSet, sNew, sRet, sNil, sNx, sRetOwn, sGo, sReverse, sFor, sAppend, sExtend, lstAt, mTest, mNot, mAnd, mOr, mBool, mIf, mOp, mUn, mVar, mMap, mCons, mNil, mPure, mStrs, mCall, putSlot, hName, hTup, iRange, iSeq, ltT, leT, lenT, addT, subT, modT, fdivT, negT, absT, seqOf, mTrue, freezeAt, thaw, item0t, item1t, e_most_most, e_most_rest, e_most_at, e_most_not, e_most_and, e_rest_most, e_rest_rest, e_rest_at, e_rest_not, e_rest_and, e_at_most, e_at_rest, e_at_at, e_at_not, e_at_and, e_not_most, e_not_rest, e_not_at, e_not_not, e_not_and, e_and_most, e_and_rest, e_and_at, e_and_not, e_and_and, e_or_most, e_or_rest, e_or_at, e_or_not, e_or_and, i_most, i_rest, i_at, i_not, i_and, i_or, remsT_map, fos_map, e1, tupleT, remT]
    · unfold m_against_form remT fo
      simp [runFn, sSeq, sIf, sSet, sNew, sRet, sNil, sNx, sRetOwn, sGo, sReverse, sFor, sAppend, sExtend, lstAt, mTest, mNot, mAnd, mOr, mBool, mIf, mOp, mUn, mVar, mMap, mCons, mNil, mPure, mStrs, mCall, putSlot, hName, hTup, iRange, iSeq, ltT, leT, lenT, addT, subT, modT, fdivT, negT, absT, seqOf, mTrue, freezeAt, thaw, item0t, item1t, e_most_most, e_most_rest, e_most_at, e_most_not, e_most_and, e_rest_most, e_rest_rest, e_rest_at, e_rest_not, e_rest_and, e_at_most, e_at_rest, e_at_at, e_at_not, e_at_and, e_not_most, e_not_rest, e_not_at, e_not_not, e_not_and, e_and_most, e_and_rest, e_and_at, e_and_not, e_and_and, e_or_most, e_or_rest, e_or_at, e_or_not, e_or_and, i_most, i_rest, i_at, i_not, i_and, i_or, remsT_map, fos_map, e2, tupleT, tab_and, remT]
  | @any d l hl _ ih =>
    intro k hk
    obtain ⟨k, rfl⟩ : ∃ j, k = j + 1 := ⟨k - 1, by omega⟩
    have e1 := comp_all (w := "or") (F := m_plain_form k) (g := fun r => fo r false) (sto := sto) (o := some (.str "or", false)) hl (fun r hr => (ih r hr k (by omega)).1)
    have e2 := comp_all (w := "or") (F := m_against_form k) (g := fun r => fo r true) (sto := sto) (o := some (.str "or", false)) hl (fun r hr => (ih r hr k (by omega)).2)
    constructor
    · unfold m_plain_form remT fo
      simp [runFn, sSeq, sIf, sSet, sNew, sRet, sNil, sNx, sRetOwn, sGo, sReverse, sFor, sAppend, sExtend, lstAt, mTest, mNot, mAnd, mOr, mBool, mIf, mOp, mUn, mVar, mMap, mCons, mNil, mPure, mStrs, mCall, putSlot, hName, hTup, iRange, iSeq, ltT, leT, lenT, addT, subT, modT, fdivT, negT, absT, seqOf, mTrue, freezeAt, thaw, item0t, item1t, e_most_most, e_most_rest, e_most_at, e_most_not, e_most_and, e_rest_most, e_rest_rest, e_rest_at, e_rest_not, e_rest_and, e_at_most, e_at_rest, e_at_at, e_at_not, e_at_and, e_not_most, e_not_rest, e_not_at, e_not_not, e_not_and, e_and_most, e_and_rest, e_and_at, e_and_not, e_and_and, e_or_most, e_or_rest, e_or_at, e_or_not, e_or_and, i_most, i_rest, i_at, i_not, i_and, i_or, remsT_map, fos_map, e1, tupleT, remT]
    · unfold m_against_form remT fo
      simp [runFn, sSeq, sIf, sSet, sNew, sRet, sNil, sNx, sRetOwn, sGo, sReverse, sFor, sAppend, sExtend, lstAt, mTest, mNot, mAnd, mOr, mBool, mIf, mOp, mUn, mVar, mMap, mCons, mNil, mPure, mStrs, mCall, putSlot, hName, hTup, iRange, iSeq, ltT, leT, lenT, addT, subT, modT, fdivT, negT, absT, seqOf, mTrue, freezeAt, thaw, item0t, item1t, e_most_most, e_most_rest, e_most_at, e_most_not, e_most_and, e_rest_most, e_rest_rest, e_rest_at, e_rest_not, e_rest_and, e_at_most, e_at_rest, e_at_at, e_at_not, e_at_and, e_not_most, e_not_rest, e_not_at, e_not_not, e_not_and, e_and_most, e_and_rest, e_and_at, e_and_not, e_and_and, e_or_most, e_or_rest, e_or_at, e_or_not, e_or_and, i_most, i_rest, i_at, i_not, i_and, i_or, remsT_map, fos_map, e2, tupleT, tab_or, remT]
  | @no d r _ ih =>
    intro k hk
    obtain ⟨k, rfl⟩ : ∃ j, k = j + 1 := ⟨k - 1, by omega⟩
    have e := ih k (by omega)
    rw [fo_no, fo_no, rem_no]
    constructor
    · unfold m_plain_form
      simp [runFn, sSeq, sIf, sSet, sNew, sRet, sNil, sNx, sRetOwn, sGo, sReverse, sFor, sAppend, sExtend, lstAt, mTest, mNot, mAnd, mOr, mBool, mIf, mOp, mUn, mVar, mMap, mCons, mNil, mPure, mStrs, mCall, putSlot, hName, hTup, iRange, iSeq, ltT, leT, lenT, addT, subT, modT, fdivT, negT, absT, seqOf, mTrue, freezeAt, thaw, item0t, item1t, e_most_most, e_most_rest, e_most_at, e_most_not, e_most_and, e_rest_most, e_rest_rest, e_rest_at, e_rest_not, e_rest_and, e_at_most, e_at_rest, e_at_at, e_at_not, e_at_and, e_not_most, e_not_rest, e_not_at, e_not_not, e_not_and, e_and_most, e_and_rest, e_and_at, e_and_not, e_and_and, e_or_most, e_or_rest, e_or_at, e_or_not, e_or_and, i_most, i_rest, i_at, i_not, i_and, i_or, e.2]
    · unfold m_against_form
      simp [runFn, sSeq, sIf, sSet, sNew, sRet, sNil, sNx, sRetOwn, sGo, sReverse, sFor, sAppend, sExtend, lstAt, mTest, mNot, mAnd, mOr, mBool, mIf, mOp, mUn, mVar, mMap, mCons, mNil, mPure, mStrs, mCall, putSlot, hName, hTup, iRange, iSeq, ltT, leT, lenT, addT, subT, modT, fdivT, negT, absT, seqOf, mTrue, freezeAt, thaw, item0t, item1t, e_most_most, e_most_rest, e_most_at, e_most_not, e_most_and, e_rest_most, e_rest_rest, e_rest_at, e_rest_not, e_rest_and, e_at_most, e_at_rest, e_at_at, e_at_not, e_at_and, e_not_most, e_not_rest, e_not_at, e_not_not, e_not_and, e_and_most, e_and_rest, e_and_at, e_and_not, e_and_and, e_or_most, e_or_rest, e_or_at, e_or_not, e_or_and, i_most, i_rest, i_at, i_not, i_and, i_or, e.1]
theorem wordI0 : itemT (.lst [.str "and", .str "or"]) (.int 0) = some (.str "and") := rfl
theorem wordI1 : itemT (.lst [.str "and", .str "or"]) (.int 1) = some (.str "or") := rfl
theorem law_forms {d : Nat} {r : Rem} (h : OkR d r) : ∀ k, d < k → m_law_plain k [remT r] sto = some (remT (fo r false), sto) ∧ m_law_against k [remT r] sto = some (remT (fo r true), sto) := by
  induction h with
  | @most d s h =>
    intro k hk
    obtain ⟨k, rfl⟩ : ∃ j, k = j + 1 := ⟨k - 1, by omega⟩
    obtain ⟨a, b, e, _⟩ := h
    obtain ⟨n, l⟩ := s
    dsimp only at e
    subst e
    have e1 := less1 (n := n) (a := a) (b := b) (sto := sto)
    constructor
    · unfold m_law_plain remT fo
      simp [runFn, sSeq, sIf, sSet, sNew, sRet, sNil, sNx, sRetOwn, sGo, sReverse, sFor, sAppend, sExtend, lstAt, mTest, mNot, mAnd, mOr, mBool, mIf, mOp, mUn, mVar, mMap, mCons, mNil, mPure, mStrs, mCall, putSlot, hName, hTup, iRange, iSeq, ltT, leT, lenT, addT, subT, modT, fdivT, negT, absT, seqOf, mTrue, freezeAt, thaw, item0t, item1t, e_most_most, e_most_rest, e_most_at, e_most_not, e_most_and, e_rest_most, e_rest_rest, e_rest_at, e_rest_not, e_rest_and, e_at_most, e_at_rest, e_at_at, e_at_not, e_at_and, e_not_most, e_not_rest, e_not_at, e_not_not, e_not_and, e_and_most, e_and_rest, e_and_at, e_and_not, e_and_and, e_or_most, e_or_rest, e_or_at, e_or_not, e_or_and, i_most, i_rest, i_at, i_not, i_and, i_or]
    · unfold m_law_against remT fo
      rw [show smT (1, []) = .tup [.int 1, .tup []] from rfl] at e1
      simp [runFn, sSeq, sIf, sSet, sNew, sRet, sNil, sNx, sRetOwn, sGo, sReverse, sFor, sAppend, sExtend, lstAt, mTest, mNot, mAnd, mOr, mBool, mIf, mOp, mUn, mVar, mMap, mCons, mNil, mPure, mStrs, mCall, putSlot, hName, hTup, iRange, iSeq, ltT, leT, lenT, addT, subT, modT, fdivT, negT, absT, seqOf, mTrue, freezeAt, thaw, item0t, item1t, e_most_most, e_most_rest, e_most_at, e_most_not, e_most_and, e_rest_most, e_rest_rest, e_rest_at, e_rest_not, e_rest_and, e_at_most, e_at_rest, e_at_at, e_at_not, e_at_and, e_not_most, e_not_rest, e_not_at, e_not_not, e_not_and, e_and_most, e_and_rest, e_and_at, e_and_not, e_and_and, e_or_most, e_or_rest, e_or_at, e_or_not, e_or_and, i_most, i_rest, i_at, i_not, i_and, i_or, e1]
  | @rest d s m h a b =>
    intro k hk
    obtain ⟨k, rfl⟩ : ∃ j, k = j + 1 := ⟨k - 1, by omega⟩
    have e1 := comp_few (f := m_law_less) (s := s) (sto := sto) a b (fun k => by
      obtain ⟨a, b, e, _⟩ := h
      obtain ⟨n, l⟩ := s
      dsimp only at e
      subst e
      exact lessK) (o := none)
    constructor
    · unfold m_law_plain remT fo
      simp [runFn, sSeq, sIf, sSet, sNew, sRet, sNil, sNx, sRetOwn, sGo, sReverse, sFor, sAppend, sExtend, lstAt, mTest, mNot, mAnd, mOr, mBool, mIf, mOp, mUn, mVar, mMap, mCons, mNil, mPure, mStrs, mCall, putSlot, hName, hTup, iRange, iSeq, ltT, leT, lenT, addT, subT, modT, fdivT, negT, absT, seqOf, mTrue, freezeAt, thaw, item0t, item1t, e_most_most, e_most_rest, e_most_at, e_most_not, e_most_and, e_rest_most, e_rest_rest, e_rest_at, e_rest_not, e_rest_and, e_at_most, e_at_rest, e_at_at, e_at_not, e_at_and, e_not_most, e_not_rest, e_not_at, e_not_not, e_not_and, e_and_most, e_and_rest, e_and_at, e_and_not, e_and_and, e_or_most, e_or_rest, e_or_at, e_or_not, e_or_and, i_most, i_rest, i_at, i_not, i_and, i_or]
    · unfold m_law_against fo
      unfold remT at e1 ⊢
      simp [runFn, sSeq, sIf, sSet, sNew, sRet, sNil, sNx, sRetOwn, sGo, sReverse, sFor, sAppend, sExtend, lstAt, mTest, mNot, mAnd, mOr, mBool, mIf, mOp, mUn, mVar, mMap, mCons, mNil, mPure, mStrs, mCall, putSlot, hName, hTup, iRange, iSeq, ltT, leT, lenT, addT, subT, modT, fdivT, negT, absT, seqOf, mTrue, freezeAt, thaw, item0t, item1t, e_most_most, e_most_rest, e_most_at, e_most_not, e_most_and, e_rest_most, e_rest_rest, e_rest_at, e_rest_not, e_rest_and, e_at_most, e_at_rest, e_at_at, e_at_not, e_at_and, e_not_most, e_not_rest, e_not_at, e_not_not, e_not_and, e_and_most, e_and_rest, e_and_at, e_and_not, e_and_and, e_or_most, e_or_rest, e_or_at, e_or_not, e_or_and, i_most, i_rest, i_at, i_not, i_and, i_or, e1, tupleT, remsT_map]
  | @pl d h p =>
    intro k hk
    obtain ⟨k, rfl⟩ : ∃ j, k = j + 1 := ⟨k - 1, by omega⟩
    constructor
    · unfold m_law_plain remT fo
      simp [runFn, sSeq, sIf, sSet, sNew, sRet, sNil, sNx, sRetOwn, sGo, sReverse, sFor, sAppend, sExtend, lstAt, mTest, mNot, mAnd, mOr, mBool, mIf, mOp, mUn, mVar, mMap, mCons, mNil, mPure, mStrs, mCall, putSlot, hName, hTup, iRange, iSeq, ltT, leT, lenT, addT, subT, modT, fdivT, negT, absT, seqOf, mTrue, freezeAt, thaw, item0t, item1t, item2t, e_most_most, e_most_rest, e_most_at, e_most_not, e_most_and, e_rest_most, e_rest_rest, e_rest_at, e_rest_not, e_rest_and, e_at_most, e_at_rest, e_at_at, e_at_not, e_at_and, e_not_most, e_not_rest, e_not_at, e_not_not, e_not_and, e_and_most, e_and_rest, e_and_at, e_and_not, e_and_and, e_or_most, e_or_rest, e_or_at, e_or_not, e_or_and, i_most, i_rest, i_at, i_not, i_and, i_or, at_len, at_cat, remT, remsT, smT, pT, negT]
    · unfold m_law_against remT fo
      simp [runFn, sSeq, sIf, sSet, sNew, sRet, sNil, sNx, sRetOwn, sGo, sReverse, sFor, sAppend, sExtend, lstAt, mTest, mNot, mAnd, mOr, mBool, mIf, mOp, mUn, mVar, mMap, mCons, mNil, mPure, mStrs, mCall, putSlot, hName, hTup, iRange, iSeq, ltT, leT, lenT, addT, subT, modT, fdivT, negT, absT, seqOf, mTrue, freezeAt, thaw, item0t, item1t, item2t, e_most_most, e_most_rest, e_most_at, e_most_not, e_most_and, e_rest_most, e_rest_rest, e_rest_at, e_rest_not, e_rest_and, e_at_most, e_at_rest, e_at_at, e_at_not, e_at_and, e_not_most, e_not_rest, e_not_at, e_not_not, e_not_and, e_and_most, e_and_rest, e_and_at, e_and_not, e_and_and, e_or_most, e_or_rest, e_or_at, e_or_not, e_or_and, i_most, i_rest, i_at, i_not, i_and, i_or, at_len, at_cat, remT, remsT, smT, pT, negT]
  | @all d l hl _ ih =>
    intro k hk
    obtain ⟨k, rfl⟩ : ∃ j, k = j + 1 := ⟨k - 1, by omega⟩
    have e1 := comp_all (w := "and") (F := m_law_plain k) (g := fun r => fo r false) (sto := sto) (o := none) hl (fun r hr => (ih r hr k (by omega)).1)
    have e2 := comp_all (w := "and") (F := m_law_against k) (g := fun r => fo r true) (sto := sto) (o := none) hl (fun r hr => (ih r hr k (by omega)).2)
    constructor
    · unfold m_law_plain remT fo
      simp [runFn, sSeq, sIf, sSet, sNew, sRet, sNil, sNx, sRetOwn, sGo, sReverse, sFor, sAppend, sExtend, lstAt, mTest, mNot, mAnd, mOr, mBool, mIf, mOp, mUn, mVar, mMap, mCons, mNil, mPure, mStrs, mCall, putSlot, hName, hTup, iRange, iSeq, ltT, leT, lenT, addT, subT, modT, fdivT, negT, absT, seqOf, mTrue, freezeAt, thaw, item0t, item1t, e_most_most, e_most_rest, e_most_at, e_most_not, e_most_and, e_rest_most, e_rest_rest, e_rest_at, e_rest_not, e_rest_and, e_at_most, e_at_rest, e_at_at, e_at_not, e_at_and, e_not_most, e_not_rest, e_not_at, e_not_not, e_not_and, e_and_most, e_and_rest, e_and_at, e_and_not, e_and_and, e_or_most, e_or_rest, e_or_at, e_or_not, e_or_and, i_most, i_rest, i_at, i_not, i_and, i_or, remsT_map, fos_map, e1, tupleT, remT]
    · unfold m_law_against remT fo
      simp [runFn, sSeq, sIf, sSet, sNew, sRet, sNil, sNx, sRetOwn, sGo, sReverse, sFor, sAppend, sExtend, lstAt, mTest, mNot, mAnd, mOr, mBool, mIf, mOp, mUn, mVar, mMap, mCons, mNil, mPure, mStrs, mCall, putSlot, hName, hTup, iRange, iSeq, ltT, leT, lenT, addT, subT, modT, fdivT, negT, absT, seqOf, mTrue, freezeAt, thaw, item0t, item1t, e_most_most, e_most_rest, e_most_at, e_most_not, e_most_and, e_rest_most, e_rest_rest, e_rest_at, e_rest_not, e_rest_and, e_at_most, e_at_rest, e_at_at, e_at_not, e_at_and, e_not_most, e_not_rest, e_not_at, e_not_not, e_not_and, e_and_most, e_and_rest, e_and_at, e_and_not, e_and_and, e_or_most, e_or_rest, e_or_at, e_or_not, e_or_and, i_most, i_rest, i_at, i_not, i_and, i_or, remsT_map, fos_map, e2, tupleT, intT, wordI1, remT]
  | @any d l hl _ ih =>
    intro k hk
    obtain ⟨k, rfl⟩ : ∃ j, k = j + 1 := ⟨k - 1, by omega⟩
    have e1 := comp_all (w := "or") (F := m_law_plain k) (g := fun r => fo r false) (sto := sto) (o := none) hl (fun r hr => (ih r hr k (by omega)).1)
    have e2 := comp_all (w := "or") (F := m_law_against k) (g := fun r => fo r true) (sto := sto) (o := none) hl (fun r hr => (ih r hr k (by omega)).2)
    constructor
    · unfold m_law_plain remT fo
      simp [runFn, sSeq, sIf, sSet, sNew, sRet, sNil, sNx, sRetOwn, sGo, sReverse, sFor, sAppend, sExtend, lstAt, mTest, mNot, mAnd, mOr, mBool, mIf, mOp, mUn, mVar, mMap, mCons, mNil, mPure, mStrs, mCall, putSlot, hName, hTup, iRange, iSeq, ltT, leT, lenT, addT, subT, modT, fdivT, negT, absT, seqOf, mTrue, freezeAt, thaw, item0t, item1t, e_most_most, e_most_rest, e_most_at, e_most_not, e_most_and, e_rest_most, e_rest_rest, e_rest_at, e_rest_not, e_rest_and, e_at_most, e_at_rest, e_at_at, e_at_not, e_at_and, e_not_most, e_not_rest, e_not_at, e_not_not, e_not_and, e_and_most, e_and_rest, e_and_at, e_and_not, e_and_and, e_or_most, e_or_rest, e_or_at, e_or_not, e_or_and, i_most, i_rest, i_at, i_not, i_and, i_or, remsT_map, fos_map, e1, tupleT, remT]
    · unfold m_law_against remT fo
      simp [runFn, sSeq, sIf, sSet, sNew, sRet, sNil, sNx, sRetOwn, sGo, sReverse, sFor, sAppend, sExtend, lstAt, mTest, mNot, mAnd, mOr, mBool, mIf, mOp, mUn, mVar, mMap, mCons, mNil, mPure, mStrs, mCall, putSlot, hName, hTup, iRange, iSeq, ltT, leT, lenT, addT, subT, modT, fdivT, negT, absT, seqOf, mTrue, freezeAt, thaw, item0t, item1t, e_most_most, e_most_rest, e_most_at, e_most_not, e_most_and, e_rest_most, e_rest_rest, e_rest_at, e_rest_not, e_rest_and, e_at_most, e_at_rest, e_at_at, e_at_not, e_at_and, e_not_most, e_not_rest, e_not_at, e_not_not, e_not_and, e_and_most, e_and_rest, e_and_at, e_and_not, e_and_and, e_or_most, e_or_rest, e_or_at, e_or_not, e_or_and, i_most, i_rest, i_at, i_not, i_and, i_or, remsT_map, fos_map, e2, tupleT, intT, wordI0, remT]
  | @no d r _ ih =>
    intro k hk
    obtain ⟨k, rfl⟩ : ∃ j, k = j + 1 := ⟨k - 1, by omega⟩
    have e := ih k (by omega)
    rw [fo_no, fo_no, rem_no]
    constructor
    · unfold m_law_plain
      simp [runFn, sSeq, sIf, sSet, sNew, sRet, sNil, sNx, sRetOwn, sGo, sReverse, sFor, sAppend, sExtend, lstAt, mTest, mNot, mAnd, mOr, mBool, mIf, mOp, mUn, mVar, mMap, mCons, mNil, mPure, mStrs, mCall, putSlot, hName, hTup, iRange, iSeq, ltT, leT, lenT, addT, subT, modT, fdivT, negT, absT, seqOf, mTrue, freezeAt, thaw, item0t, item1t, e_most_most, e_most_rest, e_most_at, e_most_not, e_most_and, e_rest_most, e_rest_rest, e_rest_at, e_rest_not, e_rest_and, e_at_most, e_at_rest, e_at_at, e_at_not, e_at_and, e_not_most, e_not_rest, e_not_at, e_not_not, e_not_and, e_and_most, e_and_rest, e_and_at, e_and_not, e_and_and, e_or_most, e_or_rest, e_or_at, e_or_not, e_or_and, i_most, i_rest, i_at, i_not, i_and, i_or, e.2]
    · unfold m_law_against
      simp [runFn, sSeq, sIf, sSet, sNew, sRet, sNil, sNx, sRetOwn, sGo, sReverse, sFor, sAppend, sExtend, lstAt, mTest, mNot, mAnd, mOr, mBool, mIf, mOp, mUn, mVar, mMap, mCons, mNil, mPure, mStrs, mCall, putSlot, hName, hTup, iRange, iSeq, ltT, leT, lenT, addT, subT, modT, fdivT, negT, absT, seqOf, mTrue, freezeAt, thaw, item0t, item1t, e_most_most, e_most_rest, e_most_at, e_most_not, e_most_and, e_rest_most, e_rest_rest, e_rest_at, e_rest_not, e_rest_and, e_at_most, e_at_rest, e_at_at, e_at_not, e_at_and, e_not_most, e_not_rest, e_not_at, e_not_not, e_not_and, e_and_most, e_and_rest, e_and_at, e_and_not, e_and_and, e_or_most, e_or_rest, e_or_at, e_or_not, e_or_and, i_most, i_rest, i_at, i_not, i_and, i_or, e.1]
end
end K
end
noncomputable section
set_option linter.all false
set_option maxRecDepth 100000
set_option autoImplicit false
namespace K
open C PySem
inductive Gn : Nat → Rem → Prop where
  | most {d : Nat} {s : Sm} : okSm s → Gn d (.most s)
  | rest {d : Nat} {s : Sm} {m : Int} : okSm s → 2 ≤ m → m ≤ 12 → Gn d (.rest s m)
  | pl {d : Nat} {h : Bool} {p : Int} : Gn d (.pl h p)
  | all {d : Nat} {l : List Rem} : l.length ≤ 100 → (∀ r ∈ l, Gn d r) → Gn (d + 1) (.all l)
  | any {d : Nat} {l : List Rem} : l.length ≤ 100 → (∀ r ∈ l, Gn d r) → Gn (d + 1) (.any l)
  | no {d : Nat} {r : Rem} : Gn d r → Gn (d + 1) (.no r)
theorem OkR.gn {d : Nat} {r : Rem} (h : OkR d r) : Gn d r := by
  induction h with
  | most h => exact .most h.ok
  | rest h a b => exact .rest h.ok a b
  | pl => exact .pl
  | all h _ ih => exact .all h ih
  | any h _ ih => exact .any h ih
  | no _ ih => exact .no ih
theorem Fm.gn {d : Nat} {r : Rem} (h : Fm d r) : Gn d r := by
  induction h with
  | most h => exact .most h
  | rest h a b => exact .rest h a b
  | all h _ ih => exact .all h ih
  | any h _ ih => exact .any h ih
theorem ng_ok {s : Sm} (h : okX s) : okSm (ng s) := by
  obtain ⟨h1, h2⟩ := h.ok
  refine ⟨by simpa [ng] using h1, fun p hp => ?_⟩
  simp only [ng, List.mem_map] at hp
  obtain ⟨q, hq, rfl⟩ := hp
  obtain ⟨a, b, c⟩ := h2 q hq
  exact ⟨a, by dsimp only; omega, by dsimp only; omega⟩
theorem one_ok {h : Bool} {n v : Int} (h1 : -2 < v) (h2 : v < 2) : okSm (n, [(hb h, v)]) := by
  refine ⟨by simp, fun p hp => ?_⟩
  simp only [List.mem_singleton] at hp
  subst hp
  exact ⟨show hb h ∈ NN by cases h <;> decide, by dsimp only; omega, by dsimp only; omega⟩
theorem few_ok {s : Sm} {m : Int} (h : okX s) (a : 2 ≤ m) (b : m ≤ 12) {d : Nat} : (few s m).length ≤ 100 ∧ ∀ r ∈ few s m, Fm d r := by
  unfold few
  refine ⟨by rw [List.length_map, List.length_range]; omega, fun r hr => ?_⟩
  obtain ⟨k, _, rfl⟩ := List.mem_map.mp hr
  exact .rest h.ok a b
theorem two_ok {a b : Sm} (ha : okSm a) (hb : okSm b) {d : Nat} : ∀ r ∈ [Rem.most a, Rem.most b], Fm d r := fun r hr => by
  simp only [List.mem_cons, List.not_mem_nil, or_false] at hr
  rcases hr with rfl | rfl
  · exact .most ha
  · exact .most hb
theorem fo_fm {d : Nat} {r : Rem} (h : OkR d r) : ∀ g, Fm (d + 1) (fo r g) := by
  induction h with
  | most h =>
    intro g
    unfold fo
    cases g
    · exact .most h.ok
    · exact .most (ng_ok h)
  | rest h a b =>
    intro g
    unfold fo
    cases g
    · exact .rest h.ok a b
    · exact .any (few_ok (d := 0) h a b).1 (few_ok h a b).2
  | pl =>
    intro g
    unfold fo
    cases g
    · exact .all (by simp) (two_ok (one_ok (by decide) (by decide)) (one_ok (by decide) (by decide)))
    · exact .any (by simp) (two_ok (one_ok (by decide) (by decide)) (one_ok (by decide) (by decide)))
  | @all d l h _ ih =>
    intro g
    unfold fo
    have x : (fos l g).length ≤ 100 ∧ ∀ r ∈ fos l g, Fm (d + 1) r := by
      rw [fos_map]
      refine ⟨by simpa using h, fun r hr => ?_⟩
      obtain ⟨q, hq, rfl⟩ := List.mem_map.mp hr
      exact ih q hq g
    cases g
    · exact .all x.1 x.2
    · exact .any x.1 x.2
  | @any d l h _ ih =>
    intro g
    unfold fo
    have x : (fos l g).length ≤ 100 ∧ ∀ r ∈ fos l g, Fm (d + 1) r := by
      rw [fos_map]
      refine ⟨by simpa using h, fun r hr => ?_⟩
      obtain ⟨q, hq, rfl⟩ := List.mem_map.mp hr
      exact ih q hq g
    cases g
    · exact .any x.1 x.2
    · exact .all x.1 x.2
  | @no d r _ ih =>
    intro g
    rw [fo_no]
    have := ih (!g)
    exact this.rec (motive := fun d r _ => Fm (d + 1) r) .most .rest (fun a _ c => .all a c) (fun a _ c => .any a c)
noncomputable section
variable {B : List (Key × T)} {sto : List SO}
theorem val_ng {s : Sm} : val B (ng s) = 1 - val B s := by
  unfold val ng
  dsimp only
  have : ∀ l : List Pr, ((l.map fun p => (p.1, -p.2)).map fun p => p.2 * bk B p.1).sum = - (l.map fun p => p.2 * bk B p.1).sum := fun l => by
    induction l with
    | nil => rfl
    | cons p l ih => simp only [List.map_cons, List.sum_cons, ih, Int.neg_mul]; omega
  rw [this]; omega
theorem val_few {s : Sm} {k : Int} : val B (s.1 - k, s.2) = val B s - k := by unfold val; dsimp only; omega
theorem any_map {α : Type} {f : α → Rem} : ∀ l : List α, tvAny B (l.map f) = l.any fun a => tv B (f a)
  | [] => rfl
  | a :: l => by rw [List.map_cons, tvAny, any_map l, List.any_cons]
theorem few_tv {s : Sm} {m : Int} (a : 2 ≤ m) : tvAny B (few s m) = !(val B s % m == 0) := by
  unfold few
  rw [any_map]
  have h0 := Int.emod_nonneg (val B s) (show m ≠ 0 by omega)
  have h1 := Int.emod_lt_of_pos (val B s) (show 0 < m by omega)
  have step : ∀ k : Nat, (k : Int) < m - 1 → (tv B (.rest (s.1 - (1 + (k : Int)), s.2) m) = true ↔ val B s % m = 1 + (k : Int)) := fun k hk => by
    unfold tv
    rw [val_few]
    simp only [beq_iff_eq]
    have : (val B s - (1 + (k : Int))) % m = 0 ↔ (val B s) % m = (1 + (k : Int)) % m := (Int.emod_eq_emod_iff_emod_sub_eq_zero).symm
    rw [this, Int.emod_eq_of_lt (a := 1 + (k : Int)) (by omega) (by omega)]
  by_cases hz : val B s % m = 0
  · have : (val B s % m == 0) = true := by simpa using hz
    rw [this, Bool.not_true, List.any_eq_false]
    intro k hk hq
    have hk' := List.mem_range.mp hk
    have := (step k (by omega)).mp hq
    omega
  · have : (val B s % m == 0) = false := by simpa using hz
    rw [this, Bool.not_false, List.any_eq_true]
    refine ⟨(val B s % m - 1).toNat, List.mem_range.mpr (by omega), (step _ (by omega)).mpr (by omega)⟩
theorem val_one {h : Bool} {n v : Int} : val B (n, [(hb h, v)]) = n + v * bk B (hb h) := by simp [val]
theorem fo_tv {d : Nat} {r : Rem} (h : OkR d r) : ∀ g, tv B (fo r g) = (tv B r ^^ g) := by
  induction h with
  | @most d s h =>
    intro g
    unfold fo tv
    cases g
    · simp
    · simp only [if_true, val_ng, Bool.bne_true]
      by_cases h : val B s ≤ 0
      · simp only [h, decide_true, Bool.not_true, decide_eq_false_iff_not]; omega
      · simp only [h, decide_false, Bool.not_false, decide_eq_true_eq]; omega
  | rest h a b =>
    intro g
    unfold fo
    cases g
    · simp
    · simp only [if_true]
      unfold tv
      rw [few_tv a]; simp
  | @pl d h p =>
    intro g
    unfold fo
    cases g
    · simp only [Bool.false_eq_true, if_false, tv, tvAll, val_one, Bool.bne_false, Bool.and_true]
      by_cases e : bk B (hb h) = p
      · simp only [e]; simp; omega
      · have : (bk B (hb h) == p) = false := by simpa using e
        rw [this]
        simp only [Bool.and_eq_false_iff, decide_eq_false_iff_not]
        omega
    · simp only [if_true, tv, tvAny, val_one, Bool.bne_true, Bool.or_false]
      by_cases e : bk B (hb h) = p
      · simp only [e]; simp; omega
      · have : (bk B (hb h) == p) = false := by simpa using e
        rw [this]
        simp only [Bool.not_false, Bool.or_eq_true, decide_eq_true_eq]
        omega
  | @all d l h _ ih =>
    intro g
    unfold fo
    have hA : ∀ l : List Rem, (∀ r ∈ l, ∀ g, tv B (fo r g) = (tv B r ^^ g)) → tvAll B (fos l false) = tvAll B l ∧ tvAny B (fos l true) = !tvAll B l := fun l => by
      induction l with
      | nil => intro _; exact ⟨rfl, rfl⟩
      | cons r l ihl =>
        intro hr
        obtain ⟨x, y⟩ := ihl fun q hq => hr q (List.mem_cons_of_mem _ hq)
        have e1 := hr r List.mem_cons_self false
        have e2 := hr r List.mem_cons_self true
        simp only [fos, tvAll, tvAny, e1, e2, x, y]
        cases tv B r <;> simp
    obtain ⟨x, y⟩ := hA l ih
    cases g
    · simp only [Bool.false_eq_true, if_false, tv, x]; simp
    · simp only [if_true, tv, y]; simp
  | @any d l h _ ih =>
    intro g
    unfold fo
    have hA : ∀ l : List Rem, (∀ r ∈ l, ∀ g, tv B (fo r g) = (tv B r ^^ g)) → tvAny B (fos l false) = tvAny B l ∧ tvAll B (fos l true) = !tvAny B l := fun l => by
      induction l with
      | nil => intro _; exact ⟨rfl, rfl⟩
      | cons r l ihl =>
        intro hr
        obtain ⟨x, y⟩ := ihl fun q hq => hr q (List.mem_cons_of_mem _ hq)
        have e1 := hr r List.mem_cons_self false
        have e2 := hr r List.mem_cons_self true
        simp only [fos, tvAll, tvAny, e1, e2, x, y]
        cases tv B r <;> simp
    obtain ⟨x, y⟩ := hA l ih
    cases g
    · simp only [Bool.false_eq_true, if_false, tv, x]; simp
    · simp only [if_true, tv, y]; simp
  | @no d r _ ih =>
    intro g
    rw [fo_no, ih]
    simp only [tv]
    cases tv B r <;> cases g <;> rfl
end
end K
end
noncomputable section
set_option linter.all false
set_option maxRecDepth 100000
set_option autoImplicit false
namespace K
open C PySem
theorem e_most_or : eqO (.str "most") (.str "or") = some (.bl false) := eqC (by decide +kernel)
theorem e_rest_or : eqO (.str "rest") (.str "or") = some (.bl false) := eqC (by decide +kernel)
theorem e_at_or : eqO (.str "at") (.str "or") = some (.bl false) := eqC (by decide +kernel)
theorem e_or_or : eqO (.str "or") (.str "or") = some (.bl true) := eqC (by decide +kernel)
noncomputable section
variable {B : List (Key × T)} {sto : List SO}
theorem fl_all : ∀ l : List Rem, (((l.filter fun r => !tv B r).length : Int) == 0) = tvAll B l
  | [] => rfl
  | r :: l => by
    have ih := fl_all l
    rw [tvAll, ← ih]
    cases h : tv B r
    · simp only [List.filter_cons, h, Bool.not_false, if_true, List.length_cons, Bool.false_and, beq_eq_false_iff_ne]; omega
    · simp [List.filter_cons, h]
theorem fl_any : ∀ l : List Rem, decide (((l.filter fun r => tv B r).length : Int) > 0) = tvAny B l
  | [] => rfl
  | r :: l => by
    have ih := fl_any l
    rw [tvAny, ← ih]
    cases h : tv B r
    · simp [List.filter_cons, h]
    · simp only [List.filter_cons, h, if_true, List.length_cons, Bool.true_or, decide_eq_true_eq]; omega
theorem comp_tv {k : Nat} {w : Str} {l : List Rem} {c : M Bool} {q : Bool → Bool} (hl : l.length ≤ 100)
    (hc : ∀ r ∈ l, c ⟨[some (remT r, false), some (.dic B, false)], sto⟩ = some (q (tv B r), ⟨[some (remT r, false), some (.dic B, false)], sto⟩)) :
    mComp 1 [1] (hName 0) (iSeq (mOp itemT (mVar 0) (mPure (.int 1)))) c (mPure (.int 1)) ⟨[some (.tup [.str w, .tup (l.map remT)], false), some (.dic B, false)], sto⟩
      = some (.lst ((l.filter fun r => q (tv B r)).map fun _ => .int 1), ⟨[some (.tup [.str w, .tup (l.map remT)], false), some (.dic B, false)], sto⟩) := by
  have lm : l.length < lim := by show _ < 1000000; omega
  generalize hF : mComp 1 _ _ _ _ _ _ = res
  exact mComp_met hF remT (fun _ => .int 1) (fun r => q (tv B r)) l ⟨[some (.tup [.str w, .tup (l.map remT)], false), some (.dic B, false)], sto⟩ _ [some (.dic B, false)] (by simp [runFn, sSeq, sIf, sSet, sNew, sRet, sNil, sNx, sRetOwn, sGo, sReverse, sFor, sAppend, sExtend, lstAt, mTest, mNot, mAnd, mOr, mBool, mIf, mOp, mUn, mVar, mMap, mCons, mNil, mPure, mStrs, mCall, putSlot, hName, hTup, iRange, iSeq, ltT, leT, lenT, addT, subT, modT, fdivT, negT, absT, seqOf, mTrue, freezeAt, thaw, item1t, lm]) rfl rfl rfl (Nat.le_of_lt lm) (fun r hr pre hp => by
    match pre, hp with
    | [p0], _ => exact ⟨[some (remT r, false)], rfl, rfl, hc r hr, fun _ => rfl⟩)
theorem law_holds (hB : Bk NN B) {d : Nat} {r : Rem} (h : Gn d r) : ∀ k, d < k → m_law_holds k [remT r, .dic B] sto = some (.bl (tv B r), sto) := by
  induction h with
  | most h =>
    intro k hk
    obtain ⟨k, rfl⟩ : ∃ j, k = j + 1 := ⟨k - 1, by omega⟩
    unfold m_law_holds remT tv
    simp [runFn, sSeq, sIf, sSet, sNew, sRet, sNil, sNx, sRetOwn, sGo, sReverse, sFor, sAppend, sExtend, lstAt, mTest, mNot, mAnd, mOr, mBool, mIf, mOp, mUn, mVar, mMap, mCons, mNil, mPure, mStrs, mCall, putSlot, hName, hTup, iRange, iSeq, ltT, leT, lenT, addT, subT, modT, fdivT, negT, absT, seqOf, mTrue, freezeAt, thaw, item0t, item1t, e_most_most, e_most_rest, e_most_at, e_most_not, e_most_and, e_rest_most, e_rest_rest, e_rest_at, e_rest_not, e_rest_and, e_at_most, e_at_rest, e_at_at, e_at_not, e_at_and, e_not_most, e_not_rest, e_not_at, e_not_not, e_not_and, e_and_most, e_and_rest, e_and_at, e_and_not, e_and_and, e_or_most, e_or_rest, e_or_at, e_or_not, e_or_and, i_most, i_rest, i_at, i_not, i_and, i_or, law_value h hB]
  | rest h a b =>
    rename_i m
    intro k hk
    obtain ⟨k, rfl⟩ : ∃ j, k = j + 1 := ⟨k - 1, by omega⟩
    have hm : 0 < m := by omega
    unfold m_law_holds remT tv
    simp [runFn, sSeq, sIf, sSet, sNew, sRet, sNil, sNx, sRetOwn, sGo, sReverse, sFor, sAppend, sExtend, lstAt, mTest, mNot, mAnd, mOr, mBool, mIf, mOp, mUn, mVar, mMap, mCons, mNil, mPure, mStrs, mCall, putSlot, hName, hTup, iRange, iSeq, ltT, leT, lenT, addT, subT, modT, fdivT, negT, absT, seqOf, mTrue, freezeAt, thaw, item0t, item1t, item2t, e_most_most, e_most_rest, e_most_at, e_most_not, e_most_and, e_rest_most, e_rest_rest, e_rest_at, e_rest_not, e_rest_and, e_at_most, e_at_rest, e_at_at, e_at_not, e_at_and, e_not_most, e_not_rest, e_not_at, e_not_not, e_not_and, e_and_most, e_and_rest, e_and_at, e_and_not, e_and_and, e_or_most, e_or_rest, e_or_at, e_or_not, e_or_and, i_most, i_rest, i_at, i_not, i_and, i_or, law_value h hB, hm, eqO_int]
  | @pl d h p =>
    intro k hk
    obtain ⟨k, rfl⟩ : ∃ j, k = j + 1 := ⟨k - 1, by omega⟩
    have hi := hB.at (x := hb h) (by cases h <;> decide)
    unfold m_law_holds remT tv
    simp [runFn, sSeq, sIf, sSet, sNew, sRet, sNil, sNx, sRetOwn, sGo, sReverse, sFor, sAppend, sExtend, lstAt, mTest, mNot, mAnd, mOr, mBool, mIf, mOp, mUn, mVar, mMap, mCons, mNil, mPure, mStrs, mCall, putSlot, hName, hTup, iRange, iSeq, ltT, leT, lenT, addT, subT, modT, fdivT, negT, absT, seqOf, mTrue, freezeAt, thaw, item0t, item1t, item2t, e_most_most, e_most_rest, e_most_at, e_most_not, e_most_and, e_rest_most, e_rest_rest, e_rest_at, e_rest_not, e_rest_and, e_at_most, e_at_rest, e_at_at, e_at_not, e_at_and, e_not_most, e_not_rest, e_not_at, e_not_not, e_not_and, e_and_most, e_and_rest, e_and_at, e_and_not, e_and_and, e_or_most, e_or_rest, e_or_at, e_or_not, e_or_and, i_most, i_rest, i_at, i_not, i_and, i_or, at_len, at_cat, eqO_int, it_d, hi]
  | @all d l hl _ ih =>
    intro k hk
    obtain ⟨k, rfl⟩ : ∃ j, k = j + 1 := ⟨k - 1, by omega⟩
    have e := comp_tv (B := B) (sto := sto) (k := k) (w := "and") (q := fun b => !b) (c := mNot (mTest (mCall (m_law_holds k) (mCons (mVar 0) (mCons (mVar 1) mNil))))) hl fun r hr => by simp [runFn, sSeq, sIf, sSet, sNew, sRet, sNil, sNx, sRetOwn, sGo, sReverse, sFor, sAppend, sExtend, lstAt, mTest, mNot, mAnd, mOr, mBool, mIf, mOp, mUn, mVar, mMap, mCons, mNil, mPure, mStrs, mCall, putSlot, hName, hTup, iRange, iSeq, ltT, leT, lenT, addT, subT, modT, fdivT, negT, absT, seqOf, mTrue, freezeAt, thaw, ih r hr k (by omega)]
    unfold m_law_holds remT tv
    simp [runFn, sSeq, sIf, sSet, sNew, sRet, sNil, sNx, sRetOwn, sGo, sReverse, sFor, sAppend, sExtend, lstAt, mTest, mNot, mAnd, mOr, mBool, mIf, mOp, mUn, mVar, mMap, mCons, mNil, mPure, mStrs, mCall, putSlot, hName, hTup, iRange, iSeq, ltT, leT, lenT, addT, subT, modT, fdivT, negT, absT, seqOf, mTrue, freezeAt, thaw, item0t, item1t, e_most_most, e_most_rest, e_most_at, e_most_not, e_most_and, e_rest_most, e_rest_rest, e_rest_at, e_rest_not, e_rest_and, e_at_most, e_at_rest, e_at_at, e_at_not, e_at_and, e_not_most, e_not_rest, e_not_at, e_not_not, e_not_and, e_and_most, e_and_rest, e_and_at, e_and_not, e_and_and, e_or_most, e_or_rest, e_or_at, e_or_not, e_or_and, i_most, i_rest, i_at, i_not, i_and, i_or, remsT_map, e, eqO_int]
    exact fl_all l
  | @any d l hl _ ih =>
    intro k hk
    obtain ⟨k, rfl⟩ : ∃ j, k = j + 1 := ⟨k - 1, by omega⟩
    have e := comp_tv (B := B) (sto := sto) (k := k) (w := "or") (q := fun b => b) (c := mTest (mCall (m_law_holds k) (mCons (mVar 0) (mCons (mVar 1) mNil)))) hl fun r hr => by simp [runFn, sSeq, sIf, sSet, sNew, sRet, sNil, sNx, sRetOwn, sGo, sReverse, sFor, sAppend, sExtend, lstAt, mTest, mNot, mAnd, mOr, mBool, mIf, mOp, mUn, mVar, mMap, mCons, mNil, mPure, mStrs, mCall, putSlot, hName, hTup, iRange, iSeq, ltT, leT, lenT, addT, subT, modT, fdivT, negT, absT, seqOf, mTrue, freezeAt, thaw, ih r hr k (by omega)]
    unfold m_law_holds remT tv
    simp [runFn, sSeq, sIf, sSet, sNew, sRet, sNil, sNx, sRetOwn, sGo, sReverse, sFor, sAppend, sExtend, lstAt, mTest, mNot, mAnd, mOr, mBool, mIf, mOp, mUn, mVar, mMap, mCons, mNil, mPure, mStrs, mCall, putSlot, hName, hTup, iRange, iSeq, ltT, leT, lenT, addT, subT, modT, fdivT, negT, absT, seqOf, mTrue, freezeAt, thaw, item0t, item1t, e_most_most, e_most_rest, e_most_at, e_most_not, e_most_and, e_rest_most, e_rest_rest, e_rest_at, e_rest_not, e_rest_and, e_at_most, e_at_rest, e_at_at, e_at_not, e_at_and, e_not_most, e_not_rest, e_not_at, e_not_not, e_not_and, e_and_most, e_and_rest, e_and_at, e_and_not, e_and_and, e_or_most, e_or_rest, e_or_at, e_or_not, e_or_and, i_most, i_rest, i_at, i_not, i_and, i_or, remsT_map, e, gtT]
    rw [← fl_any l]; simp
  | @no d r _ ih =>
    intro k hk
    obtain ⟨k, rfl⟩ : ∃ j, k = j + 1 := ⟨k - 1, by omega⟩
    unfold m_law_holds remT tv
    simp [runFn, sSeq, sIf, sSet, sNew, sRet, sNil, sNx, sRetOwn, sGo, sReverse, sFor, sAppend, sExtend, lstAt, mTest, mNot, mAnd, mOr, mBool, mIf, mOp, mUn, mVar, mMap, mCons, mNil, mPure, mStrs, mCall, putSlot, hName, hTup, iRange, iSeq, ltT, leT, lenT, addT, subT, modT, fdivT, negT, absT, seqOf, mTrue, freezeAt, thaw, item0t, item1t, e_most_most, e_most_rest, e_most_at, e_most_not, e_most_and, e_rest_most, e_rest_rest, e_rest_at, e_rest_not, e_rest_and, e_at_most, e_at_rest, e_at_at, e_at_not, e_at_and, e_not_most, e_not_rest, e_not_at, e_not_not, e_not_and, e_and_most, e_and_rest, e_and_at, e_and_not, e_and_and, e_or_most, e_or_rest, e_or_at, e_or_not, e_or_and, i_most, i_rest, i_at, i_not, i_and, i_or, ih k (by omega)]
end
mutual
noncomputable def np : Rem → Nat
  | .no r => 1 + np r
  | .all l => 1 + nps l
  | .any l => 1 + nps l
  | _ => 1
noncomputable def nps : List Rem → Nat
  | [] => 0
  | r :: l => np r + nps l
end
theorem nps_app : ∀ a b : List Rem, nps (a ++ b) = nps a + nps b
  | [], b => by simp [nps]
  | r :: a, b => by rw [List.cons_append, nps, nps, nps_app a b]; omega
theorem nps_rev : ∀ a : List Rem, nps a.reverse = nps a
  | [] => rfl
  | r :: a => by rw [List.reverse_cons, nps_app, nps_rev a]; simp only [nps]; omega
theorem np_pos : ∀ r : Rem, 1 ≤ np r
  | .most _ => by simp [np]
  | .rest _ _ => by simp [np]
  | .pl _ _ => by simp [np]
  | .no _ => by simp [np]
  | .all _ => by simp [np]
  | .any _ => by simp [np]
theorem len_nps : ∀ l : List Rem, l.length ≤ nps l
  | [] => by simp
  | r :: l => by have := len_nps l; have := np_pos r; simp only [List.length_cons, nps]; omega
theorem nps_sum : ∀ l : List Rem, ((l.map fun r => (np r : Int)).sum) = (nps l : Int)
  | [] => rfl
  | r :: l => by rw [List.map_cons, List.sum_cons, nps_sum l, nps]; omega
noncomputable section
variable {sto : List SO}
theorem ints_np : ∀ l : List Rem, intsT (l.map fun r => T.int (np r : Int)) = some (l.map fun r => (np r : Int)) := fun l => ints_map (fun r : Rem => (np r : Int)) l
theorem many {d : Nat} {r : Rem} (h : Gn d r) : ∀ k, d < k → m_law_many k [remT r] sto = some (.int (np r), sto) := by
  have comp : ∀ {k : Nat} {w : Str} {l : List Rem}, l.length ≤ 100 → (∀ r ∈ l, m_law_many k [remT r] sto = some (.int (np r), sto)) →
      mComp 1 [] (hName 0) (iSeq (mOp itemT (mVar 0) (mPure (.int 1)))) mTrue (mCall (m_law_many k) (mCons (mVar 0) mNil)) ⟨[some (.tup [.str w, .tup (l.map remT)], false)], sto⟩
        = some (.lst (l.map fun r => .int (np r)), ⟨[some (.tup [.str w, .tup (l.map remT)], false)], sto⟩) := fun {k w l} hl h => by
    have lm : l.length < lim := by show _ < 1000000; omega
    refine mComp_map remT _ l (s1 := ⟨[some (.tup [.str w, .tup (l.map remT)], false)], sto⟩) _ [] (by simp [runFn, sSeq, sIf, sSet, sNew, sRet, sNil, sNx, sRetOwn, sGo, sReverse, sFor, sAppend, sExtend, lstAt, mTest, mNot, mAnd, mOr, mBool, mIf, mOp, mUn, mVar, mMap, mCons, mNil, mPure, mStrs, mCall, putSlot, hName, hTup, iRange, iSeq, ltT, leT, lenT, addT, subT, modT, fdivT, negT, absT, seqOf, mTrue, freezeAt, thaw, item1t, lm]) rfl rfl rfl (Nat.le_of_lt lm) ?_
    intro r hr pre hpre
    match pre, hpre with
    | [a], _ =>
      refine ⟨[some (remT r, false)], rfl, rfl, rfl, ?_⟩
      simp [runFn, sSeq, sIf, sSet, sNew, sRet, sNil, sNx, sRetOwn, sGo, sReverse, sFor, sAppend, sExtend, lstAt, mTest, mNot, mAnd, mOr, mBool, mIf, mOp, mUn, mVar, mMap, mCons, mNil, mPure, mStrs, mCall, putSlot, hName, hTup, iRange, iSeq, ltT, leT, lenT, addT, subT, modT, fdivT, negT, absT, seqOf, mTrue, freezeAt, thaw, h r hr]
  induction h with
  | @all d l hl _ ih =>
    intro k hk
    obtain ⟨k, rfl⟩ : ∃ j, k = j + 1 := ⟨k - 1, by omega⟩
    have e := comp (w := "and") hl fun r hr => ih r hr k (by omega)
    unfold m_law_many remT np
    simp [runFn, sSeq, sIf, sSet, sNew, sRet, sNil, sNx, sRetOwn, sGo, sReverse, sFor, sAppend, sExtend, lstAt, mTest, mNot, mAnd, mOr, mBool, mIf, mOp, mUn, mVar, mMap, mCons, mNil, mPure, mStrs, mCall, putSlot, hName, hTup, iRange, iSeq, ltT, leT, lenT, addT, subT, modT, fdivT, negT, absT, seqOf, mTrue, freezeAt, thaw, item0t, item1t, e_most_most, e_most_rest, e_most_at, e_most_not, e_most_and, e_rest_most, e_rest_rest, e_rest_at, e_rest_not, e_rest_and, e_at_most, e_at_rest, e_at_at, e_at_not, e_at_and, e_not_most, e_not_rest, e_not_at, e_not_not, e_not_and, e_and_most, e_and_rest, e_and_at, e_and_not, e_and_and, e_or_most, e_or_rest, e_or_at, e_or_not, e_or_and, i_most, i_rest, i_at, i_not, i_and, i_or, remsT_map, e, sumT, ints_np, nps_sum]
  | @any d l hl _ ih =>
    intro k hk
    obtain ⟨k, rfl⟩ : ∃ j, k = j + 1 := ⟨k - 1, by omega⟩
    have e := comp (w := "or") hl fun r hr => ih r hr k (by omega)
    unfold m_law_many remT np
    simp [runFn, sSeq, sIf, sSet, sNew, sRet, sNil, sNx, sRetOwn, sGo, sReverse, sFor, sAppend, sExtend, lstAt, mTest, mNot, mAnd, mOr, mBool, mIf, mOp, mUn, mVar, mMap, mCons, mNil, mPure, mStrs, mCall, putSlot, hName, hTup, iRange, iSeq, ltT, leT, lenT, addT, subT, modT, fdivT, negT, absT, seqOf, mTrue, freezeAt, thaw, item0t, item1t, e_most_most, e_most_rest, e_most_at, e_most_not, e_most_and, e_rest_most, e_rest_rest, e_rest_at, e_rest_not, e_rest_and, e_at_most, e_at_rest, e_at_at, e_at_not, e_at_and, e_not_most, e_not_rest, e_not_at, e_not_not, e_not_and, e_and_most, e_and_rest, e_and_at, e_and_not, e_and_and, e_or_most, e_or_rest, e_or_at, e_or_not, e_or_and, i_most, i_rest, i_at, i_not, i_and, i_or, e_or_or, remsT_map, e, sumT, ints_np, nps_sum]
  | @no d r _ ih =>
    intro k hk
    obtain ⟨k, rfl⟩ : ∃ j, k = j + 1 := ⟨k - 1, by omega⟩
    unfold m_law_many remT np
    simp [runFn, sSeq, sIf, sSet, sNew, sRet, sNil, sNx, sRetOwn, sGo, sReverse, sFor, sAppend, sExtend, lstAt, mTest, mNot, mAnd, mOr, mBool, mIf, mOp, mUn, mVar, mMap, mCons, mNil, mPure, mStrs, mCall, putSlot, hName, hTup, iRange, iSeq, ltT, leT, lenT, addT, subT, modT, fdivT, negT, absT, seqOf, mTrue, freezeAt, thaw, item0t, item1t, e_most_most, e_most_rest, e_most_at, e_most_not, e_most_and, e_rest_most, e_rest_rest, e_rest_at, e_rest_not, e_rest_and, e_at_most, e_at_rest, e_at_at, e_at_not, e_at_and, e_not_most, e_not_rest, e_not_at, e_not_not, e_not_and, e_and_most, e_and_rest, e_and_at, e_and_not, e_and_and, e_or_most, e_or_rest, e_or_at, e_or_not, e_or_and, i_most, i_rest, i_at, i_not, i_and, i_or, ih k (by omega)]
  | _ =>
    intro k hk
    obtain ⟨k, rfl⟩ : ∃ j, k = j + 1 := ⟨k - 1, by omega⟩
    unfold m_law_many remT np
    simp [runFn, sSeq, sIf, sSet, sNew, sRet, sNil, sNx, sRetOwn, sGo, sReverse, sFor, sAppend, sExtend, lstAt, mTest, mNot, mAnd, mOr, mBool, mIf, mOp, mUn, mVar, mMap, mCons, mNil, mPure, mStrs, mCall, putSlot, hName, hTup, iRange, iSeq, ltT, leT, lenT, addT, subT, modT, fdivT, negT, absT, seqOf, mTrue, freezeAt, thaw, item0t, item1t, e_most_most, e_most_rest, e_most_at, e_most_not, e_most_and, e_rest_most, e_rest_rest, e_rest_at, e_rest_not, e_rest_and, e_at_most, e_at_rest, e_at_at, e_at_not, e_at_and, e_not_most, e_not_rest, e_not_at, e_not_not, e_not_and, e_and_most, e_and_rest, e_and_at, e_and_not, e_and_and, e_or_most, e_or_rest, e_or_at, e_or_not, e_or_and, i_most, i_rest, i_at, i_not, i_and, i_or, e_most_or, e_rest_or, e_at_or]
end
end K
end
noncomputable section
set_option linter.all false
set_option maxRecDepth 100000
set_option autoImplicit false
namespace K
open C PySem
noncomputable section
variable {sto : List SO}
theorem isT {l : List T} : isTup [.tup l] = some (.bl true) := rfl
theorem noti_and : notInT (.str "and") (.tup [.str "and", .str "or"]) = some (.bl false) := by simp [notInT, i_and, i_or]
theorem noti_or : notInT (.str "or") (.tup [.str "and", .str "or"]) = some (.bl false) := by simp [notInT, i_and, i_or]
theorem isn_int {i : Int} : isNT (.int i) .non = some (.bl false) := rfl
theorem parts_loop {k : Nat} {f : Slot} : ∀ (l : List Rem) (n : Int) (o o2 : Slot), (∀ r ∈ l, m_law_parts k [remT r] sto = some (.int (np r), sto)) →
    ∃ o' o2', forL (hName 2) (sSeq (sSet 3 (mCall (m_law_parts k) (mCons (mVar 2) mNil))) (sSeq (sIf (mTest (mOp isNT (mVar 3) (mPure .non))) (sRet (mPure .non)) sNil) (sSet 1 (mOp addT (mVar 1) (mVar 3))))) (l.map remT) ⟨[f, some (.int n, false), o, o2], sto⟩
      = some (.next, ⟨[f, some (.int (n + (nps l : Int)), false), o', o2'], sto⟩)
  | [], n, o, o2, _ => ⟨o, o2, by simp [forL, nps]⟩
  | r :: l, n, o, o2, h => by
    have h1 := h r List.mem_cons_self
    obtain ⟨o', o2', e⟩ := parts_loop (f := f) l (n + np r) (some (remT r, false)) (some (.int (np r), false)) fun q hq => h q (List.mem_cons_of_mem _ hq)
    refine ⟨o', o2', ?_⟩
    rw [List.map_cons, forL]
    simp [runFn, sSeq, sIf, sSet, sNew, sRet, sNil, sNx, sRetOwn, sGo, sReverse, sFor, sAppend, sExtend, lstAt, mTest, mNot, mAnd, mOr, mBool, mIf, mOp, mUn, mVar, mMap, mCons, mNil, mPure, mStrs, mCall, putSlot, hName, hTup, iRange, iSeq, ltT, leT, lenT, addT, subT, modT, fdivT, negT, absT, seqOf, mTrue, freezeAt, thaw, h1, isn_int]
    rw [nps, Int.natCast_add, ← Int.add_assoc]
    exact e
theorem law_parts {d : Nat} {r : Rem} (h : Fm d r) : ∀ k, d < k → m_law_parts k [remT r] sto = some (.int (np r), sto) := by
  induction h with
  | @most d s h =>
    intro k hk
    obtain ⟨k, rfl⟩ : ∃ j, k = j + 1 := ⟨k - 1, by omega⟩
    unfold m_law_parts remT np
    simp [runFn, sSeq, sIf, sSet, sNew, sRet, sNil, sNx, sRetOwn, sGo, sReverse, sFor, sAppend, sExtend, lstAt, mTest, mNot, mAnd, mOr, mBool, mIf, mOp, mUn, mVar, mMap, mCons, mNil, mPure, mStrs, mCall, putSlot, hName, hTup, iRange, iSeq, ltT, leT, lenT, addT, subT, modT, fdivT, negT, absT, seqOf, mTrue, freezeAt, thaw, item0t, item1t, e_most_most, e_most_rest, e_most_at, e_most_not, e_most_and, e_rest_most, e_rest_rest, e_rest_at, e_rest_not, e_rest_and, e_at_most, e_at_rest, e_at_at, e_at_not, e_at_and, e_not_most, e_not_rest, e_not_at, e_not_not, e_not_and, e_and_most, e_and_rest, e_and_at, e_and_not, e_and_and, e_or_most, e_or_rest, e_or_at, e_or_not, e_or_and, i_most, i_rest, i_at, i_not, i_and, i_or, isT, eqO_int]
  | @rest d s m h a b =>
    intro k hk
    obtain ⟨k, rfl⟩ : ∃ j, k = j + 1 := ⟨k - 1, by omega⟩
    unfold m_law_parts remT np
    simp [runFn, sSeq, sIf, sSet, sNew, sRet, sNil, sNx, sRetOwn, sGo, sReverse, sFor, sAppend, sExtend, lstAt, mTest, mNot, mAnd, mOr, mBool, mIf, mOp, mUn, mVar, mMap, mCons, mNil, mPure, mStrs, mCall, putSlot, hName, hTup, iRange, iSeq, ltT, leT, lenT, addT, subT, modT, fdivT, negT, absT, seqOf, mTrue, freezeAt, thaw, item0t, item1t, e_most_most, e_most_rest, e_most_at, e_most_not, e_most_and, e_rest_most, e_rest_rest, e_rest_at, e_rest_not, e_rest_and, e_at_most, e_at_rest, e_at_at, e_at_not, e_at_and, e_not_most, e_not_rest, e_not_at, e_not_not, e_not_and, e_and_most, e_and_rest, e_and_at, e_and_not, e_and_and, e_or_most, e_or_rest, e_or_at, e_or_not, e_or_and, i_most, i_rest, i_at, i_not, i_and, i_or, isT, eqO_int]
  | @all d l hl _ ih =>
    intro k hk
    obtain ⟨k, rfl⟩ : ∃ j, k = j + 1 := ⟨k - 1, by omega⟩
    have lm : l.length < lim := by show _ < 1000000; omega
    obtain ⟨o, o2, e⟩ := parts_loop (f := some (.tup [.str "and", .tup (l.map remT)], false)) l 1 none none fun r hr => ih r hr k (by omega)
    unfold m_law_parts remT np
    simp [runFn, sSeq, sIf, sSet, sNew, sRet, sNil, sNx, sRetOwn, sGo, sReverse, sFor, sAppend, sExtend, lstAt, mTest, mNot, mAnd, mOr, mBool, mIf, mOp, mUn, mVar, mMap, mCons, mNil, mPure, mStrs, mCall, putSlot, hName, hTup, iRange, iSeq, ltT, leT, lenT, addT, subT, modT, fdivT, negT, absT, seqOf, mTrue, freezeAt, thaw, item0t, item1t, e_most_most, e_most_rest, e_most_at, e_most_not, e_most_and, e_rest_most, e_rest_rest, e_rest_at, e_rest_not, e_rest_and, e_at_most, e_at_rest, e_at_at, e_at_not, e_at_and, e_not_most, e_not_rest, e_not_at, e_not_not, e_not_and, e_and_most, e_and_rest, e_and_at, e_and_not, e_and_and, e_or_most, e_or_rest, e_or_at, e_or_not, e_or_and, i_most, i_rest, i_at, i_not, i_and, i_or, isT, noti_and, eqO_int, neO_int, remsT_map, lm, e]
  | @any d l hl _ ih =>
    intro k hk
    obtain ⟨k, rfl⟩ : ∃ j, k = j + 1 := ⟨k - 1, by omega⟩
    have lm : l.length < lim := by show _ < 1000000; omega
    obtain ⟨o, o2, e⟩ := parts_loop (f := some (.tup [.str "or", .tup (l.map remT)], false)) l 1 none none fun r hr => ih r hr k (by omega)
    unfold m_law_parts remT np
    simp [runFn, sSeq, sIf, sSet, sNew, sRet, sNil, sNx, sRetOwn, sGo, sReverse, sFor, sAppend, sExtend, lstAt, mTest, mNot, mAnd, mOr, mBool, mIf, mOp, mUn, mVar, mMap, mCons, mNil, mPure, mStrs, mCall, putSlot, hName, hTup, iRange, iSeq, ltT, leT, lenT, addT, subT, modT, fdivT, negT, absT, seqOf, mTrue, freezeAt, thaw, item0t, item1t, e_most_most, e_most_rest, e_most_at, e_most_not, e_most_and, e_rest_most, e_rest_rest, e_rest_at, e_rest_not, e_rest_and, e_at_most, e_at_rest, e_at_at, e_at_not, e_at_and, e_not_most, e_not_rest, e_not_at, e_not_not, e_not_and, e_and_most, e_and_rest, e_and_at, e_and_not, e_and_and, e_or_most, e_or_rest, e_or_at, e_or_not, e_or_and, i_most, i_rest, i_at, i_not, i_and, i_or, isT, noti_or, eqO_int, neO_int, remsT_map, lm, e]
noncomputable def kids : Rem → List Rem
  | .no r => [r]
  | .all l => l
  | .any l => l
  | _ => []
theorem np_kids (r : Rem) : np r = 1 + nps (kids r) := by
  cases r <;> simp [np, kids, nps]
theorem Gn.kid {d : Nat} {r : Rem} (h : Gn d r) : ∀ u ∈ kids r, ∃ d, Gn d u := by
  intro u hu
  cases h with
  | most _ => cases hu
  | rest _ _ _ => cases hu
  | pl => cases hu
  | all _ h => exact ⟨_, h u hu⟩
  | any _ h => exact ⟨_, h u hu⟩
  | no h => simp only [kids, List.mem_singleton] at hu; subst hu; exact ⟨_, h⟩
theorem members {d : Nat} {r : Rem} (h : Gn d r) : m_members_of [remT r] sto = some (.tup ((kids r).map remT), sto) := by
  unfold m_members_of
  cases h <;> unfold remT kids <;> simp [runFn, sSeq, sIf, sSet, sNew, sRet, sNil, sNx, sRetOwn, sGo, sReverse, sFor, sAppend, sExtend, lstAt, mTest, mNot, mAnd, mOr, mBool, mIf, mOp, mUn, mVar, mMap, mCons, mNil, mPure, mStrs, mCall, putSlot, hName, hTup, iRange, iSeq, ltT, leT, lenT, addT, subT, modT, fdivT, negT, absT, seqOf, mTrue, freezeAt, thaw, item0t, item1t, e_most_most, e_most_rest, e_most_at, e_most_not, e_most_and, e_rest_most, e_rest_rest, e_rest_at, e_rest_not, e_rest_and, e_at_most, e_at_rest, e_at_at, e_at_not, e_at_and, e_not_most, e_not_rest, e_not_at, e_not_not, e_not_and, e_and_most, e_and_rest, e_and_at, e_and_not, e_and_and, e_or_most, e_or_rest, e_or_at, e_or_not, e_or_and, i_most, i_rest, i_at, i_not, i_and, i_or, remsT_map]
theorem pre_loop {r0 : Slot} : ∀ (fuel : Nat) (W P : List Rem) (o : Slot), (∀ w ∈ W, ∃ d, Gn d w) → nps W < fuel → P.length + nps W < 1000 →
    ∃ (Q : List Rem) (o' : Slot), Q.length = P.length + nps W ∧ whileN fuel (mTest (mOp gtT (mOwnLen 2) (mPure (.int 0)))) (sSeq (sPop 2 3) (sSeq (sAppend 1 (mVar 3)) (sExtend 2 (mUn revT (mCall m_members_of (mCons (mVar 3) mNil)))))) ⟨[r0, some (.lst (P.map remT), true), some (.lst (W.map remT), true), o], sto⟩
      = some (.next, ⟨[r0, some (.lst (Q.map remT), true), some (.lst [], true), o'], sto⟩)
  | 0, W, P, o, _, h, _ => by omega
  | fuel + 1, W, P, o, hW, hc, hb => by
    rcases List.eq_nil_or_concat W with rfl | ⟨W, w, rfl⟩
    · refine ⟨P, o, by simp [nps], ?_⟩
      rw [while_stop (s1 := ⟨[r0, some (.lst (P.map remT), true), some (.lst ([].map remT), true), o], sto⟩) (by simp [runFn, sSeq, sIf, sSet, sNew, sRet, sNil, sNx, sRetOwn, sGo, sReverse, sFor, sAppend, sExtend, lstAt, mTest, mNot, mAnd, mOr, mBool, mIf, mOp, mUn, mVar, mMap, mCons, mNil, mPure, mStrs, mCall, putSlot, hName, hTup, iRange, iSeq, ltT, leT, lenT, addT, subT, modT, fdivT, negT, absT, seqOf, mTrue, freezeAt, thaw, mOwnLen, gtT])]
      simp
    · simp only [List.concat_eq_append] at hW hc hb ⊢
      obtain ⟨d, hw⟩ := hW w (by simp)
      have cw := np_kids w
      have hk := len_nps (kids w)
      rw [nps_app] at hc hb ⊢
      simp only [nps] at hc hb ⊢
      have lW := len_nps W
      have l1 : P.length < lim := by show _ < 1000000; omega
      have l2 : W.length + (kids w).length < lim := by show _ < 1000000; omega
      obtain ⟨Q, o', hQ, e⟩ := pre_loop fuel (W ++ (kids w).reverse) (P ++ [w]) (some (remT w, false))
        (fun u hu => by
          rcases List.mem_append.mp hu with z | z
          · exact hW u (List.mem_append_left _ z)
          · exact hw.kid u (List.mem_reverse.mp z))
        (by rw [nps_app, nps_rev]; omega) (by rw [nps_app, nps_rev, List.length_append, List.length_singleton]; omega)
      rw [nps_app, nps_rev, List.length_append, List.length_singleton] at hQ
      refine ⟨Q, o', by omega, ?_⟩
      rw [while_next (s1 := ⟨[r0, some (.lst (P.map remT), true), some (.lst ((W ++ [w]).map remT), true), o], sto⟩) (s2 := ⟨[r0, some (.lst ((P ++ [w]).map remT), true), some (.lst ((W ++ (kids w).reverse).map remT), true), some (remT w, false)], sto⟩) ?_ ?_, e]
      · simp [runFn, sSeq, sIf, sSet, sNew, sRet, sNil, sNx, sRetOwn, sGo, sReverse, sFor, sAppend, sExtend, lstAt, mTest, mNot, mAnd, mOr, mBool, mIf, mOp, mUn, mVar, mMap, mCons, mNil, mPure, mStrs, mCall, putSlot, hName, hTup, iRange, iSeq, ltT, leT, lenT, addT, subT, modT, fdivT, negT, absT, seqOf, mTrue, freezeAt, thaw, mOwnLen, gtT]
      · simp [runFn, sSeq, sIf, sSet, sNew, sRet, sNil, sNx, sRetOwn, sGo, sReverse, sFor, sAppend, sExtend, lstAt, mTest, mNot, mAnd, mOr, mBool, mIf, mOp, mUn, mVar, mMap, mCons, mNil, mPure, mStrs, mCall, putSlot, hName, hTup, iRange, iSeq, ltT, leT, lenT, addT, subT, modT, fdivT, negT, absT, seqOf, mTrue, freezeAt, thaw, sPop, l1, l2, members hw, revT]
theorem form_parts {d : Nat} {r : Rem} (h : Gn d r) (hn : np r < 1000) : m_form_parts [remT r] sto = some (.int (np r), sto) := by
  obtain ⟨Q, o', hQ, e⟩ := pre_loop (r0 := some (remT r, false)) (sto := sto) 1000 [r] [] none (fun w hw => by rw [List.mem_singleton] at hw; subst hw; exact ⟨_, h⟩) (by simpa [nps] using hn) (by simpa [nps] using hn)
  simp only [List.map_nil, List.map_cons, List.length_nil, nps, Nat.add_zero, Nat.zero_add] at e hQ
  unfold m_form_parts m_parts_in m_parts_of
  simp [runFn, sSeq, sIf, sSet, sNew, sRet, sNil, sNx, sRetOwn, sGo, sReverse, sFor, sAppend, sExtend, lstAt, mTest, mNot, mAnd, mOr, mBool, mIf, mOp, mUn, mVar, mMap, mCons, mNil, mPure, mStrs, mCall, putSlot, hName, hTup, iRange, iSeq, ltT, leT, lenT, addT, subT, modT, fdivT, negT, absT, seqOf, mTrue, freezeAt, thaw, e, hQ]
theorem nps_le {m : Nat} {f : Rem → Rem} : ∀ {l : List Rem}, (∀ r ∈ l, np (f r) ≤ m * np r) → nps (l.map f) ≤ m * nps l
  | [], _ => by simp [nps]
  | r :: l, h => by
    have h1 := h r List.mem_cons_self
    have h2 := nps_le fun q hq => h q (List.mem_cons_of_mem _ hq)
    rw [List.map_cons, nps, nps, Nat.mul_add]
    omega
theorem nps_one : ∀ {l : List Rem}, (∀ r ∈ l, np r = 1) → nps l = l.length
  | [], _ => rfl
  | r :: l, h => by rw [nps, h r List.mem_cons_self, nps_one fun q hq => h q (List.mem_cons_of_mem _ hq), List.length_cons]; omega
theorem fo_np {d : Nat} {r : Rem} (h : OkR d r) : ∀ g, np (fo r g) ≤ 12 * np r := by
  induction h with
  | most h => intro g; simp [fo, np]
  | @rest d s m h a b =>
    intro g
    unfold fo
    cases g
    · simp [np]
    · have : nps (few s m) = (few s m).length := nps_one fun r hr => by
        unfold few at hr
        obtain ⟨k, _, rfl⟩ := List.mem_map.mp hr
        rfl
      simp only [if_true, np, this]
      unfold few
      rw [List.length_map, List.length_range]
      omega
  | pl => intro g; cases g <;> simp [fo, np, nps]
  | @all d l h _ ih =>
    intro g
    have := nps_le (m := 12) (f := fun r => fo r g) fun r hr => ih r hr g
    unfold fo
    rw [fos_map]
    cases g <;> simp only [if_true, Bool.false_eq_true, if_false, np, nps] at this ⊢ <;> omega
  | @any d l h _ ih =>
    intro g
    have := nps_le (m := 12) (f := fun r => fo r g) fun r hr => ih r hr g
    unfold fo
    rw [fos_map]
    cases g <;> simp only [if_true, Bool.false_eq_true, if_false, np, nps] at this ⊢ <;> omega
  | @no d r _ ih =>
    intro g
    rw [fo_no]
    have := ih (!g)
    simp only [np]
    omega
end
end K
end
noncomputable section
set_option linter.all false
set_option maxRecDepth 100000
set_option autoImplicit false
namespace K
open C PySem
noncomputable section
variable {sto : List SO}
theorem signed {c m : Int} (hm : 0 < m) : ∃ r : Int, ∀ sto : List SO, m_law_signed [.int c, .int m] sto = some (.int r, sto) := by
  by_cases h : c < 0
  · exact ⟨-(-c % m), fun sto => by first | exact rfl | simp [runFn, sSeq, sIf, sSet, sNew, sRet, sNil, sNx, sRetOwn, sGo, sReverse, sFor, sAppend, sExtend, lstAt, mTest, mNot, mAnd, mOr, mBool, mIf, mOp, mUn, mVar, mMap, mCons, mNil, mPure, mStrs, mCall, putSlot, hName, hTup, iRange, iSeq, ltT, leT, lenT, addT, subT, modT, fdivT, negT, absT, seqOf, mTrue, freezeAt, thaw, m_law_signed, h, hm]⟩
  · exact ⟨c % m, fun sto => by first | exact rfl | simp [runFn, sSeq, sIf, sSet, sNew, sRet, sNil, sNx, sRetOwn, sGo, sReverse, sFor, sAppend, sExtend, lstAt, mTest, mNot, mAnd, mOr, mBool, mIf, mOp, mUn, mVar, mMap, mCons, mNil, mPure, mStrs, mCall, putSlot, hName, hTup, iRange, iSeq, ltT, leT, lenT, addT, subT, modT, fdivT, negT, absT, seqOf, mTrue, freezeAt, thaw, m_law_signed, h, hm]⟩
theorem p9 : powT (.int 10) (.int 9) = some (.int 1000000000) := by simp [powT]
theorem p30 : powT (.int 10) (.int 30) = some (.int 1000000000000000000000000000000) := by simp [powT]
theorem set_at {i : Nat} {m : M T} {s s1 s2 : Sta} {t : T} (h : m s = some (t, s1)) (e : putSlot i t false s1 = s2) : sSet i m s = some (.next, s2) := by unfold sSet; rw [h, ← e]
theorem new_at {i : Nat} {m : M T} {s s1 s2 : Sta} {t : T} (h : m s = some (t, s1)) (e : putSlot i t true s1 = s2) : sNew i m s = some (.next, s2) := by unfold sNew; rw [h, ← e]
theorem op_at {f : T → T → Option T} {a b : M T} {s s1 s2 : Sta} {x y z : T} (h1 : a s = some (x, s1)) (h2 : b s1 = some (y, s2)) (h3 : f x y = some z) : mOp f a b s = some (z, s2) := by
  unfold mOp; rw [h1]; dsimp only; rw [h2]; dsimp only; rw [h3]
theorem test_at {m : M T} {s s1 : Sta} {b : Bool} (h : m s = some (.bl b, s1)) : mTest m s = some (b, s1) := by unfold mTest; rw [h]
theorem cons_at {a : M T} {b : M (List T)} {s s1 s2 : Sta} {x : T} {l : List T} (h1 : a s = some (x, s1)) (h2 : b s1 = some (l, s2)) : mCons a b s = some (x :: l, s2) := by
  unfold mCons; rw [h1]; dsimp only; rw [h2]
theorem maps_at {f : List T → Option T} {as : M (List T)} {ts : List T} {s s1 : Sta} {u : T} (h : as s = some (ts, s1)) (hf : f ts = some u) : mMap f as s = some (u, s1) := by
  unfold mMap; rw [h]; dsimp only; rw [hf]
theorem call_at {as : M (List T)} {ts : List T} {s s1 : Sta} {F : Fn} {t : T} (h : as s = some (ts, s1)) (h2 : F ts s1.sto = some (t, s1.sto)) : mCall F as s = some (t, s1) := by
  unfold mCall; rw [h]; dsimp only; rw [h2]
theorem if_t {c : M Bool} {a b : S} {s s1 : Sta} (h : c s = some (true, s1)) : sIf c a b s = a s1 := by unfold sIf; rw [h]
theorem if_f {c : M Bool} {a b : S} {s s1 : Sta} (h : c s = some (false, s1)) : sIf c a b s = b s1 := by unfold sIf; rw [h]
theorem shp_comp {a b : Int} {o0 o1 : Slot} : mComp 1 [] (hName 0) (iSeq (mVar 2)) (mTest (mOp neO (mOp itemT (mVar 0) (mPure (.int 1))) (mPure (.int 0)))) (mVar 0) ⟨[o0, o1, some (.lst [.tup [.str "x", .int a], .tup [.str "y", .int b]], false)], sto⟩
    = some (.lst ((shp a b).map pT), ⟨[o0, o1, some (.lst [.tup [.str "x", .int a], .tup [.str "y", .int b]], false)], sto⟩) := by
  generalize hF : mComp 1 _ _ _ _ _ _ = res
  exact mComp_met hF pT pT (fun p => p.2 != 0) ([("x", a), ("y", b)] : List Pr) ⟨[o0, o1, some (.lst [.tup [.str "x", .int a], .tup [.str "y", .int b]], false)], sto⟩ _ [] (by simp [runFn, sSeq, sIf, sSet, sNew, sRet, sNil, sNx, sRetOwn, sGo, sReverse, sFor, sAppend, sExtend, lstAt, mTest, mNot, mAnd, mOr, mBool, mIf, mOp, mUn, mVar, mMap, mCons, mNil, mPure, mStrs, mCall, putSlot, hName, hTup, iRange, iSeq, ltT, leT, lenT, addT, subT, modT, fdivT, negT, absT, seqOf, mTrue, freezeAt, thaw, lim, pT]) rfl rfl rfl (show 2 ≤ lim by decide) (fun p hp pre hq => by
    match pre, hq with
    | [p0], _ => exact ⟨[some (pT p, false)], rfl, rfl, by unfold pT; simp [runFn, sSeq, sIf, sSet, sNew, sRet, sNil, sNx, sRetOwn, sGo, sReverse, sFor, sAppend, sExtend, lstAt, mTest, mNot, mAnd, mOr, mBool, mIf, mOp, mUn, mVar, mMap, mCons, mNil, mPure, mStrs, mCall, putSlot, hName, hTup, iRange, iSeq, ltT, leT, lenT, addT, subT, modT, fdivT, negT, absT, seqOf, mTrue, freezeAt, thaw, item1t, neO_int]; simp [bne], fun _ => rfl⟩)
theorem law_sum {v : Int} : ∃ s, okX s ∧ m_law_sum [.int v] sto = some (smT s, sto) := by
  have a0 := Int.emod_nonneg (v / 7) (b := 7) (by decide)
  have a1 := Int.emod_lt_of_pos (v / 7) (b := 7) (by decide)
  have b0 := Int.emod_nonneg (v / 49) (b := 7) (by decide)
  have b1 := Int.emod_lt_of_pos (v / 49) (b := 7) (by decide)
  obtain ⟨r, hr⟩ := signed (c := v / 205) (m := 1000000000) (by decide)
  have fin : ∀ n : Int, okX (n, shp (v / 7 % 7 - 3) (v / 49 % 7 - 3)) := fun n => ⟨_, _, rfl, by omega, by omega, by omega, by omega⟩
  by_cases h : v / 41 % 5 = 1
  · refine ⟨(r, shp (v / 7 % 7 - 3) (v / 49 % 7 - 3)), fin _, ?_⟩
    unfold m_law_sum
    simp [runFn, sSeq, sIf, sSet, sNew, sRet, sNil, sNx, sRetOwn, sGo, sReverse, sFor, sAppend, sExtend, lstAt, mTest, mNot, mAnd, mOr, mBool, mIf, mOp, mUn, mVar, mMap, mCons, mNil, mPure, mStrs, mCall, putSlot, hName, hTup, iRange, iSeq, ltT, leT, lenT, addT, subT, modT, fdivT, negT, absT, seqOf, mTrue, freezeAt, thaw, eqO_int, h, p9, hr, shp_comp, tupleT, smT]
  · have h' : (v / 41 % 5 == 1) = false := by simpa using h
    refine ⟨(v % 41 - 20, shp (v / 7 % 7 - 3) (v / 49 % 7 - 3)), fin _, ?_⟩
    unfold m_law_sum
    simp [runFn, sSeq, sIf, sSet, sNew, sRet, sNil, sNx, sRetOwn, sGo, sReverse, sFor, sAppend, sExtend, lstAt, mTest, mNot, mAnd, mOr, mBool, mIf, mOp, mUn, mVar, mMap, mCons, mNil, mPure, mStrs, mCall, putSlot, hName, hTup, iRange, iSeq, ltT, leT, lenT, addT, subT, modT, fdivT, negT, absT, seqOf, mTrue, freezeAt, thaw, eqO_int, h', shp_comp, tupleT, smT]
theorem last_at {L : List T} {t : T} {f : Bool} {s : Sta} {i : Nat} (h : s.env[i]? = some (some (.lst (L ++ [t]), f))) : mOwnIx i (mUn negT (mPure (.int 1))) s = some (t, s) := by
  have h1 : lstAt i s = true := by simp [lstAt, h]
  have h2 : ixI (L.length + 1) (-1) = some L.length := by
    unfold ixI
    rw [if_neg (by decide), if_pos (by omega)]
    congr 1
    omega
  unfold mOwnIx
  rw [if_pos h1]
  simp only [mUn, mPure, negT, h, List.length_append, List.length_singleton, h2, Option.bind_some, List.getElem?_append_right (Nat.le_refl _), Nat.sub_self, List.getElem?_cons_zero]
theorem cutl_drop {α : Type} {f : α → T} {L : List α} {lo : Option Int} : ∃ j, cutl (L.map f) lo none = (L.drop j).map f := by
  refine ⟨sIx L.length 0 lo, ?_⟩
  unfold cutl
  rw [List.length_map, show sIx L.length L.length none = L.length from rfl, List.map_drop, List.take_of_length_le]
  rw [List.length_drop, List.length_map]
  exact Nat.le_refl _
theorem cutl_one {α : Type} {f : α → T} {a : α} {L : List α} : cutl ((a :: L).map f) (some 1) none = L.map f := by
  unfold cutl
  have h : sIx ((a :: L).map f).length 0 (some 1) = 1 := by
    simp [sIx]
  have h2 : sIx ((a :: L).map f).length ((a :: L).map f).length none = ((a :: L).map f).length := rfl
  rw [h, h2, List.map_cons, List.drop_one, List.tail_cons, List.length_cons, Nat.add_sub_cancel, List.take_of_length_le (Nat.le_refl _)]
end
end K
end
noncomputable section
set_option linter.all false
set_option maxRecDepth 100000
set_option autoImplicit false
namespace K
open C PySem
noncomputable section
variable {sto : List SO}
theorem gt_dec {a b : Int} : gtT (.int a) (.int b) = some (.bl (decide (a > b))) := rfl
theorem shrink {e0 e1 e2 e3 e4 e5 e6 : Slot} {d : Nat} (hd : d < 40) : ∀ (fuel : Nat) (W : List Rem), W.length < fuel → W.length ≤ 100 → (∀ r ∈ W, OkR d r) →
    ∃ V : List Rem, (∀ r ∈ V, r ∈ W) ∧ V.length ≤ W.length ∧ nps V ≤ 56 ∧ whileN fuel (mTest (mOp gtT (mMap sumT (mCons (mComp 1 [] (hName 0) (iSeq (mVar 7)) mTrue (mCall (m_law_many 40) (mCons (mVar 0) mNil))) mNil)) (mPure (.int 56))))
      (sSet 7 (mSlice (mVar 7) (oSome (mPure (.int 1))) oNone)) ⟨[e0, e1, e2, e3, e4, e5, e6, some (.lst (W.map remT), false)], sto⟩ = some (.next, ⟨[e0, e1, e2, e3, e4, e5, e6, some (.lst (V.map remT), false)], sto⟩)
  | 0, W, h, _, _ => by omega
  | fuel + 1, W, h, hl, hW => by
    have lm : W.length < lim := by show _ < 1000000; omega
    have comp : mComp 1 [] (hName 0) (iSeq (mVar 7)) mTrue (mCall (m_law_many 40) (mCons (mVar 0) mNil)) ⟨[e0, e1, e2, e3, e4, e5, e6, some (.lst (W.map remT), false)], sto⟩ = some (.lst (W.map fun r => .int (np r)), ⟨[e0, e1, e2, e3, e4, e5, e6, some (.lst (W.map remT), false)], sto⟩) := by
      refine mComp_map remT _ W (s1 := ⟨[e0, e1, e2, e3, e4, e5, e6, some (.lst (W.map remT), false)], sto⟩) _ [] (by simp [runFn, sSeq, sIf, sSet, sNew, sRet, sNil, sNx, sRetOwn, sGo, sReverse, sFor, sAppend, sExtend, lstAt, mTest, mNot, mAnd, mOr, mBool, mIf, mOp, mUn, mVar, mMap, mCons, mNil, mPure, mStrs, mCall, putSlot, hName, hTup, iRange, iSeq, ltT, leT, lenT, addT, subT, modT, fdivT, negT, absT, seqOf, mTrue, freezeAt, thaw, lm]) rfl rfl rfl (Nat.le_of_lt lm) ?_
      intro r hr pre hpre
      match pre, hpre with
      | [a], _ =>
        refine ⟨[some (remT r, false)], rfl, rfl, rfl, ?_⟩
        simp [runFn, sSeq, sIf, sSet, sNew, sRet, sNil, sNx, sRetOwn, sGo, sReverse, sFor, sAppend, sExtend, lstAt, mTest, mNot, mAnd, mOr, mBool, mIf, mOp, mUn, mVar, mMap, mCons, mNil, mPure, mStrs, mCall, putSlot, hName, hTup, iRange, iSeq, ltT, leT, lenT, addT, subT, modT, fdivT, negT, absT, seqOf, mTrue, freezeAt, thaw, many (hW r hr).gn 40 hd]
    have cond : (mTest (mOp gtT (mMap sumT (mCons (mComp 1 [] (hName 0) (iSeq (mVar 7)) mTrue (mCall (m_law_many 40) (mCons (mVar 0) mNil))) mNil)) (mPure (.int 56)))) ⟨[e0, e1, e2, e3, e4, e5, e6, some (.lst (W.map remT), false)], sto⟩ = some (decide ((nps W : Int) > 56), ⟨[e0, e1, e2, e3, e4, e5, e6, some (.lst (W.map remT), false)], sto⟩) := by
      refine test_at (op_at (maps_at (cons_at comp rfl) (u := .int (nps W : Int)) ?_) rfl gt_dec)
      simp [sumT, ints_np, nps_sum]
    by_cases hq : (nps W : Int) > 56
    · cases W with
      | nil => simp [nps] at hq
      | cons r W =>
        obtain ⟨V, v1, v2, v3, v4⟩ := shrink (e0 := e0) (e1 := e1) (e2 := e2) (e3 := e3) (e4 := e4) (e5 := e5) (e6 := e6) hd fuel W (by simp only [List.length_cons] at h; omega) (by simp only [List.length_cons] at hl; omega) fun q hq => hW q (List.mem_cons_of_mem _ hq)
        refine ⟨V, fun q hq => List.mem_cons_of_mem _ (v1 q hq), by simp only [List.length_cons]; omega, v3, ?_⟩
        rw [decide_eq_true hq] at cond
        rw [while_next cond (s2 := ⟨[e0, e1, e2, e3, e4, e5, e6, some (.lst (W.map remT), false)], sto⟩) ?_, v4]
        refine set_at (t := .lst (W.map remT)) (s1 := ⟨[e0, e1, e2, e3, e4, e5, e6, some (.lst ((r :: W).map remT), false)], sto⟩) ?_ rfl
        unfold mSlice
        simp only [mVar, List.getElem?_cons_succ, List.getElem?_cons_zero, oSome, mPure, oNone, cutX, cutl_one]
    · refine ⟨W, fun r h => h, Nat.le_refl _, by omega, ?_⟩
      rw [decide_eq_false hq] at cond
      rw [while_stop cond]
structure OkL (i : Nat) (L : List Rem) : Prop where
  ok : ∀ r ∈ L, OkR i r
  np : ∀ r ∈ L, np r ≤ 57
  len : L.length ≤ 1 + 3 * i
  ne : L ≠ []
theorem in45 {v : Int} : inT (.int v) (.tup [.int 4, .int 5]) = some (.bl (v == 4 || v == 5)) := by
  have e4 : ((4 : Int) == v) = (v == 4) := by rw [Bool.eq_iff_iff, beq_iff_eq, beq_iff_eq]; exact eq_comm
  have e5 : ((5 : Int) == v) = (v == 5) := by rw [Bool.eq_iff_iff, beq_iff_eq, beq_iff_eq]; exact eq_comm
  simp [inT, inL, eqD, dat, PyData.depth, PyData.eqv, e4, e5]
theorem app_at {i : Nat} {e : M T} {s s1 : Sta} {t : T} {xs : List T} (h : lstAt i s = true) (he : e s = some (t, s1)) (hx : s1.env[i]? = some (some (.lst xs, true))) (hl : xs.length < lim) : sAppend i e s = some (.next, putSlot i (.lst (xs ++ [t])) true s1) := by
  unfold sAppend
  rw [if_pos h, he]
  dsimp only
  rw [hx]
  dsimp only
  rw [if_pos hl]
noncomputable def andor (j : Int) (l : List Rem) : Rem := if j = 0 then .all l else .any l
theorem andor_T {j : Int} (h0 : 0 ≤ j) (h1 : j < 2) {l : List Rem} : ∃ w : Str, itemT (.lst [.str "and", .str "or"]) (.int j) = some (.str w) ∧ remT (andor j l) = .tup [.str w, .tup (l.map remT)] := by
  have : j = 0 ∨ j = 1 := by omega
  rcases this with rfl | rfl
  · exact ⟨"and", rfl, by simp [andor, remT, remsT_map]⟩
  · exact ⟨"or", rfl, by simp [andor, remT, remsT_map]⟩
theorem andor_ok {j : Int} {l : List Rem} {d : Nat} (hl : l.length ≤ 100) (h : ∀ r ∈ l, OkR d r) : OkR (d + 1) (andor j l) ∧ np (andor j l) = 1 + nps l := by
  unfold andor
  split
  · exact ⟨.all hl h, by simp [np]⟩
  · exact ⟨.any hl h, by simp [np]⟩
theorem andor_nil {j : Int} (h0 : 0 ≤ j) (h1 : j < 2) : itemT (.lst [.tup [.str "and", .tup []], .tup [.str "or", .tup []]]) (.int j) = some (remT (andor j [])) := by
  have : j = 0 ∨ j = 1 := by omega
  rcases this with rfl | rfl
  · simp [andor, remT, remsT]; rfl
  · simp [andor, remT, remsT]; rfl
theorem hand_at {j : Int} (h0 : 0 ≤ j) (h1 : j < 2) : ∃ h : Bool, itemT (.lst [.str "p", .str "q"]) (.int j) = some (.str (hn h)) := by
  have : j = 0 ∨ j = 1 := by omega
  rcases this with rfl | rfl
  · exact ⟨false, rfl⟩
  · exact ⟨true, rfl⟩
end
end K
end
noncomputable section
set_option linter.all false
set_option maxRecDepth 100000
set_option autoImplicit false
namespace K
open C PySem
noncomputable def chain : S := (sIf (mTest (mOp eqO (mVar 5) (mPure (.int 0))))
  (sAppend 2 (mMap (fun l => some (.tup l)) (mCons (mPure (.str "most")) (mCons (mCall m_law_sum (mCons (mVar 6) mNil)) mNil))))
  (sIf (mTest (mOp eqO (mVar 5) (mPure (.int 1))))
  (sAppend 2 (mMap (fun l => some (.tup l)) (mCons (mPure (.str "rest")) (mCons (mCall m_law_sum (mCons (mOp fdivT (mVar 6) (mPure (.int 11))) mNil)) (mCons (mOp addT (mPure (.int 2)) (mOp modT (mVar 6) (mPure (.int 11)))) mNil)))))
  (sIf (mTest (mOp eqO (mVar 5) (mPure (.int 2))))
  (sAppend 2 (mMap (fun l => some (.tup l)) (mCons (mPure (.str "at")) (mCons (mOp itemT (mMap (fun l => some (.lst l)) (mCons (mPure (.str "p")) (mCons (mPure (.str "q")) mNil))) (mOp modT (mVar 6) (mPure (.int 2)))) (mCons (mOp modT (mOp fdivT (mVar 6) (mPure (.int 2))) (mPure (.int 4))) mNil)))))
  (sIf (mTest (mOp eqO (mVar 5) (mPure (.int 3))))
  (sAppend 2 (mMap (fun l => some (.tup l)) (mCons (mPure (.str "not")) (mCons (mOwnIx 2 (mUn negT (mPure (.int 1)))) mNil))))
  (sIf (mAnd (mTest (mOp inT (mVar 5) (mMap (fun l => some (.tup l)) (mCons (mPure (.int 4)) (mCons (mPure (.int 5)) mNil))))) (mTest (mOp gtT (mOwnLen 2) (mPure (.int 1)))))
  (sSeq (sSet 7 (mOwnSl 2 (oSome (mOp subT (mUn negT (mPure (.int 2))) (mOp modT (mVar 6) (mPure (.int 5))))) oNone))
  (sSeq (whileN 1000 (mTest (mOp gtT (mMap sumT (mCons (mComp 1 [] (hName 0) (iSeq (mVar 7)) mTrue (mCall (m_law_many 40) (mCons (mVar 0) mNil))) mNil)) (mPure (.int 56))))
  (sSet 7 (mSlice (mVar 7) (oSome (mPure (.int 1))) oNone)))
  (sAppend 2 (mMap (fun l => some (.tup l)) (mCons (mOp itemT (mMap (fun l => some (.lst l)) (mCons (mPure (.str "and")) (mCons (mPure (.str "or")) mNil))) (mOp subT (mVar 5) (mPure (.int 4)))) (mCons (mUn trevT (mVar 7)) mNil))))))
  (sAppend 2 (mOp itemT (mMap (fun l => some (.lst l)) (mCons (mMap (fun l => some (.tup l)) (mCons (mPure (.str "and")) (mCons (mMap (fun l => some (.tup l)) mNil) mNil))) (mCons (mMap (fun l => some (.tup l)) (mCons (mPure (.str "or")) (mCons (mMap (fun l => some (.tup l)) mNil) mNil))) mNil))) (mOp modT (mVar 6) (mPure (.int 2))))))))))
noncomputable def rbody : S := (sSeq (sIf (mTest (mOp gtT (mCall (m_law_many 40) (mCons (mOwnIx 2 (mUn negT (mPure (.int 1)))) mNil)) (mPure (.int 28))))
  (sNew 2 (mOwnAdd 2 (mMap (fun l => some (.lst l)) (mCons (mMap (fun l => some (.tup l)) (mCons (mPure (.str "at")) (mCons (mPure (.str "p")) (mCons (mPure (.int 1)) mNil)))) (mCons (mMap (fun l => some (.tup l)) (mCons (mPure (.str "at")) (mCons (mPure (.str "q")) (mCons (mPure (.int 0)) mNil)))) mNil)))))
  sNil)
  (sSeq (sSet 4 (mOp fdivT (mOp modT (mOp mulT (mVar 3) (mPure (.int 48271))) (mPure (.int 2147483647))) (mPure (.int 37))))
  (sSeq (sIf (mTest (mVar 1))
  (sSet 4 (mVar 3))
  sNil)
  (sSeq (sSet 5 (mOp modT (mVar 4) (mPure (.int 7))))
  (sSeq (sSet 6 (mOp fdivT (mVar 4) (mPure (.int 7))))
  chain)))))
noncomputable abbrev en (ce : T) (fr : Bool) (L : List Rem) (o3 o4 o5 o6 o7 : Slot) : List Slot := [some (ce, false), some (.bl fr, false), some (.lst (L.map remT), true), o3, o4, o5, o6, o7]
noncomputable section
variable {sto : List SO} {ce : T} {fr : Bool}
theorem put_L {L : List Rem} {u : Rem} {o3 o4 o5 o6 o7 : Slot} : putSlot 2 (.lst (L.map remT ++ [remT u])) true ⟨en ce fr L o3 o4 o5 o6 o7, sto⟩ = ⟨en ce fr (L ++ [u]) o3 o4 o5 o6 o7, sto⟩ := by
  simp [putSlot]
theorem chain_at {L0 : List Rem} {r : Rem} {o3 o4 o7 : Slot} {kd mo : Int} {i : Nat} (hk0 : 0 ≤ kd) (hk1 : kd < 7) (hi : i < 39) (ok : ∀ q ∈ L0 ++ [r], OkR i q) (hr : np r ≤ 28) (hl : (L0 ++ [r]).length ≤ 90) :
    ∃ (u : Rem) (o7' : Slot), OkR (i + 1) u ∧ np u ≤ 57 ∧ chain ⟨en ce fr (L0 ++ [r]) o3 o4 (some (.int kd, false)) (some (.int mo, false)) o7, sto⟩ = some (.next, ⟨en ce fr (L0 ++ [r] ++ [u]) o3 o4 (some (.int kd, false)) (some (.int mo, false)) o7', sto⟩) := by
  have lm : ((L0 ++ [r]).map remT).length < lim := by rw [List.length_map]; show _ < 1000000; omega
  have m20 := Int.emod_nonneg mo (b := 2) (by decide)
  have m21 := Int.emod_lt_of_pos mo (b := 2) (by decide)
  have okr := ok r (by simp)
  have kinds : kd = 0 ∨ kd = 1 ∨ kd = 2 ∨ kd = 3 ∨ ((kd = 4 ∨ kd = 5) ∨ kd = 6) := by omega
  have els : ∀ {o5 : Slot}, sAppend 2 (mOp itemT (mMap (fun l => some (.lst l)) (mCons (mMap (fun l => some (.tup l)) (mCons (mPure (.str "and")) (mCons (mMap (fun l => some (.tup l)) mNil) mNil))) (mCons (mMap (fun l => some (.tup l)) (mCons (mPure (.str "or")) (mCons (mMap (fun l => some (.tup l)) mNil) mNil))) mNil))) (mOp modT (mVar 6) (mPure (.int 2)))) ⟨en ce fr (L0 ++ [r]) o3 o4 o5 (some (.int mo, false)) o7, sto⟩
      = some (.next, ⟨en ce fr (L0 ++ [r] ++ [andor (mo % 2) []]) o3 o4 o5 (some (.int mo, false)) o7, sto⟩) := fun {o5} => by
    rw [app_at (t := remT (andor (mo % 2) [])) (s1 := ⟨en ce fr (L0 ++ [r]) o3 o4 o5 (some (.int mo, false)) o7, sto⟩) rfl (op_at rfl (op_at rfl rfl rfl) (andor_nil m20 m21)) rfl lm, put_L]
  rcases kinds with rfl | rfl | rfl | rfl | hk
  · obtain ⟨s, hs, e⟩ := law_sum (sto := sto) (v := mo)
    refine ⟨.most s, o7, .most hs, by simp [np], ?_⟩
    rw [chain, if_t (s1 := ⟨en ce fr (L0 ++ [r]) o3 o4 (some (.int 0, false)) (some (.int mo, false)) o7, sto⟩) (by first | exact rfl | simp [runFn, sSeq, sIf, sSet, sNew, sRet, sNil, sNx, sRetOwn, sGo, sReverse, sFor, sAppend, sExtend, lstAt, mTest, mNot, mAnd, mOr, mBool, mIf, mOp, mUn, mVar, mMap, mCons, mNil, mPure, mStrs, mCall, putSlot, hName, hTup, iRange, iSeq, ltT, leT, lenT, addT, subT, modT, fdivT, negT, absT, seqOf, mTrue, freezeAt, thaw, eqO_int])]
    rw [app_at (t := remT (.most s)) (s1 := ⟨en ce fr (L0 ++ [r]) o3 o4 (some (.int 0, false)) (some (.int mo, false)) o7, sto⟩) rfl ?_ rfl lm, put_L]
    rw [remT]
    exact maps_at (cons_at rfl (cons_at (call_at (cons_at rfl rfl) e) rfl)) rfl
  · obtain ⟨s, hs, e⟩ := law_sum (sto := sto) (v := mo / 11)
    have a := Int.emod_nonneg mo (b := 11) (by decide)
    have b := Int.emod_lt_of_pos mo (b := 11) (by decide)
    refine ⟨.rest s (2 + mo % 11), o7, .rest hs (by omega) (by omega), by simp [np], ?_⟩
    rw [chain, if_f (s1 := ⟨en ce fr (L0 ++ [r]) o3 o4 (some (.int 1, false)) (some (.int mo, false)) o7, sto⟩) (by first | exact rfl | simp [runFn, sSeq, sIf, sSet, sNew, sRet, sNil, sNx, sRetOwn, sGo, sReverse, sFor, sAppend, sExtend, lstAt, mTest, mNot, mAnd, mOr, mBool, mIf, mOp, mUn, mVar, mMap, mCons, mNil, mPure, mStrs, mCall, putSlot, hName, hTup, iRange, iSeq, ltT, leT, lenT, addT, subT, modT, fdivT, negT, absT, seqOf, mTrue, freezeAt, thaw, eqO_int]), if_t (s1 := ⟨en ce fr (L0 ++ [r]) o3 o4 (some (.int 1, false)) (some (.int mo, false)) o7, sto⟩) (by first | exact rfl | simp [runFn, sSeq, sIf, sSet, sNew, sRet, sNil, sNx, sRetOwn, sGo, sReverse, sFor, sAppend, sExtend, lstAt, mTest, mNot, mAnd, mOr, mBool, mIf, mOp, mUn, mVar, mMap, mCons, mNil, mPure, mStrs, mCall, putSlot, hName, hTup, iRange, iSeq, ltT, leT, lenT, addT, subT, modT, fdivT, negT, absT, seqOf, mTrue, freezeAt, thaw, eqO_int])]
    rw [app_at (t := remT (.rest s (2 + mo % 11))) (s1 := ⟨en ce fr (L0 ++ [r]) o3 o4 (some (.int 1, false)) (some (.int mo, false)) o7, sto⟩) rfl ?_ rfl lm, put_L]
    rw [remT]
    exact maps_at (cons_at rfl (cons_at (call_at (cons_at (op_at (z := .int (mo / 11)) rfl rfl rfl) rfl) e) (cons_at (op_at (z := .int (2 + mo % 11)) rfl (op_at (z := .int (mo % 11)) rfl rfl rfl) rfl) rfl))) rfl
  · obtain ⟨h, e⟩ := hand_at m20 m21
    refine ⟨.pl h (mo / 2 % 4), o7, .pl, by simp [np], ?_⟩
    rw [chain, if_f (s1 := ⟨en ce fr (L0 ++ [r]) o3 o4 (some (.int 2, false)) (some (.int mo, false)) o7, sto⟩) (by first | exact rfl | simp [runFn, sSeq, sIf, sSet, sNew, sRet, sNil, sNx, sRetOwn, sGo, sReverse, sFor, sAppend, sExtend, lstAt, mTest, mNot, mAnd, mOr, mBool, mIf, mOp, mUn, mVar, mMap, mCons, mNil, mPure, mStrs, mCall, putSlot, hName, hTup, iRange, iSeq, ltT, leT, lenT, addT, subT, modT, fdivT, negT, absT, seqOf, mTrue, freezeAt, thaw, eqO_int]), if_f (s1 := ⟨en ce fr (L0 ++ [r]) o3 o4 (some (.int 2, false)) (some (.int mo, false)) o7, sto⟩) (by first | exact rfl | simp [runFn, sSeq, sIf, sSet, sNew, sRet, sNil, sNx, sRetOwn, sGo, sReverse, sFor, sAppend, sExtend, lstAt, mTest, mNot, mAnd, mOr, mBool, mIf, mOp, mUn, mVar, mMap, mCons, mNil, mPure, mStrs, mCall, putSlot, hName, hTup, iRange, iSeq, ltT, leT, lenT, addT, subT, modT, fdivT, negT, absT, seqOf, mTrue, freezeAt, thaw, eqO_int]), if_t (s1 := ⟨en ce fr (L0 ++ [r]) o3 o4 (some (.int 2, false)) (some (.int mo, false)) o7, sto⟩) (by first | exact rfl | simp [runFn, sSeq, sIf, sSet, sNew, sRet, sNil, sNx, sRetOwn, sGo, sReverse, sFor, sAppend, sExtend, lstAt, mTest, mNot, mAnd, mOr, mBool, mIf, mOp, mUn, mVar, mMap, mCons, mNil, mPure, mStrs, mCall, putSlot, hName, hTup, iRange, iSeq, ltT, leT, lenT, addT, subT, modT, fdivT, negT, absT, seqOf, mTrue, freezeAt, thaw, eqO_int])]
    rw [app_at (t := remT (.pl h (mo / 2 % 4))) (s1 := ⟨en ce fr (L0 ++ [r]) o3 o4 (some (.int 2, false)) (some (.int mo, false)) o7, sto⟩) rfl ?_ rfl lm, put_L]
    rw [remT]
    exact maps_at (cons_at rfl (cons_at (op_at (y := .int (mo % 2)) rfl (op_at rfl rfl rfl) e) (cons_at (op_at (z := .int (mo / 2 % 4)) (x := .int (mo / 2)) (op_at rfl rfl rfl) rfl rfl) rfl))) rfl
  · refine ⟨.no r, o7, .no okr, by simp only [np]; omega, ?_⟩
    have la := last_at (L := L0.map remT) (t := remT r) (f := true) (i := 2) (s := ⟨en ce fr (L0 ++ [r]) o3 o4 (some (.int 3, false)) (some (.int mo, false)) o7, sto⟩) (by simp)
    rw [chain, if_f (s1 := ⟨en ce fr (L0 ++ [r]) o3 o4 (some (.int 3, false)) (some (.int mo, false)) o7, sto⟩) (by first | exact rfl | simp [runFn, sSeq, sIf, sSet, sNew, sRet, sNil, sNx, sRetOwn, sGo, sReverse, sFor, sAppend, sExtend, lstAt, mTest, mNot, mAnd, mOr, mBool, mIf, mOp, mUn, mVar, mMap, mCons, mNil, mPure, mStrs, mCall, putSlot, hName, hTup, iRange, iSeq, ltT, leT, lenT, addT, subT, modT, fdivT, negT, absT, seqOf, mTrue, freezeAt, thaw, eqO_int]), if_f (s1 := ⟨en ce fr (L0 ++ [r]) o3 o4 (some (.int 3, false)) (some (.int mo, false)) o7, sto⟩) (by first | exact rfl | simp [runFn, sSeq, sIf, sSet, sNew, sRet, sNil, sNx, sRetOwn, sGo, sReverse, sFor, sAppend, sExtend, lstAt, mTest, mNot, mAnd, mOr, mBool, mIf, mOp, mUn, mVar, mMap, mCons, mNil, mPure, mStrs, mCall, putSlot, hName, hTup, iRange, iSeq, ltT, leT, lenT, addT, subT, modT, fdivT, negT, absT, seqOf, mTrue, freezeAt, thaw, eqO_int]), if_f (s1 := ⟨en ce fr (L0 ++ [r]) o3 o4 (some (.int 3, false)) (some (.int mo, false)) o7, sto⟩) (by first | exact rfl | simp [runFn, sSeq, sIf, sSet, sNew, sRet, sNil, sNx, sRetOwn, sGo, sReverse, sFor, sAppend, sExtend, lstAt, mTest, mNot, mAnd, mOr, mBool, mIf, mOp, mUn, mVar, mMap, mCons, mNil, mPure, mStrs, mCall, putSlot, hName, hTup, iRange, iSeq, ltT, leT, lenT, addT, subT, modT, fdivT, negT, absT, seqOf, mTrue, freezeAt, thaw, eqO_int]), if_t (s1 := ⟨en ce fr (L0 ++ [r]) o3 o4 (some (.int 3, false)) (some (.int mo, false)) o7, sto⟩) (by first | exact rfl | simp [runFn, sSeq, sIf, sSet, sNew, sRet, sNil, sNx, sRetOwn, sGo, sReverse, sFor, sAppend, sExtend, lstAt, mTest, mNot, mAnd, mOr, mBool, mIf, mOp, mUn, mVar, mMap, mCons, mNil, mPure, mStrs, mCall, putSlot, hName, hTup, iRange, iSeq, ltT, leT, lenT, addT, subT, modT, fdivT, negT, absT, seqOf, mTrue, freezeAt, thaw, eqO_int])]
    rw [app_at (t := remT (.no r)) (s1 := ⟨en ce fr (L0 ++ [r]) o3 o4 (some (.int 3, false)) (some (.int mo, false)) o7, sto⟩) rfl ?_ rfl lm, put_L]
    rw [rem_no]
    exact maps_at (cons_at rfl (cons_at la rfl)) rfl
  · have n0 : (kd == 0) = false := by simp; omega
    have n1 : (kd == 1) = false := by simp; omega
    have n2 : (kd == 2) = false := by simp; omega
    have n3 : (kd == 3) = false := by simp; omega
    rw [chain, if_f (s1 := ⟨en ce fr (L0 ++ [r]) o3 o4 (some (.int kd, false)) (some (.int mo, false)) o7, sto⟩) (by simp [runFn, sSeq, sIf, sSet, sNew, sRet, sNil, sNx, sRetOwn, sGo, sReverse, sFor, sAppend, sExtend, lstAt, mTest, mNot, mAnd, mOr, mBool, mIf, mOp, mUn, mVar, mMap, mCons, mNil, mPure, mStrs, mCall, putSlot, hName, hTup, iRange, iSeq, ltT, leT, lenT, addT, subT, modT, fdivT, negT, absT, seqOf, mTrue, freezeAt, thaw, eqO_int, n0]), if_f (s1 := ⟨en ce fr (L0 ++ [r]) o3 o4 (some (.int kd, false)) (some (.int mo, false)) o7, sto⟩) (by simp [runFn, sSeq, sIf, sSet, sNew, sRet, sNil, sNx, sRetOwn, sGo, sReverse, sFor, sAppend, sExtend, lstAt, mTest, mNot, mAnd, mOr, mBool, mIf, mOp, mUn, mVar, mMap, mCons, mNil, mPure, mStrs, mCall, putSlot, hName, hTup, iRange, iSeq, ltT, leT, lenT, addT, subT, modT, fdivT, negT, absT, seqOf, mTrue, freezeAt, thaw, eqO_int, n1]), if_f (s1 := ⟨en ce fr (L0 ++ [r]) o3 o4 (some (.int kd, false)) (some (.int mo, false)) o7, sto⟩) (by simp [runFn, sSeq, sIf, sSet, sNew, sRet, sNil, sNx, sRetOwn, sGo, sReverse, sFor, sAppend, sExtend, lstAt, mTest, mNot, mAnd, mOr, mBool, mIf, mOp, mUn, mVar, mMap, mCons, mNil, mPure, mStrs, mCall, putSlot, hName, hTup, iRange, iSeq, ltT, leT, lenT, addT, subT, modT, fdivT, negT, absT, seqOf, mTrue, freezeAt, thaw, eqO_int, n2]), if_f (s1 := ⟨en ce fr (L0 ++ [r]) o3 o4 (some (.int kd, false)) (some (.int mo, false)) o7, sto⟩) (by simp [runFn, sSeq, sIf, sSet, sNew, sRet, sNil, sNx, sRetOwn, sGo, sReverse, sFor, sAppend, sExtend, lstAt, mTest, mNot, mAnd, mOr, mBool, mIf, mOp, mUn, mVar, mMap, mCons, mNil, mPure, mStrs, mCall, putSlot, hName, hTup, iRange, iSeq, ltT, leT, lenT, addT, subT, modT, fdivT, negT, absT, seqOf, mTrue, freezeAt, thaw, eqO_int, n3])]
    have oknil := andor_ok (j := mo % 2) (l := []) (d := i) (by simp) (fun _ h => by cases h)
    by_cases hc : (kd = 4 ∨ kd = 5) ∧ L0 ≠ []
    · obtain ⟨h45, hne⟩ := hc
      have hb : (kd == 4 || kd == 5) = true := by rcases h45 with rfl | rfl <;> rfl
      have hlen : 0 < L0.length := List.length_pos_iff.mpr hne
      rw [if_t (s1 := ⟨en ce fr (L0 ++ [r]) o3 o4 (some (.int kd, false)) (some (.int mo, false)) o7, sto⟩) (by simp [runFn, sSeq, sIf, sSet, sNew, sRet, sNil, sNx, sRetOwn, sGo, sReverse, sFor, sAppend, sExtend, lstAt, mTest, mNot, mAnd, mOr, mBool, mIf, mOp, mUn, mVar, mMap, mCons, mNil, mPure, mStrs, mCall, putSlot, hName, hTup, iRange, iSeq, ltT, leT, lenT, addT, subT, modT, fdivT, negT, absT, seqOf, mTrue, freezeAt, thaw, in45, hb, mOwnLen, gtT]; omega)]
      obtain ⟨j, ej⟩ := cutl_drop (f := remT) (L := L0 ++ [r]) (lo := some (-2 - mo % 5))
      have sl : (sSet 7 (mOwnSl 2 (oSome (mOp subT (mUn negT (mPure (.int 2))) (mOp modT (mVar 6) (mPure (.int 5))))) oNone)) ⟨en ce fr (L0 ++ [r]) o3 o4 (some (.int kd, false)) (some (.int mo, false)) o7, sto⟩ = some (.next, ⟨en ce fr (L0 ++ [r]) o3 o4 (some (.int kd, false)) (some (.int mo, false)) (some (.lst (((L0 ++ [r]).drop j).map remT), false)), sto⟩) := by
        refine set_at (t := .lst (((L0 ++ [r]).drop j).map remT)) (s1 := ⟨en ce fr (L0 ++ [r]) o3 o4 (some (.int kd, false)) (some (.int mo, false)) o7, sto⟩) ?_ rfl
        rw [← ej]
        rfl
      rw [seq_step sl]
      have hdl : ((L0 ++ [r]).drop j).length ≤ 90 := by rw [List.length_drop]; omega
      obtain ⟨V, v1, v2, v3, v4⟩ := shrink (sto := sto) (e0 := some (ce, false)) (e1 := some (.bl fr, false)) (e2 := some (.lst ((L0 ++ [r]).map remT), true)) (e3 := o3) (e4 := o4) (e5 := some (.int kd, false)) (e6 := some (.int mo, false)) (d := i) (by omega) 1000 ((L0 ++ [r]).drop j) (by omega) (by omega) (fun q hq => ok q (List.mem_of_mem_drop hq))
      rw [seq_step v4]
      obtain ⟨w, e1, e2⟩ := andor_T (j := kd - 4) (by omega) (by omega) (l := V.reverse)
      have okv := andor_ok (j := kd - 4) (l := V.reverse) (d := i) (by rw [List.length_reverse]; omega) (fun q hq => ok q (List.mem_of_mem_drop (v1 q (List.mem_reverse.mp hq))))
      rw [nps_rev] at okv
      refine ⟨andor (kd - 4) V.reverse, some (.lst (V.map remT), false), okv.1, by omega, ?_⟩
      rw [app_at (t := remT (andor (kd - 4) V.reverse)) (s1 := ⟨en ce fr (L0 ++ [r]) o3 o4 (some (.int kd, false)) (some (.int mo, false)) (some (.lst (V.map remT), false)), sto⟩) rfl ?_ rfl lm, put_L]
      rw [e2]
      refine maps_at (cons_at (op_at (y := .int (kd - 4)) rfl (op_at rfl rfl rfl) e1) (cons_at (x := .tup (V.reverse.map remT)) ?_ rfl)) rfl
      rw [List.map_reverse]
      rfl
    · refine ⟨andor (mo % 2) [], o7, oknil.1, by rw [oknil.2]; simp [nps], ?_⟩
      rw [if_f (s1 := ⟨en ce fr (L0 ++ [r]) o3 o4 (some (.int kd, false)) (some (.int mo, false)) o7, sto⟩) ?_, els]
      by_cases h45 : kd = 4 ∨ kd = 5
      · have hb : (kd == 4 || kd == 5) = true := by rcases h45 with rfl | rfl <;> rfl
        have : L0 = [] := by
          by_cases h : L0 = []
          · exact h
          · exact absurd ⟨h45, h⟩ hc
        subst this
        simp [runFn, sSeq, sIf, sSet, sNew, sRet, sNil, sNx, sRetOwn, sGo, sReverse, sFor, sAppend, sExtend, lstAt, mTest, mNot, mAnd, mOr, mBool, mIf, mOp, mUn, mVar, mMap, mCons, mNil, mPure, mStrs, mCall, putSlot, hName, hTup, iRange, iSeq, ltT, leT, lenT, addT, subT, modT, fdivT, negT, absT, seqOf, mTrue, freezeAt, thaw, in45, hb, mOwnLen, gtT]
      · have hb : (kd == 4 || kd == 5) = false := by
          have : kd = 6 := by omega
          subst this; rfl
        simp [runFn, sSeq, sIf, sSet, sNew, sRet, sNil, sNx, sRetOwn, sGo, sReverse, sFor, sAppend, sExtend, lstAt, mTest, mNot, mAnd, mOr, mBool, mIf, mOp, mUn, mVar, mMap, mCons, mNil, mPure, mStrs, mCall, putSlot, hName, hTup, iRange, iSeq, ltT, leT, lenT, addT, subT, modT, fdivT, negT, absT, seqOf, mTrue, freezeAt, thaw, in45, hb]
end
end K
end
noncomputable section
set_option linter.all false
set_option maxRecDepth 100000
set_option autoImplicit false
namespace K
open C PySem
noncomputable section
variable {sto : List SO} {ce : T} {fr : Bool}
theorem ats_T {L : List Rem} : (L ++ [Rem.pl false 1, Rem.pl true 0]).map remT = L.map remT ++ [.tup [.str "at", .str "p", .int 1], .tup [.str "at", .str "q", .int 0]] := by
  simp [remT, hn]
theorem body_at {L : List Rem} {i : Nat} {c : Int} {o4 o5 o6 o7 : Slot} (h : OkL i L) (hi : i < 20) :
    ∃ (L' : List Rem) (p4 p5 p6 p7 : Slot), OkL (i + 1) L' ∧ rbody ⟨en ce fr L (some (.int c, false)) o4 o5 o6 o7, sto⟩ = some (.next, ⟨en ce fr L' (some (.int c, false)) p4 p5 p6 p7, sto⟩) := by
  have first : ∃ (L0 : List Rem) (r : Rem), (∀ q ∈ L0 ++ [r], OkR i q) ∧ (∀ q ∈ L0 ++ [r], np q ≤ 57) ∧ np r ≤ 28 ∧ (L0 ++ [r]).length ≤ 3 + 3 * i ∧
      (sIf (mTest (mOp gtT (mCall (m_law_many 40) (mCons (mOwnIx 2 (mUn negT (mPure (.int 1)))) mNil)) (mPure (.int 28))))
  (sNew 2 (mOwnAdd 2 (mMap (fun l => some (.lst l)) (mCons (mMap (fun l => some (.tup l)) (mCons (mPure (.str "at")) (mCons (mPure (.str "p")) (mCons (mPure (.int 1)) mNil)))) (mCons (mMap (fun l => some (.tup l)) (mCons (mPure (.str "at")) (mCons (mPure (.str "q")) (mCons (mPure (.int 0)) mNil)))) mNil)))))
  sNil) ⟨en ce fr L (some (.int c, false)) o4 o5 o6 o7, sto⟩ = some (.next, ⟨en ce fr (L0 ++ [r]) (some (.int c, false)) o4 o5 o6 o7, sto⟩) := by
    have hlen := h.len
    rcases List.eq_nil_or_concat L with rfl | ⟨L0, r, rfl⟩
    · exact absurd rfl h.ne
    · simp only [List.concat_eq_append] at h hlen ⊢
      have la := last_at (L := L0.map remT) (t := remT r) (f := true) (i := 2) (s := ⟨en ce fr (L0 ++ [r]) (some (.int c, false)) o4 o5 o6 o7, sto⟩) (by simp)
      have cond := test_at (op_at (call_at (F := m_law_many 40) (cons_at (b := mNil) la rfl) (many (sto := sto) (h.ok r (by simp)).gn 40 (by omega))) (s2 := ⟨en ce fr (L0 ++ [r]) (some (.int c, false)) o4 o5 o6 o7, sto⟩) (b := mPure (.int 28)) rfl gt_dec)
      by_cases hq : (np r : Int) > 28
      · refine ⟨L0 ++ [r] ++ [.pl false 1], .pl true 0, fun q hq => ?_, fun q hq => ?_, by simp [np], ?_, ?_⟩
        · simp only [List.append_assoc, List.mem_append, List.mem_cons, List.not_mem_nil, or_false] at hq
          rcases hq with hq | hq | hq | hq
          · exact h.ok q (by simp [hq])
          · exact h.ok q (by simp [hq])
          · subst hq; exact .pl
          · subst hq; exact .pl
        · simp only [List.append_assoc, List.mem_append, List.mem_cons, List.not_mem_nil, or_false] at hq
          rcases hq with hq | hq | hq | hq
          · exact h.np q (by simp [hq])
          · exact h.np q (by simp [hq])
          · subst hq; simp [np]
          · subst hq; simp [np]
        · simp only [List.length_append, List.length_singleton] at hlen ⊢; omega
        · rw [decide_eq_true hq] at cond
          rw [if_t cond]
          refine new_at (t := .lst ((L0 ++ [r] ++ [Rem.pl false 1] ++ [Rem.pl true 0]).map remT)) (s1 := ⟨en ce fr (L0 ++ [r]) (some (.int c, false)) o4 o5 o6 o7, sto⟩) ?_ rfl
          rw [show L0 ++ [r] ++ [Rem.pl false 1] ++ [Rem.pl true 0] = (L0 ++ [r]) ++ [Rem.pl false 1, Rem.pl true 0] by simp, ats_T]
          have lm : ((L0 ++ [r]).map remT).length + 2 < lim := by
            rw [List.length_map]
            show _ < 1000000
            omega
          unfold mOwnAdd
          rw [if_pos (show lstAt 2 ⟨en ce fr (L0 ++ [r]) (some (.int c, false)) o4 o5 o6 o7, sto⟩ = true from rfl)]
          dsimp only [mMap, mCons, mNil, mPure, en, List.getElem?_cons_succ, List.getElem?_cons_zero]
          exact if_pos lm
      · refine ⟨L0, r, h.ok, h.np, by omega, by omega, ?_⟩
        rw [decide_eq_false hq] at cond
        rw [if_f cond]
        rfl
  obtain ⟨L0, r, f1, f2, f3, f4, f5⟩ := first
  unfold rbody
  rw [seq_step f5]
  have mid : ∃ v : Int, ∀ rest : S, sSeq (sSet 4 (mOp fdivT (mOp modT (mOp mulT (mVar 3) (mPure (.int 48271))) (mPure (.int 2147483647))) (mPure (.int 37)))) (sSeq (sIf (mTest (mVar 1)) (sSet 4 (mVar 3)) sNil) rest) ⟨en ce fr (L0 ++ [r]) (some (.int c, false)) o4 o5 o6 o7, sto⟩ = rest ⟨en ce fr (L0 ++ [r]) (some (.int c, false)) (some (.int v, false)) o5 o6 o7, sto⟩ := by
    have s1 : (sSet 4 (mOp fdivT (mOp modT (mOp mulT (mVar 3) (mPure (.int 48271))) (mPure (.int 2147483647))) (mPure (.int 37)))) ⟨en ce fr (L0 ++ [r]) (some (.int c, false)) o4 o5 o6 o7, sto⟩ = some (.next, ⟨en ce fr (L0 ++ [r]) (some (.int c, false)) (some (.int (c * 48271 % 2147483647 / 37), false)) o5 o6 o7, sto⟩) := by
      have bb : bnd64 48271 = true := by decide
      refine set_at (op_at (x := .int (c * 48271 % 2147483647)) (op_at (x := .int (c * 48271)) (op_at (x := .int c) rfl rfl (by simp [mulT, bb])) rfl rfl) rfl rfl) rfl
    cases hf : fr
    · subst hf
      refine ⟨c * 48271 % 2147483647 / 37, fun rest => ?_⟩
      rw [seq_step s1, seq_step (if_f (s1 := ⟨en ce false (L0 ++ [r]) (some (.int c, false)) (some (.int (c * 48271 % 2147483647 / 37), false)) o5 o6 o7, sto⟩) rfl)]
    · subst hf
      refine ⟨c, fun rest => ?_⟩
      rw [seq_step s1, seq_step (s' := ⟨en ce true (L0 ++ [r]) (some (.int c, false)) (some (.int c, false)) o5 o6 o7, sto⟩) ((if_t (s1 := ⟨en ce true (L0 ++ [r]) (some (.int c, false)) (some (.int (c * 48271 % 2147483647 / 37), false)) o5 o6 o7, sto⟩) rfl).trans rfl)]
  obtain ⟨v, hv⟩ := mid
  rw [hv]
  rw [seq_step (s' := ⟨en ce fr (L0 ++ [r]) (some (.int c, false)) (some (.int v, false)) (some (.int (v % 7), false)) o6 o7, sto⟩) rfl]
  rw [seq_step (s' := ⟨en ce fr (L0 ++ [r]) (some (.int c, false)) (some (.int v, false)) (some (.int (v % 7), false)) (some (.int (v / 7), false)) o7, sto⟩) rfl]
  obtain ⟨u, o7', u1, u2, u3⟩ := chain_at (sto := sto) (ce := ce) (fr := fr) (L0 := L0) (r := r) (o3 := some (.int c, false)) (o4 := some (.int v, false)) (o7 := o7) (kd := v % 7) (mo := v / 7) (i := i) (Int.emod_nonneg _ (by decide)) (Int.emod_lt_of_pos _ (by decide)) (by omega) f1 f3 (by omega)
  refine ⟨L0 ++ [r] ++ [u], _, _, _, o7', ⟨fun q hq => ?_, fun q hq => ?_, ?_, by simp⟩, u3⟩
  · rcases List.mem_append.mp hq with hq | hq -- here
    · exact (f1 q hq).up
    · rw [List.mem_singleton] at hq; subst hq; exact u1
  · rcases List.mem_append.mp hq with hq | hq -- here
    · exact f2 q hq
    · rw [List.mem_singleton] at hq; subst hq; exact u2
  · rw [List.length_append, List.length_singleton]; omega -- here
theorem remark_eq : m_law_remark = runFn 8 (sSeq (sNew 2 (mMap (fun l => some (.lst l)) (mCons (mMap (fun l => some (.tup l)) (mCons (mPure (.str "most")) (mCons (mMap (fun l => some (.tup l)) (mCons (mPure (.int 0)) (mCons (mMap (fun l => some (.tup l)) (mCons (mMap (fun l => some (.tup l)) (mCons (mPure (.str "x")) (mCons (mPure (.int 1)) mNil))) mNil)) mNil))) mNil))) mNil)))
  (sSeq (sFor (hName 3) (iSeq (mVar 0)) rbody) (sRet (mOwnIx 2 (mUn negT (mPure (.int 1))))))) := rfl
theorem remark {cs : List Int} (hc : cs.length ≤ 16) : ∃ r, OkR 16 r ∧ np r ≤ 57 ∧ m_law_remark [.lst (cs.map .int), .bl fr] sto = some (remT r, sto) := by
  have lm : cs.length < lim := by show _ < 1000000; omega
  have s0 : OkL 0 [.most (0, [("x", 1)])] := ⟨fun r hr => by
      rw [List.mem_singleton] at hr; subst hr
      exact .most ⟨1, 0, rfl, by decide, by decide, by decide, by decide⟩, fun r hr => by
      rw [List.mem_singleton] at hr; subst hr; simp [np], by simp, by simp⟩
  rw [remark_eq]
  unfold runFn
  rw [show ([T.lst (cs.map .int), .bl fr].map (fun t => some (t, false)) ++ List.replicate (8 - [T.lst (cs.map .int), .bl fr].length) none : List Slot) = [some (.lst (cs.map .int), false), some (.bl fr, false), none, none, none, none, none, none] from rfl]
  rw [seq_step (s' := ⟨en (.lst (cs.map .int)) fr [.most (0, [("x", 1)])] none none none none none, sto⟩) rfl]
  have it : iSeq (mVar 0) ⟨en (.lst (cs.map .int)) fr [.most (0, [("x", 1)])] none none none none none, sto⟩ = some (cs.map .int, ⟨en (.lst (cs.map .int)) fr [.most (0, [("x", 1)])] none none none none none, sto⟩) := by simp [runFn, sSeq, sIf, sSet, sNew, sRet, sNil, sNx, sRetOwn, sGo, sReverse, sFor, sAppend, sExtend, lstAt, mTest, mNot, mAnd, mOr, mBool, mIf, mOp, mUn, mVar, mMap, mCons, mNil, mPure, mStrs, mCall, putSlot, hName, hTup, iRange, iSeq, ltT, leT, lenT, addT, subT, modT, fdivT, negT, absT, seqOf, mTrue, freezeAt, thaw, lm]
  unfold sSeq sFor
  rw [it]
  dsimp only
  generalize hF : forL (hName 3) rbody _ _ = r
  obtain ⟨s', rfl, P⟩ := forL_at hF (fun ts st => ∃ (l : List Int) (i : Nat) (L : List Rem) (o3 o4 o5 o6 o7 : Slot), ts = l.map .int ∧ i + l.length ≤ 16 ∧ OkL i L ∧ st = ⟨en (.lst (cs.map .int)) fr L o3 o4 o5 o6 o7, sto⟩)
    ⟨cs, 0, _, none, none, none, none, none, rfl, by omega, s0, rfl⟩ (by
      rintro t r st ⟨l, i, L, o3, o4, o5, o6, o7, e1, e2, ok, rfl⟩
      cases l with
      | nil => cases e1
      | cons c l =>
        cases e1
        simp only [List.length_cons] at e2
        obtain ⟨L', p4, p5, p6, p7, ok', e⟩ := body_at (sto := sto) (ce := .lst (cs.map .int)) (fr := fr) (c := c) (o4 := o4) (o5 := o5) (o6 := o6) (o7 := o7) ok (by omega)
        exact ⟨_, _, rfl, e, l, i + 1, L', _, _, _, _, _, rfl, by omega, ok', rfl⟩)
  obtain ⟨l, i, L, o3, o4, o5, o6, o7, e1, e2, ok, rfl⟩ := P
  rcases List.eq_nil_or_concat L with rfl | ⟨L0, r, rfl⟩
  · exact absurd rfl ok.ne
  · simp only [List.concat_eq_append] at ok ⊢
    have la := last_at (L := L0.map remT) (t := remT r) (f := true) (i := 2) (s := ⟨en (.lst (cs.map .int)) fr (L0 ++ [r]) o3 o4 o5 o6 o7, sto⟩) (by simp)
    refine ⟨r, (ok.ok r (by simp)).le (by omega), ok.np r (by simp), ?_⟩
    unfold sRet
    rw [la]
theorem nxp : ¬ (Str.ofString "x" = Str.ofString "@p") := by decide
theorem nxq : ¬ (Str.ofString "x" = Str.ofString "@q") := by decide
theorem nyp : ¬ (Str.ofString "y" = Str.ofString "@p") := by decide
theorem nyq : ¬ (Str.ofString "y" = Str.ofString "@q") := by decide
theorem npq : ¬ (Str.ofString "@p" = Str.ofString "@q") := by decide
theorem bk4 (a b c d : Int) : Bk NN [(.inr "x", .int a), (.inr "y", .int b), (.inr "@p", .int c), (.inr "@q", .int d)] := by
  refine ⟨fun x hx => ?_, fun p hp => ?_, by
    show ([.inr "x", .inr "y", .inr "@p", .inr "@q"] : List Key).Nodup
    decide⟩
  · simp only [NN, List.mem_cons, List.not_mem_nil, or_false] at hx
    rcases hx with rfl | rfl | rfl | rfl
    · exact ⟨a, rfl⟩
    · exact ⟨b, rfl⟩
    · exact ⟨c, rfl⟩
    · exact ⟨d, rfl⟩
  · simp only [List.mem_cons, List.not_mem_nil, or_false] at hp
    rcases hp with rfl | rfl | rfl | rfl
    · exact ⟨a, rfl⟩
    · exact ⟨b, rfl⟩
    · exact ⟨c, rfl⟩
    · exact ⟨d, rfl⟩
end
end K
end
noncomputable section
set_option linter.all false
set_option maxRecDepth 100000
set_option autoImplicit false
namespace K
open C PySem
noncomputable section
variable {sto : List SO} {cs : List Int}
theorem fd {i j : Int} (h0 : 0 < j) (h1 : j < 1000) : fdivT (.int i) (.int j) = some (.int (i / j)) := by
  have : 0 < j ∧ (j < 1073741824 ∨ j.natAbs < fdl) := ⟨h0, .inl (by omega)⟩
  simp only [fdivT, if_pos this]
theorem book {k : Nat} (hk : k < 8) : ∃ B, Bk NN B ∧ m_law_book [scr cs, .int (k : Int)] sto = some (.dic B, sto) := by
  have c0 := cell_n (cs := cs) (k := k % 2) (i := (k : Int) % 2) (sto := sto) (by omega)
  have c1 := cell_n (cs := cs) (k := 1 - k % 2) (i := 1 - (k : Int) % 2) (sto := sto) (by omega)
  generalize cell cs (k % 2) = h at c0
  generalize cell cs (1 - k % 2) = t at c1
  obtain ⟨r1, e1⟩ := signed (c := h / (1 + (k : Int))) (m := 1000000000000000000000000000000) (by decide)
  obtain ⟨r2, e2⟩ := signed (c := t / (1 + (k : Int))) (m := 1000000000000000000000000000000) (by decide)
  have d1 : ∀ i : Int, fdivT (.int i) (.int (1 + (k : Int))) = some (.int (i / (1 + (k : Int)))) := fun i => fd (by omega) (by omega)
  have d3 : ∀ i : Int, fdivT (.int i) (.int (3 + (k : Int))) = some (.int (i / (3 + (k : Int)))) := fun i => fd (by omega) (by omega)
  have d5 : ∀ i : Int, fdivT (.int i) (.int (5 + (k : Int))) = some (.int (i / (5 + (k : Int)))) := fun i => fd (by omega) (by omega)
  have d7 : ∀ i : Int, fdivT (.int i) (.int (7 + (k : Int))) = some (.int (i / (7 + (k : Int)))) := fun i => fd (by omega) (by omega)
  have db : ∀ i : Int, fdivT (.int i) (.int (11 + (k : Int))) = some (.int (i / (11 + (k : Int)))) := fun i => fd (by omega) (by omega)
  unfold m_law_book runFn
  rw [show ([scr cs, .int (k : Int)].map (fun t => some (t, false)) ++ List.replicate (5 - [scr cs, .int (k : Int)].length) none : List Slot) = [some (scr cs, false), some (.int (k : Int), false), none, none, none] from rfl]
  rw [seq_step (s' := ⟨[some (scr cs, false), some (.int (k : Int), false), some (.int h, false), none, none], sto⟩) (set_at (call_at (cons_at rfl (cons_at (op_at (z := .int ((k : Int) % 2)) rfl rfl rfl) rfl)) c0) rfl)]
  rw [seq_step (s' := ⟨[some (scr cs, false), some (.int (k : Int), false), some (.int h, false), some (.int t, false), none], sto⟩) (set_at (call_at (cons_at rfl (cons_at (op_at (z := .int (1 - (k : Int) % 2)) rfl (op_at (z := .int ((k : Int) % 2)) rfl rfl rfl) rfl) rfl)) c1) rfl)]
  rw [seq_step (s' := ⟨[some (scr cs, false), some (.int (k : Int), false), some (.int h, false), some (.int t, false), some (.dic [(.inr "x", .int r1), (.inr "y", .int r2)], true)], sto⟩) (new_at (maps_at (cons_at (call_at (cons_at (op_at (z := .int (h / (1 + (k : Int)))) (y := .int (1 + (k : Int))) rfl (op_at rfl rfl rfl) (d1 h)) (cons_at (op_at rfl rfl p30) rfl)) (e1 sto)) (cons_at (call_at (cons_at (op_at (z := .int (t / (1 + (k : Int)))) (y := .int (1 + (k : Int))) rfl (op_at rfl rfl rfl) (d1 t)) (cons_at (op_at rfl rfl p30) rfl)) (e2 sto)) rfl)) rfl) rfl)]
  have mid : ∃ x y : Int, (sIf (mTest (mOp gtT (mVar 1) (mPure (.int 1))))
  (sSeq (sOwnPut 4 (mPure (.str "x")) (mOp subT (mOp modT (mOp fdivT (mVar 2) (mOp addT (mPure (.int 3)) (mVar 1))) (mPure (.int 9))) (mPure (.int 4))))
  (sOwnPut 4 (mPure (.str "y")) (mOp subT (mOp modT (mOp fdivT (mVar 3) (mOp addT (mPure (.int 5)) (mVar 1))) (mPure (.int 9))) (mPure (.int 4)))))
  sNil) ⟨[some (scr cs, false), some (.int (k : Int), false), some (.int h, false), some (.int t, false), some (.dic [(.inr "x", .int r1), (.inr "y", .int r2)], true)], sto⟩ = some (.next, ⟨[some (scr cs, false), some (.int (k : Int), false), some (.int h, false), some (.int t, false), some (.dic [(.inr "x", .int x), (.inr "y", .int y)], true)], sto⟩) := by
    by_cases hk1 : (k : Int) > 1
    · refine ⟨h / (3 + (k : Int)) % 9 - 4, t / (5 + (k : Int)) % 9 - 4, ?_⟩
      rw [if_t (s1 := ⟨[some (scr cs, false), some (.int (k : Int), false), some (.int h, false), some (.int t, false), some (.dic [(.inr "x", .int r1), (.inr "y", .int r2)], true)], sto⟩) (test_at (op_at rfl rfl (by rw [gt_dec, decide_eq_true hk1])))]
      have p1 : 3 + (k : Int) > 0 := by omega
      have p2 : 3 + (k : Int) < 1073741824 := by omega
      have p3 : 5 + (k : Int) > 0 := by omega
      have p4 : 5 + (k : Int) < 1073741824 := by omega
      simp [runFn, sSeq, sIf, sSet, sNew, sRet, sNil, sNx, sRetOwn, sGo, sReverse, sFor, sAppend, sExtend, lstAt, mTest, mNot, mAnd, mOr, mBool, mIf, mOp, mUn, mVar, mMap, mCons, mNil, mPure, mStrs, mCall, putSlot, hName, hTup, iRange, iSeq, ltT, leT, lenT, addT, subT, modT, fdivT, negT, absT, seqOf, mTrue, freezeAt, thaw, sOwnPut, dicAt, keyOf, dPut, sxy, syx, p1, p2, p3, p4, lim]
    · refine ⟨r1, r2, ?_⟩
      rw [if_f (s1 := ⟨[some (scr cs, false), some (.int (k : Int), false), some (.int h, false), some (.int t, false), some (.dic [(.inr "x", .int r1), (.inr "y", .int r2)], true)], sto⟩) (test_at (op_at rfl rfl (by rw [gt_dec, decide_eq_false hk1])))]
      rfl
  obtain ⟨x, y, e⟩ := mid
  rw [seq_step e]
  refine ⟨_, bk4 x y (h / (7 + (k : Int)) % 4) (t / (11 + (k : Int)) % 4), ?_⟩
  have p1 : 7 + (k : Int) > 0 := by omega
  have p2 : 7 + (k : Int) < 1073741824 := by omega
  have p3 : 11 + (k : Int) > 0 := by omega
  have p4 : 11 + (k : Int) < 1073741824 := by omega
  simp [runFn, sSeq, sIf, sSet, sNew, sRet, sNil, sNx, sRetOwn, sGo, sReverse, sFor, sAppend, sExtend, lstAt, mTest, mNot, mAnd, mOr, mBool, mIf, mOp, mUn, mVar, mMap, mCons, mNil, mPure, mStrs, mCall, putSlot, hName, hTup, iRange, iSeq, ltT, leT, lenT, addT, subT, modT, fdivT, negT, absT, seqOf, mTrue, freezeAt, thaw, sOwnPut, dicAt, keyOf, dPut, nxp, nxq, nyp, nyq, npq, p1, p2, p3, p4, lim]
end
end K
end
noncomputable section
set_option linter.all false
set_option maxRecDepth 100000
set_option autoImplicit false
namespace K
open C PySem
noncomputable def lbody : S := (sSeq (sSet 7 (mCall m_law_book (mCons (mVar 0) (mCons (mVar 6) mNil))))
  (sSeq (sSet 8 (mCall (m_law_holds 40) (mCons (mVar 2) (mCons (mVar 7) mNil))))
  (sSeq (sSet 9 (mCall m_form_true (mCons (mVar 3) (mCons (mVar 7) mNil))))
  (sSeq (sIf (mOr (mNot (mTest (mMap isBl (mCons (mVar 9) mNil)))) (mOr (mTest (mOp neO (mVar 9) (mVar 8))) (mTest (mOp eqO (mCall m_form_true (mCons (mVar 4) (mCons (mVar 7) mNil))) (mVar 8)))))
  (sRet (mPure (.bl false)))
  sNil)
  (sIf (mOr (mTest (mOp neO (mCall (m_law_holds 40) (mCons (mVar 3) (mCons (mVar 7) mNil))) (mVar 8))) (mTest (mOp eqO (mCall (m_law_holds 40) (mCons (mVar 4) (mCons (mVar 7) mNil))) (mVar 8))))
  (sRet (mPure (.bl false)))
  sNil)))))
theorem law_eq : m_law = runFn 10
  (sSeq (sSet 1 (mOp eqO (mOp modT (mCall m_law_cell_at (mCons (mVar 0) (mCons (mPure (.int 0)) mNil))) (mPure (.int 2))) (mPure (.int 1))))
  (sSeq (sSet 2 (mCall m_law_remark (mCons (mSlice (mVar 0) (oSome (mPure (.int 2))) (oSome (mPure (.int 18)))) (mCons (mVar 1) mNil))))
  (sSeq (sSet 3 (mCall (m_plain_form 40) (mCons (mVar 2) mNil)))
  (sSeq (sSet 4 (mCall (m_against_form 40) (mCons (mVar 2) mNil)))
  (sSeq (sSet 5 (mCall (m_law_parts 40) (mCons (mVar 3) mNil)))
  (sSeq (sIf (mOr (mTest (mOp isNT (mVar 5) (mPure .non))) (mOr (mTest (mOp isNT (mCall (m_law_parts 40) (mCons (mVar 4) mNil)) (mPure .non))) (mTest (mOp neO (mCall m_form_parts (mCons (mVar 3) mNil)) (mVar 5)))))
  (sRet (mPure (.bl false)))
  sNil)
  (sSeq (sIf (mOr (mTest (mOp neO (mVar 3) (mCall (m_law_plain 40) (mCons (mVar 2) mNil)))) (mTest (mOp neO (mVar 4) (mCall (m_law_against 40) (mCons (mVar 2) mNil)))))
  (sRet (mPure (.bl false)))
  sNil)
  (sSeq (sFor (hName 6) (iRange (mPure (.int 8)))
  lbody)
  (sRet (mPure (.bl true))))))))))) := rfl
noncomputable section
variable {sto : List SO} {cs : List Int}
theorem okNN {x : Str} (h : x ∈ NN) : okS x := by
  simp only [NN, List.mem_cons, List.not_mem_nil, or_false] at h
  unfold okS
  rcases h with rfl | rfl | rfl | rfl <;> decide +kernel
theorem okW : okS "most" ∧ okS "rest" ∧ okS "and" ∧ okS "or" := by
  unfold okS
  decide +kernel
theorem pl_sm {s : Sm} (h : okSm s) {n : Nat} : Pl (n + 3) (smT s) := pl_tup (n := n + 2) fun t ht => by
  simp only [List.mem_cons, List.not_mem_nil, or_false] at ht
  rcases ht with rfl | rfl
  · exact pl_int _ _
  · refine pl_tup (n := n + 1) fun t ht => ?_
    obtain ⟨p, hp, rfl⟩ := List.mem_map.mp ht
    refine pl_tup (n := n) fun t ht => ?_
    simp only [List.mem_cons, List.not_mem_nil, or_false] at ht
    rcases ht with rfl | rfl
    · exact pl_str _ (okNN (h.2 p hp).1)
    · exact pl_int _ _
theorem pl_fm {d : Nat} {r : Rem} (h : Fm d r) : Pl (2 * d + 4) (remT r) := by
  induction h with
  | @most d s h =>
    rw [remT]
    refine pl_tup (n := 2 * d + 3) fun t ht => ?_
    simp only [List.mem_cons, List.not_mem_nil, or_false] at ht
    rcases ht with rfl | rfl
    · exact pl_str _ okW.1
    · exact pl_sm h
  | @rest d s m h a b =>
    rw [remT]
    refine pl_tup (n := 2 * d + 3) fun t ht => ?_
    simp only [List.mem_cons, List.not_mem_nil, or_false] at ht
    rcases ht with rfl | rfl | rfl
    · exact pl_str _ okW.2.1
    · exact pl_sm h
    · exact pl_int _ _
  | @all d l h _ ih =>
    rw [remT, remsT_map]
    refine pl_tup (n := 2 * d + 5) fun t ht => ?_
    simp only [List.mem_cons, List.not_mem_nil, or_false] at ht
    rcases ht with rfl | rfl
    · exact pl_str _ okW.2.2.1
    · refine pl_tup (n := 2 * d + 4) fun t ht => ?_
      obtain ⟨q, hq, rfl⟩ := List.mem_map.mp ht
      exact ih q hq
  | @any d l h _ ih =>
    rw [remT, remsT_map]
    refine pl_tup (n := 2 * d + 5) fun t ht => ?_
    simp only [List.mem_cons, List.not_mem_nil, or_false] at ht
    rcases ht with rfl | rfl
    · exact pl_str _ okW.2.2.2
    · refine pl_tup (n := 2 * d + 4) fun t ht => ?_
      obtain ⟨q, hq, rfl⟩ := List.mem_map.mp ht
      exact ih q hq
theorem cut16 : ∃ ds : List Int, ds.length ≤ 16 ∧ cutl (cs.map T.int) (some 2) (some 18) = ds.map T.int := by
  refine ⟨(cs.drop (sIx cs.length 0 (some 2))).take (sIx cs.length cs.length (some 18) - sIx cs.length 0 (some 2)), ?_, ?_⟩
  · refine Nat.le_trans (List.length_take_le _ _) ?_
    simp only [sIx]
    rw [if_neg (by decide), if_neg (by decide)]
    omega
  · unfold cutl
    rw [List.length_map, List.map_take, List.map_drop]
theorem isBl_t {b : Bool} : isBl [.bl b] = some (.bl true) := rfl
theorem neO_bl {a b : Bool} : neO (.bl a) (.bl b) = some (.bl (a != b)) := by simp [neO, eqT, eqD, dat, PyData.depth, PyData.eqv, bne]
theorem neO_i {a : Int} : neO (.int a) (.int a) = some (.bl false) := by rw [neO_int]; simp
noncomputable abbrev le (cs : List Int) (fr : Bool) (r : Rem) (n : Int) (o6 o7 o8 o9 : Slot) : List Slot := [some (scr cs, false), some (.bl fr, false), some (remT r, false), some (remT (fo r false), false), some (remT (fo r true), false), some (.int n, false), o6, o7, o8, o9]
theorem lbody_at {fr : Bool} {r : Rem} {n : Int} {k : Nat} {o7 o8 o9 : Slot} (hk : k < 8) (h : OkR 16 r) : ∃ p7 p8 p9 : Slot, lbody ⟨le cs fr r n (some (.int (k : Int), false)) o7 o8 o9, sto⟩ = some (.next, ⟨le cs fr r n (some (.int (k : Int), false)) p7 p8 p9, sto⟩) := by
  obtain ⟨B, hB, eb⟩ := book (cs := cs) (sto := sto) hk
  have h1 := law_holds (sto := sto) hB h.gn 40 (by decide)
  have f0 := fo_fm h false
  have f1 := fo_fm h true
  have t0 := form_true (sto := sto) hB f0 (by decide)
  have t1 := form_true (sto := sto) hB f1 (by decide)
  have l0 := law_holds (sto := sto) hB f0.gn 40 (by decide)
  have l1 := law_holds (sto := sto) hB f1.gn 40 (by decide)
  rw [fo_tv h] at t0 t1 l0 l1
  simp only [Bool.bne_false, Bool.bne_true] at t0 t1 l0 l1
  refine ⟨some (.dic B, false), some (.bl (tv B r), false), some (.bl (tv B r), false), ?_⟩
  generalize tv B r = b at *
  unfold lbody
  rw [seq_step (s' := ⟨le cs fr r n (some (.int (k : Int), false)) (some (.dic B, false)) o8 o9, sto⟩) (set_at (call_at (cons_at rfl (cons_at rfl rfl)) eb) rfl)]
  rw [seq_step (s' := ⟨le cs fr r n (some (.int (k : Int), false)) (some (.dic B, false)) (some (.bl b, false)) o9, sto⟩) (set_at (call_at (cons_at rfl (cons_at rfl rfl)) h1) rfl)]
  rw [seq_step (s' := ⟨le cs fr r n (some (.int (k : Int), false)) (some (.dic B, false)) (some (.bl b, false)) (some (.bl b, false)), sto⟩) (set_at (call_at (cons_at rfl (cons_at rfl rfl)) t0) rfl)]
  simp [runFn, sSeq, sIf, sSet, sNew, sRet, sNil, sNx, sRetOwn, sGo, sReverse, sFor, sAppend, sExtend, lstAt, mTest, mNot, mAnd, mOr, mBool, mIf, mOp, mUn, mVar, mMap, mCons, mNil, mPure, mStrs, mCall, putSlot, hName, hTup, iRange, iSeq, ltT, leT, lenT, addT, subT, modT, fdivT, negT, absT, seqOf, mTrue, freezeAt, thaw, isBl_t, neO_bl, eqO_bl, t1, l0, l1]
theorem forR_go {g : G} {b : S} {n : Nat} (P : Nat → Sta → Prop) (H : ∀ k s, k < n → P k s → ∃ s1 s2, g (.int (k : Int)) s = some s1 ∧ b s1 = some (.next, s2) ∧ P (k + 1) s2) :
    ∀ (m k : Nat) (s : Sta), k + m = n → P k s → ∃ s', forL g b ((List.range' k m).map fun (k : Nat) => T.int (k : Int)) s = some (.next, s') ∧ P n s'
  | 0, k, s, e, p => ⟨s, rfl, by rw [← e]; exact p⟩
  | m + 1, k, s, e, p => by
    obtain ⟨s1, s2, e1, e2, p2⟩ := H k s (by omega) p
    obtain ⟨s', e3, p3⟩ := forR_go P H m (k + 1) s2 (by omega) p2
    refine ⟨s', ?_, p3⟩
    rw [List.range'_succ, List.map_cons, forL]
    simp only [e1, e2]
    exact e3
theorem forR {g : G} {b : S} {n : Nat} {s : Sta} {r : Option (C.Flow × Sta)} (hF : forL g b (rangeT n) s = r) (P : Nat → Sta → Prop) (p : P 0 s) (H : ∀ k s, k < n → P k s → ∃ s1 s2, g (.int (k : Int)) s = some s1 ∧ b s1 = some (.next, s2) ∧ P (k + 1) s2) : ∃ s', r = some (.next, s') ∧ P n s' := by
  obtain ⟨s', e, p'⟩ := forR_go P H n 0 s (by omega) p
  refine ⟨s', ?_, p'⟩
  rw [← hF, ← e]
  unfold rangeT
  rw [List.range_eq_range']
theorem law_true : m_law [scr cs] sto = some (.bl true, sto) := by
  have c0 := cell_n (cs := cs) (k := 0) (i := 0) (sto := sto) rfl
  obtain ⟨ds, hd, ed⟩ := cut16 (cs := cs)
  obtain ⟨r, h, hn, er⟩ := remark (sto := sto) (fr := cell cs 0 % 2 == 1) hd
  have f0 := fo_fm h false
  have f1 := fo_fm h true
  have e0 := forms (sto := sto) h 40 (by decide)
  have e1 := law_forms (sto := sto) h 40 (by decide)
  have n0 := fo_np h false
  have q0 := law_parts (sto := sto) f0 40 (by decide)
  have q1 := law_parts (sto := sto) f1 40 (by decide)
  have q2 := form_parts (sto := sto) f0.gn (by omega)
  have s0 := neO_same (pl_fm f0) (by decide)
  have s1 := neO_same (pl_fm f1) (by decide)
  rw [law_eq]
  unfold runFn
  rw [show ([scr cs].map (fun t => some (t, false)) ++ List.replicate (10 - [scr cs].length) none : List Slot) = [some (scr cs, false), none, none, none, none, none, none, none, none, none] from rfl]
  generalize hfr : (cell cs 0 % 2 == 1) = fr at er
  rw [seq_step (s' := ⟨[some (scr cs, false), some (.bl fr, false), none, none, none, none, none, none, none, none], sto⟩) (set_at (op_at (x := .int (cell cs 0 % 2)) (op_at (call_at (cons_at rfl (cons_at rfl rfl)) c0) rfl rfl) rfl (by rw [eqO_int, hfr])) rfl)]
  have sl : mSlice (mVar 0) (oSome (mPure (.int 2))) (oSome (mPure (.int 18))) ⟨[some (scr cs, false), some (.bl fr, false), none, none, none, none, none, none, none, none], sto⟩ = some (.lst (ds.map T.int), ⟨[some (scr cs, false), some (.bl fr, false), none, none, none, none, none, none, none, none], sto⟩) := by
    rw [← ed]; rfl
  rw [seq_step (s' := ⟨[some (scr cs, false), some (.bl fr, false), some (remT r, false), none, none, none, none, none, none, none], sto⟩) (set_at (call_at (cons_at sl (cons_at rfl rfl)) er) rfl)]
  rw [seq_step (s' := ⟨[some (scr cs, false), some (.bl fr, false), some (remT r, false), some (remT (fo r false), false), none, none, none, none, none, none], sto⟩) (set_at (call_at (cons_at rfl rfl) e0.1) rfl)]
  rw [seq_step (s' := ⟨[some (scr cs, false), some (.bl fr, false), some (remT r, false), some (remT (fo r false), false), some (remT (fo r true), false), none, none, none, none, none], sto⟩) (set_at (call_at (cons_at rfl rfl) e0.2) rfl)]
  rw [seq_step (s' := ⟨le cs fr r (np (fo r false)) none none none none, sto⟩) (set_at (call_at (cons_at rfl rfl) q0) rfl)]
  have i1 : (sIf (mOr (mTest (mOp isNT (mVar 5) (mPure .non))) (mOr (mTest (mOp isNT (mCall (m_law_parts 40) (mCons (mVar 4) mNil)) (mPure .non))) (mTest (mOp neO (mCall m_form_parts (mCons (mVar 3) mNil)) (mVar 5))))) (sRet (mPure (.bl false))) sNil) ⟨le cs fr r (np (fo r false)) none none none none, sto⟩ = some (.next, ⟨le cs fr r (np (fo r false)) none none none none, sto⟩) := by
    simp [runFn, sSeq, sIf, sSet, sNew, sRet, sNil, sNx, sRetOwn, sGo, sReverse, sFor, sAppend, sExtend, lstAt, mTest, mNot, mAnd, mOr, mBool, mIf, mOp, mUn, mVar, mMap, mCons, mNil, mPure, mStrs, mCall, putSlot, hName, hTup, iRange, iSeq, ltT, leT, lenT, addT, subT, modT, fdivT, negT, absT, seqOf, mTrue, freezeAt, thaw, isn_int, q1, q2, neO_i]
  rw [seq_step i1]
  have i2 : (sIf (mOr (mTest (mOp neO (mVar 3) (mCall (m_law_plain 40) (mCons (mVar 2) mNil)))) (mTest (mOp neO (mVar 4) (mCall (m_law_against 40) (mCons (mVar 2) mNil))))) (sRet (mPure (.bl false))) sNil) ⟨le cs fr r (np (fo r false)) none none none none, sto⟩ = some (.next, ⟨le cs fr r (np (fo r false)) none none none none, sto⟩) := by
    simp [runFn, sSeq, sIf, sSet, sNew, sRet, sNil, sNx, sRetOwn, sGo, sReverse, sFor, sAppend, sExtend, lstAt, mTest, mNot, mAnd, mOr, mBool, mIf, mOp, mUn, mVar, mMap, mCons, mNil, mPure, mStrs, mCall, putSlot, hName, hTup, iRange, iSeq, ltT, leT, lenT, addT, subT, modT, fdivT, negT, absT, seqOf, mTrue, freezeAt, thaw, e1.1, e1.2, s0, s1]
  rw [seq_step i2]
  unfold sSeq sFor
  rw [show iRange (mPure (.int 8)) ⟨le cs fr r (np (fo r false)) none none none none, sto⟩ = some (rangeT 8, ⟨le cs fr r (np (fo r false)) none none none none, sto⟩) from rfl]
  dsimp only
  generalize hF : forL (hName 6) lbody _ _ = res
  obtain ⟨s', rfl, o6, o7, o8, o9, rfl⟩ := forR hF (fun _ st => ∃ o6 o7 o8 o9 : Slot, st = ⟨le cs fr r (np (fo r false)) o6 o7 o8 o9, sto⟩) ⟨none, none, none, none, rfl⟩ (by
    rintro k s hk ⟨o6, o7, o8, o9, rfl⟩
    obtain ⟨p7, p8, p9, e⟩ := lbody_at (cs := cs) (sto := sto) (fr := fr) (n := np (fo r false)) (o7 := o7) (o8 := o8) (o9 := o9) hk h
    exact ⟨_, _, rfl, e, _, _, _, _, rfl⟩)
  rfl
end
end K
end
noncomputable section
set_option linter.all false
set_option maxRecDepth 100000
set_option maxHeartbeats 1000000
namespace D
open PySem L2 C
noncomputable def top (i : Nat) : Stmt := PySem.Challenge.pw_calm_k40_plain_and_against_forms.main.body.getD i (.Pass ⟨0, 0, 0, 0⟩)
noncomputable section
variable {P : Program} {w : World} {K : PySem.W.Frag} {mg : Str → Option Value} {base : Heap} {f : Addr} {fd : FuncData}
noncomputable abbrev s_sum_of : Stmt := top 1
theorem sc_sum_of : FnScope ["number", "pairs", "times", "box", "many", "parts"] ["number", "pairs"] (defScope s_sum_of) := ⟨rfl, rfl, rfl, by decide +kernel, rfl, by decide +kernel, by decide +kernel⟩
theorem fo_sum_of (F : Fun K "sum_of" "sum_of" s_sum_of f fd) (b_sorted : mg "sorted" = none) (b_tuple : mg "tuple" = none) : FnOk P w K mg base CX0 1 f fd ["number", "pairs"] (spF K (["number", "pairs"] : List Str).length _root_.K.m_sum_of) := by
  refine fn_tree (N := ["number", "pairs", "times", "box", "many", "parts"]) F sc_sum_of (by decide)  fun cdv A outer s H E B hr => ?_
  have hu := hu_of hr
  have hq := hr.units
  have nd : (["number", "pairs", "times", "box", "many", "parts"] : List Str).Nodup := sc_sum_of.nd
  refine ts_cons ?_ ?_
  · exact ts_new 2 (ps_set nd rfl (Or.inr rfl) tf_dnew) (fun _ _ _ h => h)
  · refine ts_cons ?_ ?_
    · refine ts_for ?_ ?_ ?_ ?_ ?_ ?_
      · exact PassesOwn.never
      · exact rfl
      · exact ti_seq (te_var 1 (pv 1))
      · exact tg_tup (is := [3, 4]) (pg_tup rfl (pgs_cons (pg_name nd rfl (Or.inl rfl)) (pgs_cons (pg_name nd rfl (Or.inl rfl)) pgs_nil)))
      · exact ts_one (ts_ownPut 2 hu (pv 2) (te_var 3 (pv 3)) (te_op opT_add (te_ownGet 2 hu (pv 2) (te_var 3 (pv 3)) te_int ⟨rfl, rfl, rfl, rfl⟩) (te_var 4 (pv 4))) rfl)
      · exact sz_seq
    · refine ts_cons ?_ ?_
      · exact ts_set 5 (ps_comp (N := ["box", "times"]) ⟨rfl, rfl, by decide +kernel, by decide +kernel⟩ rfl (ti_seq (te_of_cb (pe_callB (callT_sorted (by rfl)) (by rfl) b_sorted PyProof.Rows.boot_sorted (ta_cons (te_var 2 (pv 2)) ta_nil)))) (fun C s₀ H₀ ex pn => pgE fun B => (tg_name 0 (pg_name (show (["box", "times"] : List Str).Nodup by decide +kernel) rfl (Or.inl rfl)))) (fun C s₀ H₀ ex pn => (ptsE_one fun B => (tc_cmp (opT_ne hq) (te_ix hu (te_var 1 (pv 1)) (te_var 0 (pv 0)) (fun _ _ => rfl)) te_int (nomark _)))) (fun C s₀ H₀ ex pn => peE fun B => (te_tup (ta_cons (te_var 0 (pv 0)) (ta_cons (te_ix hu (te_var 1 (pv 1)) (te_var 0 (pv 0)) (fun _ _ => rfl)) ta_nil)) (le1000 (len_cons (len_cons len_nil)) (by decide)))) (pg_name nd rfl (Or.inl rfl)) rfl) (fun σ H Q h => comp_f ⟨rfl, fun j k h => match j, h with | 0, h => (by cases h; exact ⟨_, rfl, rfl, ⟨.inl rfl, .inr (.inl rfl), .inl rfl⟩⟩) | _ + 1, h => (by cases h)⟩ sz_seq (f_of_t h))
      · exact ts_one (ts_ret (te_tup (ta_cons (te_var 0 (pv 0)) (ta_cons (te_of_cb (pe_callTy callT_tuple (by rfl) b_tuple PyProof.Rows.boot_tuple (ta_cons (te_var 5 (pv 5)) ta_nil))) ta_nil)) (le1000 (len_cons (len_cons len_nil)) (by decide))))
theorem ok_sum_of (F : Fun K "sum_of" "sum_of" s_sum_of f fd) (hmg : mg "sum_of" = some (.ref f)) (b_sorted : mg "sorted" = none) (b_tuple : mg "tuple" = none) : DefOk P w K mg base "sum_of" 1 ["number", "pairs"] _root_.K.m_sum_of :=
  ⟨f, fd, fo_sum_of F b_sorted b_tuple, F.binds (ps := ["number", "pairs"]) fun _ _ _ _ _ _ us hl => match us, hl with | [_, _], _ => rfl, F.kp, hmg⟩
noncomputable abbrev s_plus : Stmt := top 2
theorem sc_plus : FnScope ["one", "other"] ["one", "other"] (defScope s_plus) := ⟨rfl, rfl, rfl, by decide +kernel, rfl, by decide +kernel, by decide +kernel⟩
theorem fo_plus (F : Fun K "plus" "plus" s_plus f fd) (d_sum_of : DefOk P w K mg base "sum_of" 1 ["number", "pairs"] (_root_.K.m_sum_of)) : FnOk P w K mg base CX0 2 f fd ["one", "other"] (spF K (["one", "other"] : List Str).length _root_.K.m_plus) := by
  have d_sum_of := d_sum_of.mono (show 1 ≤ 1 by first | decide | omega)
  refine fn_tree (N := ["one", "other"]) F sc_plus (by decide)  fun cdv A outer s H E B hr => ?_
  have hu := hu_of hr
  have hq := hr.units
  have nd : (["one", "other"] : List Str).Nodup := sc_plus.nd
  refine ts_one ?_
  · refine ts_ret ?_
    · refine te_callD d_sum_of ?_ ?_ ?_ ?_
      · exact hr
      · exact by rfl
      · exact ta_cons (te_op opT_add (te_ix hu (te_var 0 (pv 0)) te_int (fun _ _ => rfl)) (te_ix hu (te_var 1 (pv 1)) te_int (fun _ _ => rfl))) (ta_cons (te_op opT_add (te_ix hu (te_var 0 (pv 0)) te_int (fun _ _ => rfl)) (te_ix hu (te_var 1 (pv 1)) te_int (fun _ _ => rfl))) ta_nil)
      · exact eq_cons (eq_cons eq_nil)
theorem ok_plus (F : Fun K "plus" "plus" s_plus f fd) (hmg : mg "plus" = some (.ref f)) (d_sum_of : DefOk P w K mg base "sum_of" 1 ["number", "pairs"] (_root_.K.m_sum_of)) : DefOk P w K mg base "plus" 2 ["one", "other"] _root_.K.m_plus :=
  ⟨f, fd, fo_plus F d_sum_of, F.binds (ps := ["one", "other"]) fun _ _ _ _ _ _ us hl => match us, hl with | [_, _], _ => rfl, F.kp, hmg⟩
noncomputable abbrev s_by : Stmt := top 4
theorem sc_by : FnScope ["one", "times"] ["one", "times"] (defScope s_by) := ⟨rfl, rfl, rfl, by decide +kernel, rfl, by decide +kernel, by decide +kernel⟩
theorem fo_by (F : Fun K "by" "by" s_by f fd) (d_sum_of : DefOk P w K mg base "sum_of" 1 ["number", "pairs"] (_root_.K.m_sum_of)) : FnOk P w K mg base CX0 2 f fd ["one", "times"] (spF K (["one", "times"] : List Str).length _root_.K.m_by) := by
  have d_sum_of := d_sum_of.mono (show 1 ≤ 1 by first | decide | omega)
  refine fn_tree (N := ["one", "times"]) F sc_by (by decide)  fun cdv A outer s H E B hr => ?_
  have hu := hu_of hr
  have hq := hr.units
  have nd : (["one", "times"] : List Str).Nodup := sc_by.nd
  refine ts_one ?_
  · refine ts_ret ?_
    · refine te_callD d_sum_of ?_ ?_ ?_ ?_
      · exact hr
      · exact by rfl
      · refine ta_cons ?_ ?_
        · exact te_op opT_mul (te_ix hu (te_var 0 (pv 0)) te_int (fun _ _ => rfl)) (te_var 1 (pv 1))
        · refine ta_cons ?_ ?_
          · refine te_fresh ?_
            · refine tf_comp (N := ["box", "many", "times"]) ?_ ?_ ?_ ?_ ?_ ?_ ?_ ?_
              · exact ⟨rfl, fun j k h => match j, h with | 0, h => (by cases h; exact ⟨_, rfl, rfl, ⟨.inl rfl, .inr (.inl rfl), .inl rfl⟩⟩) | _ + 1, h => (by cases h)⟩
              · exact ⟨rfl, rfl, by decide +kernel, by decide +kernel⟩
              · exact rfl
              · exact ti_seq (te_ix hu (te_var 0 (pv 0)) te_int (fun _ _ => rfl))
              · exact sz_seq
              · exact fun C s₀ H₀ ex pn => pgE fun B => (tg_tup (is := [0, 1]) (pg_tup rfl (pgs_cons (pg_name (show (["box", "many", "times"] : List Str).Nodup by decide +kernel) rfl (Or.inl rfl)) (pgs_cons (pg_name (show (["box", "many", "times"] : List Str).Nodup by decide +kernel) rfl (Or.inl rfl)) pgs_nil))))
              · exact fun C s₀ H₀ ex pn => ptsE_nil
              · exact fun C s₀ H₀ ex pn => peE fun B => (te_tup (ta_cons (te_var 0 (pv 0)) (ta_cons (te_op opT_mul (te_var 1 (pv 1)) (te_var 2 (pv 2))) ta_nil)) (le1000 (len_cons (len_cons len_nil)) (by decide)))
          · exact ta_nil
      · exact eq_cons (eq_cons eq_nil)
theorem ok_by (F : Fun K "by" "by" s_by f fd) (hmg : mg "by" = some (.ref f)) (d_sum_of : DefOk P w K mg base "sum_of" 1 ["number", "pairs"] (_root_.K.m_sum_of)) : DefOk P w K mg base "by" 2 ["one", "times"] _root_.K.m_by :=
  ⟨f, fd, fo_by F d_sum_of, F.binds (ps := ["one", "times"]) fun _ _ _ _ _ _ us hl => match us, hl with | [_, _], _ => rfl, F.kp, hmg⟩
noncomputable abbrev s_minus : Stmt := top 3
theorem sc_minus : FnScope ["one", "other"] ["one", "other"] (defScope s_minus) := ⟨rfl, rfl, rfl, by decide +kernel, rfl, by decide +kernel, by decide +kernel⟩
theorem fo_minus (F : Fun K "minus" "minus" s_minus f fd) (d_by : DefOk P w K mg base "by" 2 ["one", "times"] (_root_.K.m_by)) (d_plus : DefOk P w K mg base "plus" 2 ["one", "other"] (_root_.K.m_plus)) : FnOk P w K mg base CX0 3 f fd ["one", "other"] (spF K (["one", "other"] : List Str).length _root_.K.m_minus) := by
  have d_by := d_by.mono (show 2 ≤ 2 by first | decide | omega)
  have d_plus := d_plus.mono (show 2 ≤ 2 by first | decide | omega)
  refine fn_tree (N := ["one", "other"]) F sc_minus (by decide)  fun cdv A outer s H E B hr => ?_
  have hu := hu_of hr
  have hq := hr.units
  have nd : (["one", "other"] : List Str).Nodup := sc_minus.nd
  exact ts_one (ts_ret (te_callD d_plus hr (by rfl) (ta_cons (te_var 0 (pv 0)) (ta_cons (te_callD d_by hr (by rfl) (ta_cons (te_var 1 (pv 1)) (ta_cons (te_un unT_neg te_int) ta_nil)) (eq_cons (eq_cons eq_nil))) ta_nil)) (eq_cons (eq_cons eq_nil))))
theorem ok_minus (F : Fun K "minus" "minus" s_minus f fd) (hmg : mg "minus" = some (.ref f)) (d_by : DefOk P w K mg base "by" 2 ["one", "times"] (_root_.K.m_by)) (d_plus : DefOk P w K mg base "plus" 2 ["one", "other"] (_root_.K.m_plus)) : DefOk P w K mg base "minus" 3 ["one", "other"] _root_.K.m_minus :=
  ⟨f, fd, fo_minus F d_by d_plus, F.binds (ps := ["one", "other"]) fun _ _ _ _ _ _ us hl => match us, hl with | [_, _], _ => rfl, F.kp, hmg⟩
noncomputable abbrev s_value : Stmt := top 5
theorem sc_value : FnScope ["one", "book"] ["one", "book"] (defScope s_value) := ⟨rfl, rfl, rfl, by decide +kernel, rfl, by decide +kernel, by decide +kernel⟩
theorem fo_value (F : Fun K "value" "value" s_value f fd) (b_sum : mg "sum" = none) : FnOk P w K mg base CX0 1 f fd ["one", "book"] (spF K (["one", "book"] : List Str).length _root_.K.m_value) := by
  refine fn_tree (N := ["one", "book"]) F sc_value (by decide)  fun cdv A outer s H E B hr => ?_
  have hu := hu_of hr
  have hq := hr.units
  have nd : (["one", "book"] : List Str).Nodup := sc_value.nd
  refine ts_one ?_
  · refine ts_ret ?_
    · refine te_op ?_ ?_ ?_
      · exact opT_add
      · exact te_ix hu (te_var 0 (pv 0)) te_int (fun _ _ => rfl)
      · refine te_of_cb ?_
        · refine pe_callB (callT_sum (by rfl)) ?_ ?_ PyProof.Rows.boot_sum ?_
          · exact by rfl
          · exact b_sum
          · refine ta_cons ?_ ?_
            · refine te_fresh ?_
              · refine tf_comp (N := ["box", "times", "book"]) ?_ ?_ ?_ ?_ ?_ ?_ ?_ ?_
                · exact ⟨rfl, fun j k h => match j, h with | 0, h => (by cases h; exact ⟨_, rfl, rfl, ⟨.inl rfl, .inr (.inl rfl), .inl rfl⟩⟩) | _ + 1, h => (by cases h)⟩
                · exact ⟨rfl, rfl, by decide +kernel, by decide +kernel⟩
                · exact rfl
                · exact ti_seq (te_ix hu (te_var 0 (pv 0)) te_int (fun _ _ => rfl))
                · exact sz_seq
                · exact fun C s₀ H₀ ex pn => pgE fun B => (tg_tup (is := [0, 1]) (pg_tup rfl (pgs_cons (pg_name (show (["box", "times", "book"] : List Str).Nodup by decide +kernel) rfl (Or.inl rfl)) (pgs_cons (pg_name (show (["box", "times", "book"] : List Str).Nodup by decide +kernel) rfl (Or.inl rfl)) pgs_nil))))
                · exact fun C s₀ H₀ ex pn => ptsE_nil
                · exact fun C s₀ H₀ ex pn => peE fun B => (te_op opT_mul (te_var 1 (pv 1)) (te_ix hu (te_var 2 (pv 2)) (te_var 0 (pv 0)) (fun _ _ => rfl)))
            · exact ta_nil
theorem ok_value (F : Fun K "value" "value" s_value f fd) (hmg : mg "value" = some (.ref f)) (b_sum : mg "sum" = none) : DefOk P w K mg base "value" 1 ["one", "book"] _root_.K.m_value :=
  ⟨f, fd, fo_value F b_sum, F.binds (ps := ["one", "book"]) fun _ _ _ _ _ _ us hl => match us, hl with | [_, _], _ => rfl, F.kp, hmg⟩
noncomputable abbrev s_holds : Stmt := top 7
theorem sc_holds : FnScope ["remark", "book", "places", "kind"] ["remark", "book", "places"] (defScope s_holds) := ⟨rfl, rfl, rfl, by decide +kernel, rfl, by decide +kernel, by decide +kernel⟩
theorem fo_holds (F : Fun K "holds" "holds" s_holds f fd) {nn : Nat} (d_any_is : DefOk P w K mg base "any_is" (1 + nn) ["wanted", "members", "book", "places"] (_root_.K.m_any_is nn)) (d_holds : DefOk P w K mg base "holds" (1 + nn) ["remark", "book", "places"] (_root_.K.m_holds nn)) (d_value : DefOk P w K mg base "value" 1 ["one", "book"] (_root_.K.m_value)) : FnOk P w K mg base CX0 (1 + nn + 1) f fd ["remark", "book", "places"] (spF K (["remark", "book", "places"] : List Str).length (_root_.K.m_holds (nn + 1))) := by
  have d_any_is := d_any_is.mono (show (1 + nn) ≤ (1 + nn) by first | decide | omega)
  have d_holds := d_holds.mono (show (1 + nn) ≤ (1 + nn) by first | decide | omega)
  have d_value := d_value.mono (show 1 ≤ (1 + nn) by first | decide | omega)
  refine fn_tree (N := ["remark", "book", "places", "kind"]) F sc_holds (by decide)  fun cdv A outer s H E B hr => ?_
  have hu := hu_of hr
  have hq := hr.units
  have nd : (["remark", "book", "places", "kind"] : List Str).Nodup := sc_holds.nd
  refine ts_cons ?_ ?_
  · exact ts_set 3 (ps_set nd rfl (Or.inl rfl) (te_ix hu (te_var 0 (pv 0)) te_int (fun _ _ => rfl))) (fun _ _ _ h => h)
  · refine ts_cons ?_ ?_
    · exact ts_if (tc_cmp (opT_eq hq) (te_var 3 (pv 3)) te_str (nomark _))   (ts_one (ts_ret (te_cmp opT_le (te_callD d_value hr (by rfl) (ta_cons (te_ix hu (te_var 0 (pv 0)) te_int (fun _ _ => rfl)) (ta_cons (te_var 1 (pv 1)) ta_nil)) (eq_cons (eq_cons eq_nil))) te_int (nomark _))))   ts_nil
    · refine ts_cons ?_ ?_
      · refine ts_if ?_ ?_ ?_
        · exact tc_cmp (opT_eq hq) (te_var 3 (pv 3)) te_str (nomark _)
        · exact ts_one (ts_ret (te_cmp (opT_eq hq) (te_op opT_mod (te_callD d_value hr (by rfl) (ta_cons (te_ix hu (te_var 0 (pv 0)) te_int (fun _ _ => rfl)) (ta_cons (te_var 1 (pv 1)) ta_nil)) (eq_cons (eq_cons eq_nil))) (te_ix hu (te_var 0 (pv 0)) te_int (fun _ _ => rfl))) te_int (nomark _)))
        · exact ts_nil
      · refine ts_cons ?_ ?_
        · exact ts_if (tc_cmp (opT_eq hq) (te_var 3 (pv 3)) te_str (nomark _))   (ts_one (ts_ret (te_cmp (opT_eq hq) (te_ix hu (te_var 2 (pv 2)) (te_ix hu (te_var 0 (pv 0)) te_int (fun _ _ => rfl)) (fun _ _ => rfl)) (te_ix hu (te_var 0 (pv 0)) te_int (fun _ _ => rfl)) (nomark _))))   ts_nil
        · refine ts_cons ?_ ?_
          · exact ts_if (tc_cmp (opT_eq hq) (te_var 3 (pv 3)) te_str (nomark _))   (ts_one (ts_ret (te_not (te_callD d_holds hr (by rfl) (ta_cons (te_ix hu (te_var 0 (pv 0)) te_int (fun _ _ => rfl)) (ta_cons (te_var 1 (pv 1)) (ta_cons (te_var 2 (pv 2)) ta_nil))) (eq_cons (eq_cons (eq_cons eq_nil)))))))   ts_nil
          · refine ts_cons ?_ ?_
            · refine ts_if ?_ ?_ ?_
              · exact tc_cmp (opT_eq hq) (te_var 3 (pv 3)) te_str (nomark _)
              · exact ts_one (ts_ret (te_not (te_callD d_any_is hr (by rfl) (ta_cons te_bl (ta_cons (te_ix hu (te_var 0 (pv 0)) te_int (fun _ _ => rfl)) (ta_cons (te_var 1 (pv 1)) (ta_cons (te_var 2 (pv 2)) ta_nil)))) (eq_cons (eq_cons (eq_cons (eq_cons eq_nil)))))))
              · exact ts_nil
            · exact ts_one (ts_ret (te_callD d_any_is hr (by rfl) (ta_cons te_bl (ta_cons (te_ix hu (te_var 0 (pv 0)) te_int (fun _ _ => rfl)) (ta_cons (te_var 1 (pv 1)) (ta_cons (te_var 2 (pv 2)) ta_nil)))) (eq_cons (eq_cons (eq_cons (eq_cons eq_nil))))))
theorem ok_holds (F : Fun K "holds" "holds" s_holds f fd) (hmg : mg "holds" = some (.ref f)) {nn : Nat} (d_any_is : DefOk P w K mg base "any_is" (1 + nn) ["wanted", "members", "book", "places"] (_root_.K.m_any_is nn)) (d_holds : DefOk P w K mg base "holds" (1 + nn) ["remark", "book", "places"] (_root_.K.m_holds nn)) (d_value : DefOk P w K mg base "value" 1 ["one", "book"] (_root_.K.m_value)) : DefOk P w K mg base "holds" (1 + nn + 1) ["remark", "book", "places"] (_root_.K.m_holds (nn + 1)) :=
  ⟨f, fd, fo_holds F d_any_is d_holds d_value, F.binds (ps := ["remark", "book", "places"]) fun _ _ _ _ _ _ us hl => match us, hl with | [_, _, _], _ => rfl, F.kp, hmg⟩
noncomputable abbrev s_any_is : Stmt := top 8
theorem sc_any_is : FnScope ["wanted", "members", "book", "places", "member"] ["wanted", "members", "book", "places"] (defScope s_any_is) := ⟨rfl, rfl, rfl, by decide +kernel, rfl, by decide +kernel, by decide +kernel⟩
theorem fo_any_is (F : Fun K "any_is" "any_is" s_any_is f fd) {nn : Nat} (d_holds : DefOk P w K mg base "holds" (1 + nn) ["remark", "book", "places"] (_root_.K.m_holds nn)) : FnOk P w K mg base CX0 (1 + nn + 1) f fd ["wanted", "members", "book", "places"] (spF K (["wanted", "members", "book", "places"] : List Str).length (_root_.K.m_any_is (nn + 1))) := by
  have d_holds := d_holds.mono (show (1 + nn) ≤ (1 + nn) by first | decide | omega)
  refine fn_tree (N := ["wanted", "members", "book", "places", "member"]) F sc_any_is (by decide)  fun cdv A outer s H E B hr => ?_
  have hu := hu_of hr
  have hq := hr.units
  have nd : (["wanted", "members", "book", "places", "member"] : List Str).Nodup := sc_any_is.nd
  refine ts_cons ?_ ?_
  · refine ts_for ?_ ?_ ?_ ?_ ?_ ?_
    · exact PassesOwn.never
    · exact rfl
    · exact ti_seq (te_var 1 (pv 1))
    · exact tg_name 4 (pg_name nd rfl (Or.inl rfl))
    · exact ts_one (ts_if (tc_cmp (opT_eq hq) (te_callD d_holds hr (by rfl) (ta_cons (te_var 4 (pv 4)) (ta_cons (te_var 2 (pv 2)) (ta_cons (te_var 3 (pv 3)) ta_nil))) (eq_cons (eq_cons (eq_cons eq_nil)))) (te_var 0 (pv 0)) (nomark _))   (ts_one (ts_ret te_bl))   ts_nil)
    · exact sz_seq
  · exact ts_one (ts_ret te_bl)
theorem ok_any_is (F : Fun K "any_is" "any_is" s_any_is f fd) (hmg : mg "any_is" = some (.ref f)) {nn : Nat} (d_holds : DefOk P w K mg base "holds" (1 + nn) ["remark", "book", "places"] (_root_.K.m_holds nn)) : DefOk P w K mg base "any_is" (1 + nn + 1) ["wanted", "members", "book", "places"] (_root_.K.m_any_is (nn + 1)) :=
  ⟨f, fd, fo_any_is F d_holds, F.binds (ps := ["wanted", "members", "book", "places"]) fun _ _ _ _ _ _ us hl => match us, hl with | [_, _, _, _], _ => rfl, F.kp, hmg⟩
theorem okg_holds {f_holds : Addr} {fd_holds : FuncData} {f_any_is : Addr} {fd_any_is : FuncData} (F_holds : Fun K "holds" "holds" s_holds f_holds fd_holds) (h_holds : mg "holds" = some (.ref f_holds)) (F_any_is : Fun K "any_is" "any_is" s_any_is f_any_is fd_any_is) (h_any_is : mg "any_is" = some (.ref f_any_is)) (d_value : DefOk P w K mg base "value" 1 ["one", "book"] _root_.K.m_value) : ∀ nn : Nat, DefOk P w K mg base "holds" (1 + nn) ["remark", "book", "places"] (_root_.K.m_holds nn) ∧ DefOk P w K mg base "any_is" (1 + nn) ["wanted", "members", "book", "places"] (_root_.K.m_any_is nn)
  | 0 => ⟨DefOk.zero F_holds h_holds (F_holds.binds (ps := ["remark", "book", "places"]) fun _ _ _ _ _ _ us hl => match us, hl with | [_, _, _], _ => rfl), DefOk.zero F_any_is h_any_is (F_any_is.binds (ps := ["wanted", "members", "book", "places"]) fun _ _ _ _ _ _ us hl => match us, hl with | [_, _, _, _], _ => rfl)⟩
  | nn + 1 => by
    have ih := okg_holds F_holds h_holds F_any_is h_any_is d_value nn
    obtain ⟨d_holds, d_any_is⟩ := ih
    exact ⟨ok_holds F_holds h_holds d_any_is d_holds d_value, ok_any_is F_any_is h_any_is d_holds⟩
noncomputable abbrev s_members_of : Stmt := top 9
theorem sc_members_of : FnScope ["remark"] ["remark"] (defScope s_members_of) := ⟨rfl, rfl, rfl, by decide +kernel, rfl, by decide +kernel, by decide +kernel⟩
theorem fo_members_of (F : Fun K "members_of" "members_of" s_members_of f fd) : FnOk P w K mg base CX0 1 f fd ["remark"] (spF K (["remark"] : List Str).length _root_.K.m_members_of) := by
  refine fn_tree (N := ["remark"]) F sc_members_of (by decide)  fun cdv A outer s H E B hr => ?_
  have hu := hu_of hr
  have hq := hr.units
  have nd : (["remark"] : List Str).Nodup := sc_members_of.nd
  refine ts_cons ?_ ?_
  · exact ts_if (tc_cmp (opT_eq hq) (te_ix hu (te_var 0 (pv 0)) te_int (fun _ _ => rfl)) te_str (nomark _))   (ts_one (ts_ret (te_tup (ta_cons (te_ix hu (te_var 0 (pv 0)) te_int (fun _ _ => rfl)) ta_nil) (le1000 (len_cons len_nil) (by decide)))))   ts_nil
  · refine ts_one ?_
    · exact ts_ret (te_ifExp (tc_cmp (opT_in hq) (te_ix hu (te_var 0 (pv 0)) te_int (fun _ _ => rfl)) (te_tup (ta_cons te_str (ta_cons te_str ta_nil)) (le1000 (len_cons (len_cons len_nil)) (by decide))) rfl) (te_ix hu (te_var 0 (pv 0)) te_int (fun _ _ => rfl)) (te_tup ta_nil (le1000 len_nil (by decide))))
theorem ok_members_of (F : Fun K "members_of" "members_of" s_members_of f fd) (hmg : mg "members_of" = some (.ref f)) : DefOk P w K mg base "members_of" 1 ["remark"] _root_.K.m_members_of :=
  ⟨f, fd, fo_members_of F, F.binds (ps := ["remark"]) fun _ _ _ _ _ _ us hl => match us, hl with | [_], _ => rfl, F.kp, hmg⟩
noncomputable abbrev s_parts_of : Stmt := top 10
theorem sc_parts_of : FnScope ["remark", "parts", "waiting", "part"] ["remark"] (defScope s_parts_of) := ⟨rfl, rfl, rfl, by decide +kernel, rfl, by decide +kernel, by decide +kernel⟩
theorem fo_parts_of (F : Fun K "parts_of" "parts_of" s_parts_of f fd) (d_members_of : DefOk P w K mg base "members_of" 1 ["remark"] (_root_.K.m_members_of)) (b_len : mg "len" = none) : FnOk P w K mg base CX0 2 f fd ["remark"] (spF K (["remark"] : List Str).length _root_.K.m_parts_of) := by
  have d_members_of := d_members_of.mono (show 1 ≤ 1 by first | decide | omega)
  refine fn_tree (N := ["remark", "parts", "waiting", "part"]) F sc_parts_of (by decide)  fun cdv A outer s H E B hr => ?_
  have hu := hu_of hr
  have hq := hr.units
  have nd : (["remark", "parts", "waiting", "part"] : List Str).Nodup := sc_parts_of.nd
  refine ts_cons ?_ ?_
  · exact ts_new 1 (ps_set nd rfl (Or.inl rfl) (tf_lst ta_nil (le1000 len_nil (by decide)))) (fun _ _ _ h => h)
  · refine ts_cons ?_ ?_
    · exact ts_new 2 (ps_set nd rfl (Or.inl rfl) (tf_lst (ta_cons (te_var 0 (pv 0)) ta_nil) (le1000 (len_cons len_nil) (by decide)))) (fun _ _ _ h => h)
    · refine ts_cons ?_ ?_
      · refine ts_while _ ?_ ?_ ?_
        · exact PassesOwn.never
        · exact tc_cmp opT_gt (te_ownLen 2 b_len rfl (pv 2)) te_int (nomark _)
        · refine ts_cons ?_ ?_
          · exact ts_pop 2 3 (ps_asg (pe_bm0 PySem.F.plainAttrs_list PySem.F.slot_list_pop PySem.F.type_list_pop mt_pop (pv 2)) (pg_name nd rfl (Or.inl rfl)))
          · refine ts_cons ?_ ?_
            · exact ts_append 1 (ps_expr (pe_bm PySem.F.plainAttrs_list PySem.F.slot_list_append PySem.F.type_list_append mt_append (pv 1) (pa_cons (te_var 3 (pv 3)) pa_nil)))
            · exact ts_one (ts_extend 2 (ps_expr (pe_bm PySem.F.plainAttrs_list PySem.F.slot_list_extend PySem.F.type_list_extend mt_extendS (pv 2) (pa_cons (te_revT (te_callD d_members_of hr (by rfl) (ta_cons (te_var 3 (pv 3)) ta_nil) (eq_cons eq_nil))) pa_nil))))
      · exact ts_one (ts_ret (te_var 1 (pv 1)))
theorem ok_parts_of (F : Fun K "parts_of" "parts_of" s_parts_of f fd) (hmg : mg "parts_of" = some (.ref f)) (d_members_of : DefOk P w K mg base "members_of" 1 ["remark"] (_root_.K.m_members_of)) (b_len : mg "len" = none) : DefOk P w K mg base "parts_of" 2 ["remark"] _root_.K.m_parts_of :=
  ⟨f, fd, fo_parts_of F d_members_of b_len, F.binds (ps := ["remark"]) fun _ _ _ _ _ _ us hl => match us, hl with | [_], _ => rfl, F.kp, hmg⟩
noncomputable abbrev s_parts_in : Stmt := top 11
theorem sc_parts_in : FnScope ["remark"] ["remark"] (defScope s_parts_in) := ⟨rfl, rfl, rfl, by decide +kernel, rfl, by decide +kernel, by decide +kernel⟩
theorem fo_parts_in (F : Fun K "parts_in" "parts_in" s_parts_in f fd) (d_parts_of : DefOk P w K mg base "parts_of" 2 ["remark"] (_root_.K.m_parts_of)) (b_len : mg "len" = none) : FnOk P w K mg base CX0 3 f fd ["remark"] (spF K (["remark"] : List Str).length _root_.K.m_parts_in) := by
  have d_parts_of := d_parts_of.mono (show 2 ≤ 2 by first | decide | omega)
  refine fn_tree (N := ["remark"]) F sc_parts_in (by decide)  fun cdv A outer s H E B hr => ?_
  have hu := hu_of hr
  have hq := hr.units
  have nd : (["remark"] : List Str).Nodup := sc_parts_in.nd
  exact ts_one (ts_ret (te_of_cb (pe_callB callT_len (by rfl) b_len PySem.boot_len (ta_cons (te_callD d_parts_of hr (by rfl) (ta_cons (te_var 0 (pv 0)) ta_nil) (eq_cons eq_nil)) ta_nil))))
theorem ok_parts_in (F : Fun K "parts_in" "parts_in" s_parts_in f fd) (hmg : mg "parts_in" = some (.ref f)) (d_parts_of : DefOk P w K mg base "parts_of" 2 ["remark"] (_root_.K.m_parts_of)) (b_len : mg "len" = none) : DefOk P w K mg base "parts_in" 3 ["remark"] _root_.K.m_parts_in :=
  ⟨f, fd, fo_parts_in F d_parts_of b_len, F.binds (ps := ["remark"]) fun _ _ _ _ _ _ us hl => match us, hl with | [_], _ => rfl, F.kp, hmg⟩
noncomputable abbrev s_form_true : Stmt := top 14
theorem sc_form_true : FnScope ["form", "book"] ["form", "book"] (defScope s_form_true) := ⟨rfl, rfl, rfl, by decide +kernel, rfl, by decide +kernel, by decide +kernel⟩
theorem fo_form_true (F : Fun K "form_true" "form_true" s_form_true f fd) (d_holds : DefOk P w K mg base "holds" 41 ["remark", "book", "places"] (_root_.K.m_holds 40)) : FnOk P w K mg base CX0 42 f fd ["form", "book"] (spF K (["form", "book"] : List Str).length _root_.K.m_form_true) := by
  have d_holds := d_holds.mono (show 41 ≤ 41 by first | decide | omega)
  refine fn_tree (N := ["form", "book"]) F sc_form_true (by decide)  fun cdv A outer s H E B hr => ?_
  have hu := hu_of hr
  have hq := hr.units
  have nd : (["form", "book"] : List Str).Nodup := sc_form_true.nd
  exact ts_one (ts_ret (te_callD d_holds hr (by rfl) (ta_cons (te_var 0 (pv 0)) (ta_cons (te_var 1 (pv 1)) (ta_cons (te_fresh tf_dnew) ta_nil))) (eq_cons (eq_cons (eq_cons eq_nil)))))
theorem ok_form_true (F : Fun K "form_true" "form_true" s_form_true f fd) (hmg : mg "form_true" = some (.ref f)) (d_holds : DefOk P w K mg base "holds" 41 ["remark", "book", "places"] (_root_.K.m_holds 40)) : DefOk P w K mg base "form_true" 42 ["form", "book"] _root_.K.m_form_true :=
  ⟨f, fd, fo_form_true F d_holds, F.binds (ps := ["form", "book"]) fun _ _ _ _ _ _ us hl => match us, hl with | [_, _], _ => rfl, F.kp, hmg⟩
noncomputable abbrev s_form_parts : Stmt := top 15
theorem sc_form_parts : FnScope ["form"] ["form"] (defScope s_form_parts) := ⟨rfl, rfl, rfl, by decide +kernel, rfl, by decide +kernel, by decide +kernel⟩
theorem fo_form_parts (F : Fun K "form_parts" "form_parts" s_form_parts f fd) (d_parts_in : DefOk P w K mg base "parts_in" 3 ["remark"] (_root_.K.m_parts_in)) : FnOk P w K mg base CX0 4 f fd ["form"] (spF K (["form"] : List Str).length _root_.K.m_form_parts) := by
  have d_parts_in := d_parts_in.mono (show 3 ≤ 3 by first | decide | omega)
  refine fn_tree (N := ["form"]) F sc_form_parts (by decide)  fun cdv A outer s H E B hr => ?_
  have hu := hu_of hr
  have hq := hr.units
  have nd : (["form"] : List Str).Nodup := sc_form_parts.nd
  exact ts_one (ts_ret (te_callD d_parts_in hr (by rfl) (ta_cons (te_var 0 (pv 0)) ta_nil) (eq_cons eq_nil)))
theorem ok_form_parts (F : Fun K "form_parts" "form_parts" s_form_parts f fd) (hmg : mg "form_parts" = some (.ref f)) (d_parts_in : DefOk P w K mg base "parts_in" 3 ["remark"] (_root_.K.m_parts_in)) : DefOk P w K mg base "form_parts" 4 ["form"] _root_.K.m_form_parts :=
  ⟨f, fd, fo_form_parts F d_parts_in, F.binds (ps := ["form"]) fun _ _ _ _ _ _ us hl => match us, hl with | [_], _ => rfl, F.kp, hmg⟩
noncomputable abbrev s_place_box : Stmt := top 16
theorem sc_place_box : FnScope ["hand"] ["hand"] (defScope s_place_box) := ⟨rfl, rfl, rfl, by decide +kernel, rfl, by decide +kernel, by decide +kernel⟩
theorem fo_place_box (F : Fun K "place_box" "place_box" s_place_box f fd) : FnOk P w K mg base CX0 1 f fd ["hand"] (spF K (["hand"] : List Str).length _root_.K.m_place_box) := by
  refine fn_tree (N := ["hand"]) F sc_place_box (by decide)  fun cdv A outer s H E B hr => ?_
  have hu := hu_of hr
  have hq := hr.units
  have nd : (["hand"] : List Str).Nodup := sc_place_box.nd
  exact ts_one (ts_ret (te_op opT_add te_str (te_var 0 (pv 0))))
theorem ok_place_box (F : Fun K "place_box" "place_box" s_place_box f fd) (hmg : mg "place_box" = some (.ref f)) : DefOk P w K mg base "place_box" 1 ["hand"] _root_.K.m_place_box :=
  ⟨f, fd, fo_place_box F, F.binds (ps := ["hand"]) fun _ _ _ _ _ _ us hl => match us, hl with | [_], _ => rfl, F.kp, hmg⟩
noncomputable abbrev s_equal_form : Stmt := top 17
theorem sc_equal_form : FnScope ["box", "number"] ["box", "number"] (defScope s_equal_form) := ⟨rfl, rfl, rfl, by decide +kernel, rfl, by decide +kernel, by decide +kernel⟩
theorem fo_equal_form (F : Fun K "equal_form" "equal_form" s_equal_form f fd) : FnOk P w K mg base CX0 1 f fd ["box", "number"] (spF K (["box", "number"] : List Str).length _root_.K.m_equal_form) := by
  refine fn_tree (N := ["box", "number"]) F sc_equal_form (by decide)  fun cdv A outer s H E B hr => ?_
  have hu := hu_of hr
  have hq := hr.units
  have nd : (["box", "number"] : List Str).Nodup := sc_equal_form.nd
  refine ts_one ?_
  · refine ts_ret ?_
    · refine te_tup ?_ ?_
      · refine ta_cons ?_ ?_
        · exact te_str
        · refine ta_cons ?_ ?_
          · refine te_tup ?_ ?_
            · refine ta_cons ?_ ?_
              · refine te_tup ?_ ?_
                · refine ta_cons ?_ ?_
                  · exact te_str
                  · refine ta_cons ?_ ?_
                    · exact te_tup (ta_cons (te_un unT_neg (te_var 1 (pv 1))) (ta_cons (te_tup (ta_cons (te_tup (ta_cons (te_var 0 (pv 0)) (ta_cons te_int ta_nil)) (le1000 (len_cons (len_cons len_nil)) (by decide))) ta_nil) (le1000 (len_cons len_nil) (by decide))) ta_nil)) (le1000 (len_cons (len_cons len_nil)) (by decide))
                    · exact ta_nil
                · exact le1000 (len_cons (len_cons len_nil)) (by decide)
              · refine ta_cons ?_ ?_
                · refine te_tup ?_ ?_
                  · refine ta_cons ?_ ?_
                    · exact te_str
                    · refine ta_cons ?_ ?_
                      · exact te_tup (ta_cons (te_var 1 (pv 1)) (ta_cons (te_tup (ta_cons (te_tup (ta_cons (te_var 0 (pv 0)) (ta_cons (te_un unT_neg te_int) ta_nil)) (le1000 (len_cons (len_cons len_nil)) (by decide))) ta_nil) (le1000 (len_cons len_nil) (by decide))) ta_nil)) (le1000 (len_cons (len_cons len_nil)) (by decide))
                      · exact ta_nil
                  · exact le1000 (len_cons (len_cons len_nil)) (by decide)
                · exact ta_nil
            · exact le1000 (len_cons (len_cons len_nil)) (by decide)
          · exact ta_nil
      · exact le1000 (len_cons (len_cons len_nil)) (by decide)
theorem ok_equal_form (F : Fun K "equal_form" "equal_form" s_equal_form f fd) (hmg : mg "equal_form" = some (.ref f)) : DefOk P w K mg base "equal_form" 1 ["box", "number"] _root_.K.m_equal_form :=
  ⟨f, fd, fo_equal_form F, F.binds (ps := ["box", "number"]) fun _ _ _ _ _ _ us hl => match us, hl with | [_, _], _ => rfl, F.kp, hmg⟩
noncomputable abbrev s_unequal_form : Stmt := top 18
theorem sc_unequal_form : FnScope ["box", "number"] ["box", "number"] (defScope s_unequal_form) := ⟨rfl, rfl, rfl, by decide +kernel, rfl, by decide +kernel, by decide +kernel⟩
theorem fo_unequal_form (F : Fun K "unequal_form" "unequal_form" s_unequal_form f fd) : FnOk P w K mg base CX0 1 f fd ["box", "number"] (spF K (["box", "number"] : List Str).length _root_.K.m_unequal_form) := by
  refine fn_tree (N := ["box", "number"]) F sc_unequal_form (by decide)  fun cdv A outer s H E B hr => ?_
  have hu := hu_of hr
  have hq := hr.units
  have nd : (["box", "number"] : List Str).Nodup := sc_unequal_form.nd
  refine ts_one ?_
  · refine ts_ret ?_
    · refine te_tup ?_ ?_
      · refine ta_cons ?_ ?_
        · exact te_str
        · refine ta_cons ?_ ?_
          · refine te_tup ?_ ?_
            · refine ta_cons ?_ ?_
              · refine te_tup ?_ ?_
                · refine ta_cons ?_ ?_
                  · exact te_str
                  · refine ta_cons ?_ ?_
                    · refine te_tup ?_ ?_
                      · exact ta_cons (te_op opT_sub te_int (te_var 1 (pv 1))) (ta_cons (te_tup (ta_cons (te_tup (ta_cons (te_var 0 (pv 0)) (ta_cons te_int ta_nil)) (le1000 (len_cons (len_cons len_nil)) (by decide))) ta_nil) (le1000 (len_cons len_nil) (by decide))) ta_nil)
                      · exact le1000 (len_cons (len_cons len_nil)) (by decide)
                    · exact ta_nil
                · exact le1000 (len_cons (len_cons len_nil)) (by decide)
              · refine ta_cons ?_ ?_
                · refine te_tup ?_ ?_
                  · refine ta_cons ?_ ?_
                    · exact te_str
                    · refine ta_cons ?_ ?_
                      · refine te_tup ?_ ?_
                        · exact ta_cons (te_op opT_add (te_var 1 (pv 1)) te_int) (ta_cons (te_tup (ta_cons (te_tup (ta_cons (te_var 0 (pv 0)) (ta_cons (te_un unT_neg te_int) ta_nil)) (le1000 (len_cons (len_cons len_nil)) (by decide))) ta_nil) (le1000 (len_cons len_nil) (by decide))) ta_nil)
                        · exact le1000 (len_cons (len_cons len_nil)) (by decide)
                      · exact ta_nil
                  · exact le1000 (len_cons (len_cons len_nil)) (by decide)
                · exact ta_nil
            · exact le1000 (len_cons (len_cons len_nil)) (by decide)
          · exact ta_nil
      · exact le1000 (len_cons (len_cons len_nil)) (by decide)
theorem ok_unequal_form (F : Fun K "unequal_form" "unequal_form" s_unequal_form f fd) (hmg : mg "unequal_form" = some (.ref f)) : DefOk P w K mg base "unequal_form" 1 ["box", "number"] _root_.K.m_unequal_form :=
  ⟨f, fd, fo_unequal_form F, F.binds (ps := ["box", "number"]) fun _ _ _ _ _ _ us hl => match us, hl with | [_, _], _ => rfl, F.kp, hmg⟩
noncomputable abbrev s_plain_form : Stmt := top 19
theorem sc_plain_form : FnScope ["remark", "kind"] ["remark"] (defScope s_plain_form) := ⟨rfl, rfl, rfl, by decide +kernel, rfl, by decide +kernel, by decide +kernel⟩
theorem fo_plain_form (F : Fun K "plain_form" "plain_form" s_plain_form f fd) {nn : Nat} (d_against_form : DefOk P w K mg base "against_form" (3 + nn) ["remark"] (_root_.K.m_against_form nn)) (d_equal_form : DefOk P w K mg base "equal_form" 1 ["box", "number"] (_root_.K.m_equal_form)) (d_place_box : DefOk P w K mg base "place_box" 1 ["hand"] (_root_.K.m_place_box)) (d_plain_form : DefOk P w K mg base "plain_form" (3 + nn) ["remark"] (_root_.K.m_plain_form nn)) (b_tuple : mg "tuple" = none) : FnOk P w K mg base CX0 (3 + nn + 1) f fd ["remark"] (spF K (["remark"] : List Str).length (_root_.K.m_plain_form (nn + 1))) := by
  have d_against_form := d_against_form.mono (show (3 + nn) ≤ (3 + nn) by first | decide | omega)
  have d_equal_form := d_equal_form.mono (show 1 ≤ (3 + nn) by first | decide | omega)
  have d_place_box := d_place_box.mono (show 1 ≤ (3 + nn) by first | decide | omega)
  have d_plain_form := d_plain_form.mono (show (3 + nn) ≤ (3 + nn) by first | decide | omega)
  refine fn_tree (N := ["remark", "kind"]) F sc_plain_form (by decide)  fun cdv A outer s H E B hr => ?_
  have hu := hu_of hr
  have hq := hr.units
  have nd : (["remark", "kind"] : List Str).Nodup := sc_plain_form.nd
  refine ts_cons ?_ ?_
  · exact ts_set 1 (ps_set nd rfl (Or.inl rfl) (te_ix hu (te_var 0 (pv 0)) te_int (fun _ _ => rfl))) (fun _ _ _ h => h)
  · refine ts_cons ?_ ?_
    · refine ts_if ?_ ?_ ?_
      · exact tc_cmp (opT_eq hq) (te_var 1 (pv 1)) te_str (nomark _)
      · exact ts_one (ts_ret (te_callD d_equal_form hr (by rfl) (ta_cons (te_callD d_place_box hr (by rfl) (ta_cons (te_ix hu (te_var 0 (pv 0)) te_int (fun _ _ => rfl)) ta_nil) (eq_cons eq_nil)) (ta_cons (te_ix hu (te_var 0 (pv 0)) te_int (fun _ _ => rfl)) ta_nil)) (eq_cons (eq_cons eq_nil))))
      · exact ts_nil
    · refine ts_cons ?_ ?_
      · exact ts_if (tc_cmp (opT_eq hq) (te_var 1 (pv 1)) te_str (nomark _))   (ts_one (ts_ret (te_callD d_against_form hr (by rfl) (ta_cons (te_ix hu (te_var 0 (pv 0)) te_int (fun _ _ => rfl)) ta_nil) (eq_cons eq_nil))))   ts_nil
      · refine ts_cons ?_ ?_
        · refine ts_if ?_ ?_ ?_
          · exact tc_cmp (opT_in hq) (te_var 1 (pv 1)) (te_tup (ta_cons te_str (ta_cons te_str ta_nil)) (le1000 (len_cons (len_cons len_nil)) (by decide))) rfl
          · refine ts_one ?_
            · refine ts_ret ?_
              · refine te_tup ?_ ?_
                · refine ta_cons ?_ ?_
                  · exact te_var 1 (pv 1)
                  · refine ta_cons ?_ ?_
                    · refine te_of_cb ?_
                      · refine pe_callTy callT_tuple ?_ ?_ PyProof.Rows.boot_tuple ?_
                        · exact by rfl
                        · exact b_tuple
                        · refine ta_cons ?_ ?_
                          · refine te_fresh ?_
                            · refine tf_comp (N := ["member"]) ?_ ?_ ?_ ?_ ?_ ?_ ?_ ?_
                              · exact ⟨rfl, fun j k h => match j, h with | _ + 0, h => (by cases h)⟩
                              · exact ⟨rfl, rfl, by decide +kernel, by decide +kernel⟩
                              · exact rfl
                              · exact ti_seq (te_ix hu (te_var 0 (pv 0)) te_int (fun _ _ => rfl))
                              · exact sz_seq
                              · exact fun C s₀ H₀ ex pn => pgE fun B => (tg_name 0 (pg_name (show (["member"] : List Str).Nodup by decide +kernel) rfl (Or.inl rfl)))
                              · exact fun C s₀ H₀ ex pn => ptsE_nil
                              · exact fun C s₀ H₀ ex pn => peE fun B => (te_callD d_plain_form hr (by rfl) (ta_cons (te_var 0 (pv 0)) ta_nil) (eq_cons eq_nil))
                          · exact ta_nil
                    · exact ta_nil
                · exact le1000 (len_cons (len_cons len_nil)) (by decide)
          · exact ts_nil
        · exact ts_one (ts_ret (te_var 0 (pv 0)))
theorem ok_plain_form (F : Fun K "plain_form" "plain_form" s_plain_form f fd) (hmg : mg "plain_form" = some (.ref f)) {nn : Nat} (d_against_form : DefOk P w K mg base "against_form" (3 + nn) ["remark"] (_root_.K.m_against_form nn)) (d_equal_form : DefOk P w K mg base "equal_form" 1 ["box", "number"] (_root_.K.m_equal_form)) (d_place_box : DefOk P w K mg base "place_box" 1 ["hand"] (_root_.K.m_place_box)) (d_plain_form : DefOk P w K mg base "plain_form" (3 + nn) ["remark"] (_root_.K.m_plain_form nn)) (b_tuple : mg "tuple" = none) : DefOk P w K mg base "plain_form" (3 + nn + 1) ["remark"] (_root_.K.m_plain_form (nn + 1)) :=
  ⟨f, fd, fo_plain_form F d_against_form d_equal_form d_place_box d_plain_form b_tuple, F.binds (ps := ["remark"]) fun _ _ _ _ _ _ us hl => match us, hl with | [_], _ => rfl, F.kp, hmg⟩
noncomputable abbrev s_against_form : Stmt := top 20
theorem sc_against_form : FnScope ["remark", "kind"] ["remark"] (defScope s_against_form) := ⟨rfl, rfl, rfl, by decide +kernel, rfl, by decide +kernel, by decide +kernel⟩
theorem fo_against_form (F : Fun K "against_form" "against_form" s_against_form f fd) {nn : Nat} (d_against_form : DefOk P w K mg base "against_form" (3 + nn) ["remark"] (_root_.K.m_against_form nn)) (d_minus : DefOk P w K mg base "minus" 3 ["one", "other"] (_root_.K.m_minus)) (d_place_box : DefOk P w K mg base "place_box" 1 ["hand"] (_root_.K.m_place_box)) (d_plain_form : DefOk P w K mg base "plain_form" (3 + nn) ["remark"] (_root_.K.m_plain_form nn)) (d_unequal_form : DefOk P w K mg base "unequal_form" 1 ["box", "number"] (_root_.K.m_unequal_form)) (b_range : mg "range" = none) (b_tuple : mg "tuple" = none) (c_TURNED : ∃ a, mg "TURNED" = some (.ref a) ∧ TabIn K w a [("and", "or"), ("or", "and")]) : FnOk P w K mg base CX0 (3 + nn + 1) f fd ["remark"] (spF K (["remark"] : List Str).length (_root_.K.m_against_form (nn + 1))) := by
  have d_against_form := d_against_form.mono (show (3 + nn) ≤ (3 + nn) by first | decide | omega)
  have d_minus := d_minus.mono (show 3 ≤ (3 + nn) by first | decide | omega)
  have d_place_box := d_place_box.mono (show 1 ≤ (3 + nn) by first | decide | omega)
  have d_plain_form := d_plain_form.mono (show (3 + nn) ≤ (3 + nn) by first | decide | omega)
  have d_unequal_form := d_unequal_form.mono (show 1 ≤ (3 + nn) by first | decide | omega)
  refine fn_tree (N := ["remark", "kind"]) F sc_against_form (by decide)  fun cdv A outer s H E B hr => ?_
  have hu := hu_of hr
  have hq := hr.units
  have nd : (["remark", "kind"] : List Str).Nodup := sc_against_form.nd
  refine ts_cons ?_ ?_
  · exact ts_set 1 (ps_set nd rfl (Or.inl rfl) (te_ix hu (te_var 0 (pv 0)) te_int (fun _ _ => rfl))) (fun _ _ _ h => h)
  · refine ts_cons ?_ ?_
    · refine ts_if ?_ ?_ ?_
      · exact tc_cmp (opT_eq hq) (te_var 1 (pv 1)) te_str (nomark _)
      · refine ts_one ?_
        · refine ts_ret ?_
          · refine te_tup ?_ ?_
            · refine ta_cons ?_ ?_
              · exact te_str
              · exact ta_cons (te_callD d_minus hr (by rfl) (ta_cons (te_tup (ta_cons te_int (ta_cons (te_tup ta_nil (le1000 len_nil (by decide))) ta_nil)) (le1000 (len_cons (len_cons len_nil)) (by decide))) (ta_cons (te_ix hu (te_var 0 (pv 0)) te_int (fun _ _ => rfl)) ta_nil)) (eq_cons (eq_cons eq_nil))) ta_nil
            · exact le1000 (len_cons (len_cons len_nil)) (by decide)
      · exact ts_nil
    · refine ts_cons ?_ ?_
      · refine ts_if ?_ ?_ ?_
        · exact tc_cmp (opT_eq hq) (te_var 1 (pv 1)) te_str (nomark _)
        · refine ts_one ?_
          · refine ts_ret ?_
            · refine te_tup ?_ ?_
              · refine ta_cons ?_ ?_
                · exact te_str
                · refine ta_cons ?_ ?_
                  · refine te_of_cb ?_
                    · refine pe_callTy callT_tuple ?_ ?_ PyProof.Rows.boot_tuple ?_
                      · exact by rfl
                      · exact b_tuple
                      · refine ta_cons ?_ ?_
                        · refine te_fresh ?_
                          · refine tf_comp (N := ["k", "remark"]) ?_ ?_ ?_ ?_ ?_ ?_ ?_ ?_
                            · exact ⟨rfl, fun j k h => match j, h with | 0, h => (by cases h; exact ⟨_, rfl, rfl, ⟨.inl rfl, .inr (.inl rfl), .inl rfl⟩⟩) | _ + 1, h => (by cases h)⟩
                            · exact ⟨rfl, rfl, by decide +kernel, by decide +kernel⟩
                            · exact rfl
                            · exact ti_range2 (by rfl) b_range te_int (te_ix hu (te_var 0 (pv 0)) te_int (fun _ _ => rfl))
                            · exact sz_range2
                            · exact fun C s₀ H₀ ex pn => pgE fun B => (tg_name 0 (pg_name (show (["k", "remark"] : List Str).Nodup by decide +kernel) rfl (Or.inl rfl)))
                            · exact fun C s₀ H₀ ex pn => ptsE_nil
                            · intro C s₀ H₀ ex pn
                              refine peE ?_
                              intro B
                              refine te_tup ?_ ?_
                              · refine ta_cons ?_ ?_
                                · exact te_str
                                · refine ta_cons ?_ ?_
                                  · exact te_callD d_minus hr (by rfl) (ta_cons (te_ix hu (te_var 1 (pv 1)) te_int (fun _ _ => rfl)) (ta_cons (te_tup (ta_cons (te_var 0 (pv 0)) (ta_cons (te_tup ta_nil (le1000 len_nil (by decide))) ta_nil)) (le1000 (len_cons (len_cons len_nil)) (by decide))) ta_nil)) (eq_cons (eq_cons eq_nil))
                                  · exact ta_cons (te_ix hu (te_var 1 (pv 1)) te_int (fun _ _ => rfl)) ta_nil
                              · exact le1000 (len_cons (len_cons (len_cons len_nil))) (by decide)
                        · exact ta_nil
                  · exact ta_nil
              · exact le1000 (len_cons (len_cons len_nil)) (by decide)
        · exact ts_nil
      · refine ts_cons ?_ ?_
        · refine ts_if ?_ ?_ ?_
          · exact tc_cmp (opT_eq hq) (te_var 1 (pv 1)) te_str (nomark _)
          · exact ts_one (ts_ret (te_callD d_unequal_form hr (by rfl) (ta_cons (te_callD d_place_box hr (by rfl) (ta_cons (te_ix hu (te_var 0 (pv 0)) te_int (fun _ _ => rfl)) ta_nil) (eq_cons eq_nil)) (ta_cons (te_ix hu (te_var 0 (pv 0)) te_int (fun _ _ => rfl)) ta_nil)) (eq_cons (eq_cons eq_nil))))
          · exact ts_nil
        · refine ts_cons ?_ ?_
          · exact ts_if (tc_cmp (opT_eq hq) (te_var 1 (pv 1)) te_str (nomark _))   (ts_one (ts_ret (te_callD d_plain_form hr (by rfl) (ta_cons (te_ix hu (te_var 0 (pv 0)) te_int (fun _ _ => rfl)) ta_nil) (eq_cons eq_nil))))   ts_nil
          · refine ts_one ?_
            · refine ts_ret ?_
              · refine te_tup ?_ ?_
                · refine ta_cons ?_ ?_
                  · exact te_tab (by rfl) c_TURNED (te_var 1 (pv 1)) (fun _ _ => rfl)
                  · refine ta_cons ?_ ?_
                    · refine te_of_cb ?_
                      · refine pe_callTy callT_tuple ?_ ?_ PyProof.Rows.boot_tuple ?_
                        · exact by rfl
                        · exact b_tuple
                        · refine ta_cons ?_ ?_
                          · refine te_fresh ?_
                            · refine tf_comp (N := ["member"]) ?_ ?_ ?_ ?_ ?_ ?_ ?_ ?_
                              · exact ⟨rfl, fun j k h => match j, h with | _ + 0, h => (by cases h)⟩
                              · exact ⟨rfl, rfl, by decide +kernel, by decide +kernel⟩
                              · exact rfl
                              · exact ti_seq (te_ix hu (te_var 0 (pv 0)) te_int (fun _ _ => rfl))
                              · exact sz_seq
                              · exact fun C s₀ H₀ ex pn => pgE fun B => (tg_name 0 (pg_name (show (["member"] : List Str).Nodup by decide +kernel) rfl (Or.inl rfl)))
                              · exact fun C s₀ H₀ ex pn => ptsE_nil
                              · exact fun C s₀ H₀ ex pn => peE fun B => (te_callD d_against_form hr (by rfl) (ta_cons (te_var 0 (pv 0)) ta_nil) (eq_cons eq_nil))
                          · exact ta_nil
                    · exact ta_nil
                · exact le1000 (len_cons (len_cons len_nil)) (by decide)
theorem ok_against_form (F : Fun K "against_form" "against_form" s_against_form f fd) (hmg : mg "against_form" = some (.ref f)) {nn : Nat} (d_against_form : DefOk P w K mg base "against_form" (3 + nn) ["remark"] (_root_.K.m_against_form nn)) (d_minus : DefOk P w K mg base "minus" 3 ["one", "other"] (_root_.K.m_minus)) (d_place_box : DefOk P w K mg base "place_box" 1 ["hand"] (_root_.K.m_place_box)) (d_plain_form : DefOk P w K mg base "plain_form" (3 + nn) ["remark"] (_root_.K.m_plain_form nn)) (d_unequal_form : DefOk P w K mg base "unequal_form" 1 ["box", "number"] (_root_.K.m_unequal_form)) (b_range : mg "range" = none) (b_tuple : mg "tuple" = none) (c_TURNED : ∃ a, mg "TURNED" = some (.ref a) ∧ TabIn K w a [("and", "or"), ("or", "and")]) : DefOk P w K mg base "against_form" (3 + nn + 1) ["remark"] (_root_.K.m_against_form (nn + 1)) :=
  ⟨f, fd, fo_against_form F d_against_form d_minus d_place_box d_plain_form d_unequal_form b_range b_tuple c_TURNED, F.binds (ps := ["remark"]) fun _ _ _ _ _ _ us hl => match us, hl with | [_], _ => rfl, F.kp, hmg⟩
theorem okg_plain_form {f_plain_form : Addr} {fd_plain_form : FuncData} {f_against_form : Addr} {fd_against_form : FuncData} (F_plain_form : Fun K "plain_form" "plain_form" s_plain_form f_plain_form fd_plain_form) (h_plain_form : mg "plain_form" = some (.ref f_plain_form)) (F_against_form : Fun K "against_form" "against_form" s_against_form f_against_form fd_against_form) (h_against_form : mg "against_form" = some (.ref f_against_form)) (d_equal_form : DefOk P w K mg base "equal_form" 1 ["box", "number"] _root_.K.m_equal_form) (d_minus : DefOk P w K mg base "minus" 3 ["one", "other"] _root_.K.m_minus) (d_place_box : DefOk P w K mg base "place_box" 1 ["hand"] _root_.K.m_place_box) (d_unequal_form : DefOk P w K mg base "unequal_form" 1 ["box", "number"] _root_.K.m_unequal_form) (b_range : mg "range" = none) (b_tuple : mg "tuple" = none) (c_TURNED : ∃ a, mg "TURNED" = some (.ref a) ∧ TabIn K w a [("and", "or"), ("or", "and")]) : ∀ nn : Nat, DefOk P w K mg base "plain_form" (3 + nn) ["remark"] (_root_.K.m_plain_form nn) ∧ DefOk P w K mg base "against_form" (3 + nn) ["remark"] (_root_.K.m_against_form nn)
  | 0 => ⟨DefOk.zero F_plain_form h_plain_form (F_plain_form.binds (ps := ["remark"]) fun _ _ _ _ _ _ us hl => match us, hl with | [_], _ => rfl), DefOk.zero F_against_form h_against_form (F_against_form.binds (ps := ["remark"]) fun _ _ _ _ _ _ us hl => match us, hl with | [_], _ => rfl)⟩
  | nn + 1 => by
    have ih := okg_plain_form F_plain_form h_plain_form F_against_form h_against_form d_equal_form d_minus d_place_box d_unequal_form b_range b_tuple c_TURNED nn
    obtain ⟨d_plain_form, d_against_form⟩ := ih
    exact ⟨ok_plain_form F_plain_form h_plain_form d_against_form d_equal_form d_place_box d_plain_form b_tuple, ok_against_form F_against_form h_against_form d_against_form d_minus d_place_box d_plain_form d_unequal_form b_range b_tuple c_TURNED⟩
noncomputable abbrev s_law_cell_at : Stmt := top 22
theorem sc_law_cell_at : FnScope ["_law_script", "_law_k"] ["_law_script", "_law_k"] (defScope s_law_cell_at) := ⟨rfl, rfl, rfl, by decide +kernel, rfl, by decide +kernel, by decide +kernel⟩
theorem fo_law_cell_at (F : Fun K "_law_cell_at" "_law_cell_at" s_law_cell_at f fd) (b_len : mg "len" = none) : FnOk P w K mg base CX0 1 f fd ["_law_script", "_law_k"] (spF K (["_law_script", "_law_k"] : List Str).length _root_.K.m_law_cell_at) := by
  refine fn_tree (N := ["_law_script", "_law_k"]) F sc_law_cell_at (by decide)  fun cdv A outer s H E B hr => ?_
  have hu := hu_of hr
  have hq := hr.units
  have nd : (["_law_script", "_law_k"] : List Str).Nodup := sc_law_cell_at.nd
  exact ts_cons (ts_if (tc_cmp opT_lt (te_var 1 (pv 1)) (te_of_cb (pe_callB callT_len (by rfl) b_len PySem.boot_len (ta_cons (te_var 0 (pv 0)) ta_nil))) (nomark _))   (ts_one (ts_ret (te_ix hu (te_var 0 (pv 0)) (te_var 1 (pv 1)) (fun _ _ => rfl))))   ts_nil)   (ts_one (ts_ret te_int))
theorem ok_law_cell_at (F : Fun K "_law_cell_at" "_law_cell_at" s_law_cell_at f fd) (hmg : mg "_law_cell_at" = some (.ref f)) (b_len : mg "len" = none) : DefOk P w K mg base "_law_cell_at" 1 ["_law_script", "_law_k"] _root_.K.m_law_cell_at :=
  ⟨f, fd, fo_law_cell_at F b_len, F.binds (ps := ["_law_script", "_law_k"]) fun _ _ _ _ _ _ us hl => match us, hl with | [_, _], _ => rfl, F.kp, hmg⟩
noncomputable abbrev s_law_signed : Stmt := top 23
theorem sc_law_signed : FnScope ["_law_cell", "_law_most"] ["_law_cell", "_law_most"] (defScope s_law_signed) := ⟨rfl, rfl, rfl, by decide +kernel, rfl, by decide +kernel, by decide +kernel⟩
theorem fo_law_signed (F : Fun K "_law_signed" "_law_signed" s_law_signed f fd) : FnOk P w K mg base CX0 1 f fd ["_law_cell", "_law_most"] (spF K (["_law_cell", "_law_most"] : List Str).length _root_.K.m_law_signed) := by
  refine fn_tree (N := ["_law_cell", "_law_most"]) F sc_law_signed (by decide)  fun cdv A outer s H E B hr => ?_
  have hu := hu_of hr
  have hq := hr.units
  have nd : (["_law_cell", "_law_most"] : List Str).Nodup := sc_law_signed.nd
  exact ts_cons (ts_if (tc_cmp opT_lt (te_var 0 (pv 0)) te_int (nomark _))   (ts_one (ts_ret (te_un unT_neg (te_op opT_mod (te_un unT_neg (te_var 0 (pv 0))) (te_var 1 (pv 1))))))   ts_nil)   (ts_one (ts_ret (te_op opT_mod (te_var 0 (pv 0)) (te_var 1 (pv 1)))))
theorem ok_law_signed (F : Fun K "_law_signed" "_law_signed" s_law_signed f fd) (hmg : mg "_law_signed" = some (.ref f)) : DefOk P w K mg base "_law_signed" 1 ["_law_cell", "_law_most"] _root_.K.m_law_signed :=
  ⟨f, fd, fo_law_signed F, F.binds (ps := ["_law_cell", "_law_most"]) fun _ _ _ _ _ _ us hl => match us, hl with | [_, _], _ => rfl, F.kp, hmg⟩
noncomputable abbrev s_law_sum : Stmt := top 24
theorem sc_law_sum : FnScope ["_law_digits", "_law_number", "_law_pairs"] ["_law_digits"] (defScope s_law_sum) := ⟨rfl, rfl, rfl, by decide +kernel, rfl, by decide +kernel, by decide +kernel⟩
theorem fo_law_sum (F : Fun K "_law_sum" "_law_sum" s_law_sum f fd) (d_law_signed : DefOk P w K mg base "_law_signed" 1 ["_law_cell", "_law_most"] (_root_.K.m_law_signed)) (b_tuple : mg "tuple" = none) : FnOk P w K mg base CX0 2 f fd ["_law_digits"] (spF K (["_law_digits"] : List Str).length _root_.K.m_law_sum) := by
  have d_law_signed := d_law_signed.mono (show 1 ≤ 1 by first | decide | omega)
  refine fn_tree (N := ["_law_digits", "_law_number", "_law_pairs"]) F sc_law_sum (by decide)  fun cdv A outer s H E B hr => ?_
  have hu := hu_of hr
  have hq := hr.units
  have nd : (["_law_digits", "_law_number", "_law_pairs"] : List Str).Nodup := sc_law_sum.nd
  refine ts_cons ?_ ?_
  · exact ts_set 1 (ps_set nd rfl (Or.inl rfl) (te_op opT_sub (te_op opT_mod (te_var 0 (pv 0)) te_int) te_int)) (fun _ _ _ h => h)
  · refine ts_cons ?_ ?_
    · refine ts_if ?_ ?_ ?_
      · exact tc_cmp (opT_eq hq) (te_op opT_mod (te_op opT_fdiv (te_var 0 (pv 0)) te_int) te_int) te_int (nomark _)
      · exact ts_one (ts_set 1 (ps_set nd rfl (Or.inl rfl) (te_callD d_law_signed hr (by rfl) (ta_cons (te_op opT_fdiv (te_var 0 (pv 0)) te_int) (ta_cons (te_op opT_pow te_int te_int) ta_nil)) (eq_cons (eq_cons eq_nil)))) (fun _ _ _ h => h))
      · exact ts_nil
    · refine ts_cons ?_ ?_
      · refine ts_set (te := tOf _ _ _) _ ?_ (fun _ _ _ h => h)
        · refine ps_set ?_ ?_ ?_ ?_
          · exact nd
          · exact rfl
          · exact Or.inl rfl
          · refine te_lst ?_ ?_
            · refine ta_cons ?_ ?_
              · exact te_tup (ta_cons te_str (ta_cons (te_op opT_sub (te_op opT_mod (te_op opT_fdiv (te_var 0 (pv 0)) te_int) te_int) te_int) ta_nil)) (le1000 (len_cons (len_cons len_nil)) (by decide))
              · exact ta_cons (te_tup (ta_cons te_str (ta_cons (te_op opT_sub (te_op opT_mod (te_op opT_fdiv (te_var 0 (pv 0)) te_int) te_int) te_int) ta_nil)) (le1000 (len_cons (len_cons len_nil)) (by decide))) ta_nil
            · exact le1000 (len_cons (len_cons len_nil)) (by decide)
      · refine ts_one ?_
        · refine ts_ret ?_
          · refine te_tup ?_ ?_
            · refine ta_cons ?_ ?_
              · exact te_var 1 (pv 1)
              · refine ta_cons ?_ ?_
                · refine te_of_cb ?_
                  · refine pe_callTy callT_tuple ?_ ?_ PyProof.Rows.boot_tuple ?_
                    · exact by rfl
                    · exact b_tuple
                    · refine ta_cons ?_ ?_
                      · refine te_fresh ?_
                        · refine tf_comp (N := ["_law_pair"]) ?_ ?_ ?_ ?_ ?_ ?_ ?_ ?_
                          · exact ⟨rfl, fun j k h => match j, h with | _ + 0, h => (by cases h)⟩
                          · exact ⟨rfl, rfl, by decide +kernel, by decide +kernel⟩
                          · exact rfl
                          · exact ti_seq (te_var 2 (pv 2))
                          · exact sz_seq
                          · exact fun C s₀ H₀ ex pn => pgE fun B => (tg_name 0 (pg_name (show (["_law_pair"] : List Str).Nodup by decide +kernel) rfl (Or.inl rfl)))
                          · exact fun C s₀ H₀ ex pn => (ptsE_one fun B => (tc_cmp (opT_ne hq) (te_ix hu (te_var 0 (pv 0)) te_int (fun _ _ => rfl)) te_int (nomark _)))
                          · exact fun C s₀ H₀ ex pn => peE fun B => (te_var 0 (pv 0))
                      · exact ta_nil
                · exact ta_nil
            · exact le1000 (len_cons (len_cons len_nil)) (by decide)
theorem ok_law_sum (F : Fun K "_law_sum" "_law_sum" s_law_sum f fd) (hmg : mg "_law_sum" = some (.ref f)) (d_law_signed : DefOk P w K mg base "_law_signed" 1 ["_law_cell", "_law_most"] (_root_.K.m_law_signed)) (b_tuple : mg "tuple" = none) : DefOk P w K mg base "_law_sum" 2 ["_law_digits"] _root_.K.m_law_sum :=
  ⟨f, fd, fo_law_sum F d_law_signed b_tuple, F.binds (ps := ["_law_digits"]) fun _ _ _ _ _ _ us hl => match us, hl with | [_], _ => rfl, F.kp, hmg⟩
noncomputable abbrev s_law_many : Stmt := top 25
theorem sc_law_many : FnScope ["_law_remark_here"] ["_law_remark_here"] (defScope s_law_many) := ⟨rfl, rfl, rfl, by decide +kernel, rfl, by decide +kernel, by decide +kernel⟩
theorem fo_law_many (F : Fun K "_law_many" "_law_many" s_law_many f fd) {nn : Nat} (d_law_many : DefOk P w K mg base "_law_many" (0 + nn) ["_law_remark_here"] (_root_.K.m_law_many nn)) (b_sum : mg "sum" = none) : FnOk P w K mg base CX0 (0 + nn + 1) f fd ["_law_remark_here"] (spF K (["_law_remark_here"] : List Str).length (_root_.K.m_law_many (nn + 1))) := by
  have d_law_many := d_law_many.mono (show (0 + nn) ≤ (0 + nn) by first | decide | omega)
  refine fn_tree (N := ["_law_remark_here"]) F sc_law_many (by decide)  fun cdv A outer s H E B hr => ?_
  have hu := hu_of hr
  have hq := hr.units
  have nd : (["_law_remark_here"] : List Str).Nodup := sc_law_many.nd
  refine ts_cons ?_ ?_
  · exact ts_if (tc_cmp (opT_eq hq) (te_ix hu (te_var 0 (pv 0)) te_int (fun _ _ => rfl)) te_str (nomark _))   (ts_one (ts_ret (te_op opT_add te_int (te_callD d_law_many hr (by rfl) (ta_cons (te_ix hu (te_var 0 (pv 0)) te_int (fun _ _ => rfl)) ta_nil) (eq_cons eq_nil)))))   ts_nil
  · refine ts_cons ?_ ?_
    · refine ts_if ?_ ?_ ?_
      · exact PW.pt (tc_or (tc_cmp (opT_eq hq) (te_ix hu (te_var 0 (pv 0)) te_int (fun _ _ => rfl)) te_str (nomark _)) (tc_or1 (tc_cmp (opT_eq hq) (te_ix hu (te_var 0 (pv 0)) te_int (fun _ _ => rfl)) te_str (nomark _))))
      · refine ts_one ?_
        · refine ts_ret ?_
          · refine te_op ?_ ?_ ?_
            · exact opT_add
            · exact te_int
            · refine te_of_cb ?_
              · refine pe_callB (callT_sum (by rfl)) ?_ ?_ PyProof.Rows.boot_sum ?_
                · exact by rfl
                · exact b_sum
                · refine ta_cons ?_ ?_
                  · refine te_fresh ?_
                    · refine tf_comp (N := ["_law_one"]) ?_ ?_ ?_ ?_ ?_ ?_ ?_ ?_
                      · exact ⟨rfl, fun j k h => match j, h with | _ + 0, h => (by cases h)⟩
                      · exact ⟨rfl, rfl, by decide +kernel, by decide +kernel⟩
                      · exact rfl
                      · exact ti_seq (te_ix hu (te_var 0 (pv 0)) te_int (fun _ _ => rfl))
                      · exact sz_seq
                      · exact fun C s₀ H₀ ex pn => pgE fun B => (tg_name 0 (pg_name (show (["_law_one"] : List Str).Nodup by decide +kernel) rfl (Or.inl rfl)))
                      · exact fun C s₀ H₀ ex pn => ptsE_nil
                      · exact fun C s₀ H₀ ex pn => peE fun B => (te_callD d_law_many hr (by rfl) (ta_cons (te_var 0 (pv 0)) ta_nil) (eq_cons eq_nil))
                  · exact ta_nil
      · exact ts_nil
    · exact ts_one (ts_ret te_int)
theorem ok_law_many (F : Fun K "_law_many" "_law_many" s_law_many f fd) (hmg : mg "_law_many" = some (.ref f)) {nn : Nat} (d_law_many : DefOk P w K mg base "_law_many" (0 + nn) ["_law_remark_here"] (_root_.K.m_law_many nn)) (b_sum : mg "sum" = none) : DefOk P w K mg base "_law_many" (0 + nn + 1) ["_law_remark_here"] (_root_.K.m_law_many (nn + 1)) :=
  ⟨f, fd, fo_law_many F d_law_many b_sum, F.binds (ps := ["_law_remark_here"]) fun _ _ _ _ _ _ us hl => match us, hl with | [_], _ => rfl, F.kp, hmg⟩
theorem okg_law_many {f_law_many : Addr} {fd_law_many : FuncData} (F_law_many : Fun K "_law_many" "_law_many" s_law_many f_law_many fd_law_many) (h_law_many : mg "_law_many" = some (.ref f_law_many)) (b_sum : mg "sum" = none) : ∀ nn : Nat, DefOk P w K mg base "_law_many" (0 + nn) ["_law_remark_here"] (_root_.K.m_law_many nn)
  | 0 => DefOk.zero F_law_many h_law_many (F_law_many.binds (ps := ["_law_remark_here"]) fun _ _ _ _ _ _ us hl => match us, hl with | [_], _ => rfl)
  | nn + 1 => by
    have ih := okg_law_many F_law_many h_law_many b_sum nn
    have d_law_many := ih
    exact ok_law_many F_law_many h_law_many d_law_many b_sum
noncomputable abbrev s_law_remark : Stmt := top 26
theorem sc_law_remark : FnScope ["_law_cells", "_law_free", "_law_made", "_law_cell", "_law_digits", "_law_kind", "_law_more", "_law_some"] ["_law_cells", "_law_free"] (defScope s_law_remark) := ⟨rfl, rfl, rfl, by decide +kernel, rfl, by decide +kernel, by decide +kernel⟩
theorem fo_law_remark (F : Fun K "_law_remark" "_law_remark" s_law_remark f fd) (d_law_many : DefOk P w K mg base "_law_many" 40 ["_law_remark_here"] (_root_.K.m_law_many 40)) (d_law_sum : DefOk P w K mg base "_law_sum" 2 ["_law_digits"] (_root_.K.m_law_sum)) (b_len : mg "len" = none) (b_reversed : mg "reversed" = none) (b_sum : mg "sum" = none) (b_tuple : mg "tuple" = none) : FnOk P w K mg base CX0 41 f fd ["_law_cells", "_law_free"] (spF K (["_law_cells", "_law_free"] : List Str).length _root_.K.m_law_remark) := by
  have d_law_many := d_law_many.mono (show 40 ≤ 40 by first | decide | omega)
  have d_law_sum := d_law_sum.mono (show 2 ≤ 40 by first | decide | omega)
  refine fn_tree (N := ["_law_cells", "_law_free", "_law_made", "_law_cell", "_law_digits", "_law_kind", "_law_more", "_law_some"]) F sc_law_remark (by decide)  fun cdv A outer s H E B hr => ?_
  have hu := hu_of hr
  have hq := hr.units
  have nd : (["_law_cells", "_law_free", "_law_made", "_law_cell", "_law_digits", "_law_kind", "_law_more", "_law_some"] : List Str).Nodup := sc_law_remark.nd
  refine ts_cons ?_ ?_
  · refine @ts_new _ _ _ _ (fOf _ _ _) _ ?_ (fun _ _ _ h => h)
    · refine ps_set ?_ ?_ ?_ ?_
      · exact nd
      · exact rfl
      · exact Or.inl rfl
      · refine tf_lst ?_ ?_
        · refine ta_cons ?_ ?_
          · refine te_tup ?_ ?_
            · exact ta_cons te_str (ta_cons (te_tup (ta_cons te_int (ta_cons (te_tup (ta_cons (te_tup (ta_cons te_str (ta_cons te_int ta_nil)) (le1000 (len_cons (len_cons len_nil)) (by decide))) ta_nil) (le1000 (len_cons len_nil) (by decide))) ta_nil)) (le1000 (len_cons (len_cons len_nil)) (by decide))) ta_nil)
            · exact le1000 (len_cons (len_cons len_nil)) (by decide)
          · exact ta_nil
        · exact le1000 (len_cons len_nil) (by decide)
  · refine ts_cons ?_ ?_
    · refine ts_for ?_ ?_ ?_ ?_ ?_ ?_
      · exact PassesOwn.never
      · exact rfl
      · exact ti_seq (te_var 0 (pv 0))
      · exact tg_name 3 (pg_name nd rfl (Or.inl rfl))
      · refine ts_cons ?_ ?_
        · refine ts_if ?_ ?_ ?_
          · exact tc_cmp opT_gt (te_callD d_law_many hr (by rfl) (ta_cons (te_ownIx 2 (pv 2) (te_un unT_neg te_int) (fun _ _ => rfl)) ta_nil) (eq_cons eq_nil)) te_int (nomark _)
          · refine ts_one ?_
            · refine @ts_new _ _ _ _ (fOf _ _ _) _ ?_ (fun _ _ _ h => h)
              · refine ps_set ?_ ?_ ?_ ?_
                · exact nd
                · exact rfl
                · exact Or.inl rfl
                · refine tf_ownAdd _ ?_ ?_
                  · exact pv 2
                  · refine te_lst ?_ ?_
                    · exact ta_cons (te_tup (ta_cons te_str (ta_cons te_str (ta_cons te_int ta_nil))) (le1000 (len_cons (len_cons (len_cons len_nil))) (by decide))) (ta_cons (te_tup (ta_cons te_str (ta_cons te_str (ta_cons te_int ta_nil))) (le1000 (len_cons (len_cons (len_cons len_nil))) (by decide))) ta_nil)
                    · exact le1000 (len_cons (len_cons len_nil)) (by decide)
          · exact ts_nil
        · refine ts_cons ?_ ?_
          · exact ts_set 4 (ps_set nd rfl (Or.inl rfl) (te_op opT_fdiv (te_op opT_mod (te_op opT_mul (te_var 3 (pv 3)) te_int) te_int) te_int)) (fun _ _ _ h => h)
          · refine ts_cons ?_ ?_
            · exact ts_if (tc_val (te_var 1 (pv 1)))   (ts_one (ts_set 4 (ps_set nd rfl (Or.inl rfl) (te_var 3 (pv 3))) (fun _ _ _ h => h)))   ts_nil
            · refine ts_cons ?_ ?_
              · exact ts_set 5 (ps_set nd rfl (Or.inl rfl) (te_op opT_mod (te_var 4 (pv 4)) te_int)) (fun _ _ _ h => h)
              · refine ts_cons ?_ ?_
                · exact ts_set 6 (ps_set nd rfl (Or.inl rfl) (te_op opT_fdiv (te_var 4 (pv 4)) te_int)) (fun _ _ _ h => h)
                · refine ts_one ?_
                  · refine ts_if ?_ ?_ ?_
                    · exact tc_cmp (opT_eq hq) (te_var 5 (pv 5)) te_int (nomark _)
                    · refine ts_one ?_
                      · refine ts_append _ ?_
                        · refine ps_expr ?_
                          · exact pe_bm PySem.F.plainAttrs_list PySem.F.slot_list_append PySem.F.type_list_append mt_append (pv 2) (pa_cons (te_tup (ta_cons te_str (ta_cons (te_callD d_law_sum hr (by rfl) (ta_cons (te_var 6 (pv 6)) ta_nil) (eq_cons eq_nil)) ta_nil)) (le1000 (len_cons (len_cons len_nil)) (by decide))) pa_nil)
                    · refine ts_one ?_
                      · refine ts_if ?_ ?_ ?_
                        · exact tc_cmp (opT_eq hq) (te_var 5 (pv 5)) te_int (nomark _)
                        · refine ts_one ?_
                          · refine ts_append _ ?_
                            · refine ps_expr ?_
                              · refine pe_bm PySem.F.plainAttrs_list PySem.F.slot_list_append PySem.F.type_list_append mt_append ?_ ?_
                                · exact pv 2
                                · refine pa_cons ?_ ?_
                                  · exact te_tup (ta_cons te_str (ta_cons (te_callD d_law_sum hr (by rfl) (ta_cons (te_op opT_fdiv (te_var 6 (pv 6)) te_int) ta_nil) (eq_cons eq_nil)) (ta_cons (te_op opT_add te_int (te_op opT_mod (te_var 6 (pv 6)) te_int)) ta_nil))) (le1000 (len_cons (len_cons (len_cons len_nil))) (by decide))
                                  · exact pa_nil
                        · refine ts_one ?_
                          · refine ts_if ?_ ?_ ?_
                            · exact tc_cmp (opT_eq hq) (te_var 5 (pv 5)) te_int (nomark _)
                            · refine ts_one ?_
                              · refine ts_append _ ?_
                                · refine ps_expr ?_
                                  · refine pe_bm PySem.F.plainAttrs_list PySem.F.slot_list_append PySem.F.type_list_append mt_append ?_ ?_
                                    · exact pv 2
                                    · refine pa_cons ?_ ?_
                                      · refine te_tup ?_ ?_
                                        · exact ta_cons te_str (ta_cons (te_ix hu (te_lst (ta_cons te_str (ta_cons te_str ta_nil)) (le1000 (len_cons (len_cons len_nil)) (by decide))) (te_op opT_mod (te_var 6 (pv 6)) te_int) (fun _ _ => rfl)) (ta_cons (te_op opT_mod (te_op opT_fdiv (te_var 6 (pv 6)) te_int) te_int) ta_nil))
                                        · exact le1000 (len_cons (len_cons (len_cons len_nil))) (by decide)
                                      · exact pa_nil
                            · refine ts_one ?_
                              · refine ts_if ?_ ?_ ?_
                                · exact tc_cmp (opT_eq hq) (te_var 5 (pv 5)) te_int (nomark _)
                                · exact ts_one (ts_append 2 (ps_expr (pe_bm PySem.F.plainAttrs_list PySem.F.slot_list_append PySem.F.type_list_append mt_append (pv 2) (pa_cons (te_tup (ta_cons te_str (ta_cons (te_ownIx 2 (pv 2) (te_un unT_neg te_int) (fun _ _ => rfl)) ta_nil)) (le1000 (len_cons (len_cons len_nil)) (by decide))) pa_nil))))
                                · refine ts_one ?_
                                  · refine ts_if ?_ ?_ ?_
                                    · exact PW.pt (tc_and (tc_cmp (opT_in hq) (te_var 5 (pv 5)) (te_tup (ta_cons te_int (ta_cons te_int ta_nil)) (le1000 (len_cons (len_cons len_nil)) (by decide))) rfl) (tc_and1 (tc_cmp opT_gt (te_ownLen 2 b_len rfl (pv 2)) te_int (nomark _))))
                                    · refine ts_cons ?_ ?_
                                      · exact ts_set 7 (ps_set nd rfl (Or.inl rfl) (te_ownSl 2 (pv 2) (to_some (te_op opT_sub (te_un unT_neg te_int) (te_op opT_mod (te_var 6 (pv 6)) te_int))) to_none)) (fun _ _ _ h => h)
                                      · refine ts_cons ?_ ?_
                                        · refine ts_while _ ?_ ?_ ?_
                                          · exact PassesOwn.never
                                          · refine tc_cmp opT_gt ?_ ?_ ?_
                                            · refine te_of_cb ?_
                                              · refine pe_callB (callT_sum (by rfl)) ?_ ?_ PyProof.Rows.boot_sum ?_
                                                · exact by rfl
                                                · exact b_sum
                                                · refine ta_cons ?_ ?_
                                                  · refine te_fresh ?_
                                                    · refine tf_comp (N := ["_law_one"]) ?_ ?_ ?_ ?_ ?_ ?_ ?_ ?_
                                                      · exact ⟨rfl, fun j k h => match j, h with | _ + 0, h => (by cases h)⟩
                                                      · exact ⟨rfl, rfl, by decide +kernel, by decide +kernel⟩
                                                      · exact rfl
                                                      · exact ti_seq (te_var 7 (pv 7))
                                                      · exact sz_seq
                                                      · exact fun C s₀ H₀ ex pn => pgE fun B => (tg_name 0 (pg_name (show (["_law_one"] : List Str).Nodup by decide +kernel) rfl (Or.inl rfl)))
                                                      · exact fun C s₀ H₀ ex pn => ptsE_nil
                                                      · exact fun C s₀ H₀ ex pn => peE fun B => (te_callD d_law_many hr (by rfl) (ta_cons (te_var 0 (pv 0)) ta_nil) (eq_cons eq_nil))
                                                  · exact ta_nil
                                            · exact te_int
                                            · exact nomark _
                                          · exact ts_one (ts_set 7 (ps_set nd rfl (Or.inl rfl) (te_slice (te_var 7 (pv 7)) (to_some te_int) to_none)) (fun _ _ _ h => h))
                                        · refine ts_one ?_
                                          · refine ts_append _ ?_
                                            · refine ps_expr ?_
                                              · refine pe_bm PySem.F.plainAttrs_list PySem.F.slot_list_append PySem.F.type_list_append mt_append ?_ ?_
                                                · exact pv 2
                                                · refine pa_cons ?_ ?_
                                                  · refine te_tup ?_ ?_
                                                    · exact ta_cons (te_ix hu (te_lst (ta_cons te_str (ta_cons te_str ta_nil)) (le1000 (len_cons (len_cons len_nil)) (by decide))) (te_op opT_sub (te_var 5 (pv 5)) te_int) (fun _ _ => rfl)) (ta_cons (te_trev rfl (by rfl) b_tuple (by rfl) b_reversed (te_var 7 (pv 7))) ta_nil)
                                                    · exact le1000 (len_cons (len_cons len_nil)) (by decide)
                                                  · exact pa_nil
                                    · refine ts_one ?_
                                      · refine ts_append _ ?_
                                        · refine ps_expr ?_
                                          · refine pe_bm PySem.F.plainAttrs_list PySem.F.slot_list_append PySem.F.type_list_append mt_append ?_ ?_
                                            · exact pv 2
                                            · refine pa_cons ?_ ?_
                                              · refine te_ix ?_ ?_ ?_ ?_
                                                · exact hu
                                                · refine te_lst ?_ ?_
                                                  · refine ta_cons ?_ ?_
                                                    · exact te_tup (ta_cons te_str (ta_cons (te_tup ta_nil (le1000 len_nil (by decide))) ta_nil)) (le1000 (len_cons (len_cons len_nil)) (by decide))
                                                    · exact ta_cons (te_tup (ta_cons te_str (ta_cons (te_tup ta_nil (le1000 len_nil (by decide))) ta_nil)) (le1000 (len_cons (len_cons len_nil)) (by decide))) ta_nil
                                                  · exact le1000 (len_cons (len_cons len_nil)) (by decide)
                                                · exact te_op opT_mod (te_var 6 (pv 6)) te_int
                                                · exact fun _ _ => rfl
                                              · exact pa_nil
      · exact sz_seq
    · exact ts_one (ts_ret (te_ownIx 2 (pv 2) (te_un unT_neg te_int) (fun _ _ => rfl)))
theorem ok_law_remark (F : Fun K "_law_remark" "_law_remark" s_law_remark f fd) (hmg : mg "_law_remark" = some (.ref f)) (d_law_many : DefOk P w K mg base "_law_many" 40 ["_law_remark_here"] (_root_.K.m_law_many 40)) (d_law_sum : DefOk P w K mg base "_law_sum" 2 ["_law_digits"] (_root_.K.m_law_sum)) (b_len : mg "len" = none) (b_reversed : mg "reversed" = none) (b_sum : mg "sum" = none) (b_tuple : mg "tuple" = none) : DefOk P w K mg base "_law_remark" 41 ["_law_cells", "_law_free"] _root_.K.m_law_remark :=
  ⟨f, fd, fo_law_remark F d_law_many d_law_sum b_len b_reversed b_sum b_tuple, F.binds (ps := ["_law_cells", "_law_free"]) fun _ _ _ _ _ _ us hl => match us, hl with | [_, _], _ => rfl, F.kp, hmg⟩
noncomputable abbrev s_law_value : Stmt := top 27
theorem sc_law_value : FnScope ["_law_one", "_law_book_here", "_law_total", "_law_box", "_law_times"] ["_law_one", "_law_book_here"] (defScope s_law_value) := ⟨rfl, rfl, rfl, by decide +kernel, rfl, by decide +kernel, by decide +kernel⟩
theorem fo_law_value (F : Fun K "_law_value" "_law_value" s_law_value f fd) : FnOk P w K mg base CX0 1 f fd ["_law_one", "_law_book_here"] (spF K (["_law_one", "_law_book_here"] : List Str).length _root_.K.m_law_value) := by
  refine fn_tree (N := ["_law_one", "_law_book_here", "_law_total", "_law_box", "_law_times"]) F sc_law_value (by decide)  fun cdv A outer s H E B hr => ?_
  have hu := hu_of hr
  have hq := hr.units
  have nd : (["_law_one", "_law_book_here", "_law_total", "_law_box", "_law_times"] : List Str).Nodup := sc_law_value.nd
  refine ts_cons ?_ ?_
  · exact ts_set 2 (ps_set nd rfl (Or.inl rfl) (te_ix hu (te_var 0 (pv 0)) te_int (fun _ _ => rfl))) (fun _ _ _ h => h)
  · refine ts_cons ?_ ?_
    · refine ts_for ?_ ?_ ?_ ?_ ?_ ?_
      · exact PassesOwn.never
      · exact rfl
      · exact ti_seq (te_ix hu (te_var 0 (pv 0)) te_int (fun _ _ => rfl))
      · exact tg_tup (is := [3, 4]) (pg_tup rfl (pgs_cons (pg_name nd rfl (Or.inl rfl)) (pgs_cons (pg_name nd rfl (Or.inl rfl)) pgs_nil)))
      · exact ts_one (ts_set 2 (ps_set nd rfl (Or.inl rfl) (te_op opT_add (te_var 2 (pv 2)) (te_op opT_mul (te_var 4 (pv 4)) (te_ix hu (te_var 1 (pv 1)) (te_var 3 (pv 3)) (fun _ _ => rfl))))) (fun _ _ _ h => h))
      · exact sz_seq
    · exact ts_one (ts_ret (te_var 2 (pv 2)))
theorem ok_law_value (F : Fun K "_law_value" "_law_value" s_law_value f fd) (hmg : mg "_law_value" = some (.ref f)) : DefOk P w K mg base "_law_value" 1 ["_law_one", "_law_book_here"] _root_.K.m_law_value :=
  ⟨f, fd, fo_law_value F, F.binds (ps := ["_law_one", "_law_book_here"]) fun _ _ _ _ _ _ us hl => match us, hl with | [_, _], _ => rfl, F.kp, hmg⟩
noncomputable abbrev s_law_holds : Stmt := top 28
theorem sc_law_holds : FnScope ["_law_remark_here", "_law_book_here"] ["_law_remark_here", "_law_book_here"] (defScope s_law_holds) := ⟨rfl, rfl, rfl, by decide +kernel, rfl, by decide +kernel, by decide +kernel⟩
theorem fo_law_holds (F : Fun K "_law_holds" "_law_holds" s_law_holds f fd) {nn : Nat} (d_law_holds : DefOk P w K mg base "_law_holds" (1 + nn) ["_law_remark_here", "_law_book_here"] (_root_.K.m_law_holds nn)) (d_law_value : DefOk P w K mg base "_law_value" 1 ["_law_one", "_law_book_here"] (_root_.K.m_law_value)) (b_len : mg "len" = none) : FnOk P w K mg base CX0 (1 + nn + 1) f fd ["_law_remark_here", "_law_book_here"] (spF K (["_law_remark_here", "_law_book_here"] : List Str).length (_root_.K.m_law_holds (nn + 1))) := by
  have d_law_holds := d_law_holds.mono (show (1 + nn) ≤ (1 + nn) by first | decide | omega)
  have d_law_value := d_law_value.mono (show 1 ≤ (1 + nn) by first | decide | omega)
  refine fn_tree (N := ["_law_remark_here", "_law_book_here"]) F sc_law_holds (by decide)  fun cdv A outer s H E B hr => ?_
  have hu := hu_of hr
  have hq := hr.units
  have nd : (["_law_remark_here", "_law_book_here"] : List Str).Nodup := sc_law_holds.nd
  refine ts_cons ?_ ?_
  · refine ts_if ?_ ?_ ?_
    · exact tc_cmp (opT_eq hq) (te_ix hu (te_var 0 (pv 0)) te_int (fun _ _ => rfl)) te_str (nomark _)
    · exact ts_one (ts_ret (te_cmp opT_le (te_callD d_law_value hr (by rfl) (ta_cons (te_ix hu (te_var 0 (pv 0)) te_int (fun _ _ => rfl)) (ta_cons (te_var 1 (pv 1)) ta_nil)) (eq_cons (eq_cons eq_nil))) te_int (nomark _)))
    · exact ts_nil
  · refine ts_cons ?_ ?_
    · refine ts_if ?_ ?_ ?_
      · exact tc_cmp (opT_eq hq) (te_ix hu (te_var 0 (pv 0)) te_int (fun _ _ => rfl)) te_str (nomark _)
      · exact ts_one (ts_ret (te_cmp (opT_eq hq) (te_op opT_mod (te_callD d_law_value hr (by rfl) (ta_cons (te_ix hu (te_var 0 (pv 0)) te_int (fun _ _ => rfl)) (ta_cons (te_var 1 (pv 1)) ta_nil)) (eq_cons (eq_cons eq_nil))) (te_ix hu (te_var 0 (pv 0)) te_int (fun _ _ => rfl))) te_int (nomark _)))
      · exact ts_nil
    · refine ts_cons ?_ ?_
      · refine ts_if ?_ ?_ ?_
        · exact tc_cmp (opT_eq hq) (te_ix hu (te_var 0 (pv 0)) te_int (fun _ _ => rfl)) te_str (nomark _)
        · exact ts_one (ts_ret (te_cmp (opT_eq hq) (te_ix hu (te_var 1 (pv 1)) (te_op opT_add te_str (te_ix hu (te_var 0 (pv 0)) te_int (fun _ _ => rfl))) (fun _ _ => rfl)) (te_ix hu (te_var 0 (pv 0)) te_int (fun _ _ => rfl)) (nomark _)))
        · exact ts_nil
      · refine ts_cons ?_ ?_
        · exact ts_if (tc_cmp (opT_eq hq) (te_ix hu (te_var 0 (pv 0)) te_int (fun _ _ => rfl)) te_str (nomark _))   (ts_one (ts_ret (te_not (te_callD d_law_holds hr (by rfl) (ta_cons (te_ix hu (te_var 0 (pv 0)) te_int (fun _ _ => rfl)) (ta_cons (te_var 1 (pv 1)) ta_nil)) (eq_cons (eq_cons eq_nil))))))   ts_nil
        · refine ts_cons ?_ ?_
          · refine ts_if ?_ ?_ ?_
            · exact tc_cmp (opT_eq hq) (te_ix hu (te_var 0 (pv 0)) te_int (fun _ _ => rfl)) te_str (nomark _)
            · refine ts_one ?_
              · refine ts_ret ?_
                · refine te_cmp (opT_eq hq) ?_ ?_ ?_
                  · refine te_of_cb ?_
                    · refine pe_callB callT_len ?_ ?_ PySem.boot_len ?_
                      · exact by rfl
                      · exact b_len
                      · refine ta_cons ?_ ?_
                        · refine te_fresh ?_
                          · refine tf_comp (N := ["_law_one", "_law_book_here"]) ?_ ?_ ?_ ?_ ?_ ?_ ?_ ?_
                            · exact ⟨rfl, fun j k h => match j, h with | 0, h => (by cases h; exact ⟨_, rfl, rfl, ⟨.inl rfl, .inr (.inl rfl), .inl rfl⟩⟩) | _ + 1, h => (by cases h)⟩
                            · exact ⟨rfl, rfl, by decide +kernel, by decide +kernel⟩
                            · exact rfl
                            · exact ti_seq (te_ix hu (te_var 0 (pv 0)) te_int (fun _ _ => rfl))
                            · exact sz_seq
                            · exact fun C s₀ H₀ ex pn => pgE fun B => (tg_name 0 (pg_name (show (["_law_one", "_law_book_here"] : List Str).Nodup by decide +kernel) rfl (Or.inl rfl)))
                            · exact fun C s₀ H₀ ex pn => (ptsE_one fun B => (tc_not (tc_val (te_callD d_law_holds hr (by rfl) (ta_cons (te_var 0 (pv 0)) (ta_cons (te_var 1 (pv 1)) ta_nil)) (eq_cons (eq_cons eq_nil))))))
                            · exact fun C s₀ H₀ ex pn => peE fun B => te_int
                        · exact ta_nil
                  · exact te_int
                  · exact nomark _
            · exact ts_nil
          · refine ts_one ?_
            · refine ts_ret ?_
              · refine te_cmp opT_gt ?_ ?_ ?_
                · refine te_of_cb ?_
                  · refine pe_callB callT_len ?_ ?_ PySem.boot_len ?_
                    · exact by rfl
                    · exact b_len
                    · refine ta_cons ?_ ?_
                      · refine te_fresh ?_
                        · refine tf_comp (N := ["_law_one", "_law_book_here"]) ?_ ?_ ?_ ?_ ?_ ?_ ?_ ?_
                          · exact ⟨rfl, fun j k h => match j, h with | 0, h => (by cases h; exact ⟨_, rfl, rfl, ⟨.inl rfl, .inr (.inl rfl), .inl rfl⟩⟩) | _ + 1, h => (by cases h)⟩
                          · exact ⟨rfl, rfl, by decide +kernel, by decide +kernel⟩
                          · exact rfl
                          · exact ti_seq (te_ix hu (te_var 0 (pv 0)) te_int (fun _ _ => rfl))
                          · exact sz_seq
                          · exact fun C s₀ H₀ ex pn => pgE fun B => (tg_name 0 (pg_name (show (["_law_one", "_law_book_here"] : List Str).Nodup by decide +kernel) rfl (Or.inl rfl)))
                          · exact fun C s₀ H₀ ex pn => (ptsE_one fun B => (tc_val (te_callD d_law_holds hr (by rfl) (ta_cons (te_var 0 (pv 0)) (ta_cons (te_var 1 (pv 1)) ta_nil)) (eq_cons (eq_cons eq_nil)))))
                          · exact fun C s₀ H₀ ex pn => peE fun B => te_int
                      · exact ta_nil
                · exact te_int
                · exact nomark _
theorem ok_law_holds (F : Fun K "_law_holds" "_law_holds" s_law_holds f fd) (hmg : mg "_law_holds" = some (.ref f)) {nn : Nat} (d_law_holds : DefOk P w K mg base "_law_holds" (1 + nn) ["_law_remark_here", "_law_book_here"] (_root_.K.m_law_holds nn)) (d_law_value : DefOk P w K mg base "_law_value" 1 ["_law_one", "_law_book_here"] (_root_.K.m_law_value)) (b_len : mg "len" = none) : DefOk P w K mg base "_law_holds" (1 + nn + 1) ["_law_remark_here", "_law_book_here"] (_root_.K.m_law_holds (nn + 1)) :=
  ⟨f, fd, fo_law_holds F d_law_holds d_law_value b_len, F.binds (ps := ["_law_remark_here", "_law_book_here"]) fun _ _ _ _ _ _ us hl => match us, hl with | [_, _], _ => rfl, F.kp, hmg⟩
theorem okg_law_holds {f_law_holds : Addr} {fd_law_holds : FuncData} (F_law_holds : Fun K "_law_holds" "_law_holds" s_law_holds f_law_holds fd_law_holds) (h_law_holds : mg "_law_holds" = some (.ref f_law_holds)) (d_law_value : DefOk P w K mg base "_law_value" 1 ["_law_one", "_law_book_here"] _root_.K.m_law_value) (b_len : mg "len" = none) : ∀ nn : Nat, DefOk P w K mg base "_law_holds" (1 + nn) ["_law_remark_here", "_law_book_here"] (_root_.K.m_law_holds nn)
  | 0 => DefOk.zero F_law_holds h_law_holds (F_law_holds.binds (ps := ["_law_remark_here", "_law_book_here"]) fun _ _ _ _ _ _ us hl => match us, hl with | [_, _], _ => rfl)
  | nn + 1 => by
    have ih := okg_law_holds F_law_holds h_law_holds d_law_value b_len nn
    have d_law_holds := ih
    exact ok_law_holds F_law_holds h_law_holds d_law_holds d_law_value b_len
noncomputable abbrev s_law_parts : Stmt := top 29
theorem sc_law_parts : FnScope ["_law_form", "_law_total", "_law_one", "_law_many_here"] ["_law_form"] (defScope s_law_parts) := ⟨rfl, rfl, rfl, by decide +kernel, rfl, by decide +kernel, by decide +kernel⟩
theorem fo_law_parts (F : Fun K "_law_parts" "_law_parts" s_law_parts f fd) {nn : Nat} (d_law_parts : DefOk P w K mg base "_law_parts" (0 + nn) ["_law_form"] (_root_.K.m_law_parts nn)) (b_isinstance : mg "isinstance" = none) (b_len : mg "len" = none) (b_tuple : mg "tuple" = none) : FnOk P w K mg base CX0 (0 + nn + 1) f fd ["_law_form"] (spF K (["_law_form"] : List Str).length (_root_.K.m_law_parts (nn + 1))) := by
  have d_law_parts := d_law_parts.mono (show (0 + nn) ≤ (0 + nn) by first | decide | omega)
  refine fn_tree (N := ["_law_form", "_law_total", "_law_one", "_law_many_here"]) F sc_law_parts (by decide)  fun cdv A outer s H E B hr => ?_
  have hu := hu_of hr
  have hq := hr.units
  have nd : (["_law_form", "_law_total", "_law_one", "_law_many_here"] : List Str).Nodup := sc_law_parts.nd
  refine ts_cons ?_ ?_
  · exact ts_if (tc_not (tc_val (te_isi_tuple (by rfl) b_isinstance (by rfl) b_tuple (te_var 0 (pv 0)))))   (ts_one (ts_ret te_non))   ts_nil
  · refine ts_cons ?_ ?_
    · exact ts_if (PW.pt (tc_and (tc_cmp (opT_eq hq) (te_ix hu (te_var 0 (pv 0)) te_int (fun _ _ => rfl)) te_str (nomark _)) (tc_and1 (tc_cmp (opT_eq hq) (te_of_cb (pe_callB callT_len (by rfl) b_len PySem.boot_len (ta_cons (te_var 0 (pv 0)) ta_nil))) te_int (nomark _)))))   (ts_one (ts_ret te_int))   ts_nil
    · refine ts_cons ?_ ?_
      · exact ts_if (PW.pt (tc_and (tc_cmp (opT_eq hq) (te_ix hu (te_var 0 (pv 0)) te_int (fun _ _ => rfl)) te_str (nomark _)) (tc_and1 (tc_cmp (opT_eq hq) (te_of_cb (pe_callB callT_len (by rfl) b_len PySem.boot_len (ta_cons (te_var 0 (pv 0)) ta_nil))) te_int (nomark _)))))   (ts_one (ts_ret te_int))   ts_nil
      · refine ts_cons ?_ ?_
        · refine ts_if ?_ ?_ ?_
          · refine PW.pt ?_
            · refine tc_or ?_ ?_
              · exact tc_cmp (opT_notIn hq) (te_ix hu (te_var 0 (pv 0)) te_int (fun _ _ => rfl)) (te_tup (ta_cons te_str (ta_cons te_str ta_nil)) (le1000 (len_cons (len_cons len_nil)) (by decide))) rfl
              · exact tc_or (tc_cmp (opT_ne hq) (te_of_cb (pe_callB callT_len (by rfl) b_len PySem.boot_len (ta_cons (te_var 0 (pv 0)) ta_nil))) te_int (nomark _)) (tc_or1 (tc_not (tc_val (te_isi_tuple (by rfl) b_isinstance (by rfl) b_tuple (te_ix hu (te_var 0 (pv 0)) te_int (fun _ _ => rfl))))))
          · exact ts_one (ts_ret te_non)
          · exact ts_nil
        · refine ts_cons ?_ ?_
          · exact ts_set 1 (ps_set nd rfl (Or.inl rfl) te_int) (fun _ _ _ h => h)
          · refine ts_cons ?_ ?_
            · refine ts_for ?_ ?_ ?_ ?_ ?_ ?_
              · exact PassesOwn.never
              · exact rfl
              · exact ti_seq (te_ix hu (te_var 0 (pv 0)) te_int (fun _ _ => rfl))
              · exact tg_name 2 (pg_name nd rfl (Or.inl rfl))
              · refine ts_cons ?_ ?_
                · exact ts_set 3 (ps_set nd rfl (Or.inl rfl) (te_callD d_law_parts hr (by rfl) (ta_cons (te_var 2 (pv 2)) ta_nil) (eq_cons eq_nil))) (fun _ _ _ h => h)
                · exact ts_cons (ts_if (tc_cmp opT_is (te_var 3 (pv 3)) te_non (nomark _))   (ts_one (ts_ret te_non))   ts_nil)   (ts_one (ts_set 1 (ps_set nd rfl (Or.inl rfl) (te_op opT_add (te_var 1 (pv 1)) (te_var 3 (pv 3)))) (fun _ _ _ h => h)))
              · exact sz_seq
            · exact ts_one (ts_ret (te_var 1 (pv 1)))
theorem ok_law_parts (F : Fun K "_law_parts" "_law_parts" s_law_parts f fd) (hmg : mg "_law_parts" = some (.ref f)) {nn : Nat} (d_law_parts : DefOk P w K mg base "_law_parts" (0 + nn) ["_law_form"] (_root_.K.m_law_parts nn)) (b_isinstance : mg "isinstance" = none) (b_len : mg "len" = none) (b_tuple : mg "tuple" = none) : DefOk P w K mg base "_law_parts" (0 + nn + 1) ["_law_form"] (_root_.K.m_law_parts (nn + 1)) :=
  ⟨f, fd, fo_law_parts F d_law_parts b_isinstance b_len b_tuple, F.binds (ps := ["_law_form"]) fun _ _ _ _ _ _ us hl => match us, hl with | [_], _ => rfl, F.kp, hmg⟩
theorem okg_law_parts {f_law_parts : Addr} {fd_law_parts : FuncData} (F_law_parts : Fun K "_law_parts" "_law_parts" s_law_parts f_law_parts fd_law_parts) (h_law_parts : mg "_law_parts" = some (.ref f_law_parts)) (b_isinstance : mg "isinstance" = none) (b_len : mg "len" = none) (b_tuple : mg "tuple" = none) : ∀ nn : Nat, DefOk P w K mg base "_law_parts" (0 + nn) ["_law_form"] (_root_.K.m_law_parts nn)
  | 0 => DefOk.zero F_law_parts h_law_parts (F_law_parts.binds (ps := ["_law_form"]) fun _ _ _ _ _ _ us hl => match us, hl with | [_], _ => rfl)
  | nn + 1 => by
    have ih := okg_law_parts F_law_parts h_law_parts b_isinstance b_len b_tuple nn
    have d_law_parts := ih
    exact ok_law_parts F_law_parts h_law_parts d_law_parts b_isinstance b_len b_tuple
noncomputable abbrev s_law_less : Stmt := top 30
theorem sc_law_less : FnScope ["_law_one", "_law_other", "_law_book_here", "_law_box", "_law_times"] ["_law_one", "_law_other"] (defScope s_law_less) := ⟨rfl, rfl, rfl, by decide +kernel, rfl, by decide +kernel, by decide +kernel⟩
theorem fo_law_less (F : Fun K "_law_less" "_law_less" s_law_less f fd) (b_dict : mg "dict" = none) (b_sorted : mg "sorted" = none) (b_tuple : mg "tuple" = none) : FnOk P w K mg base CX0 1 f fd ["_law_one", "_law_other"] (spF K (["_law_one", "_law_other"] : List Str).length _root_.K.m_law_less) := by
  refine fn_tree (N := ["_law_one", "_law_other", "_law_book_here", "_law_box", "_law_times"]) F sc_law_less (by decide)  fun cdv A outer s H E B hr => ?_
  have hu := hu_of hr
  have hq := hr.units
  have nd : (["_law_one", "_law_other", "_law_book_here", "_law_box", "_law_times"] : List Str).Nodup := sc_law_less.nd
  refine ts_cons ?_ ?_
  · exact ts_new 2 (ps_set nd rfl (Or.inr rfl) (tf_dict rfl (by rfl) b_dict (te_ix hu (te_var 0 (pv 0)) te_int (fun _ _ => rfl)))) (fun _ _ _ h => h)
  · refine ts_cons ?_ ?_
    · refine ts_for ?_ ?_ ?_ ?_ ?_ ?_
      · exact PassesOwn.never
      · exact rfl
      · exact ti_seq (te_ix hu (te_var 1 (pv 1)) te_int (fun _ _ => rfl))
      · exact tg_tup (is := [3, 4]) (pg_tup rfl (pgs_cons (pg_name nd rfl (Or.inl rfl)) (pgs_cons (pg_name nd rfl (Or.inl rfl)) pgs_nil)))
      · exact ts_one (ts_ownPut 2 hu (pv 2) (te_var 3 (pv 3)) (te_op opT_sub (te_ownGet 2 hu (pv 2) (te_var 3 (pv 3)) te_int ⟨rfl, rfl, rfl, rfl⟩) (te_var 4 (pv 4))) rfl)
      · exact sz_seq
    · refine ts_one ?_
      · refine ts_ret ?_
        · refine te_tup ?_ ?_
          · refine ta_cons ?_ ?_
            · exact te_op opT_sub (te_ix hu (te_var 0 (pv 0)) te_int (fun _ _ => rfl)) (te_ix hu (te_var 1 (pv 1)) te_int (fun _ _ => rfl))
            · refine ta_cons ?_ ?_
              · refine te_of_cb ?_
                · refine pe_callTy callT_tuple ?_ ?_ PyProof.Rows.boot_tuple ?_
                  · exact by rfl
                  · exact b_tuple
                  · refine ta_cons ?_ ?_
                    · refine te_fresh ?_
                      · refine tf_comp (N := ["_law_box", "_law_book_here"]) ?_ ?_ ?_ ?_ ?_ ?_ ?_ ?_
                        · exact ⟨rfl, fun j k h => match j, h with | 0, h => (by cases h; exact ⟨_, rfl, rfl, ⟨.inl rfl, .inr (.inl rfl), .inl rfl⟩⟩) | _ + 1, h => (by cases h)⟩
                        · exact ⟨rfl, rfl, by decide +kernel, by decide +kernel⟩
                        · exact rfl
                        · exact ti_seq (te_of_cb (pe_callB (callT_sorted (by rfl)) (by rfl) b_sorted PyProof.Rows.boot_sorted (ta_cons (te_var 2 (pv 2)) ta_nil)))
                        · exact sz_seq
                        · exact fun C s₀ H₀ ex pn => pgE fun B => (tg_name 0 (pg_name (show (["_law_box", "_law_book_here"] : List Str).Nodup by decide +kernel) rfl (Or.inl rfl)))
                        · exact fun C s₀ H₀ ex pn => (ptsE_one fun B => (tc_cmp (opT_ne hq) (te_ix hu (te_var 1 (pv 1)) (te_var 0 (pv 0)) (fun _ _ => rfl)) te_int (nomark _)))
                        · exact fun C s₀ H₀ ex pn => peE fun B => (te_tup (ta_cons (te_var 0 (pv 0)) (ta_cons (te_ix hu (te_var 1 (pv 1)) (te_var 0 (pv 0)) (fun _ _ => rfl)) ta_nil)) (le1000 (len_cons (len_cons len_nil)) (by decide)))
                    · exact ta_nil
              · exact ta_nil
          · exact le1000 (len_cons (len_cons len_nil)) (by decide)
theorem ok_law_less (F : Fun K "_law_less" "_law_less" s_law_less f fd) (hmg : mg "_law_less" = some (.ref f)) (b_dict : mg "dict" = none) (b_sorted : mg "sorted" = none) (b_tuple : mg "tuple" = none) : DefOk P w K mg base "_law_less" 1 ["_law_one", "_law_other"] _root_.K.m_law_less :=
  ⟨f, fd, fo_law_less F b_dict b_sorted b_tuple, F.binds (ps := ["_law_one", "_law_other"]) fun _ _ _ _ _ _ us hl => match us, hl with | [_, _], _ => rfl, F.kp, hmg⟩
noncomputable abbrev s_law_plain : Stmt := top 31
theorem sc_law_plain : FnScope ["_law_remark_here", "_law_box"] ["_law_remark_here"] (defScope s_law_plain) := ⟨rfl, rfl, rfl, by decide +kernel, rfl, by decide +kernel, by decide +kernel⟩
theorem fo_law_plain (F : Fun K "_law_plain" "_law_plain" s_law_plain f fd) {nn : Nat} (d_law_against : DefOk P w K mg base "_law_against" (1 + nn) ["_law_remark_here"] (_root_.K.m_law_against nn)) (d_law_plain : DefOk P w K mg base "_law_plain" (1 + nn) ["_law_remark_here"] (_root_.K.m_law_plain nn)) (b_tuple : mg "tuple" = none) : FnOk P w K mg base CX0 (1 + nn + 1) f fd ["_law_remark_here"] (spF K (["_law_remark_here"] : List Str).length (_root_.K.m_law_plain (nn + 1))) := by
  have d_law_against := d_law_against.mono (show (1 + nn) ≤ (1 + nn) by first | decide | omega)
  have d_law_plain := d_law_plain.mono (show (1 + nn) ≤ (1 + nn) by first | decide | omega)
  refine fn_tree (N := ["_law_remark_here", "_law_box"]) F sc_law_plain (by decide)  fun cdv A outer s H E B hr => ?_
  have hu := hu_of hr
  have hq := hr.units
  have nd : (["_law_remark_here", "_law_box"] : List Str).Nodup := sc_law_plain.nd
  refine ts_cons ?_ ?_
  · refine ts_if ?_ ?_ ?_
    · exact tc_cmp (opT_eq hq) (te_ix hu (te_var 0 (pv 0)) te_int (fun _ _ => rfl)) te_str (nomark _)
    · refine ts_cons ?_ ?_
      · exact ts_set 1 (ps_set nd rfl (Or.inl rfl) (te_op opT_add te_str (te_ix hu (te_var 0 (pv 0)) te_int (fun _ _ => rfl)))) (fun _ _ _ h => h)
      · refine ts_one ?_
        · refine ts_ret ?_
          · refine te_tup ?_ ?_
            · refine ta_cons ?_ ?_
              · exact te_str
              · refine ta_cons ?_ ?_
                · refine te_tup ?_ ?_
                  · refine ta_cons ?_ ?_
                    · refine te_tup ?_ ?_
                      · refine ta_cons ?_ ?_
                        · exact te_str
                        · refine ta_cons ?_ ?_
                          · refine te_tup ?_ ?_
                            · exact ta_cons (te_un unT_neg (te_ix hu (te_var 0 (pv 0)) te_int (fun _ _ => rfl))) (ta_cons (te_tup (ta_cons (te_tup (ta_cons (te_var 1 (pv 1)) (ta_cons te_int ta_nil)) (le1000 (len_cons (len_cons len_nil)) (by decide))) ta_nil) (le1000 (len_cons len_nil) (by decide))) ta_nil)
                            · exact le1000 (len_cons (len_cons len_nil)) (by decide)
                          · exact ta_nil
                      · exact le1000 (len_cons (len_cons len_nil)) (by decide)
                    · refine ta_cons ?_ ?_
                      · refine te_tup ?_ ?_
                        · refine ta_cons ?_ ?_
                          · exact te_str
                          · refine ta_cons ?_ ?_
                            · refine te_tup ?_ ?_
                              · exact ta_cons (te_ix hu (te_var 0 (pv 0)) te_int (fun _ _ => rfl)) (ta_cons (te_tup (ta_cons (te_tup (ta_cons (te_var 1 (pv 1)) (ta_cons (te_un unT_neg te_int) ta_nil)) (le1000 (len_cons (len_cons len_nil)) (by decide))) ta_nil) (le1000 (len_cons len_nil) (by decide))) ta_nil)
                              · exact le1000 (len_cons (len_cons len_nil)) (by decide)
                            · exact ta_nil
                        · exact le1000 (len_cons (len_cons len_nil)) (by decide)
                      · exact ta_nil
                  · exact le1000 (len_cons (len_cons len_nil)) (by decide)
                · exact ta_nil
            · exact le1000 (len_cons (len_cons len_nil)) (by decide)
    · exact ts_nil
  · refine ts_cons ?_ ?_
    · exact ts_if (tc_cmp (opT_eq hq) (te_ix hu (te_var 0 (pv 0)) te_int (fun _ _ => rfl)) te_str (nomark _))   (ts_one (ts_ret (te_callD d_law_against hr (by rfl) (ta_cons (te_ix hu (te_var 0 (pv 0)) te_int (fun _ _ => rfl)) ta_nil) (eq_cons eq_nil))))   ts_nil
    · refine ts_cons ?_ ?_
      · refine ts_if ?_ ?_ ?_
        · exact tc_cmp (opT_in hq) (te_ix hu (te_var 0 (pv 0)) te_int (fun _ _ => rfl)) (te_tup (ta_cons te_str (ta_cons te_str ta_nil)) (le1000 (len_cons (len_cons len_nil)) (by decide))) rfl
        · refine ts_one ?_
          · refine ts_ret ?_
            · refine te_tup ?_ ?_
              · refine ta_cons ?_ ?_
                · exact te_ix hu (te_var 0 (pv 0)) te_int (fun _ _ => rfl)
                · refine ta_cons ?_ ?_
                  · refine te_of_cb ?_
                    · refine pe_callTy callT_tuple ?_ ?_ PyProof.Rows.boot_tuple ?_
                      · exact by rfl
                      · exact b_tuple
                      · refine ta_cons ?_ ?_
                        · refine te_fresh ?_
                          · refine tf_comp (N := ["_law_one"]) ?_ ?_ ?_ ?_ ?_ ?_ ?_ ?_
                            · exact ⟨rfl, fun j k h => match j, h with | _ + 0, h => (by cases h)⟩
                            · exact ⟨rfl, rfl, by decide +kernel, by decide +kernel⟩
                            · exact rfl
                            · exact ti_seq (te_ix hu (te_var 0 (pv 0)) te_int (fun _ _ => rfl))
                            · exact sz_seq
                            · exact fun C s₀ H₀ ex pn => pgE fun B => (tg_name 0 (pg_name (show (["_law_one"] : List Str).Nodup by decide +kernel) rfl (Or.inl rfl)))
                            · exact fun C s₀ H₀ ex pn => ptsE_nil
                            · exact fun C s₀ H₀ ex pn => peE fun B => (te_callD d_law_plain hr (by rfl) (ta_cons (te_var 0 (pv 0)) ta_nil) (eq_cons eq_nil))
                        · exact ta_nil
                  · exact ta_nil
              · exact le1000 (len_cons (len_cons len_nil)) (by decide)
        · exact ts_nil
      · exact ts_one (ts_ret (te_var 0 (pv 0)))
theorem ok_law_plain (F : Fun K "_law_plain" "_law_plain" s_law_plain f fd) (hmg : mg "_law_plain" = some (.ref f)) {nn : Nat} (d_law_against : DefOk P w K mg base "_law_against" (1 + nn) ["_law_remark_here"] (_root_.K.m_law_against nn)) (d_law_plain : DefOk P w K mg base "_law_plain" (1 + nn) ["_law_remark_here"] (_root_.K.m_law_plain nn)) (b_tuple : mg "tuple" = none) : DefOk P w K mg base "_law_plain" (1 + nn + 1) ["_law_remark_here"] (_root_.K.m_law_plain (nn + 1)) :=
  ⟨f, fd, fo_law_plain F d_law_against d_law_plain b_tuple, F.binds (ps := ["_law_remark_here"]) fun _ _ _ _ _ _ us hl => match us, hl with | [_], _ => rfl, F.kp, hmg⟩
noncomputable abbrev s_law_against : Stmt := top 32
theorem sc_law_against : FnScope ["_law_remark_here", "_law_box"] ["_law_remark_here"] (defScope s_law_against) := ⟨rfl, rfl, rfl, by decide +kernel, rfl, by decide +kernel, by decide +kernel⟩
theorem fo_law_against (F : Fun K "_law_against" "_law_against" s_law_against f fd) {nn : Nat} (d_law_against : DefOk P w K mg base "_law_against" (1 + nn) ["_law_remark_here"] (_root_.K.m_law_against nn)) (d_law_less : DefOk P w K mg base "_law_less" 1 ["_law_one", "_law_other"] (_root_.K.m_law_less)) (d_law_plain : DefOk P w K mg base "_law_plain" (1 + nn) ["_law_remark_here"] (_root_.K.m_law_plain nn)) (b_int : mg "int" = none) (b_range : mg "range" = none) (b_tuple : mg "tuple" = none) : FnOk P w K mg base CX0 (1 + nn + 1) f fd ["_law_remark_here"] (spF K (["_law_remark_here"] : List Str).length (_root_.K.m_law_against (nn + 1))) := by
  have d_law_against := d_law_against.mono (show (1 + nn) ≤ (1 + nn) by first | decide | omega)
  have d_law_less := d_law_less.mono (show 1 ≤ (1 + nn) by first | decide | omega)
  have d_law_plain := d_law_plain.mono (show (1 + nn) ≤ (1 + nn) by first | decide | omega)
  refine fn_tree (N := ["_law_remark_here", "_law_box"]) F sc_law_against (by decide)  fun cdv A outer s H E B hr => ?_
  have hu := hu_of hr
  have hq := hr.units
  have nd : (["_law_remark_here", "_law_box"] : List Str).Nodup := sc_law_against.nd
  refine ts_cons ?_ ?_
  · refine ts_if ?_ ?_ ?_
    · exact tc_cmp (opT_eq hq) (te_ix hu (te_var 0 (pv 0)) te_int (fun _ _ => rfl)) te_str (nomark _)
    · refine ts_one ?_
      · refine ts_ret ?_
        · refine te_tup ?_ ?_
          · refine ta_cons ?_ ?_
            · exact te_str
            · exact ta_cons (te_callD d_law_less hr (by rfl) (ta_cons (te_tup (ta_cons te_int (ta_cons (te_tup ta_nil (le1000 len_nil (by decide))) ta_nil)) (le1000 (len_cons (len_cons len_nil)) (by decide))) (ta_cons (te_ix hu (te_var 0 (pv 0)) te_int (fun _ _ => rfl)) ta_nil)) (eq_cons (eq_cons eq_nil))) ta_nil
          · exact le1000 (len_cons (len_cons len_nil)) (by decide)
    · exact ts_nil
  · refine ts_cons ?_ ?_
    · refine ts_if ?_ ?_ ?_
      · exact tc_cmp (opT_eq hq) (te_ix hu (te_var 0 (pv 0)) te_int (fun _ _ => rfl)) te_str (nomark _)
      · refine ts_one ?_
        · refine ts_ret ?_
          · refine te_tup ?_ ?_
            · refine ta_cons ?_ ?_
              · exact te_str
              · refine ta_cons ?_ ?_
                · refine te_of_cb ?_
                  · refine pe_callTy callT_tuple ?_ ?_ PyProof.Rows.boot_tuple ?_
                    · exact by rfl
                    · exact b_tuple
                    · refine ta_cons ?_ ?_
                      · refine te_fresh ?_
                        · refine tf_comp (N := ["_law_k", "_law_remark_here"]) ?_ ?_ ?_ ?_ ?_ ?_ ?_ ?_
                          · exact ⟨rfl, fun j k h => match j, h with | 0, h => (by cases h; exact ⟨_, rfl, rfl, ⟨.inl rfl, .inr (.inl rfl), .inl rfl⟩⟩) | _ + 1, h => (by cases h)⟩
                          · exact ⟨rfl, rfl, by decide +kernel, by decide +kernel⟩
                          · exact rfl
                          · exact ti_range2 (by rfl) b_range te_int (te_ix hu (te_var 0 (pv 0)) te_int (fun _ _ => rfl))
                          · exact sz_range2
                          · exact fun C s₀ H₀ ex pn => pgE fun B => (tg_name 0 (pg_name (show (["_law_k", "_law_remark_here"] : List Str).Nodup by decide +kernel) rfl (Or.inl rfl)))
                          · exact fun C s₀ H₀ ex pn => ptsE_nil
                          · intro C s₀ H₀ ex pn
                            refine peE ?_
                            intro B
                            refine te_tup ?_ ?_
                            · refine ta_cons ?_ ?_
                              · exact te_str
                              · refine ta_cons ?_ ?_
                                · exact te_callD d_law_less hr (by rfl) (ta_cons (te_ix hu (te_var 1 (pv 1)) te_int (fun _ _ => rfl)) (ta_cons (te_tup (ta_cons (te_var 0 (pv 0)) (ta_cons (te_tup ta_nil (le1000 len_nil (by decide))) ta_nil)) (le1000 (len_cons (len_cons len_nil)) (by decide))) ta_nil)) (eq_cons (eq_cons eq_nil))
                                · exact ta_cons (te_ix hu (te_var 1 (pv 1)) te_int (fun _ _ => rfl)) ta_nil
                            · exact le1000 (len_cons (len_cons (len_cons len_nil))) (by decide)
                      · exact ta_nil
                · exact ta_nil
            · exact le1000 (len_cons (len_cons len_nil)) (by decide)
      · exact ts_nil
    · refine ts_cons ?_ ?_
      · refine ts_if ?_ ?_ ?_
        · exact tc_cmp (opT_eq hq) (te_ix hu (te_var 0 (pv 0)) te_int (fun _ _ => rfl)) te_str (nomark _)
        · refine ts_cons ?_ ?_
          · exact ts_set 1 (ps_set nd rfl (Or.inl rfl) (te_op opT_add te_str (te_ix hu (te_var 0 (pv 0)) te_int (fun _ _ => rfl)))) (fun _ _ _ h => h)
          · refine ts_one ?_
            · refine ts_ret ?_
              · refine te_tup ?_ ?_
                · refine ta_cons ?_ ?_
                  · exact te_str
                  · refine ta_cons ?_ ?_
                    · refine te_tup ?_ ?_
                      · refine ta_cons ?_ ?_
                        · refine te_tup ?_ ?_
                          · refine ta_cons ?_ ?_
                            · exact te_str
                            · refine ta_cons ?_ ?_
                              · refine te_tup ?_ ?_
                                · exact ta_cons (te_op opT_sub te_int (te_ix hu (te_var 0 (pv 0)) te_int (fun _ _ => rfl))) (ta_cons (te_tup (ta_cons (te_tup (ta_cons (te_var 1 (pv 1)) (ta_cons te_int ta_nil)) (le1000 (len_cons (len_cons len_nil)) (by decide))) ta_nil) (le1000 (len_cons len_nil) (by decide))) ta_nil)
                                · exact le1000 (len_cons (len_cons len_nil)) (by decide)
                              · exact ta_nil
                          · exact le1000 (len_cons (len_cons len_nil)) (by decide)
                        · refine ta_cons ?_ ?_
                          · refine te_tup ?_ ?_
                            · refine ta_cons ?_ ?_
                              · exact te_str
                              · refine ta_cons ?_ ?_
                                · refine te_tup ?_ ?_
                                  · exact ta_cons (te_op opT_add (te_ix hu (te_var 0 (pv 0)) te_int (fun _ _ => rfl)) te_int) (ta_cons (te_tup (ta_cons (te_tup (ta_cons (te_var 1 (pv 1)) (ta_cons (te_un unT_neg te_int) ta_nil)) (le1000 (len_cons (len_cons len_nil)) (by decide))) ta_nil) (le1000 (len_cons len_nil) (by decide))) ta_nil)
                                  · exact le1000 (len_cons (len_cons len_nil)) (by decide)
                                · exact ta_nil
                            · exact le1000 (len_cons (len_cons len_nil)) (by decide)
                          · exact ta_nil
                      · exact le1000 (len_cons (len_cons len_nil)) (by decide)
                    · exact ta_nil
                · exact le1000 (len_cons (len_cons len_nil)) (by decide)
        · exact ts_nil
      · refine ts_cons ?_ ?_
        · exact ts_if (tc_cmp (opT_eq hq) (te_ix hu (te_var 0 (pv 0)) te_int (fun _ _ => rfl)) te_str (nomark _))   (ts_one (ts_ret (te_callD d_law_plain hr (by rfl) (ta_cons (te_ix hu (te_var 0 (pv 0)) te_int (fun _ _ => rfl)) ta_nil) (eq_cons eq_nil))))   ts_nil
        · refine ts_one ?_
          · refine ts_ret ?_
            · refine te_tup ?_ ?_
              · refine ta_cons ?_ ?_
                · refine te_ix ?_ ?_ ?_ ?_
                  · exact hu
                  · exact te_lst (ta_cons te_str (ta_cons te_str ta_nil)) (le1000 (len_cons (len_cons len_nil)) (by decide))
                  · exact te_of_cb (pe_callTy callT_int (by rfl) b_int PyProof.Rows.boot_int (ta_cons (te_cmp (opT_eq hq) (te_ix hu (te_var 0 (pv 0)) te_int (fun _ _ => rfl)) te_str (nomark _)) ta_nil))
                  · exact fun _ _ => rfl
                · refine ta_cons ?_ ?_
                  · refine te_of_cb ?_
                    · refine pe_callTy callT_tuple ?_ ?_ PyProof.Rows.boot_tuple ?_
                      · exact by rfl
                      · exact b_tuple
                      · refine ta_cons ?_ ?_
                        · refine te_fresh ?_
                          · refine tf_comp (N := ["_law_one"]) ?_ ?_ ?_ ?_ ?_ ?_ ?_ ?_
                            · exact ⟨rfl, fun j k h => match j, h with | _ + 0, h => (by cases h)⟩
                            · exact ⟨rfl, rfl, by decide +kernel, by decide +kernel⟩
                            · exact rfl
                            · exact ti_seq (te_ix hu (te_var 0 (pv 0)) te_int (fun _ _ => rfl))
                            · exact sz_seq
                            · exact fun C s₀ H₀ ex pn => pgE fun B => (tg_name 0 (pg_name (show (["_law_one"] : List Str).Nodup by decide +kernel) rfl (Or.inl rfl)))
                            · exact fun C s₀ H₀ ex pn => ptsE_nil
                            · exact fun C s₀ H₀ ex pn => peE fun B => (te_callD d_law_against hr (by rfl) (ta_cons (te_var 0 (pv 0)) ta_nil) (eq_cons eq_nil))
                        · exact ta_nil
                  · exact ta_nil
              · exact le1000 (len_cons (len_cons len_nil)) (by decide)
theorem ok_law_against (F : Fun K "_law_against" "_law_against" s_law_against f fd) (hmg : mg "_law_against" = some (.ref f)) {nn : Nat} (d_law_against : DefOk P w K mg base "_law_against" (1 + nn) ["_law_remark_here"] (_root_.K.m_law_against nn)) (d_law_less : DefOk P w K mg base "_law_less" 1 ["_law_one", "_law_other"] (_root_.K.m_law_less)) (d_law_plain : DefOk P w K mg base "_law_plain" (1 + nn) ["_law_remark_here"] (_root_.K.m_law_plain nn)) (b_int : mg "int" = none) (b_range : mg "range" = none) (b_tuple : mg "tuple" = none) : DefOk P w K mg base "_law_against" (1 + nn + 1) ["_law_remark_here"] (_root_.K.m_law_against (nn + 1)) :=
  ⟨f, fd, fo_law_against F d_law_against d_law_less d_law_plain b_int b_range b_tuple, F.binds (ps := ["_law_remark_here"]) fun _ _ _ _ _ _ us hl => match us, hl with | [_], _ => rfl, F.kp, hmg⟩
theorem okg_law_plain {f_law_plain : Addr} {fd_law_plain : FuncData} {f_law_against : Addr} {fd_law_against : FuncData} (F_law_plain : Fun K "_law_plain" "_law_plain" s_law_plain f_law_plain fd_law_plain) (h_law_plain : mg "_law_plain" = some (.ref f_law_plain)) (F_law_against : Fun K "_law_against" "_law_against" s_law_against f_law_against fd_law_against) (h_law_against : mg "_law_against" = some (.ref f_law_against)) (d_law_less : DefOk P w K mg base "_law_less" 1 ["_law_one", "_law_other"] _root_.K.m_law_less) (b_int : mg "int" = none) (b_range : mg "range" = none) (b_tuple : mg "tuple" = none) : ∀ nn : Nat, DefOk P w K mg base "_law_plain" (1 + nn) ["_law_remark_here"] (_root_.K.m_law_plain nn) ∧ DefOk P w K mg base "_law_against" (1 + nn) ["_law_remark_here"] (_root_.K.m_law_against nn)
  | 0 => ⟨DefOk.zero F_law_plain h_law_plain (F_law_plain.binds (ps := ["_law_remark_here"]) fun _ _ _ _ _ _ us hl => match us, hl with | [_], _ => rfl), DefOk.zero F_law_against h_law_against (F_law_against.binds (ps := ["_law_remark_here"]) fun _ _ _ _ _ _ us hl => match us, hl with | [_], _ => rfl)⟩
  | nn + 1 => by
    have ih := okg_law_plain F_law_plain h_law_plain F_law_against h_law_against d_law_less b_int b_range b_tuple nn
    obtain ⟨d_law_plain, d_law_against⟩ := ih
    exact ⟨ok_law_plain F_law_plain h_law_plain d_law_against d_law_plain b_tuple, ok_law_against F_law_against h_law_against d_law_against d_law_less d_law_plain b_int b_range b_tuple⟩
noncomputable abbrev s_law_book : Stmt := top 33
theorem sc_law_book : FnScope ["_law_script", "_law_k", "_law_here", "_law_there", "_law_book_here"] ["_law_script", "_law_k"] (defScope s_law_book) := ⟨rfl, rfl, rfl, by decide +kernel, rfl, by decide +kernel, by decide +kernel⟩
theorem fo_law_book (F : Fun K "_law_book" "_law_book" s_law_book f fd) (d_law_cell_at : DefOk P w K mg base "_law_cell_at" 1 ["_law_script", "_law_k"] (_root_.K.m_law_cell_at)) (d_law_signed : DefOk P w K mg base "_law_signed" 1 ["_law_cell", "_law_most"] (_root_.K.m_law_signed)) : FnOk P w K mg base CX0 2 f fd ["_law_script", "_law_k"] (spF K (["_law_script", "_law_k"] : List Str).length _root_.K.m_law_book) := by
  have d_law_cell_at := d_law_cell_at.mono (show 1 ≤ 1 by first | decide | omega)
  have d_law_signed := d_law_signed.mono (show 1 ≤ 1 by first | decide | omega)
  refine fn_tree (N := ["_law_script", "_law_k", "_law_here", "_law_there", "_law_book_here"]) F sc_law_book (by decide)  fun cdv A outer s H E B hr => ?_
  have hu := hu_of hr
  have hq := hr.units
  have nd : (["_law_script", "_law_k", "_law_here", "_law_there", "_law_book_here"] : List Str).Nodup := sc_law_book.nd
  refine ts_cons ?_ ?_
  · exact ts_set 2 (ps_set nd rfl (Or.inl rfl) (te_callD d_law_cell_at hr (by rfl) (ta_cons (te_var 0 (pv 0)) (ta_cons (te_op opT_mod (te_var 1 (pv 1)) te_int) ta_nil)) (eq_cons (eq_cons eq_nil)))) (fun _ _ _ h => h)
  · refine ts_cons ?_ ?_
    · exact ts_set 3 (ps_set nd rfl (Or.inl rfl) (te_callD d_law_cell_at hr (by rfl) (ta_cons (te_var 0 (pv 0)) (ta_cons (te_op opT_sub te_int (te_op opT_mod (te_var 1 (pv 1)) te_int)) ta_nil)) (eq_cons (eq_cons eq_nil)))) (fun _ _ _ h => h)
    · refine ts_cons ?_ ?_
      · refine @ts_new _ _ _ _ (fOf _ _ _) _ ?_ (fun _ _ _ h => h)
        · refine ps_set ?_ ?_ ?_ ?_
          · exact nd
          · exact rfl
          · exact Or.inl rfl
          · refine tf_disp2 ?_ ?_ ?_
            · exact fun B => (te_callD d_law_signed hr (by rfl) (ta_cons (te_op opT_fdiv (te_var 2 (pv 2)) (te_op opT_add te_int (te_var 1 (pv 1)))) (ta_cons (te_op opT_pow te_int te_int) ta_nil)) (eq_cons (eq_cons eq_nil)))
            · exact fun B => (te_callD d_law_signed hr (by rfl) (ta_cons (te_op opT_fdiv (te_var 3 (pv 3)) (te_op opT_add te_int (te_var 1 (pv 1)))) (ta_cons (te_op opT_pow te_int te_int) ta_nil)) (eq_cons (eq_cons eq_nil)))
            · exact by decide +kernel
      · refine ts_cons ?_ ?_
        · refine ts_if ?_ ?_ ?_
          · exact tc_cmp opT_gt (te_var 1 (pv 1)) te_int (nomark _)
          · refine ts_cons ?_ ?_
            · exact ts_ownPut 4 hu (pv 4) te_str (te_op opT_sub (te_op opT_mod (te_op opT_fdiv (te_var 2 (pv 2)) (te_op opT_add te_int (te_var 1 (pv 1)))) te_int) te_int) rfl
            · exact ts_one (ts_ownPut 4 hu (pv 4) te_str (te_op opT_sub (te_op opT_mod (te_op opT_fdiv (te_var 3 (pv 3)) (te_op opT_add te_int (te_var 1 (pv 1)))) te_int) te_int) rfl)
          · exact ts_nil
        · refine ts_cons ?_ ?_
          · exact ts_ownPut 4 hu (pv 4) te_str (te_op opT_mod (te_op opT_fdiv (te_var 2 (pv 2)) (te_op opT_add te_int (te_var 1 (pv 1)))) te_int) rfl
          · exact ts_cons (ts_ownPut 4 hu (pv 4) te_str (te_op opT_mod (te_op opT_fdiv (te_var 3 (pv 3)) (te_op opT_add te_int (te_var 1 (pv 1)))) te_int) rfl)   (ts_one (ts_ret (te_var 4 (pv 4))))
theorem ok_law_book (F : Fun K "_law_book" "_law_book" s_law_book f fd) (hmg : mg "_law_book" = some (.ref f)) (d_law_cell_at : DefOk P w K mg base "_law_cell_at" 1 ["_law_script", "_law_k"] (_root_.K.m_law_cell_at)) (d_law_signed : DefOk P w K mg base "_law_signed" 1 ["_law_cell", "_law_most"] (_root_.K.m_law_signed)) : DefOk P w K mg base "_law_book" 2 ["_law_script", "_law_k"] _root_.K.m_law_book :=
  ⟨f, fd, fo_law_book F d_law_cell_at d_law_signed, F.binds (ps := ["_law_script", "_law_k"]) fun _ _ _ _ _ _ us hl => match us, hl with | [_, _], _ => rfl, F.kp, hmg⟩
noncomputable abbrev s_law : Stmt := top 34
theorem sc_law : FnScope ["_law_script", "_law_free", "_law_remark_here", "_law_plain_here", "_law_against_here", "_law_parts_here", "_law_k", "_law_book_here", "_law_due", "_law_told"] ["_law_script"] (defScope s_law) := ⟨rfl, rfl, rfl, by decide +kernel, rfl, by decide +kernel, by decide +kernel⟩
theorem fo_law (F : Fun K "law" "law" s_law f fd) (d_law_against : DefOk P w K mg base "_law_against" 41 ["_law_remark_here"] (_root_.K.m_law_against 40)) (d_law_book : DefOk P w K mg base "_law_book" 2 ["_law_script", "_law_k"] (_root_.K.m_law_book)) (d_law_cell_at : DefOk P w K mg base "_law_cell_at" 1 ["_law_script", "_law_k"] (_root_.K.m_law_cell_at)) (d_law_holds : DefOk P w K mg base "_law_holds" 41 ["_law_remark_here", "_law_book_here"] (_root_.K.m_law_holds 40)) (d_law_parts : DefOk P w K mg base "_law_parts" 40 ["_law_form"] (_root_.K.m_law_parts 40)) (d_law_plain : DefOk P w K mg base "_law_plain" 41 ["_law_remark_here"] (_root_.K.m_law_plain 40)) (d_law_remark : DefOk P w K mg base "_law_remark" 41 ["_law_cells", "_law_free"] (_root_.K.m_law_remark)) (d_against_form : DefOk P w K mg base "against_form" 43 ["remark"] (_root_.K.m_against_form 40)) (d_form_parts : DefOk P w K mg base "form_parts" 4 ["form"] (_root_.K.m_form_parts)) (d_form_true : DefOk P w K mg base "form_true" 42 ["form", "book"] (_root_.K.m_form_true)) (d_plain_form : DefOk P w K mg base "plain_form" 43 ["remark"] (_root_.K.m_plain_form 40)) (b_bool : mg "bool" = none) (b_isinstance : mg "isinstance" = none) (b_range : mg "range" = none) : FnOk P w K mg base CX0 44 f fd ["_law_script"] (spF K (["_law_script"] : List Str).length _root_.K.m_law) := by
  have d_law_against := d_law_against.mono (show 41 ≤ 43 by first | decide | omega)
  have d_law_book := d_law_book.mono (show 2 ≤ 43 by first | decide | omega)
  have d_law_cell_at := d_law_cell_at.mono (show 1 ≤ 43 by first | decide | omega)
  have d_law_holds := d_law_holds.mono (show 41 ≤ 43 by first | decide | omega)
  have d_law_parts := d_law_parts.mono (show 40 ≤ 43 by first | decide | omega)
  have d_law_plain := d_law_plain.mono (show 41 ≤ 43 by first | decide | omega)
  have d_law_remark := d_law_remark.mono (show 41 ≤ 43 by first | decide | omega)
  have d_against_form := d_against_form.mono (show 43 ≤ 43 by first | decide | omega)
  have d_form_parts := d_form_parts.mono (show 4 ≤ 43 by first | decide | omega)
  have d_form_true := d_form_true.mono (show 42 ≤ 43 by first | decide | omega)
  have d_plain_form := d_plain_form.mono (show 43 ≤ 43 by first | decide | omega)
  refine fn_tree (N := ["_law_script", "_law_free", "_law_remark_here", "_law_plain_here", "_law_against_here", "_law_parts_here", "_law_k", "_law_book_here", "_law_due", "_law_told"]) F sc_law (by decide)  fun cdv A outer s H E B hr => ?_
  have hu := hu_of hr
  have hq := hr.units
  have nd : (["_law_script", "_law_free", "_law_remark_here", "_law_plain_here", "_law_against_here", "_law_parts_here", "_law_k", "_law_book_here", "_law_due", "_law_told"] : List Str).Nodup := sc_law.nd
  refine ts_cons ?_ ?_
  · exact ts_set 1 (ps_set nd rfl (Or.inl rfl) (te_cmp (opT_eq hq) (te_op opT_mod (te_callD d_law_cell_at hr (by rfl) (ta_cons (te_var 0 (pv 0)) (ta_cons te_int ta_nil)) (eq_cons (eq_cons eq_nil))) te_int) te_int (nomark _))) (fun _ _ _ h => h)
  · refine ts_cons ?_ ?_
    · exact ts_set 2 (ps_set nd rfl (Or.inl rfl) (te_callD d_law_remark hr (by rfl) (ta_cons (te_slice (te_var 0 (pv 0)) (to_some te_int) (to_some te_int)) (ta_cons (te_var 1 (pv 1)) ta_nil)) (eq_cons (eq_cons eq_nil)))) (fun _ _ _ h => h)
    · refine ts_cons ?_ ?_
      · exact ts_set 3 (ps_set nd rfl (Or.inl rfl) (te_callD d_plain_form hr (by rfl) (ta_cons (te_var 2 (pv 2)) ta_nil) (eq_cons eq_nil))) (fun _ _ _ h => h)
      · refine ts_cons ?_ ?_
        · exact ts_set 4 (ps_set nd rfl (Or.inl rfl) (te_callD d_against_form hr (by rfl) (ta_cons (te_var 2 (pv 2)) ta_nil) (eq_cons eq_nil))) (fun _ _ _ h => h)
        · refine ts_cons ?_ ?_
          · exact ts_set 5 (ps_set nd rfl (Or.inl rfl) (te_callD d_law_parts hr (by rfl) (ta_cons (te_var 3 (pv 3)) ta_nil) (eq_cons eq_nil))) (fun _ _ _ h => h)
          · refine ts_cons ?_ ?_
            · refine ts_if ?_ ?_ ?_
              · refine PW.pt ?_
                · refine tc_or ?_ ?_
                  · exact tc_cmp opT_is (te_var 5 (pv 5)) te_non (nomark _)
                  · exact tc_or (tc_cmp opT_is (te_callD d_law_parts hr (by rfl) (ta_cons (te_var 4 (pv 4)) ta_nil) (eq_cons eq_nil)) te_non (nomark _)) (tc_or1 (tc_cmp (opT_ne hq) (te_callD d_form_parts hr (by rfl) (ta_cons (te_var 3 (pv 3)) ta_nil) (eq_cons eq_nil)) (te_var 5 (pv 5)) (nomark _)))
              · exact ts_one (ts_ret te_bl)
              · exact ts_nil
            · refine ts_cons ?_ ?_
              · refine ts_if ?_ ?_ ?_
                · exact PW.pt (tc_or (tc_cmp (opT_ne hq) (te_var 3 (pv 3)) (te_callD d_law_plain hr (by rfl) (ta_cons (te_var 2 (pv 2)) ta_nil) (eq_cons eq_nil)) (nomark _)) (tc_or1 (tc_cmp (opT_ne hq) (te_var 4 (pv 4)) (te_callD d_law_against hr (by rfl) (ta_cons (te_var 2 (pv 2)) ta_nil) (eq_cons eq_nil)) (nomark _))))
                · exact ts_one (ts_ret te_bl)
                · exact ts_nil
              · refine ts_cons ?_ ?_
                · refine ts_for ?_ ?_ ?_ ?_ ?_ ?_
                  · exact PassesOwn.never
                  · exact rfl
                  · exact ti_range (by rfl) b_range te_int
                  · exact tg_name 6 (pg_name nd rfl (Or.inl rfl))
                  · refine ts_cons ?_ ?_
                    · exact ts_set 7 (ps_set nd rfl (Or.inl rfl) (te_callD d_law_book hr (by rfl) (ta_cons (te_var 0 (pv 0)) (ta_cons (te_var 6 (pv 6)) ta_nil)) (eq_cons (eq_cons eq_nil)))) (fun _ _ _ h => h)
                    · refine ts_cons ?_ ?_
                      · exact ts_set 8 (ps_set nd rfl (Or.inl rfl) (te_callD d_law_holds hr (by rfl) (ta_cons (te_var 2 (pv 2)) (ta_cons (te_var 7 (pv 7)) ta_nil)) (eq_cons (eq_cons eq_nil)))) (fun _ _ _ h => h)
                      · refine ts_cons ?_ ?_
                        · exact ts_set 9 (ps_set nd rfl (Or.inl rfl) (te_callD d_form_true hr (by rfl) (ta_cons (te_var 3 (pv 3)) (ta_cons (te_var 7 (pv 7)) ta_nil)) (eq_cons (eq_cons eq_nil)))) (fun _ _ _ h => h)
                        · refine ts_cons ?_ ?_
                          · refine ts_if ?_ ?_ ?_
                            · refine PW.pt ?_
                              · refine tc_or ?_ ?_
                                · exact tc_not (tc_val (te_isi_bool (by rfl) b_isinstance (by rfl) b_bool (te_var 9 (pv 9))))
                                · exact tc_or (tc_cmp (opT_ne hq) (te_var 9 (pv 9)) (te_var 8 (pv 8)) (nomark _)) (tc_or1 (tc_cmp (opT_eq hq) (te_callD d_form_true hr (by rfl) (ta_cons (te_var 4 (pv 4)) (ta_cons (te_var 7 (pv 7)) ta_nil)) (eq_cons (eq_cons eq_nil))) (te_var 8 (pv 8)) (nomark _)))
                            · exact ts_one (ts_ret te_bl)
                            · exact ts_nil
                          · refine ts_one ?_
                            · refine ts_if ?_ ?_ ?_
                              · refine PW.pt ?_
                                · refine tc_or ?_ ?_
                                  · exact tc_cmp (opT_ne hq) (te_callD d_law_holds hr (by rfl) (ta_cons (te_var 3 (pv 3)) (ta_cons (te_var 7 (pv 7)) ta_nil)) (eq_cons (eq_cons eq_nil))) (te_var 8 (pv 8)) (nomark _)
                                  · exact tc_or1 (tc_cmp (opT_eq hq) (te_callD d_law_holds hr (by rfl) (ta_cons (te_var 4 (pv 4)) (ta_cons (te_var 7 (pv 7)) ta_nil)) (eq_cons (eq_cons eq_nil))) (te_var 8 (pv 8)) (nomark _))
                              · exact ts_one (ts_ret te_bl)
                              · exact ts_nil
                  · exact sz_range
                · exact ts_one (ts_ret te_bl)
end
end D
end
noncomputable section
set_option linter.all false
set_option maxRecDepth 100000
set_option maxHeartbeats 1000000
namespace D
open PySem L2 C
theorem all_mk {l : PySem.W.OpenLaw} {w : World} {K : PySem.W.Frag} {h : Heap} {mg : Str → Option Value} {fa f1 f2 f3 f4 f5 f6 f7 f8 f9 f10 f11 f12 f13 f14 f15 f16 f17 f18 f19 f20 f21 f22 f23 f24 f25 f26 f27 f28 f29 f30 : Addr} (X : K.In h) (G : h.Ns mainGlobals mg) (hfa : mg "law" = some (.ref fa))
    {od1 an1 od2 an2 od3 an3 od4 an4 od5 an5 od6 an6 od7 an7 od8 an8 od9 an9 od10 an10 od11 an11 od12 an12 od13 an13 od14 an14 od15 an15 od16 an16 od17 an17 od18 an18 od19 an19 od20 an20 od21 an21 od22 an22 od23 an23 od24 an24 od25 an25 od26 an26 od27 an27 od28 an28 od29 an29 od30 an30 : Option Addr} {sl1 sl2 sl3 sl4 sl5 sl6 sl7 sl8 sl9 sl10 sl11 sl12 sl13 sl14 sl15 sl16 sl17 sl18 sl19 sl20 sl21 sl22 sl23 sl24 sl25 sl26 sl27 sl28 sl29 sl30 : Array (Option Value)} {oc1 kV1 dc1 pm1 cd1 ct1 oc2 kV2 dc2 pm2 cd2 ct2 oc3 kV3 dc3 pm3 cd3 ct3 oc4 kV4 dc4 pm4 cd4 ct4 oc5 kV5 dc5 pm5 cd5 ct5 oc6 kV6 dc6 pm6 cd6 ct6 oc7 kV7 dc7 pm7 cd7 ct7 oc8 kV8 dc8 pm8 cd8 ct8 oc9 kV9 dc9 pm9 cd9 ct9 oc10 kV10 dc10 pm10 cd10 ct10 oc11 kV11 dc11 pm11 cd11 ct11 oc12 kV12 dc12 pm12 cd12 ct12 oc13 kV13 dc13 pm13 cd13 ct13 oc14 kV14 dc14 pm14 cd14 ct14 oc15 kV15 dc15 pm15 cd15 ct15 oc16 kV16 dc16 pm16 cd16 ct16 oc17 kV17 dc17 pm17 cd17 ct17 oc18 kV18 dc18 pm18 cd18 ct18 oc19 kV19 dc19 pm19 cd19 ct19 oc20 kV20 dc20 pm20 cd20 ct20 oc21 kV21 dc21 pm21 cd21 ct21 oc22 kV22 dc22 pm22 cd22 ct22 oc23 kV23 dc23 pm23 cd23 ct23 oc24 kV24 dc24 pm24 cd24 ct24 oc25 kV25 dc25 pm25 cd25 ct25 oc26 kV26 dc26 pm26 cd26 ct26 oc27 kV27 dc27 pm27 cd27 ct27 oc28 kV28 dc28 pm28 cd28 ct28 oc29 kV29 dc29 pm29 cd29 ct29 oc30 kV30 dc30 pm30 cd30 ct30 : Value}
    (a1 : PySem.W.nsIn K mainGlobals "sum_of" = some (some (.ref f1))) (l1 : K.lookup f1 = some ⟨oc1, od1, .func (PySem.W.fnOf "sum_of" "sum_of" (defArgs s_sum_of) (defBody s_sum_of) (defScope s_sum_of) .none kV1 dc1 pm1 an1 cd1 ct1), sl1⟩) (c1 : PySem.W.codeIn K cd1 "sum_of" = true) (k1 : PySem.W.keepIn K (.ref f1) = true)
    (a2 : PySem.W.nsIn K mainGlobals "plus" = some (some (.ref f2))) (l2 : K.lookup f2 = some ⟨oc2, od2, .func (PySem.W.fnOf "plus" "plus" (defArgs s_plus) (defBody s_plus) (defScope s_plus) .none kV2 dc2 pm2 an2 cd2 ct2), sl2⟩) (c2 : PySem.W.codeIn K cd2 "plus" = true) (k2 : PySem.W.keepIn K (.ref f2) = true)
    (a3 : PySem.W.nsIn K mainGlobals "by" = some (some (.ref f3))) (l3 : K.lookup f3 = some ⟨oc3, od3, .func (PySem.W.fnOf "by" "by" (defArgs s_by) (defBody s_by) (defScope s_by) .none kV3 dc3 pm3 an3 cd3 ct3), sl3⟩) (c3 : PySem.W.codeIn K cd3 "by" = true) (k3 : PySem.W.keepIn K (.ref f3) = true)
    (a4 : PySem.W.nsIn K mainGlobals "minus" = some (some (.ref f4))) (l4 : K.lookup f4 = some ⟨oc4, od4, .func (PySem.W.fnOf "minus" "minus" (defArgs s_minus) (defBody s_minus) (defScope s_minus) .none kV4 dc4 pm4 an4 cd4 ct4), sl4⟩) (c4 : PySem.W.codeIn K cd4 "minus" = true) (k4 : PySem.W.keepIn K (.ref f4) = true)
    (a5 : PySem.W.nsIn K mainGlobals "value" = some (some (.ref f5))) (l5 : K.lookup f5 = some ⟨oc5, od5, .func (PySem.W.fnOf "value" "value" (defArgs s_value) (defBody s_value) (defScope s_value) .none kV5 dc5 pm5 an5 cd5 ct5), sl5⟩) (c5 : PySem.W.codeIn K cd5 "value" = true) (k5 : PySem.W.keepIn K (.ref f5) = true)
    (a6 : PySem.W.nsIn K mainGlobals "holds" = some (some (.ref f6))) (l6 : K.lookup f6 = some ⟨oc6, od6, .func (PySem.W.fnOf "holds" "holds" (defArgs s_holds) (defBody s_holds) (defScope s_holds) .none kV6 dc6 pm6 an6 cd6 ct6), sl6⟩) (c6 : PySem.W.codeIn K cd6 "holds" = true) (k6 : PySem.W.keepIn K (.ref f6) = true)
    (a7 : PySem.W.nsIn K mainGlobals "any_is" = some (some (.ref f7))) (l7 : K.lookup f7 = some ⟨oc7, od7, .func (PySem.W.fnOf "any_is" "any_is" (defArgs s_any_is) (defBody s_any_is) (defScope s_any_is) .none kV7 dc7 pm7 an7 cd7 ct7), sl7⟩) (c7 : PySem.W.codeIn K cd7 "any_is" = true) (k7 : PySem.W.keepIn K (.ref f7) = true)
    (a8 : PySem.W.nsIn K mainGlobals "members_of" = some (some (.ref f8))) (l8 : K.lookup f8 = some ⟨oc8, od8, .func (PySem.W.fnOf "members_of" "members_of" (defArgs s_members_of) (defBody s_members_of) (defScope s_members_of) .none kV8 dc8 pm8 an8 cd8 ct8), sl8⟩) (c8 : PySem.W.codeIn K cd8 "members_of" = true) (k8 : PySem.W.keepIn K (.ref f8) = true)
    (a9 : PySem.W.nsIn K mainGlobals "parts_of" = some (some (.ref f9))) (l9 : K.lookup f9 = some ⟨oc9, od9, .func (PySem.W.fnOf "parts_of" "parts_of" (defArgs s_parts_of) (defBody s_parts_of) (defScope s_parts_of) .none kV9 dc9 pm9 an9 cd9 ct9), sl9⟩) (c9 : PySem.W.codeIn K cd9 "parts_of" = true) (k9 : PySem.W.keepIn K (.ref f9) = true)
    (a10 : PySem.W.nsIn K mainGlobals "parts_in" = some (some (.ref f10))) (l10 : K.lookup f10 = some ⟨oc10, od10, .func (PySem.W.fnOf "parts_in" "parts_in" (defArgs s_parts_in) (defBody s_parts_in) (defScope s_parts_in) .none kV10 dc10 pm10 an10 cd10 ct10), sl10⟩) (c10 : PySem.W.codeIn K cd10 "parts_in" = true) (k10 : PySem.W.keepIn K (.ref f10) = true)
    (a11 : PySem.W.nsIn K mainGlobals "form_true" = some (some (.ref f11))) (l11 : K.lookup f11 = some ⟨oc11, od11, .func (PySem.W.fnOf "form_true" "form_true" (defArgs s_form_true) (defBody s_form_true) (defScope s_form_true) .none kV11 dc11 pm11 an11 cd11 ct11), sl11⟩) (c11 : PySem.W.codeIn K cd11 "form_true" = true) (k11 : PySem.W.keepIn K (.ref f11) = true)
    (a12 : PySem.W.nsIn K mainGlobals "form_parts" = some (some (.ref f12))) (l12 : K.lookup f12 = some ⟨oc12, od12, .func (PySem.W.fnOf "form_parts" "form_parts" (defArgs s_form_parts) (defBody s_form_parts) (defScope s_form_parts) .none kV12 dc12 pm12 an12 cd12 ct12), sl12⟩) (c12 : PySem.W.codeIn K cd12 "form_parts" = true) (k12 : PySem.W.keepIn K (.ref f12) = true)
    (a13 : PySem.W.nsIn K mainGlobals "place_box" = some (some (.ref f13))) (l13 : K.lookup f13 = some ⟨oc13, od13, .func (PySem.W.fnOf "place_box" "place_box" (defArgs s_place_box) (defBody s_place_box) (defScope s_place_box) .none kV13 dc13 pm13 an13 cd13 ct13), sl13⟩) (c13 : PySem.W.codeIn K cd13 "place_box" = true) (k13 : PySem.W.keepIn K (.ref f13) = true)
    (a14 : PySem.W.nsIn K mainGlobals "equal_form" = some (some (.ref f14))) (l14 : K.lookup f14 = some ⟨oc14, od14, .func (PySem.W.fnOf "equal_form" "equal_form" (defArgs s_equal_form) (defBody s_equal_form) (defScope s_equal_form) .none kV14 dc14 pm14 an14 cd14 ct14), sl14⟩) (c14 : PySem.W.codeIn K cd14 "equal_form" = true) (k14 : PySem.W.keepIn K (.ref f14) = true)
    (a15 : PySem.W.nsIn K mainGlobals "unequal_form" = some (some (.ref f15))) (l15 : K.lookup f15 = some ⟨oc15, od15, .func (PySem.W.fnOf "unequal_form" "unequal_form" (defArgs s_unequal_form) (defBody s_unequal_form) (defScope s_unequal_form) .none kV15 dc15 pm15 an15 cd15 ct15), sl15⟩) (c15 : PySem.W.codeIn K cd15 "unequal_form" = true) (k15 : PySem.W.keepIn K (.ref f15) = true)
    (a16 : PySem.W.nsIn K mainGlobals "plain_form" = some (some (.ref f16))) (l16 : K.lookup f16 = some ⟨oc16, od16, .func (PySem.W.fnOf "plain_form" "plain_form" (defArgs s_plain_form) (defBody s_plain_form) (defScope s_plain_form) .none kV16 dc16 pm16 an16 cd16 ct16), sl16⟩) (c16 : PySem.W.codeIn K cd16 "plain_form" = true) (k16 : PySem.W.keepIn K (.ref f16) = true)
    (a17 : PySem.W.nsIn K mainGlobals "against_form" = some (some (.ref f17))) (l17 : K.lookup f17 = some ⟨oc17, od17, .func (PySem.W.fnOf "against_form" "against_form" (defArgs s_against_form) (defBody s_against_form) (defScope s_against_form) .none kV17 dc17 pm17 an17 cd17 ct17), sl17⟩) (c17 : PySem.W.codeIn K cd17 "against_form" = true) (k17 : PySem.W.keepIn K (.ref f17) = true)
    (a18 : PySem.W.nsIn K mainGlobals "_law_cell_at" = some (some (.ref f18))) (l18 : K.lookup f18 = some ⟨oc18, od18, .func (PySem.W.fnOf "_law_cell_at" "_law_cell_at" (defArgs s_law_cell_at) (defBody s_law_cell_at) (defScope s_law_cell_at) .none kV18 dc18 pm18 an18 cd18 ct18), sl18⟩) (c18 : PySem.W.codeIn K cd18 "_law_cell_at" = true) (k18 : PySem.W.keepIn K (.ref f18) = true)
    (a19 : PySem.W.nsIn K mainGlobals "_law_signed" = some (some (.ref f19))) (l19 : K.lookup f19 = some ⟨oc19, od19, .func (PySem.W.fnOf "_law_signed" "_law_signed" (defArgs s_law_signed) (defBody s_law_signed) (defScope s_law_signed) .none kV19 dc19 pm19 an19 cd19 ct19), sl19⟩) (c19 : PySem.W.codeIn K cd19 "_law_signed" = true) (k19 : PySem.W.keepIn K (.ref f19) = true)
    (a20 : PySem.W.nsIn K mainGlobals "_law_sum" = some (some (.ref f20))) (l20 : K.lookup f20 = some ⟨oc20, od20, .func (PySem.W.fnOf "_law_sum" "_law_sum" (defArgs s_law_sum) (defBody s_law_sum) (defScope s_law_sum) .none kV20 dc20 pm20 an20 cd20 ct20), sl20⟩) (c20 : PySem.W.codeIn K cd20 "_law_sum" = true) (k20 : PySem.W.keepIn K (.ref f20) = true)
    (a21 : PySem.W.nsIn K mainGlobals "_law_many" = some (some (.ref f21))) (l21 : K.lookup f21 = some ⟨oc21, od21, .func (PySem.W.fnOf "_law_many" "_law_many" (defArgs s_law_many) (defBody s_law_many) (defScope s_law_many) .none kV21 dc21 pm21 an21 cd21 ct21), sl21⟩) (c21 : PySem.W.codeIn K cd21 "_law_many" = true) (k21 : PySem.W.keepIn K (.ref f21) = true)
    (a22 : PySem.W.nsIn K mainGlobals "_law_remark" = some (some (.ref f22))) (l22 : K.lookup f22 = some ⟨oc22, od22, .func (PySem.W.fnOf "_law_remark" "_law_remark" (defArgs s_law_remark) (defBody s_law_remark) (defScope s_law_remark) .none kV22 dc22 pm22 an22 cd22 ct22), sl22⟩) (c22 : PySem.W.codeIn K cd22 "_law_remark" = true) (k22 : PySem.W.keepIn K (.ref f22) = true)
    (a23 : PySem.W.nsIn K mainGlobals "_law_value" = some (some (.ref f23))) (l23 : K.lookup f23 = some ⟨oc23, od23, .func (PySem.W.fnOf "_law_value" "_law_value" (defArgs s_law_value) (defBody s_law_value) (defScope s_law_value) .none kV23 dc23 pm23 an23 cd23 ct23), sl23⟩) (c23 : PySem.W.codeIn K cd23 "_law_value" = true) (k23 : PySem.W.keepIn K (.ref f23) = true)
    (a24 : PySem.W.nsIn K mainGlobals "_law_holds" = some (some (.ref f24))) (l24 : K.lookup f24 = some ⟨oc24, od24, .func (PySem.W.fnOf "_law_holds" "_law_holds" (defArgs s_law_holds) (defBody s_law_holds) (defScope s_law_holds) .none kV24 dc24 pm24 an24 cd24 ct24), sl24⟩) (c24 : PySem.W.codeIn K cd24 "_law_holds" = true) (k24 : PySem.W.keepIn K (.ref f24) = true)
    (a25 : PySem.W.nsIn K mainGlobals "_law_parts" = some (some (.ref f25))) (l25 : K.lookup f25 = some ⟨oc25, od25, .func (PySem.W.fnOf "_law_parts" "_law_parts" (defArgs s_law_parts) (defBody s_law_parts) (defScope s_law_parts) .none kV25 dc25 pm25 an25 cd25 ct25), sl25⟩) (c25 : PySem.W.codeIn K cd25 "_law_parts" = true) (k25 : PySem.W.keepIn K (.ref f25) = true)
    (a26 : PySem.W.nsIn K mainGlobals "_law_less" = some (some (.ref f26))) (l26 : K.lookup f26 = some ⟨oc26, od26, .func (PySem.W.fnOf "_law_less" "_law_less" (defArgs s_law_less) (defBody s_law_less) (defScope s_law_less) .none kV26 dc26 pm26 an26 cd26 ct26), sl26⟩) (c26 : PySem.W.codeIn K cd26 "_law_less" = true) (k26 : PySem.W.keepIn K (.ref f26) = true)
    (a27 : PySem.W.nsIn K mainGlobals "_law_plain" = some (some (.ref f27))) (l27 : K.lookup f27 = some ⟨oc27, od27, .func (PySem.W.fnOf "_law_plain" "_law_plain" (defArgs s_law_plain) (defBody s_law_plain) (defScope s_law_plain) .none kV27 dc27 pm27 an27 cd27 ct27), sl27⟩) (c27 : PySem.W.codeIn K cd27 "_law_plain" = true) (k27 : PySem.W.keepIn K (.ref f27) = true)
    (a28 : PySem.W.nsIn K mainGlobals "_law_against" = some (some (.ref f28))) (l28 : K.lookup f28 = some ⟨oc28, od28, .func (PySem.W.fnOf "_law_against" "_law_against" (defArgs s_law_against) (defBody s_law_against) (defScope s_law_against) .none kV28 dc28 pm28 an28 cd28 ct28), sl28⟩) (c28 : PySem.W.codeIn K cd28 "_law_against" = true) (k28 : PySem.W.keepIn K (.ref f28) = true)
    (a29 : PySem.W.nsIn K mainGlobals "_law_book" = some (some (.ref f29))) (l29 : K.lookup f29 = some ⟨oc29, od29, .func (PySem.W.fnOf "_law_book" "_law_book" (defArgs s_law_book) (defBody s_law_book) (defScope s_law_book) .none kV29 dc29 pm29 an29 cd29 ct29), sl29⟩) (c29 : PySem.W.codeIn K cd29 "_law_book" = true) (k29 : PySem.W.keepIn K (.ref f29) = true)
    (a30 : PySem.W.nsIn K mainGlobals "law" = some (some (.ref f30))) (l30 : K.lookup f30 = some ⟨oc30, od30, .func (PySem.W.fnOf "law" "law" (defArgs s_law) (defBody s_law) (defScope s_law) .none kV30 dc30 pm30 an30 cd30 ct30), sl30⟩) (c30 : PySem.W.codeIn K cd30 "law" = true) (k30 : PySem.W.keepIn K (.ref f30) = true)
    (z_bool : PySem.W.nsIn K mainGlobals "bool" = some none)
    (z_dict : PySem.W.nsIn K mainGlobals "dict" = some none)
    (z_int : PySem.W.nsIn K mainGlobals "int" = some none)
    (z_isinstance : PySem.W.nsIn K mainGlobals "isinstance" = some none)
    (z_len : PySem.W.nsIn K mainGlobals "len" = some none)
    (z_range : PySem.W.nsIn K mainGlobals "range" = some none)
    (z_reversed : PySem.W.nsIn K mainGlobals "reversed" = some none)
    (z_sorted : PySem.W.nsIn K mainGlobals "sorted" = some none)
    (z_sum : PySem.W.nsIn K mainGlobals "sum" = some none)
    (z_tuple : PySem.W.nsIn K mainGlobals "tuple" = some none)
    {q_TURNED : Addr} {t_TURNED_0 u_TURNED_0 t_TURNED_1 u_TURNED_1 : Tok} {h_TURNED_0 h_TURNED_1 : Int} {n_TURNED : Nat} (zc_TURNED : PySem.W.nsIn K mainGlobals "TURNED" = some (some (.ref q_TURNED))) (zl_TURNED_0 : K.lookup q_TURNED = some ⟨.type "dict", none, .dict #[{ hash := h_TURNED_0, key := .str "and" t_TURNED_0, val := .str "or" u_TURNED_0 }, { hash := h_TURNED_1, key := .str "or" t_TURNED_1, val := .str "and" u_TURNED_1 }] n_TURNED, #[]⟩) (zh_TURNED_0 : h_TURNED_0 = hashStr w "and") (zh_TURNED_1 : h_TURNED_1 = hashStr w "or")
    : ∃ fd : FuncData, (∀ (s : Shared) (v : Value), BindsTo s fd ⟨[v], []⟩ [("_law_script", v)]) ∧ ∀ base : Heap, K.In base → base.Ns mainGlobals mg → FnOk l.prog w K mg base CX0 44 fa fd ["_law_script"] (spF K 1 _root_.K.m_law) := by
  have e := hfa.symm.trans (PySem.W.mg_of X G a30)
  cases e
  have F1 := fun_mk (st := s_sum_of) l1 c1 k1
  have F2 := fun_mk (st := s_plus) l2 c2 k2
  have F3 := fun_mk (st := s_by) l3 c3 k3
  have F4 := fun_mk (st := s_minus) l4 c4 k4
  have F5 := fun_mk (st := s_value) l5 c5 k5
  have F6 := fun_mk (st := s_holds) l6 c6 k6
  have F7 := fun_mk (st := s_any_is) l7 c7 k7
  have F8 := fun_mk (st := s_members_of) l8 c8 k8
  have F9 := fun_mk (st := s_parts_of) l9 c9 k9
  have F10 := fun_mk (st := s_parts_in) l10 c10 k10
  have F11 := fun_mk (st := s_form_true) l11 c11 k11
  have F12 := fun_mk (st := s_form_parts) l12 c12 k12
  have F13 := fun_mk (st := s_place_box) l13 c13 k13
  have F14 := fun_mk (st := s_equal_form) l14 c14 k14
  have F15 := fun_mk (st := s_unequal_form) l15 c15 k15
  have F16 := fun_mk (st := s_plain_form) l16 c16 k16
  have F17 := fun_mk (st := s_against_form) l17 c17 k17
  have F18 := fun_mk (st := s_law_cell_at) l18 c18 k18
  have F19 := fun_mk (st := s_law_signed) l19 c19 k19
  have F20 := fun_mk (st := s_law_sum) l20 c20 k20
  have F21 := fun_mk (st := s_law_many) l21 c21 k21
  have F22 := fun_mk (st := s_law_remark) l22 c22 k22
  have F23 := fun_mk (st := s_law_value) l23 c23 k23
  have F24 := fun_mk (st := s_law_holds) l24 c24 k24
  have F25 := fun_mk (st := s_law_parts) l25 c25 k25
  have F26 := fun_mk (st := s_law_less) l26 c26 k26
  have F27 := fun_mk (st := s_law_plain) l27 c27 k27
  have F28 := fun_mk (st := s_law_against) l28 c28 k28
  have F29 := fun_mk (st := s_law_book) l29 c29 k29
  have F30 := fun_mk (st := s_law) l30 c30 k30
  have b_bool := PySem.W.mg_none_of X G z_bool
  have b_dict := PySem.W.mg_none_of X G z_dict
  have b_int := PySem.W.mg_none_of X G z_int
  have b_isinstance := PySem.W.mg_none_of X G z_isinstance
  have b_len := PySem.W.mg_none_of X G z_len
  have b_range := PySem.W.mg_none_of X G z_range
  have b_reversed := PySem.W.mg_none_of X G z_reversed
  have b_sorted := PySem.W.mg_none_of X G z_sorted
  have b_sum := PySem.W.mg_none_of X G z_sum
  have b_tuple := PySem.W.mg_none_of X G z_tuple
  have c_TURNED : ∃ a, mg "TURNED" = some (.ref a) ∧ TabIn K w a [("and", "or"), ("or", "and")] := ⟨_, PySem.W.mg_of X G zc_TURNED, _, _, zl_TURNED_0, (.cons zh_TURNED_0 (.cons zh_TURNED_1 .nil)), by decide +kernel⟩
  refine ⟨PySem.W.fnOf "law" "law" (defArgs s_law) (defBody s_law) (defScope s_law) .none kV30 dc30 pm30 an30 cd30 ct30, fun s v => .of_eq rfl, fun base _ _ => ?_⟩
  have d_sum_of := ok_sum_of (P := l.prog) (w := w) (base := base) F1 (PySem.W.mg_of X G a1) b_sorted b_tuple
  have d_plus := ok_plus (P := l.prog) (w := w) (base := base) F2 (PySem.W.mg_of X G a2) d_sum_of
  have d_by := ok_by (P := l.prog) (w := w) (base := base) F3 (PySem.W.mg_of X G a3) d_sum_of
  have d_minus := ok_minus (P := l.prog) (w := w) (base := base) F4 (PySem.W.mg_of X G a4) d_by d_plus
  have d_value := ok_value (P := l.prog) (w := w) (base := base) F5 (PySem.W.mg_of X G a5) b_sum
  have g_holds := okg_holds (P := l.prog) (w := w) (base := base) F6 (PySem.W.mg_of X G a6) F7 (PySem.W.mg_of X G a7) d_value 40
  have d_holds := g_holds.1
  have d_any_is := g_holds.2
  have d_members_of := ok_members_of (P := l.prog) (w := w) (base := base) F8 (PySem.W.mg_of X G a8)
  have d_parts_of := ok_parts_of (P := l.prog) (w := w) (base := base) F9 (PySem.W.mg_of X G a9) d_members_of b_len
  have d_parts_in := ok_parts_in (P := l.prog) (w := w) (base := base) F10 (PySem.W.mg_of X G a10) d_parts_of b_len
  have d_form_true := ok_form_true (P := l.prog) (w := w) (base := base) F11 (PySem.W.mg_of X G a11) d_holds
  have d_form_parts := ok_form_parts (P := l.prog) (w := w) (base := base) F12 (PySem.W.mg_of X G a12) d_parts_in
  have d_place_box := ok_place_box (P := l.prog) (w := w) (base := base) F13 (PySem.W.mg_of X G a13)
  have d_equal_form := ok_equal_form (P := l.prog) (w := w) (base := base) F14 (PySem.W.mg_of X G a14)
  have d_unequal_form := ok_unequal_form (P := l.prog) (w := w) (base := base) F15 (PySem.W.mg_of X G a15)
  have g_plain_form := okg_plain_form (P := l.prog) (w := w) (base := base) F16 (PySem.W.mg_of X G a16) F17 (PySem.W.mg_of X G a17) d_equal_form d_minus d_place_box d_unequal_form b_range b_tuple c_TURNED 40
  have d_plain_form := g_plain_form.1
  have d_against_form := g_plain_form.2
  have d_law_cell_at := ok_law_cell_at (P := l.prog) (w := w) (base := base) F18 (PySem.W.mg_of X G a18) b_len
  have d_law_signed := ok_law_signed (P := l.prog) (w := w) (base := base) F19 (PySem.W.mg_of X G a19)
  have d_law_sum := ok_law_sum (P := l.prog) (w := w) (base := base) F20 (PySem.W.mg_of X G a20) d_law_signed b_tuple
  have g_law_many := okg_law_many (P := l.prog) (w := w) (base := base) F21 (PySem.W.mg_of X G a21) b_sum 40
  have d_law_many := g_law_many
  have d_law_remark := ok_law_remark (P := l.prog) (w := w) (base := base) F22 (PySem.W.mg_of X G a22) d_law_many d_law_sum b_len b_reversed b_sum b_tuple
  have d_law_value := ok_law_value (P := l.prog) (w := w) (base := base) F23 (PySem.W.mg_of X G a23)
  have g_law_holds := okg_law_holds (P := l.prog) (w := w) (base := base) F24 (PySem.W.mg_of X G a24) d_law_value b_len 40
  have d_law_holds := g_law_holds
  have g_law_parts := okg_law_parts (P := l.prog) (w := w) (base := base) F25 (PySem.W.mg_of X G a25) b_isinstance b_len b_tuple 40
  have d_law_parts := g_law_parts
  have d_law_less := ok_law_less (P := l.prog) (w := w) (base := base) F26 (PySem.W.mg_of X G a26) b_dict b_sorted b_tuple
  have g_law_plain := okg_law_plain (P := l.prog) (w := w) (base := base) F27 (PySem.W.mg_of X G a27) F28 (PySem.W.mg_of X G a28) d_law_less b_int b_range b_tuple 40
  have d_law_plain := g_law_plain.1
  have d_law_against := g_law_plain.2
  have d_law_book := ok_law_book (P := l.prog) (w := w) (base := base) F29 (PySem.W.mg_of X G a29) d_law_cell_at d_law_signed
  exact fo_law F30 d_law_against d_law_book d_law_cell_at d_law_holds d_law_parts d_law_plain d_law_remark d_against_form d_form_parts d_form_true d_plain_form b_bool b_isinstance b_range
theorem walk {l : PySem.W.OpenLaw} {q : Program} {loose : List Str} {XP : (Str → Option Value) → Heap → Prop} {YP : World → Heap → Prop} {d : DefRec} {K : Params → PySem.W.Frag} (hn : l.most = some 63) (hdf : d.params.defaults = [])
    (hY : ∀ (w : World) (h : Heap), YP w h → (K w.params).In h)
    (F : ∀ (w : World) (mg : Str → Option Value) (fa : Addr) (h : Heap), (K w.params).In h → h.Ns mainGlobals mg → mg d.name = some (.ref fa) →
      ∃ fd : FuncData, (∀ (s : Shared) (u : Value), BindsTo s fd ⟨[u], []⟩ [("_law_script", u)]) ∧ ∀ base : Heap, (K w.params).In base → base.Ns mainGlobals mg → FnOk l.prog w (K w.params) mg base CX0 44 fa fd ["_law_script"] (spF (K w.params) 1 _root_.K.m_law)) :
    PySem.W.WalkO q loose XP YP l.row.toRowW d [] (fun f vs => PySem.call f vs) :=
  L2.walk_of (n := 63) (k := 44) (x := "_law_script") (CX := fun _ => CX0) (sp := fun w => spF (K w.params) 1 _root_.K.m_law) hn (by decide) hdf ⟨rfl, by decide, by decide⟩ hY F (fun w H a ns hl _ hS => law_sp hS (_root_.K.law_true (cs := ns))) fun _ _ _ _ _ z => z
end D
open PySem PySem.W PyProof.Rows
set_option maxRecDepth 100000 in
set_option maxHeartbeats 0 in
theorem PySem.Challenge.cw_calm_k40_plain_and_against_forms_holds : PySem.Challenge.rw_calm_k40_plain_and_against_forms.Holds := by
  w_on; o_law; k_head; (case hw => w_witness2)
  k_fill
  refine D.walk (l := PySem.Challenge.rw_calm_k40_plain_and_against_forms) rfl rfl (fun w h Y => PySem.W.kIn_of Y) ?F
  case F =>
    intro w mg fa h KX G hmg
    refine' D.all_mk KX G hmg ?a1 ?l1 ?c1 ?k1 ?a2 ?l2 ?c2 ?k2 ?a3 ?l3 ?c3 ?k3 ?a4 ?l4 ?c4 ?k4 ?a5 ?l5 ?c5 ?k5 ?a6 ?l6 ?c6 ?k6 ?a7 ?l7 ?c7 ?k7 ?a8 ?l8 ?c8 ?k8 ?a9 ?l9 ?c9 ?k9 ?a10 ?l10 ?c10 ?k10 ?a11 ?l11 ?c11 ?k11 ?a12 ?l12 ?c12 ?k12 ?a13 ?l13 ?c13 ?k13 ?a14 ?l14 ?c14 ?k14 ?a15 ?l15 ?c15 ?k15 ?a16 ?l16 ?c16 ?k16 ?a17 ?l17 ?c17 ?k17 ?a18 ?l18 ?c18 ?k18 ?a19 ?l19 ?c19 ?k19 ?a20 ?l20 ?c20 ?k20 ?a21 ?l21 ?c21 ?k21 ?a22 ?l22 ?c22 ?k22 ?a23 ?l23 ?c23 ?k23 ?a24 ?l24 ?c24 ?k24 ?a25 ?l25 ?c25 ?k25 ?a26 ?l26 ?c26 ?k26 ?a27 ?l27 ?c27 ?k27 ?a28 ?l28 ?c28 ?k28 ?a29 ?l29 ?c29 ?k29 ?a30 ?l30 ?c30 ?k30 ?z_bool ?z_dict ?z_int ?z_isinstance ?z_len ?z_range ?z_reversed ?z_sorted ?z_sum ?z_tuple ?zc_TURNED ?zl_TURNED_0 ?zh_TURNED_0 ?zh_TURNED_1
    (case a1 => k_is)
    (case l1 => k_is)
    (case c1 => k_is)
    (case k1 => k_is)
    (case a2 => k_is)
    (case l2 => k_is)
    (case c2 => k_is)
    (case k2 => k_is)
    (case a3 => k_is)
    (case l3 => k_is)
    (case c3 => k_is)
    (case k3 => k_is)
    (case a4 => k_is)
    (case l4 => k_is)
    (case c4 => k_is)
    (case k4 => k_is)
    (case a5 => k_is)
    (case l5 => k_is)
    (case c5 => k_is)
    (case k5 => k_is)
    (case a6 => k_is)
    (case l6 => k_is)
    (case c6 => k_is)
    (case k6 => k_is)
    (case a7 => k_is)
    (case l7 => k_is)
    (case c7 => k_is)
    (case k7 => k_is)
    (case a8 => k_is)
    (case l8 => k_is)
    (case c8 => k_is)
    (case k8 => k_is)
    (case a9 => k_is)
    (case l9 => k_is)
    (case c9 => k_is)
    (case k9 => k_is)
    (case a10 => k_is)
    (case l10 => k_is)
    (case c10 => k_is)
    (case k10 => k_is)
    (case a11 => k_is)
    (case l11 => k_is)
    (case c11 => k_is)
    (case k11 => k_is)
    (case a12 => k_is)
    (case l12 => k_is)
    (case c12 => k_is)
    (case k12 => k_is)
    (case a13 => k_is)
    (case l13 => k_is)
    (case c13 => k_is)
    (case k13 => k_is)
    (case a14 => k_is)
    (case l14 => k_is)
    (case c14 => k_is)
    (case k14 => k_is)
    (case a15 => k_is)
    (case l15 => k_is)
    (case c15 => k_is)
    (case k15 => k_is)
    (case a16 => k_is)
    (case l16 => k_is)
    (case c16 => k_is)
    (case k16 => k_is)
    (case a17 => k_is)
    (case l17 => k_is)
    (case c17 => k_is)
    (case k17 => k_is)
    (case a18 => k_is)
    (case l18 => k_is)
    (case c18 => k_is)
    (case k18 => k_is)
    (case a19 => k_is)
    (case l19 => k_is)
    (case c19 => k_is)
    (case k19 => k_is)
    (case a20 => k_is)
    (case l20 => k_is)
    (case c20 => k_is)
    (case k20 => k_is)
    (case a21 => k_is)
    (case l21 => k_is)
    (case c21 => k_is)
    (case k21 => k_is)
    (case a22 => k_is)
    (case l22 => k_is)
    (case c22 => k_is)
    (case k22 => k_is)
    (case a23 => k_is)
    (case l23 => k_is)
    (case c23 => k_is)
    (case k23 => k_is)
    (case a24 => k_is)
    (case l24 => k_is)
    (case c24 => k_is)
    (case k24 => k_is)
    (case a25 => k_is)
    (case l25 => k_is)
    (case c25 => k_is)
    (case k25 => k_is)
    (case a26 => k_is)
    (case l26 => k_is)
    (case c26 => k_is)
    (case k26 => k_is)
    (case a27 => k_is)
    (case l27 => k_is)
    (case c27 => k_is)
    (case k27 => k_is)
    (case a28 => k_is)
    (case l28 => k_is)
    (case c28 => k_is)
    (case k28 => k_is)
    (case a29 => k_is)
    (case l29 => k_is)
    (case c29 => k_is)
    (case k29 => k_is)
    (case a30 => k_is)
    (case l30 => k_is)
    (case c30 => k_is)
    (case k30 => k_is)
    (case z_bool => k_is)
    (case z_dict => k_is)
    (case z_int => k_is)
    (case z_isinstance => k_is)
    (case z_len => k_is)
    (case z_range => k_is)
    (case z_reversed => k_is)
    (case z_sorted => k_is)
    (case z_sum => k_is)
    (case z_tuple => k_is)
    (case zc_TURNED => k_is)
    (case zl_TURNED_0 => k_is)
    (case zh_TURNED_0 => rfl)
    (case zh_TURNED_1 => rfl)
#print axioms PySem.Challenge.cw_calm_k40_plain_and_against_forms_holds
end
