import PyProof.Rows.All
import Wide.All
import OpenK.AllK
import Wide.FinOn
import Lean
import PyProof.EqAt
import PyProof.EqKinds
import PyProof.TupleCall
import PyProof.P3Statements
import PyProof.Lay0
import PyProof.P3Eq
import PyProof.NeData
import KE.KEqDict
import PyProof.ListRange
import KE.KDictSum
import PyProof.AttrMissHeap
import PyProof.WalksS
import KE.KDictOf
import KE.KRevSl
import PyProof.ZipIter
import PyProof.WalksMore
import PyProof.Rows.FactsT2
import PyProof.Rows.SetFrom
import PyProof.Rows.SortStr
import KE.KDictList
import PyProof.FactsAll.set
import PyProof.CollectWalk
import PySem.Challenge.RW_calm_k30_parted
set_option Elab.async false
noncomputable section
set_option linter.all false
set_option maxRecDepth 100000
namespace L2
open PySem PySem.Spec PyProof.Rows
noncomputable abbrev Key := Sum Int Str
noncomputable def keyIs : Key → Value → Bool
  | .inl k, v => Value.isInt k v
  | .inr x, v => Value.isStrOf x v
noncomputable def keyH (w : World) : Key → Int
  | .inl k => hashInt k
  | .inr x => hashStr w x
theorem keyIs_shape : ∀ {k : Key} {v : Value}, keyIs k v = true → (∃ i t, k = Sum.inl i ∧ v = Value.int i t) ∨ (∃ x t, k = Sum.inr x ∧ v = Value.str x t)
  | .inl i, v, h => by
    obtain ⟨t, e⟩ := Value.isInt_shape (k := i) (v := v) h
    exact .inl ⟨i, t, rfl, e⟩
  | .inr x, v, h => by
    obtain ⟨t, e⟩ := Value.isStrOf_shape (x := x) (v := v) h
    exact .inr ⟨x, t, rfl, e⟩
theorem keyIs_int (i : Int) (t : Tok) : keyIs (.inl i) (.int i t) = true := by simp [keyIs, Value.isInt]
theorem keyIs_str (x : Str) (t : Tok) : keyIs (.inr x) (.str x t) = true := by simp [keyIs, Value.isStrOf]
theorem key_ll (a b : Int) : decide ((Sum.inl a : Key) = Sum.inl b) = (a == b) := by
  by_cases e : a = b
  · subst e; simp
  · have h : ¬ (Sum.inl a : Key) = Sum.inl b := fun q => e (Sum.inl.inj q)
    rw [decide_eq_false h]
    exact (beq_eq_false_iff_ne.mpr e).symm
theorem key_rr (a b : Str) : decide ((Sum.inr a : Key) = Sum.inr b) = decide (a = b) := by
  by_cases e : a = b
  · subst e; simp
  · have h : ¬ (Sum.inr a : Key) = Sum.inr b := fun q => e (Sum.inr.inj q)
    rw [decide_eq_false h, decide_eq_false e]
theorem key_lr (a : Int) (b : Str) : decide ((Sum.inl a : Key) = Sum.inr b) = false := decide_eq_false (fun q => nomatch q)
theorem key_rl (a : Str) (b : Int) : decide ((Sum.inr a : Key) = Sum.inl b) = false := decide_eq_false (fun q => nomatch q)
noncomputable def mixKind (prog : Program) (w : World) : PySem.KeyKind prog w Key where
  is := keyIs
  hash := keyH w
  inj := fun v a b ha hb => by
    rcases keyIs_shape ha with ⟨i, t, rfl, rfl⟩ | ⟨x, t, rfl, rfl⟩
    · rcases keyIs_shape hb with ⟨j, u, rfl, e⟩ | ⟨y, u, rfl, e⟩
      · injection e with e1 _; rw [e1]
      · exact nomatch e
    · rcases keyIs_shape hb with ⟨j, u, rfl, e⟩ | ⟨y, u, rfl, e⟩
      · exact nomatch e
      · injection e with e1 _; rw [e1]
  byValue := fun k v h => by
    rcases keyIs_shape h with ⟨i, t, rfl, rfl⟩ | ⟨x, t, rfl, rfl⟩ <;> rfl
  pyHash := fun hv h => by
    rcases keyIs_shape hv with ⟨i, t, rfl, rfl⟩ | ⟨x, t, rfl, rfl⟩
    · exact wpAny_pyHash_int h
    · exact wpAny_pyHash_str h
  eqBool := fun hu hv h => by
    rcases keyIs_shape hu with ⟨i, t, rfl, rfl⟩ | ⟨x, t, rfl, rfl⟩
    · rcases keyIs_shape hv with ⟨j, u, rfl, rfl⟩ | ⟨y, u, rfl, rfl⟩
      · rw [key_ll] at h; exact wpAny_eqBool_int h
      · rw [key_lr] at h; exact SeqAt.EqAt.int_str i t y u _ _ _ _ h
    · rcases keyIs_shape hv with ⟨j, u, rfl, rfl⟩ | ⟨y, u, rfl, rfl⟩
      · rw [key_rl] at h; exact SeqAt.EqAt.str_int x t j u _ _ _ _ h
      · rw [key_rr] at h; exact wpAny_eqBool_str h
  «strs» := fun k x t v h => by
    rcases keyIs_shape h with ⟨i, u, rfl, e⟩ | ⟨y, u, rfl, e⟩
    · exact nomatch e
    · injection e with e1 _
      subst e1
      cases v <;> rfl
theorem mixKind_is (prog : Program) (w : World) (k : Key) (v : Value) : (mixKind prog w).is k v = keyIs k v := rfl
theorem mixKind_int (prog : Program) (w : World) (i : Int) (t : Tok) : (mixKind prog w).is (.inl i) (.int i t) = true := keyIs_int i t
theorem mixKind_str (prog : Program) (w : World) (x : Str) (t : Tok) : (mixKind prog w).is (.inr x) (.str x t) = true := keyIs_str x t
end L2
namespace L2
open PySem PySem.Spec PyProof.Rows
inductive V where
  | non | bl (b : Bool) | int (i : Int) | str (x : Str) | byt (b : Array UInt8) | flt (b : UInt64) | ref (a : Addr) | ty (n : String)
  deriving DecidableEq
noncomputable def RelV : V → Value → Prop
  | .non, u => u = Value.none
  | .bl b, u => u = Value.bool b
  | .int i, u => ∃ t, u = Value.int i t
  | .str x, u => ∃ t, u = Value.str x t
  | .byt b, u => ∃ t, u = Value.bytes b t
  | .flt b, u => ∃ t, u = Value.float b t
  | .ref a, u => u = Value.ref a
  | .ty n, u => u = Value.type n
noncomputable abbrev Vals : List V → List Value → Prop := Paired RelV
theorem Vals.length {xs : List V} {us : List Value} (r : Vals xs us) : xs.length = us.length := Paired.length r
theorem Vals.get : ∀ {xs : List V} {us : List Value} {i : Nat} {x : V}, Vals xs us → xs[i]? = some x → ∃ u, us[i]? = some u ∧ RelV x u
  | _, _, _, _, .nil, e => by simp at e
  | _, _, 0, _, .cons r _, e => by simp at e; subst e; exact ⟨_, rfl, r⟩
  | _, _, i + 1, x, .cons _ t, e => by
    obtain ⟨u, h1, h2⟩ := Vals.get (i := i) (x := x) t (by simpa using e)
    exact ⟨u, by simpa using h1, h2⟩
theorem Vals.set {x : V} {u : Value} (r : RelV x u) : ∀ {xs : List V} {us : List Value} (i : Nat), Vals xs us → Vals (xs.set i x) (us.set i u)
  | _, _, _, .nil => .nil
  | _, _, 0, .cons _ t => .cons r t
  | _, _, i + 1, .cons q t => .cons q (Vals.set r i t)
theorem Vals.append : ∀ {xs ys : List V} {us ws : List Value}, Vals xs us → Vals ys ws → Vals (xs ++ ys) (us ++ ws)
  | _, _, _, _, .nil, s => s
  | _, _, _, _, .cons r t, s => .cons r (Vals.append t s)
theorem Vals.take : ∀ {xs : List V} {us : List Value} (n : Nat), Vals xs us → Vals (xs.take n) (us.take n)
  | _, _, 0, _ => .nil
  | _, _, _ + 1, .nil => .nil
  | _, _, n + 1, .cons r t => .cons r (Vals.take n t)
theorem Vals.drop : ∀ {xs : List V} {us : List Value} (n : Nat), Vals xs us → Vals (xs.drop n) (us.drop n)
  | _, _, 0, r => r
  | _, _, _ + 1, .nil => .nil
  | _, _, n + 1, .cons _ t => Vals.drop n t
noncomputable def RelO : Option V → Option Value → Prop
  | some v, some u => RelV v u
  | none, none => True
  | _, _ => False
noncomputable def KV {κ : Type} : List (κ × V) → List (κ × Value) → Prop := Paired fun (p : κ × V) (q : κ × Value) => p.1 = q.1 ∧ RelV p.2 q.2
noncomputable def kV : Key → V
  | .inl i => .int i
  | .inr x => .str x
inductive HO where
  /-- a list -/
  | lst (xs : List V)
  /-- a tuple (never changes) -/
  | tup (xs : List V)
  /-- a dict whose keys are ints and texts; one whose keys are tuples of ints and texts (the empty one is both) -/
  | dK (kvs : List (Key × V)) | dT (kvs : List (List Key × V))
  /-- a set of ints: its members, its size -/
  | set (S : Int → Bool) (n : Nat)
  /-- an instance of the class at C, its dict at dx, its attributes -/
  | ins (C dx : Addr) (fs : List (Str × V))
  /-- the dict of the instance at x -/
  | own (x : Addr)
  /-- the dict of an exception -/
  | xd (fs : List (Str × V))
  /-- a bound method, f of x -/
  | met (f x : Addr)
  /-- a range object lo, lo + 1, .. below hi -/
  | rng (lo hi : Int)
  /-- a thing that is known to the object (the script; a dict while a loop walks it): read, never written while it is so -/
  | frz (o : Obj) (u : HO)
  /-- a code object's table -/
  | tbl (ps : Array Value)
  /-- any other thing, by what is true of its one object (a def of one's own: SetO a S n := HO.ext fun h => ..) -/
  | ext (φ : Heap → Prop)
noncomputable abbrev Hp := Addr → Option HO
noncomputable def upd (H : Hp) (a : Addr) (o : HO) : Hp := fun b => if b = a then some o else H b
theorem upd_same {H : Hp} {a : Addr} {o : HO} : upd H a o a = some o := by unfold upd; rw [if_pos rfl]
theorem upd_ne {H : Hp} {a b : Addr} {o : HO} (h : b ≠ a) : upd H a o b = H b := by unfold upd; rw [if_neg h]
theorem ne_of_none {H : Hp} {a b : Addr} {o : HO} (h : H a = some o) (h' : H b = none) : a ≠ b := by
  intro e; subst e; rw [h] at h'; cases h'
noncomputable def TupD (h : Heap) (a : Addr) (items : Array Value) : Prop := ∃ o, h.get? a = some o ∧ o.cls = .type "tuple" ∧ o.dict = none ∧ ∃ n, o.data = .seq items n
theorem TupD.is {h : Heap} {a : Addr} {items : Array Value} (x : TupD h a items) : IsTup h a items := let ⟨o, e, c, _, d⟩ := x; ⟨o, e, c, d⟩
theorem TupD.new (h : Heap) (items : Array Value) : TupD (h.push { cls := .type "tuple", data := .seq items }) h.objs.size items := ⟨_, Heap.get?_push_size _ rfl, rfl, rfl, 0, rfl⟩
noncomputable section
variable (P : Program) (w : World)
noncomputable def ObjOk (H : Hp) (h : Heap) (a : Addr) : HO → Prop
  | .lst xs => xs.length ≤ sizeLine ∧ ∃ (its : List Value) (n : Nat), Vals xs its ∧ h.get? a = some { cls := .type "list", data := .seq its.toArray n }
  | .tup xs => xs.length ≤ sizeLine ∧ ∃ its : List Value, Vals xs its ∧ TupD h a its.toArray
  | .dK kvs => kvs.length ≤ sizeLine ∧ (a == sysModules) = false ∧ ∃ vs, KV kvs vs ∧ h.DictOf (mixKind P w) a vs
  | .dT kvs => kvs.length ≤ sizeLine ∧ (a == sysModules) = false ∧ ∃ xs : List (List Key × Addr × Value),
      Paired (fun (p : List Key × V) (q : List Key × Addr × Value) => p.1 = q.1 ∧ H q.2.1 = some (.tup (p.1.map kV)) ∧ RelV p.2 q.2.2) kvs xs ∧
      ∃ o es ep, h.get? a = some o ∧ o.ExactDict ∧ o.data = .dict es ep ∧ es.toList = xs.map (entryOfKey (tupleKind (mixKind P w))) ∧ (xs.map (·.1)).Nodup
  | .set S n => h.SetOf (intKind P w) a S n
  | .ins C dx fs => H dx = some (.own a) ∧ fs.length ≤ 1000 ∧ dx ≠ a ∧ h.get? a = some (PySem.W.instObj C dx) ∧
      ∃ mA, h.Ns1 dx mA ∧ (∀ f, RelO (fs.lookup f) (mA f)) ∧ PySem.Within mA (fs.map (·.1))
  | .own _ => ∃ o, h.get? a = some o
  | .xd fs => ∃ mA, h.Ns1 a mA ∧ ∀ f, RelO (fs.lookup f) (mA f)
  | .rng lo hi => ∃ t u v, h.get? a = some { cls := .type "range", data := .fields #[.int lo t, .int hi u, .int 1 v] }
  | .frz o u => h.get? a = some o ∧ ObjOk H h a u
  | .tbl ps => h.get? a = some { cls := .none, data := .fields ps }
  | .met f x => h.get? a = some (PySem.W.methodObj (.ref f) (.ref x))
  | .ext φ => φ h ∧ (∃ o, h.get? a = some o) ∧ ∀ h1 h2 : Heap, φ h1 → (∀ o, h1.get? a = some o → h2.get? a = some o) → φ h2
noncomputable def HOk (H : Hp) (h : Heap) : Prop := ∀ a o, H a = some o → ObjOk P w H h a o
end
noncomputable section
variable {P : Program} {w : World} {H H' : Hp} {h h' : Heap} {a : Addr} {o : HO}
theorem ObjOk.lt (x : ObjOk P w H h a o) : a < h.objs.size := by
  cases o with
  | lst xs => obtain ⟨_, _, _, _, e⟩ := x; exact Heap.lt_size e
  | tup xs => obtain ⟨_, _, _, p⟩ := x; exact p.is.lt
  | dK kvs => obtain ⟨_, _, _, _, o, _, _, e, _⟩ := x; exact Heap.lt_size e
  | dT kvs => obtain ⟨_, _, _, _, o, _, _, e, _⟩ := x; exact Heap.lt_size e
  | set S n => obtain ⟨o, _, _, _, e, _⟩ := x; exact Heap.lt_size e
  | ins C dx fs => obtain ⟨_, _, _, e, _⟩ := x; exact Heap.lt_size e
  | own y => obtain ⟨_, e⟩ := x; exact Heap.lt_size e
  | xd fs => obtain ⟨_, ⟨_, _, _, e, _⟩, _⟩ := x; exact Heap.lt_size e
  | rng lo hi => obtain ⟨_, _, _, e⟩ := x; exact Heap.lt_size e
  | frz ob u => obtain ⟨e, _⟩ := x; exact Heap.lt_size e
  | tbl ps => exact Heap.lt_size (show h.get? a = some _ from x)
  | met f y => exact Heap.lt_size (show h.get? a = some _ from x)
  | ext φ => obtain ⟨_, ⟨_, e⟩, _⟩ := x; exact Heap.lt_size e
theorem Paired.mapP {α β : Type} {F G : α → β → Prop} : ∀ {l₁ : List α} {l₂ : List β}, Paired F l₁ l₂ → (∀ a b, F a b → G a b) → Paired G l₁ l₂
  | _, _, .nil, _ => .nil
  | _, _, .cons r t, f => .cons (f _ _ r) (Paired.mapP t f)
theorem ObjOk.stay (x : ObjOk P w H h a o) (k : ∀ b u, (b = a ∨ H b = some (.own a)) → h.get? b = some u → h'.get? b = some u)
    (ho : ∀ b, H b = some (.own a) → H' b = some (.own a)) (ht : ∀ b xs, H b = some (.tup xs) → H' b = some (.tup xs)) : ObjOk P w H' h' a o := by
  induction o with
  | lst xs => obtain ⟨z, its, n, r, e⟩ := x; exact ⟨z, its, n, r, k _ _ (.inl rfl) e⟩
  | tup xs => obtain ⟨z, its, r, ob, e, c⟩ := x; exact ⟨z, its, r, ob, k _ _ (.inl rfl) e, c⟩
  | dK kvs => obtain ⟨z, y, vs, r, ob, es, ep, e, c⟩ := x; exact ⟨z, y, vs, r, ob, es, ep, k _ _ (.inl rfl) e, c⟩
  | dT kvs =>
    obtain ⟨z, y, xs, r, ob, es, ep, e, c⟩ := x
    exact ⟨z, y, xs, Paired.mapP r fun p q z => ⟨z.1, ht _ _ z.2.1, z.2.2⟩, ob, es, ep, k _ _ (.inl rfl) e, c⟩
  | set S n => obtain ⟨ob, es, ep, t, e, c⟩ := x; exact ⟨ob, es, ep, t, k _ _ (.inl rfl) e, c⟩
  | ins C dx fs =>
    obtain ⟨d, z, ne, e, mA, ⟨od, es, ep, e2, c⟩, r⟩ := x
    exact ⟨ho _ d, z, ne, k _ _ (.inl rfl) e, mA, ⟨od, es, ep, k _ _ (.inr d) e2, c⟩, r⟩
  | own y => obtain ⟨ob, e⟩ := x; exact ⟨ob, k _ _ (.inl rfl) e⟩
  | xd fs => obtain ⟨mA, ⟨od, es, ep, e, c⟩, r⟩ := x; exact ⟨mA, ⟨od, es, ep, k _ _ (.inl rfl) e, c⟩, r⟩
  | rng lo hi => obtain ⟨t, u, v, e⟩ := x; exact ⟨t, u, v, k _ _ (.inl rfl) e⟩
  | frz ob u ih => obtain ⟨e, q⟩ := x; exact ⟨k _ _ (.inl rfl) e, ih q⟩
  | tbl ps =>
    have e : h.get? a = some { cls := .none, data := .fields ps } := x
    show h'.get? a = some { cls := .none, data := .fields ps }
    exact k a _ (.inl rfl) e
  | met f y =>
    have e : h.get? a = some (PySem.W.methodObj (.ref f) (.ref y)) := x
    show h'.get? a = some (PySem.W.methodObj (.ref f) (.ref y))
    exact k a _ (.inl rfl) e
  | ext φ => obtain ⟨p, ⟨o, e⟩, st⟩ := x; exact ⟨st _ _ p fun o q => k _ _ (.inl rfl) q, ⟨o, k _ _ (.inl rfl) e⟩, st⟩
theorem HOk.lt (x : HOk P w H h) (e : H a = some o) : a < h.objs.size := (x a o e).lt
theorem HOk.fresh (x : HOk P w H h) (e : h.objs.size ≤ a) : H a = none := by
  cases q : H a with
  | none => rfl
  | some u => exact absurd (Nat.lt_of_lt_of_le (x.lt q) e) (Nat.lt_irrefl _)
theorem HOk.kept (x : HOk P w H h) (k : ∀ b u, h.get? b = some u → h'.get? b = some u) : HOk P w H h' := fun a o e =>
  (x a o e).stay (fun b u _ q => k b u q) (fun _ q => q) fun _ _ q => q
theorem HOk.laid (x : HOk P w H h) (k : ∀ b u, h.get? b = some u → h'.get? b = some u) (hp : h.objs.size ≤ a) (new : ObjOk P w (upd H a o) h' a o) : HOk P w (upd H a o) h' := fun b u e => by
  have hn := x.fresh hp
  by_cases hb : b = a
  · subst hb; rw [upd_same] at e; cases e; exact new
  · rw [upd_ne hb] at e
    exact (x b u e).stay (fun c v _ q => k c v q) (fun c q => by rw [upd_ne (ne_of_none q hn)]; exact q) fun c xs q => by rw [upd_ne (ne_of_none q hn)]; exact q
end
noncomputable def Rd (H : Hp) (a : Addr) (u : HO) : Prop := H a = some u ∨ ∃ o, H a = some (.frz o u)
theorem Rd.of {H : Hp} {a : Addr} {u : HO} (h : H a = some u) : Rd H a u := .inl h
theorem Rd.ok {P : Program} {w : World} {H : Hp} {h : Heap} {a : Addr} {u : HO} (r : Rd H a u) (x : HOk P w H h) : ObjOk P w H h a u := by
  rcases r with r | ⟨o, r⟩
  · exact x a u r
  · obtain ⟨_, q⟩ := x a _ r
    exact q
noncomputable def Mut : Option HO → Prop
  | some (.lst _) => True
  | some (.dK _) => True
  | some (.dT _) => True
  | some (.set _ _) => True
  | some (.ins _ _ _) => True
  | some (.ext _) => True
  | _ => False
noncomputable section
variable {P : Program} {w : World} {H : Hp} {h h' : Heap} {x e : Addr} {o' : HO}
theorem HOk.write (ok : HOk P w H h) (mu : Mut (H x)) (he : e = x ∨ H e = some (.own x)) (k : ∀ b u, b ≠ e → h.get? b = some u → h'.get? b = some u) (heo : ∃ u, h'.get? e = some u)
    (new : ObjOk P w (upd H x o') h' x o') : HOk P w (upd H x o') h' := fun b u q => by
  have nown : ∀ c y, H c = some (.own y) → c ≠ x := fun c y r z => by subst z; rw [r] at mu; exact mu
  have ntup : ∀ c xs, H c = some (.tup xs) → c ≠ x := fun c xs r z => by subst z; rw [r] at mu; exact mu
  by_cases hb : b = x
  · subst hb; rw [upd_same] at q; cases q; exact new
  · rw [upd_ne hb] at q
    by_cases hbe : b = e
    · have q' : H b = some (.own x) := by
        rcases he with z | z
        · exact absurd (hbe.trans z) hb
        · rw [hbe]; exact z
      rw [q] at q'; cases q'
      obtain ⟨v, hv⟩ := heo
      exact ⟨v, by rw [hbe]; exact hv⟩
    · refine (ok b u q).stay (fun c v hc r => k c v ?_ r) (fun c r => by rw [upd_ne (nown c b r)]; exact r) fun c xs r => by rw [upd_ne (ntup c xs r)]; exact r
      rcases hc with rfl | hc
      · exact hbe
      · rintro rfl
        rcases he with z | z
        · exact nown c b hc z
        · rw [hc] at z; cases z; exact hb rfl
end
structure Un (fs ex : List Addr) (H H' : Hp) (h h' : Heap) : Prop where
  keep : ∀ b o, h.get? b = some o → H b = none → b ∉ fs → b ∉ ex → h'.get? b = some o
  slot : ∀ b o, h.get? b = some o → H b = none → b ∈ fs → b ∉ ex → ∃ sl, h'.get? b = some { o with slots := sl }
  free : ∀ b o, h.get? b = some o → H b = none → b ∉ ex → H' b = none
  there : ∀ b o, h.get? b = some o → b ∉ ex → ∃ o', h'.get? b = some o'
  tups : ∀ b xs, H b = some (.tup xs) → H' b = some (.tup xs)
  frzs : ∀ b o u, H b = some (.frz o u) → H' b = some (.frz o u)
  tbls : ∀ b ps, H b = some (.tbl ps) → ∃ more, H' b = some (.tbl (ps ++ more))
noncomputable section
variable {fs fs' ex ex' : List Addr} {H H1 H2 : Hp} {h h1 h2 h' : Heap} {a x e : Addr} {o : HO}
theorem Un.any (u : Un fs ex H H1 h h1) {b : Addr} {ob : Obj} (q : h.get? b = some ob) (n : H b = none) (hx : b ∉ ex) : ∃ sl, h1.get? b = some { ob with slots := sl } := by
  by_cases hb : b ∈ fs
  · exact u.slot b ob q n hb hx
  · exact ⟨ob.slots, u.keep b ob q n hb hx⟩
theorem Un.trans (a : Un fs ex H H1 h h1) (b : Un fs ex H1 H2 h1 h2) : Un fs ex H H2 h h2 where
  keep := fun c ob q n hc hx => b.keep c ob (a.keep c ob q n hc hx) (a.free c ob q n hx) hc hx
  slot := fun c ob q n hc hx => by
    obtain ⟨sl, e1⟩ := a.slot c ob q n hc hx
    obtain ⟨sl', e2⟩ := b.slot c _ e1 (a.free c ob q n hx) hc hx
    exact ⟨sl', e2⟩
  free := fun c ob q n hx => by
    obtain ⟨o', e1⟩ := a.there c ob q hx
    exact b.free c o' e1 (a.free c ob q n hx) hx
  there := fun c ob q hx => by
    obtain ⟨o', e1⟩ := a.there c ob q hx
    exact b.there c o' e1 hx
  tups := fun c xs q => b.tups c xs (a.tups c xs q)
  frzs := fun c ob xs q => b.frzs c ob xs (a.frzs c ob xs q)
  tbls := fun c ps q => by
    obtain ⟨m1, e1⟩ := a.tbls c ps q
    obtain ⟨m2, e2⟩ := b.tbls c _ e1
    exact ⟨m1 ++ m2, by rw [e2, Array.append_assoc]⟩
theorem Un.kept (k : ∀ b u, h.get? b = some u → h'.get? b = some u) : Un fs ex H H h h' :=
  ⟨fun b ob q _ _ _ => k b ob q, fun b ob q _ _ _ => ⟨ob.slots, k b ob q⟩, fun _ _ _ n _ => n, fun b ob q _ => ⟨ob, k b ob q⟩, fun _ _ q => q, fun _ _ _ q => q, fun _ ps q => ⟨#[], by rw [q]; simp⟩⟩
theorem Un.refl : Un fs ex H H h h := Un.kept fun _ _ q => q
theorem Un.laid (k : ∀ b u, h.get? b = some u → h'.get? b = some u) (hp : h.objs.size ≤ a) (hn : H a = none) : Un fs ex H (upd H a o) h h' where
  keep := fun b u q _ _ _ => k b u q
  slot := fun b u q _ _ _ => ⟨u.slots, k b u q⟩
  free := fun b u q n _ => by rw [upd_ne (Nat.ne_of_lt (Nat.lt_of_lt_of_le (Heap.lt_size q) hp))]; exact n
  there := fun b u q _ => ⟨u, k b u q⟩
  tups := fun b xs q => by rw [upd_ne (ne_of_none q hn)]; exact q
  frzs := fun b u xs q => by rw [upd_ne (ne_of_none q hn)]; exact q
  tbls := fun b ps q => ⟨#[], by rw [upd_ne (ne_of_none q hn), q]; simp⟩
theorem Un.write (mu : Mut (H x)) (he : e = x ∨ H e = some (.own x)) (k : ∀ b u, b ≠ e → h.get? b = some u → h'.get? b = some u) (heo : ∃ u, h'.get? e = some u) : Un fs ex H (upd H x o) h h' := by
  have hx : ∀ b, H b = none → b ≠ x := fun b n z => by subst z; rw [n] at mu; exact mu
  have hb : ∀ b, H b = none → b ≠ e := fun b n z => by
    subst z
    rcases he with r | r
    · exact hx b n r
    · rw [n] at r; cases r
  have hm : ∀ b u, H b = some u → ¬ Mut (some u) → b ≠ x := fun b u q nm z => by subst z; rw [q] at mu; exact nm mu
  refine ⟨fun b u q n _ _ => k b u (hb b n) q, fun b u q n _ _ => ⟨u.slots, k b u (hb b n) q⟩, fun b u q n _ => by rw [upd_ne (hx b n)]; exact n, fun b u q _ => ?_,
    fun b xs q => by rw [upd_ne (hm b _ q fun z => z)]; exact q, fun b u xs q => by rw [upd_ne (hm b _ q fun z => z)]; exact q, fun b ps q => ⟨#[], by rw [upd_ne (hm b _ q fun z => z), q]; simp⟩⟩
  by_cases hbe : b = e
  · subst hbe; exact heo
  · exact ⟨u, k b u hbe q⟩
theorem Un.mono (u : Un fs ex H H1 h h1) (hs : ∀ b ∈ fs, b ∈ fs') (hx : ∀ b ∈ ex, b ∈ ex') : Un fs' ex' H H1 h h1 :=
  ⟨fun b ob q n hb he => u.keep b ob q n (fun z => hb (hs b z)) fun z => he (hx b z), fun _ _ q n _ he => u.any q n fun z => he (hx _ z), fun b ob q n he => u.free b ob q n fun z => he (hx b z), fun b ob q he => u.there b ob q fun z => he (hx b z), u.tups, u.frzs, u.tbls⟩
end
noncomputable def trk (h : Heap) (H : Hp) : List Addr := (List.range h.objs.size).filter fun a => (H a).isSome
noncomputable def hidT (h : Heap) (H : Hp) : Heap := PySem.W.hideAll h (trk h H)
theorem hidT_size (h : Heap) (H : Hp) : (hidT h H).objs.size = h.objs.size := PySem.W.hideAll_size _ _
theorem hidT_get {h : Heap} {H : Hp} {b : Addr} {o : Obj} (e : h.get? b = some o) (n : H b = none) : (hidT h H).get? b = some o :=
  PySem.W.hideAll_get _ e fun hm => by
    have q : (H b).isSome = true := (List.mem_filter.mp hm).2
    rw [n] at q; simp at q
theorem of_hidT {h : Heap} {H : Hp} {b : Addr} {o : Obj} (e : (hidT h H).get? b = some o) : h.get? b = some o ∧ H b = none := by
  have e' : h.get? b = some o := PySem.W.of_hideAll (trk h H) e
  refine ⟨e', ?_⟩
  cases q : H b with
  | none => rfl
  | some x =>
    have hm : b ∈ trk h H := List.mem_filter.mpr ⟨List.mem_range.mpr (Heap.lt_size e'), by simp [q]⟩
    have z : (hidT h H).get? b = none := PySem.W.hideAll_none (trk h H) hm
    rw [z] at e; cases e
noncomputable def allNews (g h : Heap) (L : Addr) : List (Addr × Obj) := (List.range h.objs.size).filterMap fun a => if a = L ∨ (g.get? a).isSome = true then none else (h.get? a).map fun o => (a, o)
noncomputable def rest (g h : Heap) (L d : Addr) : List (Addr × Obj) := (allNews g h L).filter fun p => decide (p.1 ≠ d)
end L2
namespace L2
open PySem PySem.Spec PyProof.Rows
structure Mod (K : PySem.W.Frag) (mg : Str → Option Value) (base : Heap) : Prop where
  kin : K.In base
  glob : base.Ns mainGlobals mg
  blt : ∃ mb, base.Ns builtinsNs mb ∧ ∀ x : Str, x ≠ "__name__" → mb x = bootBuiltins x
  nolimit : base.NoLimit
structure Cx where
  prog : Program
  w : World
  K : PySem.W.Frag
  mg : Str → Option Value
  base : Heap
  A : Around
  N : List Str
  s₀ : Shared
  H₀ : Hp
  env : Env
  outer : List Env
  stack : List Env
  ex : List Addr
  fn : Str → Bool
  calm : Bool
  pn : List (Addr × Obj)
  xe : Value → Shared → Prop
noncomputable def frs (l : List Env) : List Addr := l.filterMap (·.frame)
noncomputable abbrev Cx.fs (X : Cx) : List Addr := frs X.outer
noncomputable def Vis (sc : Scope) (x : Str) : Prop := sc.names.lookup x = some .local ∨ sc.names.lookup x = some .cell ∨ sc.names.lookup x = some .free
noncomputable def Loc (sc : Scope) (x : Str) : Prop := sc.names.lookup x = some .local ∨ sc.names.lookup x = some .cell
noncomputable def Look (env : Env) (h : Heap) (m : Str → Option Value) (x : Str) (u : Value) : Prop :=
  (env.kindOf x = some .local ∧ m x = some u) ∨ ((env.kindOf x = some .cell ∨ env.kindOf x = some .free) ∧ ∃ c, env.cells.lookup x = some c ∧ h.IsCell c (some u))
structure Cx.Ok (X : Cx) : Prop where
  mod : Mod X.K X.mg X.base
  kind : X.env.scope.kind = .function
  glob : X.env.globals = mainGlobals
  blt : X.env.builtins = builtinsNs
  above : X.s₀.heap.objs.size ≤ X.env.locals
  inj : ∀ x y c, X.env.cells.lookup x = some c → X.env.cells.lookup y = some c → x = y
  has : ∀ x, (X.env.kindOf x = some .cell ∨ X.env.kindOf x = some .free) → ∃ c, X.env.cells.lookup x = some c
  cab : ∀ x c, X.fn x = true → X.env.cells.lookup x = some c → X.s₀.heap.objs.size ≤ c
  hd : X.calm = true → X.A.handled = none
  frames : X.A.frames = some X.stack
  stk : X.stack = X.outer ∨ (X.stack = X.env :: X.outer ∧ X.env.frame = some X.env.locals)
  exf : ∀ b ∈ X.ex, b ≠ X.env.locals ∧ ∀ x c, X.env.cells.lookup x = some c → c ≠ b
  bs : ∀ b o, X.base.get? b = some o → X.s₀.heap.get? b = some o ∧ X.H₀ b = none
  bsz : X.base.objs.size ≤ X.s₀.heap.objs.size
  noex : ∀ b o, X.base.get? b = some o → b ∉ X.ex
  exfs : ∀ b ∈ X.ex, b ∉ X.fs
  funs : X.s₀.heap.FunFrames X.base X.outer
  frf : ∀ b ∈ X.fs, X.H₀ b = none
structure Inv (X : Cx) (pins : List (Addr × Obj)) (σ : List (Option V)) (H : Hp) (s : Shared) : Prop where
  ok : X.Ok
  os : s.os = X.s₀.os
  bare : AllBare s.gens
  base : Un X.fs X.ex X.H₀ H X.s₀.heap s.heap
  loc : ∃ m, s.heap.Ns X.env.locals m ∧ ∀ (i : Nat) (x : Str) (v : V), X.N[i]? = some x → σ[i]? = some (some v) → Vis X.env.scope x → ∃ u, RelV v u ∧ Look X.env s.heap m x u
  cell : ∀ x c, X.env.cells.lookup x = some c → ∃ v, s.heap.IsCell c v
  free : H X.env.locals = none
  freeC : ∀ x c, X.env.cells.lookup x = some c → H c = none
  pin : ∀ p ∈ X.pn ++ pins, s.heap.get? p.1 = some p.2 ∧ H p.1 = none ∧ p.1 ≠ X.env.locals ∧ p.1 ∉ X.fs ∧ ∀ v, p.2.data ≠ .cell v
  hok : HOk X.prog X.w H s.heap
  len : σ.length = X.N.length
noncomputable section
variable {X : Cx} {pins : List (Addr × Obj)} {σ : List (Option V)} {H H' : Hp} {s : Shared} {h' : Heap}
theorem Cx.Ok.nofr (ok : X.Ok) {b : Addr} {o : Obj} (e : X.base.get? b = some o) : b ∉ X.fs := fun hb => by
  have := (ok.funs.mem hb).1
  rw [e] at this; cases this
theorem Inv.bs (I : Inv X pins σ H s) : ∀ b o, X.base.get? b = some o → s.heap.get? b = some o ∧ H b = none := fun b o e =>
  ⟨I.base.keep b o (I.ok.bs b o e).1 (I.ok.bs b o e).2 (I.ok.nofr e) (I.ok.noex b o e), I.base.free b o (I.ok.bs b o e).1 (I.ok.bs b o e).2 (I.ok.noex b o e)⟩
theorem Inv.bk (I : Inv X pins σ H s) : ∀ b o, X.base.get? b = some o → s.heap.get? b = some o := fun b o e => (I.bs b o e).1
theorem Inv.mod (I : Inv X pins σ H s) : Mod X.K X.mg X.base := I.ok.mod
theorem Inv.kIn (I : Inv X pins σ H s) : X.K.In s.heap := I.ok.mod.kin.keeps I.bk
theorem Inv.fr (I : Inv X pins σ H s) : ∃ m, Fr X.base X.env.locals s.heap m :=
  let ⟨m, hn, _⟩ := I.loc
  ⟨m, hn, I.bk, Nat.le_trans I.ok.bsz I.ok.above⟩
theorem Inv.lt (I : Inv X pins σ H s) : X.env.locals < s.heap.objs.size := let ⟨_, hn, _⟩ := I.loc; hn.lt
theorem Inv.sz (I : Inv X pins σ H s) : X.s₀.heap.objs.size ≤ s.heap.objs.size := Nat.le_trans I.ok.above (Nat.le_of_lt I.lt)
theorem Inv.nofs (I : Inv X pins σ H s) {a : Addr} (h : s.heap.objs.size ≤ a) : a ∉ X.fs := fun hb => by
  obtain ⟨_, o, ho, _⟩ := I.ok.funs.mem hb
  exact absurd (Nat.lt_of_lt_of_le (Heap.lt_size ho) (Nat.le_trans I.sz h)) (Nat.lt_irrefl _)
theorem Inv.cne (I : Inv X pins σ H s) : ∀ x c, X.env.cells.lookup x = some c → c ≠ X.env.locals := fun x c e z => by
  obtain ⟨v, o, ho, hd⟩ := I.cell x c e
  obtain ⟨m, ⟨o', es, ep, ho', hd', _⟩, _⟩ := I.loc
  rw [z, ho'] at ho; cases ho; rw [hd'] at hd; cases hd
theorem Inv.funs (I : Inv X pins σ H s) : s.heap.FunFrames X.base X.outer := by
  have all : ∀ (l : List Env), (∀ b ∈ frs l, b ∈ X.fs) → X.s₀.heap.FunFrames X.base l → s.heap.FunFrames X.base l := by
    intro l
    induction l with
    | nil => intro _ _; trivial
    | cons env r ih =>
      intro hs hl
      obtain ⟨hk, ⟨L, o, hf, hn, ho, hd⟩, hr⟩ := hl
      have hL : L ∈ X.fs := hs L (by unfold frs; rw [List.filterMap_cons, hf]; exact List.mem_cons_self)
      obtain ⟨sl, e⟩ := I.base.slot L o ho (I.ok.frf L hL) hL fun z => I.ok.exfs L z hL
      exact ⟨hk, ⟨L, _, hf, hn, e, hd⟩, ih (fun b hb => hs b (by unfold frs; rw [List.filterMap_cons, hf]; exact List.mem_cons_of_mem _ hb)) hr⟩
  exact all X.outer (fun _ hb => hb) I.ok.funs
theorem Inv.stack (I : Inv X pins σ H s) : s.heap.FunFrames X.base X.stack := by
  rcases I.ok.stk with e | ⟨e, hf⟩
  · rw [e]; exact I.funs
  · rw [e]
    obtain ⟨m, hn, _⟩ := I.loc
    refine .cons (by rw [I.ok.kind]; decide) hf hn ?_ I.funs
    exact Heap.get?_none_of_le (Nat.le_trans I.ok.bsz I.ok.above)
theorem Inv.stkSub (I : Inv X pins σ H s) : ∀ b ∈ frs X.stack, b ∈ X.env.locals :: X.fs := fun b hb => by
  rcases I.ok.stk with e | ⟨e, hf⟩
  · rw [e] at hb; exact List.mem_cons_of_mem _ hb
  · rw [e] at hb
    unfold frs at hb
    rw [List.filterMap_cons, hf] at hb
    exact hb
theorem Inv.stkFree (I : Inv X pins σ H s) : ∀ b ∈ frs X.stack, H b = none := fun b hb => by
  rcases List.mem_cons.mp (I.stkSub b hb) with e | hb
  · rw [e]; exact I.free
  · obtain ⟨_, o, ho, _⟩ := I.ok.funs.mem hb
    exact I.base.free b o ho (I.ok.frf b hb) fun z => I.ok.exfs b z hb
theorem Inv.step {g' : Array GenState} {t' : Nat} {d' : Drawn} {ch : List Addr} (I : Inv X pins σ H s)
    (hch : ∀ b ∈ ch, (b ∈ X.ex ∨ X.s₀.heap.objs.size ≤ b) ∧ b ≠ X.env.locals ∧ (∀ x c, X.env.cells.lookup x = some c → c ≠ b) ∧ ∀ p ∈ X.pn ++ pins, p.1 ≠ b)
    (keep : ∀ b o, b ≠ X.env.locals → b ∉ X.fs → b ∉ ch → s.heap.get? b = some o → H b = none → h'.get? b = some o)
    (slot : ∀ b o, b ≠ X.env.locals → b ∈ X.fs → b ∉ ch → s.heap.get? b = some o → H b = none → ∃ sl, h'.get? b = some { o with slots := sl }) (free : ∀ b o, b ∉ ch → s.heap.get? b = some o → H b = none → H' b = none)
    (there : ∀ b o, b ∉ ch → s.heap.get? b = some o → ∃ o', h'.get? b = some o')
    (tups : ∀ b xs, H b = some (.tup xs) → H' b = some (.tup xs)) (frzs : ∀ b o u, H b = some (.frz o u) → H' b = some (.frz o u)) (tbls : ∀ b ps, H b = some (.tbl ps) → ∃ more, H' b = some (.tbl (ps ++ more)))
    (ns : ∀ m, s.heap.Ns X.env.locals m → h'.Ns X.env.locals m) (hok : HOk X.prog X.w H' h') (hg : AllBare g') :
    Inv X pins σ H' { s with heap := h', gens := g', drawn := d', toks := t' } := by
  have neL : ∀ b o, X.s₀.heap.get? b = some o → b ≠ X.env.locals := fun b o e => Nat.ne_of_lt (Nat.lt_of_lt_of_le (Heap.lt_size e) I.ok.above)
  have neC : ∀ b o, X.s₀.heap.get? b = some o → b ∉ X.ex → b ∉ ch := fun b o e hx hb => by
    rcases (hch b hb).1 with z | z
    · exact hx z
    · exact absurd (Nat.lt_of_lt_of_le (Heap.lt_size e) z) (Nat.lt_irrefl _)
  have cellK : ∀ x c, X.env.cells.lookup x = some c → ∀ v, s.heap.IsCell c v → h'.IsCell c v := fun x c e v ⟨o, ho, hd⟩ => by
    have nch : c ∉ ch := fun z => (hch c z).2.2.1 x c e rfl
    by_cases hc : c ∈ X.fs
    · obtain ⟨sl, q⟩ := slot c o (I.cne x c e) hc nch ho (I.freeC x c e)
      exact ⟨_, q, hd⟩
    · exact ⟨o, keep c o (I.cne x c e) hc nch ho (I.freeC x c e), hd⟩
  refine ⟨I.ok, I.os, hg, ⟨fun b o e n hb hx => ?_, fun b o e n hb hx => ?_, fun b o e n hx => ?_, fun b o e hx => ?_, fun b xs e => tups b xs (I.base.tups b xs e), fun b o xs e => frzs b o xs (I.base.frzs b o xs e), fun b ps e => ?_⟩, ?_, fun x c e => ?_, ?_, fun x c e => ?_, fun p hp => ?_, hok, I.len⟩
  · exact keep b o (neL b o e) hb (neC b o e hx) (I.base.keep b o e n hb hx) (I.base.free b o e n hx)
  · obtain ⟨sl, e1⟩ := I.base.slot b o e n hb hx
    obtain ⟨sl', e2⟩ := slot b _ (neL b o e) hb (neC b o e hx) e1 (I.base.free b o e n hx)
    exact ⟨sl', e2⟩
  · obtain ⟨o', e1⟩ := I.base.there b o e hx
    exact free b o' (neC b o e hx) e1 (I.base.free b o e n hx)
  · obtain ⟨o', e1⟩ := I.base.there b o e hx
    exact there b o' (neC b o e hx) e1
  · obtain ⟨m1, e1⟩ := I.base.tbls b ps e
    obtain ⟨m2, e2⟩ := tbls b _ e1
    exact ⟨m1 ++ m2, by rw [e2, Array.append_assoc]⟩
  · obtain ⟨m, hn, hl⟩ := I.loc
    refine ⟨m, ns m hn, fun i x v e1 e2 e3 => ?_⟩
    obtain ⟨u, r, l⟩ := hl i x v e1 e2 e3
    refine ⟨u, r, ?_⟩
    rcases l with l | ⟨k, c, e, z⟩
    · exact .inl l
    · exact .inr ⟨k, c, e, cellK x c e _ z⟩
  · obtain ⟨v, z⟩ := I.cell x c e
    exact ⟨v, cellK x c e v z⟩
  · obtain ⟨m, ⟨o, _, _, ho, _⟩, _⟩ := I.loc
    exact free _ o (fun z => (hch _ z).2.1 rfl) ho I.free
  · obtain ⟨v, o, ho, hd⟩ := I.cell x c e
    exact free c o (fun z => (hch c z).2.2.1 x c e rfl) ho (I.freeC x c e)
  · obtain ⟨e, n, ne, nf, d⟩ := I.pin p hp
    have nch : p.1 ∉ ch := fun z => (hch p.1 z).2.2.2 p hp rfl
    exact ⟨keep p.1 p.2 ne nf nch e n, free p.1 p.2 nch e n, ne, nf, d⟩
theorem Inv.un {t' : Nat} (I : Inv X pins σ H s) (u : Un X.fs [] H H' s.heap h') (hok : HOk X.prog X.w H' h') : Inv X pins σ H' { s with heap := h', toks := t' } := by
  obtain ⟨m, ⟨o, es, ep, ho, r⟩, _⟩ := id I.loc
  obtain ⟨sl, hL⟩ := u.any ho I.free (by simp)
  exact I.step (g' := s.gens) (d' := s.drawn) (ch := []) (fun _ z => nomatch z) (fun b o _ hb _ e n => u.keep b o e n hb (by simp)) (fun b o _ hb _ e n => u.slot b o e n hb (by simp)) (fun b o _ e n => u.free b o e n (by simp)) (fun b o _ e => u.there b o e (by simp)) u.tups u.frzs u.tbls (fun m' hm => by
    obtain ⟨o', es', ep', ho', r'⟩ := hm
    rw [ho] at ho'; cases ho'
    exact ⟨_, es', ep', hL, r'⟩) hok I.bare
theorem Inv.call {g' : Array GenState} {t' : Nat} {d' : Drawn} {ch : List Addr} (I : Inv X pins σ H s) (u : Un (frs X.stack) ch H H' s.heap h') (hok : HOk X.prog X.w H' h') (hg : AllBare g')
    (hch : ∀ b ∈ ch, (b ∈ X.ex ∨ X.s₀.heap.objs.size ≤ b) ∧ b ≠ X.env.locals ∧ (∀ x c, X.env.cells.lookup x = some c → c ≠ b) ∧ ∀ p ∈ X.pn ++ pins, p.1 ≠ b) :
    Inv X pins σ H' { s with heap := h', gens := g', drawn := d', toks := t' } := by
  obtain ⟨m, ⟨o, es, ep, ho, r⟩, _⟩ := id I.loc
  obtain ⟨sl, hL⟩ := u.any ho I.free fun z => (hch _ z).2.1 rfl
  exact I.step (ch := ch) hch (fun b o hL hb hc e n => u.keep b o e n (fun z => (List.mem_cons.mp (I.stkSub b z)).elim hL hb) hc) (fun b o _ _ hc e n => u.any e n hc) (fun b o hc e n => u.free b o e n hc) (fun b o hc e => u.there b o e hc) u.tups u.frzs u.tbls (fun m' hm => by
    obtain ⟨o', es', ep', ho', r'⟩ := hm
    rw [ho] at ho'; cases ho'
    exact ⟨_, es', ep', hL, r'⟩) hok hg
theorem Inv.turned {t' : Nat} {it : Addr} (I : Inv X pins σ H s) (k : ∀ b o, b ≠ it → s.heap.get? b = some o → h'.get? b = some o) (hn : H it = none) (hL : it ≠ X.env.locals)
    (h1 : it ∈ X.ex ∨ X.s₀.heap.objs.size ≤ it) (h2 : ∀ x c, X.env.cells.lookup x = some c → c ≠ it) (h3 : ∀ p ∈ X.pn ++ pins, p.1 ≠ it) : Inv X pins σ H { s with heap := h', toks := t' } := by
  have nit : ∀ b u, H b = some u → b ≠ it := fun b u e z => by rw [z, hn] at e; cases e
  refine I.step (g' := s.gens) (d' := s.drawn) (ch := [it]) (fun b hb => ?_) (fun b o _ _ hc e _ => k b o (fun z => hc (by simp [z])) e) (fun b o _ _ hc e _ => ⟨o.slots, k b o (fun z => hc (by simp [z])) e⟩) (fun _ _ _ _ n => n)
    (fun b o hc e => ⟨o, k b o (fun z => hc (by simp [z])) e⟩) (fun _ _ e => e) (fun _ _ _ e => e) (fun b ps e => ⟨#[], by rw [e]; simp⟩) (fun m hm => ?_) (fun b u e => ?_) I.bare
  · have e : b = it := by simpa using hb
    subst e
    exact ⟨h1, hL, h2, h3⟩
  · obtain ⟨o, es, ep, ho, r⟩ := hm
    exact ⟨o, es, ep, k _ o (Ne.symm hL) ho, r⟩
  · refine (I.hok b u e).stay (fun c v hc q => k c v ?_ q) (fun _ q => q) fun _ _ q => q
    rcases hc with z | z
    · rw [z]; exact nit b u e
    · exact nit c _ z
theorem Inv.tok (I : Inv X pins σ H s) (t : Nat) : Inv X pins σ H { s with toks := t } := I.un (h' := s.heap) (t' := t) Un.refl I.hok
theorem Inv.kept {t' : Nat} (I : Inv X pins σ H s) (k : ∀ b u, s.heap.get? b = some u → h'.get? b = some u) : Inv X pins σ H { s with heap := h', toks := t' } := I.un (Un.kept k) (I.hok.kept k)
theorem Inv.laid {a : Addr} {o : HO} {t' : Nat} (I : Inv X pins σ H s) (k : ∀ b u, s.heap.get? b = some u → h'.get? b = some u) (hp : s.heap.objs.size ≤ a) (new : ObjOk X.prog X.w (upd H a o) h' a o) :
    Inv X pins σ (upd H a o) { s with heap := h', toks := t' } := I.un (Un.laid k hp (I.hok.fresh hp)) (I.hok.laid k hp new)
theorem Inv.write {x e : Addr} {o : HO} {t' : Nat} (I : Inv X pins σ H s) (mu : Mut (H x)) (he : e = x ∨ H e = some (.own x)) (k : ∀ b u, b ≠ e → s.heap.get? b = some u → h'.get? b = some u) (heo : ∃ u, h'.get? e = some u)
    (new : ObjOk X.prog X.w (upd H x o) h' x o) : Inv X pins σ (upd H x o) { s with heap := h', toks := t' } := I.un (Un.write mu he k heo) (I.hok.write mu he k heo new)
theorem Inv.pins_of {pins' : List (Addr × Obj)} (I : Inv X pins σ H s) (h : ∀ p ∈ pins', s.heap.get? p.1 = some p.2 ∧ H p.1 = none ∧ p.1 ≠ X.env.locals ∧ p.1 ∉ X.fs ∧ ∀ v, p.2.data ≠ .cell v) : Inv X pins' σ H s :=
  ⟨I.ok, I.os, I.bare, I.base, I.loc, I.cell, I.free, I.freeC, fun p hp => (List.mem_append.mp hp).elim (fun z => I.pin p (List.mem_append_left _ z)) (h p), I.hok, I.len⟩
theorem nodup_ix {N : List Str} (hN : N.Nodup) {i j : Nat} {x : Str} (a : N[i]? = some x) (b : N[j]? = some x) : i = j := by
  obtain ⟨h1, e1⟩ := List.getElem?_eq_some_iff.mp a
  obtain ⟨h2, e2⟩ := List.getElem?_eq_some_iff.mp b
  exact (List.getElem_inj hN).mp (e1.trans e2.symm)
theorem store_ok2 {M : Model} {A : Around} {E : Value → Shared → Prop} {i : Nat} {x : Str} {v : V} {u : Value} {Q : Unit → Shared → Prop} (I : Inv X pins σ H s) (hN : X.N.Nodup) (hi : X.N[i]? = some x) (hx : Loc X.env.scope x) (r : RelV v u)
    (h : ∀ s', Inv X pins (σ.set i (some v)) H s' → (∃ a, Heap.SameBut a s.heap s'.heap ∧ (a = X.env.locals ∨ X.env.cells.lookup x = some a)) → Q () s') (hf : X.fn x = true ∨ X.env.scope.names.lookup x = some .local := by first | exact .inl rfl | exact .inr rfl | assumption) : wpAny M A (storeName X.env x u) Q E s := by
  obtain ⟨m, hn, hl⟩ := id I.loc
  have hcls : (X.env.scope.kind == .class || (X.env.scope.kind == .module && X.env.locals != X.env.globals)) = false := by rw [I.ok.kind]; rfl
  have hiσ : i < σ.length := by rw [I.len]; exact (List.getElem?_eq_some_iff.mp hi).1
  have cne := I.cne
  have tracked : ∀ {a : Addr} {h' : Heap}, (∃ o, s.heap.get? a = some o ∧ H a = none) → Heap.SameBut a s.heap h' → HOk X.prog X.w H h' := fun {a h'} ha hs b ob e => by
    obtain ⟨_, _, hfree⟩ := ha
    refine (I.hok b ob e).stay (fun c w' hc q => (hs.2 c ?_).trans q) (fun _ q => q) fun _ _ q => q
    rintro rfl
    rcases hc with rfl | hc
    · rw [hfree] at e; cases e
    · rw [hfree] at hc; cases hc
  rcases hx with hk | hk
  · refine wpAny_storeName_local hk hn (fun h' hn' hs => ?_) hcls
    obtain ⟨oL, _, _, hoL, _⟩ := id hn
    refine h _ ⟨I.ok, I.os, I.bare, ⟨fun b o e n hb hx => ?_, fun b o e n hb hx => ?_, I.base.free, fun b o e hx => ?_, I.base.tups, I.base.frzs, I.base.tbls⟩, ⟨_, hn', fun j y v' e1 e2 e3 => ?_⟩, fun y c e => ?_, I.free, I.freeC, fun p hp => ?_, tracked ⟨oL, hoL, I.free⟩ hs, by simpa using I.len⟩ ⟨_, hs, .inl rfl⟩
    · exact (hs.2 b (Nat.ne_of_lt (Nat.lt_of_lt_of_le (Heap.lt_size e) I.ok.above))).trans (I.base.keep b o e n hb hx)
    · obtain ⟨sl, e1⟩ := I.base.slot b o e n hb hx
      exact ⟨sl, (hs.2 b (Nat.ne_of_lt (Nat.lt_of_lt_of_le (Heap.lt_size e) I.ok.above))).trans e1⟩
    · obtain ⟨o', e1⟩ := I.base.there b o e hx
      exact ⟨o', (hs.2 b (Nat.ne_of_lt (Nat.lt_of_lt_of_le (Heap.lt_size e) I.ok.above))).trans e1⟩
    · by_cases hj : j = i
      · subst hj
        rw [hi] at e1; cases e1
        rw [List.getElem?_set_self hiσ] at e2
        cases e2
        exact ⟨u, r, .inl ⟨hk, by simp⟩⟩
      · rw [List.getElem?_set_ne (Ne.symm hj)] at e2
        obtain ⟨u', r', q⟩ := hl j y v' e1 e2 e3
        refine ⟨u', r', ?_⟩
        rcases q with ⟨k, e⟩ | ⟨k, c, e, z⟩
        · refine .inl ⟨k, ?_⟩
          have : y ≠ x := fun e => hj (nodup_ix hN e1 (e ▸ hi))
          simp [this, e]
        · exact .inr ⟨k, c, e, z.sameBut hs (cne y c e)⟩
    · obtain ⟨w', z⟩ := I.cell y c e
      exact ⟨w', z.sameBut hs (cne y c e)⟩
    · obtain ⟨e, n, ne, nf, d⟩ := I.pin p hp
      exact ⟨(hs.2 p.1 ne).trans e, n, ne, nf, d⟩
  · have hfn : X.fn x = true := by
      rcases hf with z | z
      · exact z
      · rw [z] at hk; cases hk
    obtain ⟨c, hc⟩ := I.ok.has x (.inl hk)
    obtain ⟨w', z⟩ := I.cell x c hc
    refine wpAny_storeName_cell I.ok.kind hk hc z (fun h' hc' hs => ?_)
    obtain ⟨oc, hoc, hocd⟩ := id z
    refine h { s with heap := h' } ⟨I.ok, I.os, I.bare, ⟨fun b o e n hb hx => ?_, fun b o e n hb hx => ?_, I.base.free, fun b o e hx => ?_, I.base.tups, I.base.frzs, I.base.tbls⟩, ⟨m, hn.sameBut hs (Ne.symm (cne x c hc)), fun j y v' e1 e2 e3 => ?_⟩, fun y c' e => ?_, I.free, I.freeC, fun p hp => ?_, tracked ⟨oc, hoc, I.freeC x c hc⟩ hs, by simpa using I.len⟩ ⟨c, hs, .inr hc⟩
    · exact (hs.2 b (Nat.ne_of_lt (Nat.lt_of_lt_of_le (Heap.lt_size e) (I.ok.cab x c hfn hc)))).trans (I.base.keep b o e n hb hx)
    · obtain ⟨sl, e1⟩ := I.base.slot b o e n hb hx
      exact ⟨sl, (hs.2 b (Nat.ne_of_lt (Nat.lt_of_lt_of_le (Heap.lt_size e) (I.ok.cab x c hfn hc)))).trans e1⟩
    · obtain ⟨o', e1⟩ := I.base.there b o e hx
      exact ⟨o', (hs.2 b (Nat.ne_of_lt (Nat.lt_of_lt_of_le (Heap.lt_size e) (I.ok.cab x c hfn hc)))).trans e1⟩
    · by_cases hj : j = i
      · subst hj
        rw [hi] at e1; cases e1
        rw [List.getElem?_set_self hiσ] at e2
        cases e2
        exact ⟨u, r, .inr ⟨.inl hk, c, hc, hc'⟩⟩
      · rw [List.getElem?_set_ne (Ne.symm hj)] at e2
        obtain ⟨u', r', q⟩ := hl j y v' e1 e2 e3
        refine ⟨u', r', ?_⟩
        rcases q with q | ⟨k, c', e, z'⟩
        · exact .inl q
        · refine .inr ⟨k, c', e, z'.sameBut hs ?_⟩
          rintro rfl
          exact hj (nodup_ix hN e1 (I.ok.inj _ _ _ e hc ▸ hi))
    · by_cases hcc : c' = c
      · subst hcc; exact ⟨_, hc'⟩
      · obtain ⟨w2, z2⟩ := I.cell y c' e
        exact ⟨w2, z2.sameBut hs hcc⟩
    · obtain ⟨e, n, ne, nf, d⟩ := I.pin p hp
      refine ⟨(hs.2 p.1 ?_).trans e, n, ne, nf, d⟩
      intro q
      rw [q, hoc] at e
      have q' : oc = p.2 := Option.some.inj e
      exact d w' (by rw [← q']; exact hocd)
theorem store_ok {M : Model} {A : Around} {E : Value → Shared → Prop} {i : Nat} {x : Str} {v : V} {u : Value} {Q : Unit → Shared → Prop} (I : Inv X pins σ H s) (hN : X.N.Nodup) (hi : X.N[i]? = some x) (hx : Loc X.env.scope x) (r : RelV v u)
    (h : ∀ s', Inv X pins (σ.set i (some v)) H s' → Q () s') (hf : X.fn x = true ∨ X.env.scope.names.lookup x = some .local := by first | exact .inl rfl | exact .inr rfl | assumption) : wpAny M A (storeName X.env x u) Q E s :=
  store_ok2 I hN hi hx r (fun s' I' _ => h s' I') hf
end
noncomputable abbrev XK := Value → Option Addr → Hp → Prop
noncomputable abbrev St := List (Option V)
noncomputable abbrev VK := V → Hp → Prop
noncomputable abbrev TE := St → Hp → VK → Prop
noncomputable abbrev TT := St → Hp → (Bool → Hp → Prop) → Prop
noncomputable abbrev TA := St → Hp → (List V → Hp → Prop) → Prop
structure Ends where
  nx : St → Hp → Prop
  rt : VK
  bk : St → Hp → Prop := fun _ _ => False
  ct : St → Hp → Prop := fun _ _ => False
noncomputable abbrev TS := Ends → St → Hp → Prop
noncomputable def EP (X : Cx) (pins : List (Addr × Obj)) (σ : St) (Q : VK) (u : Value) (s' : Shared) : Prop := ∃ v H', Inv X pins σ H' s' ∧ RelV v u ∧ Q v H'
noncomputable def TP (X : Cx) (pins : List (Addr × Obj)) (σ : St) (Q : Bool → Hp → Prop) (b : Bool) (s' : Shared) : Prop := ∃ H', Inv X pins σ H' s' ∧ Q b H'
noncomputable def AP (X : Cx) (pins : List (Addr × Obj)) (σ : St) (Q : List V → Hp → Prop) (us : List Value) (s' : Shared) : Prop := ∃ vs H', Inv X pins σ H' s' ∧ Vals vs us ∧ Q vs H'
noncomputable def SP (X : Cx) (pins : List (Addr × Obj)) (D : Ends) (f : Flow) (s' : Shared) : Prop :=
  match f with
  | .next => ∃ σ' H', Inv X pins σ' H' s' ∧ D.nx σ' H'
  | .brk => ∃ σ' H', Inv X pins σ' H' s' ∧ D.bk σ' H'
  | .cont => ∃ σ' H', Inv X pins σ' H' s' ∧ D.ct σ' H'
  | .ret u => ∃ v σ' H', Inv X pins σ' H' s' ∧ RelV v u ∧ D.rt v H'
noncomputable def PE (X : Cx) (e : Expr) (t : TE) : Prop :=
  ∀ (pins : List (Addr × Obj)) (s : Shared) (σ : St) (H : Hp) (Q : VK), Inv X pins σ H s → t σ H Q → wpAny (model X.prog X.w) X.A (eval e X.env) (EP X pins σ Q) X.xe s
noncomputable def PT (X : Cx) (e : Expr) (t : TT) : Prop :=
  ∀ (pins : List (Addr × Obj)) (s : Shared) (σ : St) (H : Hp) (Q : Bool → Hp → Prop), Inv X pins σ H s → t σ H Q → wpAny (model X.prog X.w) X.A (isTrue e X.env (eval e X.env)) (TP X pins σ Q) X.xe s
noncomputable def PW (X : Cx) (e : Expr) (t : TT) : Prop :=
  ∀ (whole : Sem Value) (pins : List (Addr × Obj)) (s : Shared) (σ : St) (H : Hp) (Q : Bool → Hp → Prop), Inv X pins σ H s → t σ H Q → wpAny (model X.prog X.w) X.A (isTrue e X.env whole) (TP X pins σ Q) X.xe s
theorem PW.pt {X : Cx} {e : Expr} {t : TT} (h : PW X e t) : PT X e t := h _
noncomputable def PA (X : Cx) (es : List Expr) (t : TA) : Prop :=
  ∀ (pos : Pos) (pins : List (Addr × Obj)) (s : Shared) (σ : St) (H : Hp) (Q : List V → Hp → Prop), Inv X pins σ H s → t σ H Q → wpAny (model X.prog X.w) X.A (spliced (backTo pos (starEach es X.env))) (AP X pins σ Q) X.xe s
noncomputable def PS (X : Cx) (st : Stmt) (t : TS) : Prop :=
  ∀ (pins : List (Addr × Obj)) (s : Shared) (σ : St) (H : Hp) (D : Ends), Inv X pins σ H s → t D σ H → wpAny (model X.prog X.w) X.A (exec st X.env) (SP X pins D) X.xe s
noncomputable def PSs (X : Cx) (st : List Stmt) (t : TS) : Prop :=
  ∀ (pins : List (Addr × Obj)) (s : Shared) (σ : St) (H : Hp) (D : Ends), Inv X pins σ H s → t D σ H → wpAny (model X.prog X.w) X.A (execs st X.env) (SP X pins D) X.xe s
theorem thn {α : Type} {t : Sem α} {Q Q' : α → Shared → Prop} {M : Model} {A : Around} {E : Value → Shared → Prop} {s : Shared} (h : wpAny M A t Q E s) (hQ : ∀ a s, Q a s → Q' a s) : wpAny M A t Q' E s := wpAny_mono h hQ fun _ _ x => x
end L2
namespace L2
open PySem PySem.Spec PyProof.Rows
noncomputable section
variable {X : Cx}
noncomputable def tVar (i : Nat) : TE := fun σ H Q => ∃ v, σ[i]? = some (some v) ∧ Q v H
noncomputable def tC (v : V) : TE := fun _ H Q => Q v H
theorem pe_var {i : Nat} {x : Str} {pos : Pos} (hN : X.N[i]? = some x) (hv : Vis X.env.scope x) (hd : (x == ("__debug__" : Str)) = false := by decide) (hcd : (x == ("__classdict__" : Str)) = false := by decide) : PE X (.Name x pos) (tVar i) := by
  intro pins s σ H Q I h
  obtain ⟨v, e, h⟩ := h
  obtain ⟨m, hn, hl⟩ := I.loc
  obtain ⟨u, r, l⟩ := hl i x v hN e hv
  have fin : EP X pins σ Q u s := ⟨v, H, I, r, h⟩
  rcases l with ⟨hk, hm⟩ | ⟨hk, c, hc, hcell⟩
  · exact wpAny_Name (wpAny_loadName_local I.ok.kind hk hn hm fin) hd
  · rcases hk with hk | hk
    · exact wpAny_Name (wpAny_loadName_cell I.ok.kind hk hc hcell fin) hd
    · exact wpAny_Name (wpAny_loadName_free I.ok.kind hk hc hcell fin hcd) hd
theorem pe_int {i j pos} : PE X (.Constant (.int i) j pos) (tC (.int i)) := fun _ _ _ H _ I h => wpAny_Constant_int ⟨.int i, H, I.tok _, ⟨_, rfl⟩, h⟩
theorem pe_bl {b j pos} : PE X (.Constant (.bool b) j pos) (tC (.bl b)) := fun _ _ _ H _ I h => Constant_bool ⟨.bl b, H, I, rfl, h⟩
theorem pe_str {x j pos} : PE X (.Constant (.str x) j pos) (tC (.str x)) := fun _ _ _ H _ I h => Calls.Constant_str ⟨.str x, H, I.tok _, ⟨_, rfl⟩, h⟩
noncomputable def Gl (X : Cx) (x : Str) : Prop := X.env.kindOf x = some .globalImplicit
theorem ld_glob {E : Value → Shared → Prop} {pins : List (Addr × Obj)} {s : Shared} {σ : St} {H : Hp} {x : Str} {u : Value} {pos : Pos} {Q : Value → Shared → Prop} (I : Inv X pins σ H s) (hg : Gl X x) (hm : X.mg x = some u) (h : Q u s)
    (hd : (x == ("__debug__" : Str)) = false := by decide) : wpAny (model X.prog X.w) X.A (eval (.Name x pos) X.env) Q E s :=
  Calls.Name_function_global I.ok.kind hg (Calls.loadGlobal_global (by rw [I.ok.glob]; exact I.mod.glob.keeps I.bk) hm h) hd
theorem ld_blt {E : Value → Shared → Prop} {pins : List (Addr × Obj)} {s : Shared} {σ : St} {H : Hp} {x : Str} {u : Value} {pos : Pos} {Q : Value → Shared → Prop} (I : Inv X pins σ H s) (hg : Gl X x) (hm : X.mg x = none) (hv : bootBuiltins x = some u) (h : Q u s)
    (hn : x ≠ "__name__" := by decide) (hd : (x == ("__debug__" : Str)) = false := by decide) : wpAny (model X.prog X.w) X.A (eval (.Name x pos) X.env) Q E s := by
  obtain ⟨mb, h1, h2⟩ := I.mod.blt
  exact Calls.Name_function_global I.ok.kind hg (Calls.loadGlobal_builtin (by rw [I.ok.glob]; exact I.mod.glob.keeps I.bk) hm (by rw [I.ok.blt]; exact h1.keeps I.bk) ((h2 x hn).trans hv) h) hd
theorem pe_bltn {x : Str} {v : V} {u : Value} {pos : Pos} (hg : Gl X x) (hm : X.mg x = none) (hv : bootBuiltins x = some u) (r : RelV v u) (hn : x ≠ "__name__" := by decide) (hd : (x == ("__debug__" : Str)) = false := by decide) : PE X (.Name x pos) (tC v) :=
  fun _ _ _ H _ I h => ld_blt I hg hm hv ⟨v, H, I, r, h⟩ hn hd
variable {a b : Expr} {ta tb : TE} {pos : Pos}
noncomputable def tB (t : TE) : TT := fun σ H Q => t σ H fun x H1 => ∃ c, x = .bl c ∧ Q c H1
theorem pt_val {e : Expr} {t : TE} (h : PE X e t) (he : ∀ whole, isTrue e X.env whole = (do let v ← whole; standAt e.pos; holding [v] (truthy v)) := by intro _; rfl) : PT X e (tB t) := by
  intro pins s σ H Q I hw
  refine isTrue_plain (thn (h pins s σ H _ I hw) fun v s1 ⟨x, H1, I1, r1, q1⟩ => ?_) (he _)
  obtain ⟨d, rfl, q⟩ := q1
  cases r1
  exact wpAny_truthy_bool ⟨H1, I1, q⟩
variable {tA tB' : TT} {rest : List Expr}
noncomputable def tAnd (t u : TT) : TT := fun σ H Q => t σ H fun c H1 => if c = true then u σ H1 Q else Q false H1
noncomputable def tOr (t u : TT) : TT := fun σ H Q => t σ H fun c H1 => if c = true then Q true H1 else u σ H1 Q
noncomputable def tNot (t : TT) : TT := fun σ H Q => t σ H fun c H1 => Q (!c) H1
theorem pw_and1 (ha : PT X a tA) : PW X (.BoolOp .And [a] pos) tA := by
  intro wh pins s σ H Q I h
  refine isTrue_and (thn (ha pins s σ H Q I h) fun c s1 e => ?_)
  cases c with
  | true => exact isTrue_and_nil e
  | false => exact e
theorem pw_or1 (ha : PT X a tA) : PW X (.BoolOp .Or [a] pos) tA := by
  intro wh pins s σ H Q I h
  refine isTrue_or (thn (ha pins s σ H Q I h) fun c s1 e => ?_)
  cases c with
  | false => exact isTrue_or_nil e
  | true => exact e
theorem pw_and (ha : PT X a tA) (hb : PW X (.BoolOp .And (b :: rest) pos) tB') : PW X (.BoolOp .And (a :: b :: rest) pos) (tAnd tA tB') := by
  intro wh pins s σ H Q I h
  refine isTrue_and (thn (ha pins s σ H _ I h) fun c s1 ⟨H1, I1, q1⟩ => ?_)
  cases c with
  | true => exact hb wh pins s1 σ H1 Q I1 q1
  | false => exact ⟨H1, I1, q1⟩
theorem pw_or (ha : PT X a tA) (hb : PW X (.BoolOp .Or (b :: rest) pos) tB') : PW X (.BoolOp .Or (a :: b :: rest) pos) (tOr tA tB') := by
  intro wh pins s σ H Q I h
  refine isTrue_or (thn (ha pins s σ H _ I h) fun c s1 ⟨H1, I1, q1⟩ => ?_)
  cases c with
  | true => exact ⟨H1, I1, q1⟩
  | false => exact hb wh pins s1 σ H1 Q I1 q1
theorem pt_not (ha : PT X a tA) : PT X (.UnaryOp .Not a pos) (tNot tA) := by
  intro pins s σ H Q I h
  exact isTrue_not (ha pins s σ H (fun c H1 => Q (!c) H1) I h)
noncomputable def tAndV (ta tb : TE) : TE := fun σ H Q => ta σ H fun x H1 => ∃ c, x = .bl c ∧ if c = true then tb σ H1 Q else Q (.bl false) H1
noncomputable def tOrV (ta tb : TE) : TE := fun σ H Q => ta σ H fun x H1 => ∃ c, x = .bl c ∧ if c = true then Q (.bl true) H1 else tb σ H1 Q
noncomputable def tNotV (ta : TE) : TE := fun σ H Q => ta σ H fun x H1 => ∃ c, x = .bl c ∧ Q (.bl (!c)) H1
theorem pe_one {op} {t : TE} (h : PE X a t) : PE X (.BoolOp op [a] pos) t := fun pins s σ H Q I hw => BoolOp_one (h pins s σ H Q I hw)
theorem pe_and (ha : PE X a ta) (hb : PE X (.BoolOp .And (b :: rest) pos) tb) : PE X (.BoolOp .And (a :: b :: rest) pos) (tAndV ta tb) := by
  intro pins s σ H Q I h
  refine BoolOp_and (thn (ha pins s σ H _ I h) fun v s1 ⟨x, H1, I1, r1, q1⟩ => ?_)
  obtain ⟨c, rfl, q1⟩ := q1
  cases r1
  refine wpAny_truthy_bool ?_
  cases c with
  | true => exact hb pins s1 σ H1 Q I1 q1
  | false => exact ⟨.bl false, H1, I1, rfl, q1⟩
theorem pe_or (ha : PE X a ta) (hb : PE X (.BoolOp .Or (b :: rest) pos) tb) : PE X (.BoolOp .Or (a :: b :: rest) pos) (tOrV ta tb) := by
  intro pins s σ H Q I h
  refine BoolOp_or (thn (ha pins s σ H _ I h) fun v s1 ⟨x, H1, I1, r1, q1⟩ => ?_)
  obtain ⟨c, rfl, q1⟩ := q1
  cases r1
  refine wpAny_truthy_bool ?_
  cases c with
  | false => exact hb pins s1 σ H1 Q I1 q1
  | true => exact ⟨.bl true, H1, I1, rfl, q1⟩
theorem pe_not (ha : PE X a ta) : PE X (.UnaryOp .Not a pos) (tNotV ta) := by
  intro pins s σ H Q I h
  refine UnaryOp_ (thn (ha pins s σ H _ I h) fun v s1 ⟨x, H1, I1, r1, q1⟩ => ?_)
  obtain ⟨c, rfl, q1⟩ := q1
  cases r1
  exact not_of (wpAny_truthy_bool ⟨.bl (!c), H1, I1, rfl, q1⟩)
noncomputable def tIf (t : TT) (ta tb : TE) : TE := fun σ H Q => t σ H fun c H1 => if c = true then ta σ H1 Q else tb σ H1 Q
theorem pe_ifExp {c : Expr} (hc : PT X c tA) (ha : PE X a ta) (hb : PE X b tb) : PE X (.IfExp c a b pos) (tIf tA ta tb) := by
  intro pins s σ H Q I h
  refine wpAny_IfExp (thn (hc pins s σ H _ I h) fun d s1 ⟨H1, I1, q1⟩ => ?_)
  cases d with
  | true => exact ha pins s1 σ H1 Q I1 q1
  | false => exact hb pins s1 σ H1 Q I1 q1
end
end L2
namespace L2
open PySem PySem.Spec PyProof.Rows
noncomputable def SqL (K : PySem.W.Frag) (H : Hp) (a : Addr) (xs : List V) : Prop :=
  Rd H a (.lst xs) ∨
    ∃ (o : Obj) (its : Array Value) (n : Nat), K.lookup a = some o ∧ o.cls = .type "list" ∧ o.dict = none ∧ o.data = .seq its n ∧ its.size ≤ sizeLine ∧ Vals xs its.toList
noncomputable def SqT (K : PySem.W.Frag) (H : Hp) (a : Addr) (xs : List V) : Prop :=
  Rd H a (.tup xs) ∨
    ∃ (o : Obj) (its : Array Value) (n : Nat), K.lookup a = some o ∧ o.cls = .type "tuple" ∧ o.dict = none ∧ o.data = .seq its n ∧ its.size ≤ sizeLine ∧ Vals xs its.toList
noncomputable def absV : Value → Option V
  | .none => some .non
  | .bool b => some (.bl b)
  | .int i _ => some (.int i)
  | .str x _ => some (.str x)
  | .bytes b _ => some (.byt b)
  | .float b _ => some (.flt b)
  | .ref a => some (.ref a)
  | .type n => some (.ty n)
  | _ => none
theorem RelV.abs {x : V} {u : Value} (r : RelV x u) : absV u = some x := by
  cases x with
  | non => cases r; rfl
  | bl _ => cases r; rfl
  | int _ => obtain ⟨t, rfl⟩ := r; rfl
  | str _ => obtain ⟨t, rfl⟩ := r; rfl
  | byt _ => obtain ⟨t, rfl⟩ := r; rfl
  | flt _ => obtain ⟨t, rfl⟩ := r; rfl
  | ref _ => cases r; rfl
  | ty _ => cases r; rfl
theorem RelV.inj {x y : V} {u : Value} (r : RelV x u) (q : RelV y u) : x = y := Option.some.inj (r.abs.symm.trans q.abs)
theorem Vals.inj : ∀ {xs ys : List V} {us : List Value}, Vals xs us → Vals ys us → xs = ys
  | _, _, _, .nil, .nil => rfl
  | _, _, _, .cons r t, .cons r' t' => by rw [r.inj r', Vals.inj t t']
noncomputable section
variable {X : Cx} {pins : List (Addr × Obj)} {σ : St} {H : Hp} {s : Shared} {a : Addr} {xs ys : List V}
theorem SqL.of {K : PySem.W.Frag} (h : H a = some (.lst xs)) : SqL K H a xs := .inl (.inl h)
theorem SqT.of {K : PySem.W.Frag} (h : H a = some (.tup xs)) : SqT K H a xs := .inl (.inl h)
theorem Inv.list (I : Inv X pins σ H s) (h : SqL X.K H a xs) : ∃ its : List Value, Vals xs its ∧ PlainL s.heap a its.toArray ∧ xs.length ≤ sizeLine := by
  rcases h with h | ⟨o, its, n, hk, hc, hd, hs, hz, r⟩
  · obtain ⟨z, its, n, r, e⟩ := h.ok I.hok
    exact ⟨its, r, ⟨_, n, e, rfl, rfl, rfl⟩, z⟩
  · refine ⟨its.toList, r, ⟨o, n, I.kIn a o hk, hc, hd, by simpa using hs⟩, ?_⟩
    have e := r.length
    simp only [Array.length_toList] at e
    omega
theorem Inv.tuple (I : Inv X pins σ H s) (h : SqT X.K H a xs) : ∃ its : List Value, Vals xs its ∧ IsTup s.heap a its.toArray ∧ xs.length ≤ sizeLine := by
  rcases h with h | ⟨o, its, n, hk, hc, hdn, hs, hz, r⟩
  · obtain ⟨z, its, r, p⟩ := h.ok I.hok
    exact ⟨its, r, p.is, z⟩
  · refine ⟨its.toList, r, ⟨o, I.kIn a o hk, hc, n, by simpa using hs⟩, ?_⟩
    have e := r.length
    simp only [Array.length_toList] at e
    omega
theorem Inv.list_inj (I : Inv X pins σ H s) (h : SqL X.K H a xs) (h' : SqL X.K H a ys) : xs = ys := by
  obtain ⟨its, r, ⟨o, n, e, _, _, d⟩, _⟩ := I.list h
  obtain ⟨its', r', ⟨o', n', e', _, _, d'⟩, _⟩ := I.list h'
  rw [e] at e'; cases e'
  rw [d] at d'
  injection d' with d1 _
  have : its = its' := by simpa using congrArg Array.toList d1
  subst this
  exact r.inj r'
theorem Inv.tuple_inj (I : Inv X pins σ H s) (h : SqT X.K H a xs) (h' : SqT X.K H a ys) : xs = ys := by
  obtain ⟨its, r, ⟨o, e, _, n, d⟩, _⟩ := I.tuple h
  obtain ⟨its', r', ⟨o', e', _, n', d'⟩, _⟩ := I.tuple h'
  rw [e] at e'; cases e'
  rw [d] at d'
  injection d' with d1 _
  have : its = its' := by simpa using congrArg Array.toList d1
  subst this
  exact r.inj r'
end
noncomputable abbrev Cx.wish (X : Cx) (E : Value → Shared → Prop) : Cx := { X with xe := E }
noncomputable abbrev Cx.nox (X : Cx) : Cx := X.wish fun _ _ => False
theorem Cx.Ok.wish {X : Cx} (ok : X.Ok) (E : Value → Shared → Prop) : (X.wish E).Ok :=
  ⟨ok.mod, ok.kind, ok.glob, ok.blt, ok.above, ok.inj, ok.has, ok.cab, ok.hd, ok.frames, ok.stk, ok.exf, ok.bs, ok.bsz, ok.noex, ok.exfs, ok.funs, ok.frf⟩
theorem Cx.Ok.unwish {X : Cx} {E : Value → Shared → Prop} (ok : (X.wish E).Ok) : X.Ok :=
  ⟨ok.mod, ok.kind, ok.glob, ok.blt, ok.above, ok.inj, ok.has, ok.cab, ok.hd, ok.frames, ok.stk, ok.exf, ok.bs, ok.bsz, ok.noex, ok.exfs, ok.funs, ok.frf⟩
noncomputable section
variable {X : Cx} {pins : List (Addr × Obj)} {σ : St} {H : Hp} {s : Shared} {E : Value → Shared → Prop}
theorem Inv.wish (I : Inv X pins σ H s) (E : Value → Shared → Prop) : Inv (X.wish E) pins σ H s := ⟨I.ok.wish E, I.os, I.bare, I.base, I.loc, I.cell, I.free, I.freeC, I.pin, I.hok, I.len⟩
theorem Inv.unwish (I : Inv (X.wish E) pins σ H s) : Inv X pins σ H s := ⟨I.ok.unwish, I.os, I.bare, I.base, I.loc, I.cell, I.free, I.freeC, I.pin, I.hok, I.len⟩
theorem SP.unwish {D : Ends} {f : Flow} {s' : Shared} (h : SP (X.wish E) pins D f s') : SP X pins D f s' := by
  cases f with
  | next => obtain ⟨σ', H', I, q⟩ := h; exact ⟨σ', H', I.unwish, q⟩
  | brk => obtain ⟨σ', H', I, q⟩ := h; exact ⟨σ', H', I.unwish, q⟩
  | cont => obtain ⟨σ', H', I, q⟩ := h; exact ⟨σ', H', I.unwish, q⟩
  | ret u => obtain ⟨v, σ', H', I, r, q⟩ := h; exact ⟨v, σ', H', I.unwish, r, q⟩
theorem PE.nox {e : Expr} {t : TE} (h : PE X.nox e t) : PE X e t := fun pins s σ H Q I hw =>
  wpAny_mono (h pins s σ H Q (I.wish _) hw) (fun _ _ ⟨v, H', I', r, q⟩ => ⟨v, H', I'.unwish, r, q⟩) fun _ _ z => False.elim z
theorem PT.nox {e : Expr} {t : TT} (h : PT X.nox e t) : PT X e t := fun pins s σ H Q I hw =>
  wpAny_mono (h pins s σ H Q (I.wish _) hw) (fun _ _ ⟨H', I', q⟩ => ⟨H', I'.unwish, q⟩) fun _ _ z => False.elim z
theorem PSs.nox {st : List Stmt} {t : TS} (h : PSs X.nox st t) : PSs X st t := fun pins s σ H D I hw =>
  wpAny_mono (h pins s σ H D (I.wish _) hw) (fun _ _ q => q.unwish) fun _ _ z => False.elim z
end
noncomputable section
variable {X : Cx} {st : Stmt} {rest : List Stmt} {t u : TS} {e : Expr} {te : TE} {pos : Pos}
noncomputable def tNext : TS := fun D σ H => D.nx σ H
noncomputable def tSeq (t u : TS) : TS := fun D σ H => t { D with nx := u D } σ H
theorem pss_nil : PSs X [] tNext := fun _ _ σ H _ I h => wpAny_execs_nil ⟨σ, H, I, h⟩
theorem pss_cons (h1 : PS X st t) (h2 : PSs X rest u) : PSs X (st :: rest) (tSeq t u) := by
  intro pins s σ H D I h
  refine wpAny_execs_cons (thn (h1 pins s σ H { D with nx := u D } I h) fun f s1 q => ?_)
  cases f with
  | next =>
    obtain ⟨σ', H', I', q⟩ := q
    exact h2 pins s1 σ' H' D I' q
  | ret v => exact q
  | brk => exact q
  | cont => exact q
theorem pss_one (h1 : PS X st t) : PSs X [st] t := by
  intro pins s σ H D I h
  refine wpAny_execs_cons (thn (h1 pins s σ H D I h) fun f s1 q => ?_)
  cases f with
  | next => exact wpAny_execs_nil q
  | ret v => exact q
  | brk => exact q
  | cont => exact q
theorem Inv.quiet {pins : List (Addr × Obj)} {σ : St} {H : Hp} {s : Shared} (I : Inv X pins σ H s) : interactive X.env = false := by simp [interactive, I.ok.kind]
noncomputable def tDrop (te : TE) : TS := fun D σ H => te σ H fun _ H1 => D.nx σ H1
theorem ps_expr (he : PE X e te) (hs : swapsWith e none pos.line X.env = pure false := by rfl) : PS X (.Expr e pos) (tDrop te) := by
  intro pins s σ H D I h
  exact wpAny_Expr_any (thn (he pins s σ H _ I h) fun v s1 ⟨x, H1, I1, r1, q1⟩ => ⟨σ, H1, I1, q1⟩) I.quiet hs
noncomputable def tRet (te : TE) : TS := fun D σ H => te σ H D.rt
theorem ps_ret (he : PE X e te) : PS X (.Return (some e) pos) (tRet te) := by
  intro pins s σ H D I h
  exact wpAny_Return_some (thn (he pins s σ H _ I h) fun v s1 ⟨x, H1, I1, r1, q1⟩ => ⟨x, σ, H1, I1, r1, q1⟩)
noncomputable def tIfS (c : TT) (t u : TS) : TS := fun D σ H => c σ H fun b H1 => if b = true then t D σ H1 else u D σ H1
theorem ps_if {c : Expr} {a b : List Stmt} {tc : TT} (hc : PT X c tc) (ha : PSs X a t) (hb : PSs X b u) : PS X (.If c a b pos) (tIfS tc t u) := by
  intro pins s σ H D I h
  refine wpAny_If (thn (hc pins s σ H _ I h) fun d s1 ⟨H1, I1, q1⟩ => ?_)
  cases d with
  | true => exact ha pins s1 σ H1 D I1 q1
  | false => exact hb pins s1 σ H1 D I1 q1
end
noncomputable abbrev TG := V → St → Hp → (St → Hp → Prop) → Prop
noncomputable abbrev TGs := List V → St → Hp → (St → Hp → Prop) → Prop
noncomputable def PG (X : Cx) (target : Expr) (t : TG) : Prop :=
  ∀ (pins : List (Addr × Obj)) (s : Shared) (σ : St) (H : Hp) (v : V) (u : Value) (Q : St → Hp → Prop), Inv X pins σ H s → RelV v u → t v σ H Q →
    wpAny (model X.prog X.w) X.A (assign target X.env u) (fun _ s' => ∃ σ' H', Inv X pins σ' H' s' ∧ Q σ' H') X.xe s
noncomputable def PGs (X : Cx) (ts : List Expr) (t : TGs) : Prop :=
  ∀ (pins : List (Addr × Obj)) (s : Shared) (σ : St) (H : Hp) (vs : List V) (us : List Value) (Q : St → Hp → Prop), Inv X pins σ H s → Vals vs us → t vs σ H Q →
    wpAny (model X.prog X.w) X.A (assignInOrder ((assignEach ts X.env).map (·.2)) us) (fun _ s' => ∃ σ' H', Inv X pins σ' H' s' ∧ Q σ' H') X.xe s
noncomputable abbrev TSet := V → V → V → Hp → (Hp → Prop) → Prop
noncomputable def PSet (X : Cx) (t : TSet) : Prop :=
  ∀ (pins : List (Addr × Obj)) (s : Shared) (σ : St) (H : Hp) (o i v : V) (ov iv u : Value) (Q : Hp → Prop), Inv X pins σ H s → RelV o ov → RelV i iv → RelV v u → t o i v H Q →
    wpAny (model X.prog X.w) X.A (setItem ov iv u) (fun _ s' => ∃ H', Inv X pins σ H' s' ∧ Q H') X.xe s
noncomputable section
variable {X : Cx} {pos : Pos}
noncomputable def gName (i : Nat) : TG := fun v σ H Q => Q (σ.set i (some v)) H
theorem pg_name {i : Nat} {x : Str} (hN : X.N.Nodup) (hi : X.N[i]? = some x) (hx : Loc X.env.scope x) (hf : X.fn x = true ∨ X.env.scope.names.lookup x = some .local := by first | exact .inl rfl | exact .inr rfl | assumption) : PG X (.Name x pos) (gName i) := by
  intro pins s σ H v u Q I r h
  exact wpAny_assign_Name (store_ok I hN hi hx r (fun s' I' => ⟨_, H, I', h⟩) hf)
noncomputable def gNil : TGs := fun vs σ H Q => vs = [] ∧ Q σ H
noncomputable def gCons (t : TG) (u : TGs) : TGs := fun vs σ H Q => ∃ v r, vs = v :: r ∧ t v σ H fun σ' H' => u r σ' H' Q
theorem pgs_nil : PGs X [] gNil := by
  intro pins s σ H vs us Q I r h
  obtain ⟨e, h⟩ := h
  subst e
  cases r
  exact assignInOrder_nil ⟨σ, H, I, h⟩
theorem pgs_cons {e : Expr} {es : List Expr} {t : TG} {u : TGs} (h1 : PG X e t) (h2 : PGs X es u)
    (hs : (assignEach (e :: es) X.env).map (·.2) = assign e X.env :: (assignEach es X.env).map (·.2) := by rfl) : PGs X (e :: es) (gCons t u) := by
  intro pins s σ H vs us Q I r h
  obtain ⟨v, vr, e1, h⟩ := h
  subst e1
  cases r with
  | cons r rr =>
    rw [hs]
    refine assignInOrder_cons (thn (h1 pins s σ H _ _ _ I r h) fun _ s1 ⟨σ1, H1, I1, q1⟩ => ?_)
    exact h2 pins s1 σ1 H1 _ _ Q I1 rr q1
noncomputable def gTup (K : PySem.W.Frag) (n : Nat) (t : TGs) : TG := fun v σ H Q => ∃ a xs, v = .ref a ∧ SqT K H a xs ∧ xs.length = n ∧ t xs σ H Q
theorem pg_tup {es : List Expr} {k : Nat} {t : TGs} {n : Nat} (hc : X.calm = true) (h : PGs X es t)
    (hn : (assignEach es X.env).length = n := by rfl) (hst : (assignEach es X.env).findIdx? (·.1) = none := by rfl) : PG X (.Tuple es k pos) (gTup X.K n t) := by
  intro pins s σ H v u Q I r hw
  obtain ⟨a, xs, e1, hq, hl, hw⟩ := hw
  subst e1
  cases r
  obtain ⟨its, rv, ht, hz⟩ := I.tuple hq
  refine assign_Tuple_tuple (I.ok.hd hc) ht (by simp [hn, ← hl, rv.length]) hst fun h' hx => ?_
  have I1 : Inv X pins σ H { s with heap := h' } := I.kept (t' := s.toks) fun b o e => hx b o (Nat.ne_of_lt (Heap.lt_size e)) e
  exact h pins _ σ H xs _ Q I1 (by simpa using rv) hw
noncomputable def gSub (to ti : TE) (t : TSet) : TG := fun v σ H Q => to σ H fun o H1 => ti σ H1 fun i H2 => t o i v H2 fun H3 => Q σ H3
theorem pg_sub {o i : Expr} {to ti : TE} {t : TSet} (ho : PE X o to) (hi : PE X i ti) (hs : PSet X t)
    (ha : ∀ v, assign (.Subscript o i pos) X.env v = (do
      let ov ← holding [v] (eval o X.env)
      let iv ← holding [v, ov] (eval i X.env)
      standAt pos
      holding [v, ov, iv] (setItem ov iv v)
      release [v, ov, iv] []) := by intro _; rfl) : PG X (.Subscript o i pos) (gSub to ti t) := by
  intro pins s σ H v u Q I r h
  rw [ha]
  refine wpAny_bind (wpAny_holding (thn (ho pins s σ H _ I h) fun ov s1 ⟨x, H1, I1, r1, q1⟩ => ?_))
  refine wpAny_bind (wpAny_holding (thn (hi pins s1 σ H1 _ I1 q1) fun iv s2 ⟨y, H2, I2, r2, q2⟩ => ?_))
  refine wpAny_bind (wpAny_standAt (wpAny_bind (wpAny_holding (thn (hs pins s2 σ H2 x y v ov iv u _ I2 r1 r2 r q2) fun _ s3 ⟨H3, I3, q3⟩ => ?_))))
  exact wpAny_release ⟨σ, H3, I3, q3⟩
noncomputable def tAsg (te : TE) (g : TG) : TS := fun D σ H => te σ H fun x H1 => g x σ H1 D.nx
theorem ps_asg {tg e : Expr} {te : TE} {g : TG} (he : PE X e te) (hg : PG X tg g) (hs : swapsWithSole [tg] e pos.line X.env = pure false := by rfl) (hw : swappedStores [tg] e X.env = pure none := by rfl)
    (h1 : (assignEach [tg] X.env).map (·.2) = [assign tg X.env] := by rfl) : PS X (.Assign [tg] e pos) (tAsg te g) := by
  intro pins s σ H D I h
  refine wpAny_Assign_stores (thn (he pins s σ H _ I h) fun v s1 ⟨x, H1, I1, r1, q1⟩ => ?_) hs hw
  rw [h1]
  exact thn (hg pins s1 σ H1 x v _ I1 r1 q1) fun _ s2 q => q
theorem ps_set {i : Nat} {x : Str} {e : Expr} {te : TE} {pos' : Pos} (hN : X.N.Nodup) (hi : X.N[i]? = some x) (hx : Loc X.env.scope x) (he : PE X e te) (hs : swapsWith e (some (.Name x pos')) pos.line X.env = pure false := by rfl) (hf : X.fn x = true ∨ X.env.scope.names.lookup x = some .local := by first | exact .inl rfl | exact .inr rfl | assumption) :
    PS X (.Assign [.Name x pos'] e pos) (tAsg te (gName i)) := by
  intro pins s σ H D I h
  refine wpAny_Assign_Name (thn (he pins s σ H _ I h) fun v s1 ⟨y, H1, I1, r1, q1⟩ => ?_) hs
  exact store_ok I1 hN hi hx r1 (fun s2 I2 => ⟨_, H1, I2, q1⟩) hf
end
noncomputable section
variable {X : Cx} {pos : Pos}
noncomputable def tWhile (c : TT) (tb : TS) : TS := fun D σ H => ∃ W : Nat → St → Hp → Prop, (∃ m, W m σ H) ∧ ∀ m σ H, W m σ H →
  c σ H fun b H1 => if b = true then ∃ N : St → Hp → Prop, (∀ σ' H', N σ' H' → ∃ m', m' < m ∧ W m' σ' H') ∧ tb { D with nx := N, ct := N, bk := D.nx } σ H1 else D.nx σ H1
theorem ps_while {c : Expr} {body : List Stmt} {tc : TT} {tb : TS} (hp : PassesOwn (model X.prog X.w) X.A X.env X.xe) (hc : PT X c tc) (hb : PSs X body tb) : PS X (.While c body [] pos) (tWhile tc tb) := by
  intro pins s σ H D I h
  obtain ⟨W, ⟨m0, w0⟩, turn⟩ := h
  refine wpAny_While (codeAny_whileLoop (fun n s' => ∃ σ' H', Inv X pins σ' H' s' ∧ W n σ' H') ?_ m0 ⟨σ, H, I, w0⟩)
  rintro n s1 ⟨σ1, H1, I1, w1⟩
  refine wpAny_passesOwn hp (thn (hc pins s1 σ1 H1 _ I1 (turn n σ1 H1 w1)) fun b s2 ⟨H2, I2, q2⟩ => ?_)
  cases b with
  | true =>
    obtain ⟨N, hN, q2⟩ := q2
    rw [if_pos rfl]
    refine wpAny_passesOwn hp (thn (hb pins s2 σ1 H2 _ I2 q2) fun f s3 q3 => ?_)
    cases f with
    | next =>
      obtain ⟨σ3, H3, I3, n3⟩ := q3
      obtain ⟨m', hm, w3⟩ := hN σ3 H3 n3
      exact ⟨m', hm, σ3, H3, I3, w3⟩
    | cont =>
      obtain ⟨σ3, H3, I3, n3⟩ := q3
      obtain ⟨m', hm, w3⟩ := hN σ3 H3 n3
      exact ⟨m', hm, σ3, H3, I3, w3⟩
    | brk => exact q3
    | ret v => exact q3
  | false =>
    rw [if_neg Bool.false_ne_true]
    exact wpAny_execs_nil ⟨σ1, H2, I2, q2⟩
end
structure It where
  go : Nat → Hp → Prop
  yld : Nat → Hp → V → Hp → Prop
  stop : Nat → Hp → Prop
noncomputable def FpOk (X : Cx) (pins : List (Addr × Obj)) (H : Hp) (b : Addr) : Prop :=
  H b = none ∧ b ≠ X.env.locals ∧ b ∉ X.fs ∧ (b ∈ X.ex ∨ X.s₀.heap.objs.size ≤ b) ∧ (∀ x c, X.env.cells.lookup x = some c → c ≠ b) ∧ ∀ p ∈ X.pn ++ pins, p.1 ≠ b
theorem Inv.fpOk {X : Cx} {pins : List (Addr × Obj)} {σ : St} {H H' : Hp} {s : Shared} {b : Addr} (I : Inv X pins σ H s) (hb : s.heap.objs.size ≤ b) (hn : H' b = none) : FpOk X pins H' b := by
  refine ⟨hn, Nat.ne_of_gt (Nat.lt_of_lt_of_le I.lt hb), I.nofs hb, .inr (Nat.le_trans I.sz hb), fun x c e z => ?_, fun p hp z => ?_⟩
  · obtain ⟨v, q⟩ := I.cell x c e
    exact absurd (Nat.lt_of_lt_of_le q.lt (by rw [z]; exact hb)) (Nat.lt_irrefl _)
  · exact absurd (Nat.lt_of_lt_of_le (Heap.lt_size (I.pin p hp).1) (by rw [z]; exact hb)) (Nat.lt_irrefl _)
structure Turn (P : Program) (w : World) (K : PySem.W.Frag) (tg : Expr) (J : It) (fp : List Addr) (it : Addr) (tn : Nat → Heap → Prop) : Prop where
  mem : it ∈ fp
  obj : ∀ i h, tn i h → ∀ b ∈ fp, ∃ o, h.get? b = some o ∧ ∀ v, o.data ≠ .cell v
  keep : ∀ i h h', tn i h → (∀ b ∈ fp, ∀ o, h.get? b = some o → h'.get? b = some o) → tn i h'
  item : ∀ (X : Cx), X.prog = P → X.w = w → X.K = K → X.calm = true → ∀ (i : Nat) (pins : List (Addr × Obj)) (s : Shared) (σ : St) (H : Hp) (E : Value → Shared → Prop), Inv X pins σ H s → (∀ b ∈ fp, FpOk X pins H b) → tn i s.heap → J.go i H →
    wpAny (model P w) X.A (pyNext (.ref it)) (fun r s1 => ∃ u, r = some u ∧
      wpAny (model P w) X.A (letOwnedTupleGo tg (.ref it) u) (fun _ s2 => ∃ x H', Inv X pins σ H' s2 ∧ RelV x u ∧ J.yld i H x H' ∧ tn (i + 1) s2.heap ∧ ∀ b ∈ fp, H' b = none) E s1) E s
  done : ∀ (X : Cx), X.prog = P → X.w = w → X.K = K → X.calm = true → ∀ (i : Nat) (pins : List (Addr × Obj)) (s : Shared) (σ : St) (H : Hp) (E : Value → Shared → Prop), Inv X pins σ H s → (∀ b ∈ fp, FpOk X pins H b) → tn i s.heap → J.stop i H →
    wpAny (model P w) X.A (pyNext (.ref it)) (fun r s1 => r = none ∧ Inv X pins σ H s1) E s
  self : ∀ (A : Around) (i : Nat) (s : Shared) (Q : Value → Shared → Prop) (E : Value → Shared → Prop), tn i s.heap → Q (.ref it) s → wpAny (model P w) A (pyIter (.ref it)) Q E s
noncomputable abbrev TI := St → Hp → (It → Hp → Prop) → Prop
noncomputable def PIE (X : Cx) (pins : List (Addr × Obj)) (σ : St) (tg : Expr) (R : It → Hp → Prop) (itv : Value) (s2 : Shared) : Prop :=
  ∃ (it : Addr) (fp : List Addr) (tn : Nat → Heap → Prop) (J : It) (H' : Hp), itv = .ref it ∧ Inv X pins σ H' s2 ∧ Turn X.prog X.w X.K tg J fp it tn ∧ tn 0 s2.heap ∧ (∀ b ∈ fp, FpOk X pins H' b) ∧ R J H'
noncomputable def PI (X : Cx) (tg iter : Expr) (wi : TI) : Prop :=
  ∀ (pins : List (Addr × Obj)) (s : Shared) (σ : St) (H : Hp) (R : It → Hp → Prop), Inv X pins σ H s → wi σ H R →
    wpAny (model X.prog X.w) X.A (eval iter X.env) (fun v s1 => wpAny (model X.prog X.w) X.A (pyIter v) (PIE X pins σ tg R) X.xe s1) X.xe s
theorem go_of {M : Model} {A : Around} {E : Value → Shared → Prop} {s : Shared} {tg : Expr} {it : Addr} {u : Value} {o : Obj} {n : String} {vs : Array Value} {Q : Unit → Shared → Prop} (ho : s.heap.get? it = some o) (hc : o.cls = .type n) (hd : o.data = .fields vs)
    (hn : ["enumerate", "zip", "dict_itemiterator", "dict_reverseitemiterator", "odict_iterator", "itertools.zip_longest", "itertools.pairwise"].contains n = false) (hQ : Q () s) : wpAny M A (letOwnedTupleGo tg (.ref it) u) Q E s := by
  unfold letOwnedTupleGo
  cases tg <;> first
    | exact wpAny_pure hQ
    | (cases u <;> first
        | exact wpAny_pure hQ
        | (refine wpAny_bind (wpAny_load ho ?_)
           rw [hc, hd]
           show wpAny M A (if (["enumerate", "zip", "dict_itemiterator", "dict_reverseitemiterator", "odict_iterator", "itertools.zip_longest", "itertools.pairwise"].contains n && vs[0]? == some (rawInt _)) = true then _ else _) Q E s
           rw [if_neg (by intro h; rw [hn, Bool.false_and] at h; cases h)]
           exact wpAny_pure hQ))
noncomputable def Itl (K : PySem.W.Frag) (a : Addr) : It :=
  ⟨fun i H => ∃ xs x, SqL K H a xs ∧ xs[i]? = some x, fun i H x H' => H' = H ∧ ∀ xs, SqL K H a xs → xs[i]? = some x, fun i H => ∃ xs, SqL K H a xs ∧ xs.length ≤ i⟩
noncomputable def Itt (K : PySem.W.Frag) (a : Addr) : It :=
  ⟨fun i H => ∃ xs x, SqT K H a xs ∧ xs[i]? = some x, fun i H x H' => H' = H ∧ ∀ xs, SqT K H a xs → xs[i]? = some x, fun i H => ∃ xs, SqT K H a xs ∧ xs.length ≤ i⟩
noncomputable def Itr (lo : Int) (n : Nat) : It := ⟨fun i _ => i < n, fun i H x H' => H' = H ∧ x = .int (lo + i), fun i _ => n ≤ i⟩
theorem turn_list {P : Program} {w : World} {K : PySem.W.Frag} {tg : Expr} (a it : Addr) : Turn P w K tg (Itl K a) [it] it (fun i h => h.IsListIter it a i) where
  mem := by simp
  obj := fun i h st b hb => by
    have e : b = it := by simpa using hb
    subst e
    obtain ⟨o, e, c, d⟩ := st
    exact ⟨o, e, fun v z => by rw [d] at z; cases z⟩
  keep := fun i h h' st k => st.at fun o e => k it (by simp) o e
  item := by
    intro X hP hw hK hc i pins s σ H E I hf st hg
    subst hP hw hK
    obtain ⟨xs, x, hq, hx⟩ := hg
    obtain ⟨its, rv, p, hz⟩ := I.list hq
    obtain ⟨u, hu, ru⟩ := rv.get hx
    obtain ⟨f0, f1, f2, f3, f4, f5⟩ := hf it (by simp)
    refine wpAny_pyNext_list_item st p.isList (x := u) (by simpa using hu) fun h' st' sb => ?_
    have I1 : Inv X pins σ H { s with heap := h' } := I.turned (t' := s.toks) (fun b o hb e => (sb.2 b hb).trans e) f0 f1 f3 f4 f5
    obtain ⟨o, e, c, d⟩ := id st'
    exact ⟨u, rfl, go_of (s := { s with heap := h' }) e c d (by decide) ⟨x, H, I1, ru, ⟨rfl, fun ys hy => by rw [I.list_inj hy hq]; exact hx⟩, st', fun b hb => (hf b hb).1⟩⟩
  done := by
    intro X hP hw hK hc i pins s σ H E I hf st hg
    subst hP hw hK
    obtain ⟨xs, hq, hx⟩ := hg
    obtain ⟨its, rv, p, hz⟩ := I.list hq
    obtain ⟨f0, f1, f2, f3, f4, f5⟩ := hf it (by simp)
    have hl := rv.length
    exact wpAny_pyNext_list_end (I.ok.hd hc) st p.isList (by simp; omega) fun h' eb => ⟨rfl, I.turned (t' := s.toks) (fun b o hb e => eb b o hb e) f0 f1 f3 f4 f5⟩
  self := fun _ _ _ _ _ st h => wpAny_pyIter_listiter st h
theorem turn_tuple {P : Program} {w : World} {K : PySem.W.Frag} {tg : Expr} (a it : Addr) : Turn P w K tg (Itt K a) [it] it (fun i h => h.IsTupleIter it a i) where
  mem := by simp
  obj := fun i h st b hb => by
    have e : b = it := by simpa using hb
    subst e
    obtain ⟨o, e, c, d⟩ := st
    exact ⟨o, e, fun v z => by rw [d] at z; cases z⟩
  keep := fun i h h' st k => st.at fun o e => k it (by simp) o e
  item := by
    intro X hP hw hK hc i pins s σ H E I hf st hg
    subst hP hw hK
    obtain ⟨xs, x, hq, hx⟩ := hg
    obtain ⟨its, rv, p, hz⟩ := I.tuple hq
    obtain ⟨u, hu, ru⟩ := rv.get hx
    obtain ⟨f0, f1, f2, f3, f4, f5⟩ := hf it (by simp)
    refine wpAny_pyNext_tuple_item st (show s.heap.IsTuple a its.toArray from p) (x := u) (by simpa using hu) fun h' st' sb => ?_
    have I1 : Inv X pins σ H { s with heap := h' } := I.turned (t' := s.toks) (fun b o hb e => (sb.2 b hb).trans e) f0 f1 f3 f4 f5
    obtain ⟨o, e, c, d⟩ := id st'
    exact ⟨u, rfl, go_of (s := { s with heap := h' }) e c d (by decide) ⟨x, H, I1, ru, ⟨rfl, fun ys hy => by rw [I.tuple_inj hy hq]; exact hx⟩, st', fun b hb => (hf b hb).1⟩⟩
  done := by
    intro X hP hw hK hc i pins s σ H E I hf st hg
    subst hP hw hK
    obtain ⟨xs, hq, hx⟩ := hg
    obtain ⟨its, rv, p, hz⟩ := I.tuple hq
    obtain ⟨f0, f1, f2, f3, f4, f5⟩ := hf it (by simp)
    have hl := rv.length
    exact wpAny_pyNext_tuple_end (I.ok.hd hc) st (show s.heap.IsTuple a its.toArray from p) (by simp; omega) fun h' eb => ⟨rfl, I.turned (t' := s.toks) (fun b o hb e => eb b o hb e) f0 f1 f3 f4 f5⟩
  self := fun _ _ _ _ _ st h => wpAny_pyIter_tupleiter st h
theorem turn_range {P : Program} {w : World} {K : PySem.W.Frag} {tg : Expr} (it : Addr) (lo : Int) (n : Nat) : Turn P w K tg (Itr lo n) [it] it (fun i h => IsRangeIter h it (lo + (i : Nat) * 1) ((n : Int) - (i : Nat)) 1) where
  mem := by simp
  obj := fun i h st b hb => by
    have e : b = it := by simpa using hb
    subst e
    exact ⟨_, st, fun v z => by
      have z' : Data.fields _ = Data.cell v := z
      cases z'⟩
  keep := fun i h h' st k => k it (by simp) _ st
  item := by
    intro X hP hw hK hc i pins s σ H E I hf st hg
    subst hP hw hK
    obtain ⟨f0, f1, f2, f3, f4, f5⟩ := hf it (by simp)
    have W := Walks.range (prog := X.prog) (w := X.w) (I.ok.hd hc) it lo 1 n
    refine W.item i s _ _ hg st fun v h' tk hv st' kk => ?_
    obtain ⟨t, rfl⟩ := hv
    have I1 : Inv X pins σ H { s with heap := h', toks := tk } := I.turned (fun b o hb e => kk b o (by simpa using hb) e) f0 f1 f3 f4 f5
    refine ⟨_, rfl, go_of (s := { s with heap := h', toks := tk }) (n := "range_iterator") st' rfl rfl (by decide) ⟨.int (lo + i), H, I1, ⟨t, ?_⟩, ⟨rfl, rfl⟩, st', fun b hb => (hf b hb).1⟩⟩
    rw [Int.mul_one]
  done := by
    intro X hP hw hK hc i pins s σ H E I hf st hg
    subst hP hw hK
    obtain ⟨f0, f1, f2, f3, f4, f5⟩ := hf it (by simp)
    exact wpAny_pyNext_range_end (I.ok.hd hc) st (by have : n ≤ i := hg; omega) fun h' eb => ⟨rfl, I.turned (t' := s.toks) (fun b o hb e => eb b o hb e) f0 f1 f3 f4 f5⟩
  self := fun _ _ _ _ _ st h => wpAny_pyIter_rangeiter st h
end L2
namespace L2
open PySem PySem.Spec PyProof.Rows
noncomputable section
variable {X : Cx} {tg : Expr}
theorem range_it {pins : List (Addr × Obj)} {σ : St} {H : Hp} {s : Shared} {R : It → Hp → Prop} {E : Value → Shared → Prop} {lo hi : Int} {t u v : Tok} {tk : Nat} (I : Inv X pins σ H s) (h1 : -(2 ^ 62) ≤ lo) (h2 : lo < 2 ^ 62) (h3 : -(2 ^ 62) ≤ hi) (h4 : hi < 2 ^ 62)
    (q : R (Itr lo (hi - lo).toNat) H) : wpAny (model X.prog X.w) X.A (pyIter (.ref s.heap.objs.size)) (PIE X pins σ tg R) E { s with heap := s.heap.push { cls := .type "range", data := .fields #[.int lo t, .int hi u, .int 1 v] }, toks := tk } := by
  refine wpAny_pyIter_range (IsRange.new ..) (small_one h1 h2 h3 h4) ?_
  have I1 : Inv X pins σ H { s with heap := s.heap.push { cls := .type "range", data := .fields #[.int lo t, .int hi u, .int 1 v] }, toks := tk } := I.kept fun b o e => Heap.get?_push_of_some _ e
  refine ⟨(s.heap.push { cls := .type "range", data := .fields #[.int lo t, .int hi u, .int 1 v] }).objs.size, [(s.heap.push { cls := .type "range", data := .fields #[.int lo t, .int hi u, .int 1 v] }).objs.size], _, _, H, rfl,
    I1.kept (t' := tk) fun b o e => Heap.get?_push_of_some _ e, turn_range _ lo (hi - lo).toNat, ?_, fun b hb => ?_, q⟩
  · have e1 : lo + ((0 : Nat) : Int) * 1 = lo := by simp
    have e2 : (((hi - lo).toNat : Nat) : Int) - ((0 : Nat) : Int) = Builtin.Range.rangeSize lo hi 1 := by rw [rangeSize_one]; split <;> omega
    show IsRangeIter _ _ (lo + ((0 : Nat) : Int) * 1) ((((hi - lo).toNat : Nat) : Int) - ((0 : Nat) : Int)) 1
    rw [e1, e2]
    exact Heap.get?_push_size _ rfl
  · have e : b = (s.heap.push { cls := .type "range", data := .fields #[.int lo t, .int hi u, .int 1 v] }).objs.size := by simpa using hb
    subst e
    exact I1.fpOk (Nat.le_refl _) (I1.hok.fresh (Nat.le_refl _))
noncomputable def iRng1 (ta : TA) : TI := fun σ H R => ta σ H fun vs H1 => ∃ j : Int, vs = [.int j] ∧ -(2 ^ 62) ≤ j ∧ j < 2 ^ 62 ∧ R (Itr 0 j.toNat) H1
theorem pi_range1 {a : Expr} {ta : TA} {p pos : Pos} (hg : Gl X "range") (hm : X.mg "range" = none) (ha : PA X [a] ta) (hs : starEach [a] X.env = [(false, eval a X.env)] := by rfl) : PI X tg (.Call (.Name "range" p) [a] [] pos) (iRng1 ta) := by
  intro pins s σ H R I h
  refine Call_ (ld_blt I hg hm boot_range (PyProof.Rows.callWith_type1 (thn (ha pos pins s σ H _ I h) fun us s1 ⟨vs, H1, I1, r1, q1⟩ => ?_) hs rfl))
  obtain ⟨j, e, q1, q2, q⟩ := q1
  subst e
  cases r1 with
  | cons r rr =>
    cases rr
    obtain ⟨t, rfl⟩ := r
    exact call_range_1 (range_it I1 (by omega) (by omega) q1 q2 (by simpa using q))
noncomputable def tFor (wi : TI) (g : TG) (tb : TS) : TS := fun D σ H => wi σ H fun J H1 => ∃ W : Nat → Nat → St → Hp → Prop, (∃ m, W 0 m σ H1) ∧ ∀ i m σ H, W i m σ H →
  (J.stop i H ∧ D.nx σ H) ∨ (J.go i H ∧ ∃ N : St → Hp → Prop, (∀ σ' H', N σ' H' → ∃ m', m' < m ∧ W (i + 1) m' σ' H') ∧ ∀ x H', J.yld i H x H' → g x σ H' fun σ2 H2 => tb { D with nx := N, ct := N, bk := D.nx } σ2 H2)
noncomputable def pinsAt (fp : List Addr) (h : Heap) : List (Addr × Obj) := fp.filterMap fun b => (h.get? b).map fun o => (b, o)
theorem mem_pinsAt {fp : List Addr} {h : Heap} {b : Addr} {o : Obj} (hb : b ∈ fp) (e : h.get? b = some o) : (b, o) ∈ pinsAt fp h := List.mem_filterMap.mpr ⟨b, hb, by rw [e]; rfl⟩
theorem of_pinsAt {fp : List Addr} {h : Heap} {p : Addr × Obj} (hp : p ∈ pinsAt fp h) : p.1 ∈ fp ∧ h.get? p.1 = some p.2 := by
  obtain ⟨b, hb, e⟩ := List.mem_filterMap.mp hp
  cases q : h.get? b with
  | none => rw [q] at e; cases e
  | some o =>
    rw [q] at e
    have e' : (b, o) = p := Option.some.inj e
    subst e'
    exact ⟨hb, q⟩
theorem Inv.pinned {pins : List (Addr × Obj)} {σ : St} {H : Hp} {s : Shared} {fp : List Addr} (I : Inv X pins σ H s) (hf : ∀ b ∈ fp, FpOk X pins H b) (ho : ∀ b ∈ fp, ∃ o, s.heap.get? b = some o ∧ ∀ v, o.data ≠ .cell v) : Inv X (pins ++ pinsAt fp s.heap) σ H s :=
  I.pins_of fun p hp => (List.mem_append.mp hp).elim (fun z => I.pin p (List.mem_append_right _ z)) fun z => by
    obtain ⟨hb, e⟩ := of_pinsAt z
    obtain ⟨f0, f1, f2, _⟩ := hf p.1 hb
    obtain ⟨o, e', d⟩ := ho p.1 hb
    rw [e] at e'; cases e'
    exact ⟨e, f0, f1, f2, d⟩
theorem Inv.unpinned {pins pl : List (Addr × Obj)} {σ : St} {H : Hp} {s : Shared} (I : Inv X (pins ++ pl) σ H s) : Inv X pins σ H s := I.pins_of fun p hp => I.pin p (List.mem_append_right _ (List.mem_append_left _ hp))
theorem ps_for {iter : Expr} {body : List Stmt} {wi : TI} {g : TG} {tb : TS} {pos : Pos} (hp : PassesOwn (model X.prog X.w) X.A X.env X.xe) (hc : X.calm = true) (hi : PI X tg iter wi) (hg : PG X tg g) (hb : PSs X body tb)
    (hs : ∀ x, foldedSetIterable iter X.env x = pure x := by intro _; rfl) : PS X (.For tg iter body [] pos) (tFor wi g tb) := by
  intro pins s σ H D I h
  refine wpAny_For (thn (hi pins s σ H _ I h) fun v s1 h1 => thn h1 fun itv s2 h2 => ?_) hs
  obtain ⟨it, fp, tn, J, H2, e, I2, T, st2, f2, W, ⟨m0, w0⟩, turn⟩ := h2
  subst e
  have stat : ∀ {H' : Hp}, (∀ b ∈ fp, H' b = none) → ∀ b ∈ fp, FpOk X pins H' b := fun hn b hb => ⟨hn b hb, (f2 b hb).2⟩
  refine codeAny_forLoop_any (fun n s' => ∃ i σ' H', Inv X pins σ' H' s' ∧ tn i s'.heap ∧ (∀ b ∈ fp, H' b = none) ∧ W i n σ' H') ?_ m0 ⟨0, σ, H2, I2, st2, fun b hb => (f2 b hb).1, w0⟩
  rintro n s3 ⟨i, σ3, H3, I3, st3, fr3, w3⟩
  rcases turn i n σ3 H3 w3 with ⟨stop, qn⟩ | ⟨go, N, hN, step⟩
  · refine wpAny_passesOwn hp (thn (T.done X rfl rfl rfl hc i pins s3 σ3 H3 X.xe I3 (stat fr3) st3 stop) fun r s4 ⟨hr, I4⟩ => ?_)
    subst hr
    exact wpAny_execs_nil ⟨σ3, H3, I4, qn⟩
  · refine wpAny_passesOwn hp (thn (T.item X rfl rfl rfl hc i pins s3 σ3 H3 X.xe I3 (stat fr3) st3 go) fun r s4 ⟨u, hr, h4⟩ => ?_)
    subst hr
    refine wpAny_passesOwn hp (thn h4 fun _ s5 ⟨x, H5, I5, r5, y5, st5, fr5⟩ => ?_)
    have I5' := I5.pinned (stat fr5) (T.obj _ _ st5)
    refine wpAny_passesOwn hp (thn (hg _ s5 σ3 H5 x u _ I5' r5 (step x H5 y5)) fun _ s6 ⟨σ6, H6, I6, q6⟩ => ?_)
    refine wpAny_passesOwn hp (thn (hb _ s6 σ6 H6 _ I6 q6) fun f s7 q7 => ?_)
    have again : ∀ {σ7 : St} {H7 : Hp}, Inv X (pins ++ pinsAt fp s5.heap) σ7 H7 s7 → N σ7 H7 → ∃ m, m < n ∧ ∃ i σ' H', Inv X pins σ' H' s7 ∧ tn i s7.heap ∧ (∀ b ∈ fp, H' b = none) ∧ W i m σ' H' := fun {σ7 H7} I7 n7 => by
      obtain ⟨m', hm, w7⟩ := hN σ7 H7 n7
      refine ⟨m', hm, i + 1, σ7, H7, I7.unpinned, T.keep _ _ _ st5 fun b hb o e => (I7.pin (b, o) (List.mem_append_right _ (List.mem_append_right _ (mem_pinsAt hb e)))).1, fun b hb => ?_, w7⟩
      obtain ⟨o, e, d⟩ := T.obj _ _ st5 b hb
      exact (I7.pin (b, o) (List.mem_append_right _ (List.mem_append_right _ (mem_pinsAt hb e)))).2.1
    cases f with
    | next => obtain ⟨σ7, H7, I7, n7⟩ := q7; exact again I7 n7
    | cont => obtain ⟨σ7, H7, I7, n7⟩ := q7; exact again I7 n7
    | brk => obtain ⟨σ7, H7, I7, q7⟩ := q7; exact ⟨σ7, H7, I7.unpinned, q7⟩
    | ret v => obtain ⟨x7, σ7, H7, I7, r7, q7⟩ := q7; exact ⟨x7, σ7, H7, I7.unpinned, r7, q7⟩
end
end L2
namespace L2
open PySem PySem.Spec PyProof.Rows
noncomputable abbrev R2 := V → V → Hp → VK → Prop
noncomputable def OpR (X : Cx) (f : Value → Value → Sem Value) (r : R2) : Prop :=
  ∀ (pins : List (Addr × Obj)) (s : Shared) (σ : St) (H : Hp) (x y : V) (v u : Value) (Q : VK), Inv X pins σ H s → RelV x v → RelV y u → r x y H Q →
    wpAny (model X.prog X.w) X.A (f v u) (EP X pins σ Q) X.xe s
noncomputable def UnR (X : Cx) (f : Value → Sem Value) (r : V → Hp → VK → Prop) : Prop :=
  ∀ (pins : List (Addr × Obj)) (s : Shared) (σ : St) (H : Hp) (x : V) (v : Value) (Q : VK), Inv X pins σ H s → RelV x v → r x H Q →
    wpAny (model X.prog X.w) X.A (f v) (EP X pins σ Q) X.xe s
noncomputable def CallR (X : Cx) (f : Value) (r : List V → Hp → VK → Prop) : Prop :=
  ∀ (pins : List (Addr × Obj)) (s : Shared) (σ : St) (H : Hp) (xs : List V) (us : List Value) (Q : VK), Inv X pins σ H s → Vals xs us → r xs H Q →
    wpAny (model X.prog X.w) X.A (call f us) (EP X pins σ Q) X.xe s
noncomputable def tOp (r : R2) (ta tb : TE) : TE := fun σ H Q => ta σ H fun x H1 => tb σ H1 fun y H2 => r x y H2 Q
noncomputable def tUn (r : V → Hp → VK → Prop) (ta : TE) : TE := fun σ H Q => ta σ H fun x H1 => r x H1 Q
noncomputable def rI (C : Int → Int → Prop) (g : Int → Int → V) : R2 := fun x y H Q => ∃ i j, x = .int i ∧ y = .int j ∧ C i j ∧ Q (g i j) H
noncomputable def rI0 (g : Int → Int → V) : R2 := fun x y H Q => ∃ i j, x = .int i ∧ y = .int j ∧ Q (g i j) H
noncomputable def rU (g : Int → V) : V → Hp → VK → Prop := fun x H Q => ∃ i, x = .int i ∧ Q (g i) H
noncomputable section
variable {X : Cx} {a b c : Expr} {ta tb tc : TE} {pos : Pos}
theorem binT (ha : PE X a ta) (hb : PE X b tb) {pins : List (Addr × Obj)} {s : Shared} {σ : St} {H : Hp} {R : V → V → Hp → Prop} (I : Inv X pins σ H s)
    (h : ta σ H fun x H1 => tb σ H1 fun y H2 => R x y H2) {Q : Value → Shared → Prop} {f : Value → Value → Sem Value}
    (hf : ∀ v u s2 x y H2, Inv X pins σ H2 s2 → RelV x v → RelV y u → R x y H2 → wpAny (model X.prog X.w) X.A (f v u) Q X.xe s2) :
    wpAny (model X.prog X.w) X.A (eval a X.env) (fun v s₁ => wpAny (model X.prog X.w) X.A (eval b X.env) (fun u s₂ => wpAny (model X.prog X.w) X.A (f v u) Q X.xe s₂) X.xe s₁) X.xe s := by
  refine thn (ha pins s σ H _ I h) fun v s1 ⟨x, H1, I1, r1, q1⟩ => ?_
  refine thn (hb pins s1 σ H1 _ I1 q1) fun u s2 ⟨y, H2, I2, r2, q2⟩ => ?_
  exact hf v u s2 x y H2 I2 r1 r2 q2
theorem pe_op {op : Operator} {r : R2} (ho : OpR X (binaryOp op) r) (ha : PE X a ta) (hb : PE X b tb) : PE X (.BinOp a op b pos) (tOp r ta tb) := by
  intro pins s σ H Q I h
  exact wpAny_BinOp (binT ha hb I h fun v u s2 x y H2 I2 rx ry q => ho pins s2 σ H2 x y v u Q I2 rx ry q)
theorem pe_un {op : UnaryOp} {r : V → Hp → VK → Prop} (ho : UnR X (unaryOp op) r) (ha : PE X a ta) : PE X (.UnaryOp op a pos) (tUn r ta) := by
  intro pins s σ H Q I h
  exact UnaryOp_ (thn (ha pins s σ H _ I h) fun v s1 ⟨x, H1, I1, r1, q1⟩ => ho pins s1 σ H1 x v Q I1 r1 q1)
theorem opI {f : Value → Value → Sem Value} {C : Int → Int → Prop} {g : Int → Int → Int}
    (rule : ∀ (i j : Int) (t u : Tok) (s : Shared) (Q : Value → Shared → Prop) (E : Value → Shared → Prop), C i j → Q (.int (g i j) s.toks) { s with toks := s.toks + 1 } → wpAny (model X.prog X.w) X.A (f (.int i t) (.int j u)) Q E s) :
    OpR X f (rI C fun i j => .int (g i j)) := by
  intro pins s σ H x y v u Q I rx ry h
  obtain ⟨i, j, rfl, rfl, hc, q⟩ := h
  obtain ⟨t, rfl⟩ := rx
  obtain ⟨t', rfl⟩ := ry
  exact rule i j t t' s _ _ hc ⟨.int (g i j), H, I.tok _, ⟨_, rfl⟩, q⟩
theorem opI0 {f : Value → Value → Sem Value} {g : Int → Int → Int}
    (rule : ∀ (i j : Int) (t u : Tok) (s : Shared) (Q : Value → Shared → Prop) (E : Value → Shared → Prop), Q (.int (g i j) s.toks) { s with toks := s.toks + 1 } → wpAny (model X.prog X.w) X.A (f (.int i t) (.int j u)) Q E s) :
    OpR X f (rI0 fun i j => .int (g i j)) := by
  intro pins s σ H x y v u Q I rx ry h
  obtain ⟨i, j, rfl, rfl, q⟩ := h
  obtain ⟨t, rfl⟩ := rx
  obtain ⟨t', rfl⟩ := ry
  exact rule i j t t' s _ _ ⟨.int (g i j), H, I.tok _, ⟨_, rfl⟩, q⟩
theorem opB0 {f : Value → Value → Sem Value} {g : Int → Int → Bool}
    (rule : ∀ (i j : Int) (t u : Tok) (s : Shared) (Q : Value → Shared → Prop) (E : Value → Shared → Prop), Q (.bool (g i j)) s → wpAny (model X.prog X.w) X.A (f (.int i t) (.int j u)) Q E s) :
    OpR X f (rI0 fun i j => .bl (g i j)) := by
  intro pins s σ H x y v u Q I rx ry h
  obtain ⟨i, j, rfl, rfl, q⟩ := h
  obtain ⟨t, rfl⟩ := rx
  obtain ⟨t', rfl⟩ := ry
  exact rule i j t t' s _ _ ⟨.bl (g i j), H, I, rfl, q⟩
noncomputable def CPow (i j : Int) : Prop := 0 ≤ j ∧ j ≤ 1000000 ∧ i.natAbs < 2 ^ 64
noncomputable def CMul (i j : Int) : Prop := (-(2 ^ 64) < i ∧ i < 2 ^ 64) ∨ (-(2 ^ 64) < j ∧ j < 2 ^ 64)
theorem CMul.ok {i j : Int} (h : CMul i j) : IntMulOk i j := by
  rcases h with ⟨h1, h2⟩ | ⟨h1, h2⟩
  · exact .of_left (intBits_le_64 h1 h2)
  · exact .of_right (intBits_le_64 h1 h2)
theorem op_add : OpR X (binaryOp .Add) (rI0 fun i j => .int (i + j)) := opI0 fun _ _ _ _ _ _ _ q => add_int q
theorem op_sub : OpR X (binaryOp .Sub) (rI0 fun i j => .int (i - j)) := opI0 fun _ _ _ _ _ _ _ q => sub_int q
theorem op_mul : OpR X (binaryOp .Mult) (rI CMul fun i j => .int (i * j)) := opI fun _ _ _ _ _ _ _ hc q => mul_int q hc.ok
theorem op_mod : OpR X (binaryOp .Mod) (rI (fun _ j => 0 < j) fun i j => .int (i % j)) := opI fun i j _ _ _ _ _ hc q => by
  have h1 : (0 : Int) < j := hc
  exact mod_int' (by omega) (by rw [Int.fmod_eq_emod_of_nonneg i (by omega)]; exact q)
theorem op_pow : OpR X (binaryOp .Pow) (rI CPow fun i j => .int (i ^ j.toNat)) := opI fun _ _ _ _ _ _ _ hc q => pow_int_small hc.1 hc.2.1 hc.2.2 q
theorem unI {f : Value → Sem Value} {g : Int → Int}
    (rule : ∀ (i : Int) (t : Tok) (s : Shared) (Q : Value → Shared → Prop) (E : Value → Shared → Prop), Q (.int (g i) s.toks) { s with toks := s.toks + 1 } → wpAny (model X.prog X.w) X.A (f (.int i t)) Q E s) :
    UnR X f (rU fun i => .int (g i)) := by
  intro pins s σ H x v Q I rx h
  obtain ⟨i, rfl, q⟩ := h
  obtain ⟨t, rfl⟩ := rx
  exact rule i t s _ _ ⟨.int (g i), H, I.tok _, ⟨_, rfl⟩, q⟩
theorem un_neg : UnR X (unaryOp .USub) (rU fun i => .int (-i)) := unI fun _ _ _ _ _ q => neg_int q
end
noncomputable section
variable {X : Cx} {a b c : Expr} {ta tb tc : TE} {pos : Pos}
theorem op_lt : OpR X (compareOp .Lt) (rI0 fun i j => .bl (decide (i < j))) := opB0 fun _ _ _ _ _ _ _ q => lt_int q
theorem op_gt : OpR X (compareOp .Gt) (rI0 fun i j => .bl (decide (j < i))) := opB0 fun _ _ _ _ _ _ _ q => gt_int q
theorem OpR.or {f : Value → Value → Sem Value} {r r' : R2} (h : OpR X f r) (h' : OpR X f r') : OpR X f (fun x y H Q => r x y H Q ∨ r' x y H Q) := by
  intro pins s σ H x y v u Q I rx ry q
  rcases q with q | q
  · exact h pins s σ H x y v u Q I rx ry q
  · exact h' pins s σ H x y v u Q I rx ry q
theorem nomark (b : Expr) {op : CmpOp} (h : op ≠ .In := by decide) (h2 : op ≠ .NotIn := by decide) : behindInMarks op b = false := by
  have e1 : (op == CmpOp.In) = false := by cases op <;> first | rfl | exact absurd rfl h
  have e2 : (op == CmpOp.NotIn) = false := by cases op <;> first | rfl | exact absurd rfl h2
  cases b <;> simp [behindInMarks, e1, e2]
theorem pe_cmpR {op : CmpOp} {r : R2} (ho : OpR X (compareOp op) r) (ha : PE X a ta) (hb : PE X b tb) (hm : behindInMarks op b = false) : PE X (.Compare a [op] [b] pos) (tOp r ta tb) := by
  intro pins s σ H Q I h
  exact wpAny_Compare1 (binT ha hb I h fun v u s2 x y H2 I2 rx ry q => ho pins s2 σ H2 x y v u Q I2 rx ry q) hm
noncomputable def tTest (t : TE) : TT := fun σ H Q => t σ H fun x H' => ∃ k, x = .bl k ∧ Q k H'
theorem pt_cmpR {op : CmpOp} {r : R2} (ho : OpR X (compareOp op) r) (ha : PE X a ta) (hb : PE X b tb) (hm : behindInMarks op b = false) : PT X (.Compare a [op] [b] pos) (tTest (tOp r ta tb)) := by
  intro pins s σ H Q I h
  refine wpAny_isTrue_Compare1 (thn (ha pins s σ H _ I h) fun v s1 ⟨x, H1, I1, r1, q1⟩ => thn (hb pins s1 σ H1 _ I1 q1) fun u s2 ⟨y, H2, I2, r2, q2⟩ =>
    thn (ho pins s2 σ H2 x y v u _ I2 r1 r2 q2) fun c s3 ⟨z, H3, I3, r3, k, e, q3⟩ => ?_) hm
  subst e
  cases r3
  exact wpAny_truthy_bool ⟨H3, I3, q3⟩
theorem line63 : (sizeLine : Nat) < 2 ^ 63 := by rw [sizeLine_eq]; decide
theorem op_add_str : OpR X (binaryOp .Add) (fun x y H Q => ∃ i j, x = .str i ∧ y = .str j ∧ i.length + j.length ≤ sizeLine ∧ Q (.str (i ++ j)) H) := by
  intro pins s σ H x y v u Q I rx ry h
  obtain ⟨i, j, rfl, rfl, hz, q⟩ := h
  obtain ⟨t, rfl⟩ := rx
  obtain ⟨t', rfl⟩ := ry
  exact add_str (fun t' tk => ⟨.str (i ++ j), H, I.tok _, ⟨_, rfl⟩, q⟩) hz
theorem vals1 {x : V} {us : List Value} (r : Vals [x] us) : ∃ u, us = [u] ∧ RelV x u := by
  cases r with
  | cons r1 r2 => cases r2; exact ⟨_, rfl, r1⟩
end
end L2
namespace L2
open PySem PySem.Spec PyProof.Rows
structure ObjM (h : Heap) (x dx C : Addr) (mA : Str → Option Value) : Prop where
  obj : h.get? x = some (PySem.W.instObj C dx)
  ns : h.Ns1 dx mA
  ne : dx ≠ x
theorem lookIn_ns {h : Heap} {dx : Addr} {mA : Str → Option Value} (n : h.Ns1 dx mA) : ∃ od, h.get? dx = some od ∧ ∀ name, PySem.W.lookIn name od = some (mA name) := by
  obtain ⟨o, es, ep, ho, hd, hk, _, hm⟩ := n
  refine ⟨o, ho, fun name => ?_⟩
  have e := hm name
  unfold nsFind findBy at e
  rw [← Array.find?_toList] at e
  unfold PySem.W.lookIn
  rw [hd]
  dsimp only
  split
  · rename_i y q
    rw [q] at e
    exact congrArg some e
  · rename_i q
    rw [q] at e
    have a : es.toList.any (·.refKey) = false := by
      rw [List.any_eq_false]
      intro y hy
      obtain ⟨z, t, hkey⟩ := hk y (Array.mem_toList_iff.mp hy)
      simp [DictEntry.refKey, hkey]
    have a' : ¬ es.toList.any (·.refKey) = true := by rw [a]; exact Bool.false_ne_true
    rw [if_neg a']
    exact congrArg some e
theorem ObjM.look {h : Heap} {x dx C : Addr} {mA : Str → Option Value} (I : ObjM h x dx C mA) : ∃ od, PySem.W.InstAt h x (PySem.W.instObj C dx) C (some od) ∧ ∀ name, PySem.W.lookIn name od = some (mA name) :=
  let ⟨od, ho, hl⟩ := lookIn_ns I.ns
  ⟨od, ⟨I.obj, rfl, rfl, ho⟩, hl⟩
noncomputable section
variable {prog : Program} {w : World} {A : Around} {E : Value → Shared → Prop} {s : Shared} {K : PySem.W.Frag} {x dx C f : Addr} {mA : Str → Option Value} {name : Str} {v : Value}
end
theorem RelO.some_of {v : V} {o : Option Value} (r : RelO (some v) o) : ∃ u, o = some u ∧ RelV v u := by
  cases o with
  | none => exact (show False from r).elim
  | some u => exact ⟨u, rfl, r⟩
theorem RelO.none_of {o : Option Value} (r : RelO none o) : o = none := by
  cases o with
  | none => rfl
  | some u => exact (show False from r).elim
noncomputable section
variable {P : Program} {w : World} {H H' : Hp} {h h' : Heap} {a C dx : Addr} {fs fs' : List (Str × V)}
theorem ins_get (hok : HOk P w H h) (e : H a = some (.ins C dx fs)) : ∃ mA, ObjM h a dx C mA ∧ (∀ f, RelO (fs.lookup f) (mA f)) ∧ PySem.Within mA (fs.map (·.1)) ∧ fs.length ≤ 1000 ∧ H dx = some (.own a) := by
  obtain ⟨d, z, ne, ob, mA, n, r, q⟩ := (show ObjOk P w H h a (.ins C dx fs) from hok a _ e)
  exact ⟨mA, ⟨ob, n, ne⟩, r, q, z, d⟩
end
structure Cls (K : PySem.W.Frag) (C : Addr) : Prop where
  pg : PySem.W.plainGet K C Str.empty = true
  hd : PySem.W.hasDictIn K C = true
  po : PySem.W.plainOver K C = true
  sa : PySem.W.findIn K (.ref C) "__setattr__" = some (some (.builtin "object.__setattr__"))
theorem Cls.get {K : PySem.W.Frag} {C : Addr} (c : Cls K C) (f : Str) : PySem.W.plainGet K C f = true := c.pg
structure Con (K : PySem.W.Frag) (C : Addr) (f : Str) (v : V) (u : Value) : Prop where
  at_ : PySem.W.findIn K (.ref C) f = some (some u)
  rel : RelV v u
  get : PySem.W.specialIn K u "__get__" = some none
  cp : PySem.W.copiedNames.contains f = false
structure Meth (K : PySem.W.Frag) (C : Addr) (m : Str) (f : Addr) : Prop where
  at_ : PySem.W.findIn K (.ref C) m = some (some (.ref f))
  fn : PySem.W.isFn K (.ref f) = true
  kp : PySem.W.keepIn K (.ref f) = true
noncomputable section
variable {X : Cx} {pins : List (Addr × Obj)} {σ : St} {H : Hp} {s : Shared} {a C dx : Addr} {fs : List (Str × V)} {f : Str} {v : V} {A : Around} {E : Value → Shared → Prop}
end
noncomputable section
variable {X : Cx} {o e value : Expr} {f : Str} {pos pos' tpos : Pos} {ta tv : TE}
end
noncomputable section
variable {X : Cx} {pins : List (Addr × Obj)} {σ : St} {H : Hp} {s : Shared} {A : Around} {E : Value → Shared → Prop} {Q : Value → Shared → Prop} {c : Value} {b : Bool}
inductive TyOf (K : PySem.W.Frag) (H : Hp) : V → Value → Prop where
  | non : TyOf K H .non (.type "NoneType")
  | bl (x : Bool) : TyOf K H (.bl x) (.type "bool")
  | int (i : Int) : TyOf K H (.int i) (.type "int")
  | str (x : Str) : TyOf K H (.str x) (.type "str")
  | flt (x : UInt64) : TyOf K H (.flt x) (.type "float")
  | lst {a : Addr} {xs : List V} (e : H a = some (.lst xs)) : TyOf K H (.ref a) (.type "list")
  | frz {a : Addr} {o : Obj} {xs : List V} (e : H a = some (.frz o (.lst xs))) : TyOf K H (.ref a) (.type "list")
  | tup {a : Addr} {xs : List V} (e : H a = some (.tup xs)) : TyOf K H (.ref a) (.type "tuple")
  | dK {a : Addr} {kvs : List (Key × V)} (e : H a = some (.dK kvs)) : TyOf K H (.ref a) (.type "dict")
  | dT {a : Addr} {kvs : List (List Key × V)} (e : H a = some (.dT kvs)) : TyOf K H (.ref a) (.type "dict")
  | ins {a C dx : Addr} {fs : List (Str × V)} (e : H a = some (.ins C dx fs)) (cl : Cls K C) (ha : PySem.W.findIn K (.ref C) "__class__" = some (some (.builtin "object.__class__")))
      (hn : PySem.W.specialIn K (.builtin "object.__class__") "__get__" = some (some (.builtin "getset_descriptor.__get__"))) (htk : PySem.W.takesIn K (.builtin "object.__class__") = some true)
      (hm : PySem.W.mroIn K C (.type "object") = some true) : TyOf K H (.ref a) (.ref C)
theorem isinst_ok {x : V} {u t : Value} (I : Inv X pins σ H s) (rx : RelV x u) (ty : TyOf X.K H x t) (e : PySem.W.kitOne X.K t c = some b) (h : ∀ tk, Q (.bool b) { s with toks := tk }) :
    wpAny (model X.prog X.w) A (call (.builtin "isinstance") [u, c]) Q E s := by
  cases ty with
  | non => cases (show u = Value.none from rx); exact PySem.W.kia_one PySem.W.kitx_none I.kIn True.intro e (fun z => nomatch z) h
  | bl y => cases (show u = Value.bool y from rx); exact PySem.W.kia_one PySem.W.kitx_bool I.kIn True.intro e (fun z => nomatch z) h
  | int i => obtain ⟨t, q⟩ := (show ∃ t, u = Value.int i t from rx); cases q; exact PySem.W.kia_one PySem.W.kitx_int I.kIn True.intro e (fun z => nomatch z) h
  | str y => obtain ⟨t, q⟩ := (show ∃ t, u = Value.str y t from rx); cases q; exact PySem.W.kia_one PySem.W.kitx_str I.kIn True.intro e (fun z => nomatch z) h
  | flt y => obtain ⟨t, q⟩ := (show ∃ t, u = Value.float y t from rx); cases q; exact PySem.W.kia_one PySem.W.kitx_float I.kIn True.intro e (fun z => nomatch z) h
  | @lst a xs ea =>
    cases (show u = Value.ref a from rx)
    obtain ⟨_, _, n, _, h1⟩ := (show ObjOk X.prog X.w H s.heap a (.lst xs) from I.hok a _ ea)
    exact PySem.W.kia_one PySem.W.kitx_list I.kIn ⟨_, h1, rfl⟩ e (fun z => nomatch z) h
  | @frz a ob xs ea =>
    cases (show u = Value.ref a from rx)
    obtain ⟨_, _, _, n, _, h1⟩ := (show ObjOk X.prog X.w H s.heap a (.frz ob (.lst xs)) from I.hok a _ ea)
    exact PySem.W.kia_one PySem.W.kitx_list I.kIn ⟨_, h1, rfl⟩ e (fun z => nomatch z) h
  | @tup a xs ea =>
    cases (show u = Value.ref a from rx)
    obtain ⟨_, _, _, p⟩ := (show ObjOk X.prog X.w H s.heap a (.tup xs) from I.hok a _ ea)
    obtain ⟨o, h1, h2, _⟩ := p
    exact PySem.W.kia_one PySem.W.kitx_tuple I.kIn ⟨o, h1, h2⟩ e (fun z => nomatch z) h
  | @dK a kvs ea =>
    cases (show u = Value.ref a from rx)
    obtain ⟨_, _, vs, _, p⟩ := (show ObjOk X.prog X.w H s.heap a (.dK kvs) from I.hok a _ ea)
    obtain ⟨o, es, ep, h1, h2, _⟩ := p
    exact PySem.W.kia_one PySem.W.kitx_dict I.kIn ⟨o, h1, h2.1⟩ e (fun z => nomatch z) h
  | @dT a kvs ea =>
    cases (show u = Value.ref a from rx)
    obtain ⟨_, _, xs, _, o, es, ep, h1, h2, _⟩ := (show ObjOk X.prog X.w H s.heap a (.dT kvs) from I.hok a _ ea)
    exact PySem.W.kia_one PySem.W.kitx_dict I.kIn ⟨o, h1, h2.1⟩ e (fun z => nomatch z) h
  | @ins a C dx fs ea cl ha hn htk hm =>
    cases (show u = Value.ref a from rx)
    obtain ⟨mA, O, _⟩ := ins_get I.hok ea
    obtain ⟨od, J, _⟩ := O.look
    exact PySem.W.kia_one (PySem.W.kitx_own (cl.get _) cl.hd ha hn htk hm) I.kIn J e (fun z => nomatch z) h
end
end L2
namespace L2
open PySem PySem.Spec PyProof.Rows
structure Room (k : Nat) (A : Around) : Prop where
  hd : A.handled = none
  dp : A.depth + 3 * k + 5 < recursionLimit
  un : A.units + 16 * k + 200 < cLine
theorem Room.mono {j k : Nat} {A : Around} (r : Room k A) (h : j ≤ k) : Room j A := ⟨r.hd, by have := r.dp; omega, by have := r.un; omega⟩
theorem Room.deeper {k : Nat} {A : Around} (r : Room (k + 1) A) (env : Env) : Room k (A.deeper env) :=
  ⟨r.hd, by have := r.dp; show A.depth + 1 + 3 * k + 5 < _; omega, by have := r.un; show A.units + 3 + 16 * k + 200 < _; omega⟩
theorem Room.depth {k : Nat} {A : Around} (r : Room k A) : A.depth < recursionLimit := by have := r.dp; omega
theorem Room.units {k : Nat} {A : Around} (r : Room k A) : A.units + 64 < cLine := by have := r.un; omega
noncomputable def tNil : TA := fun _ H Q => Q [] H
noncomputable def tCons (ta : TE) (tr : TA) : TA := fun σ H Q => ta σ H fun x H1 => tr σ H1 fun xs H2 => Q (x :: xs) H2
noncomputable section
variable {X : Cx} {e : Expr} {es : List Expr} {te : TE} {t : TA} {pos : Pos}
theorem pa_nil : PA X [] tNil := fun _ _ _ _ H Q I h => Calls.spliced_nil ⟨[], H, I, .nil, h⟩
theorem pa_cons (ha : PE X e te) (hr : PA X es t) (hs : starEach (e :: es) X.env = (false, eval e X.env) :: starEach es X.env := by rfl) : PA X (e :: es) (tCons te t) := by
  intro pos pins s σ H Q I h
  rw [hs]
  show wpAny _ _ (spliced ((false, eval e X.env) :: backTo pos (starEach es X.env))) _ _ s
  refine Calls.spliced_cons (thn (ha pins s σ H _ I h) fun u s1 ⟨x, H1, I1, r1, q1⟩ => ?_)
  exact thn (hr pos pins s1 σ H1 _ I1 q1) fun us s2 ⟨xs, H2, I2, r2, q2⟩ => ⟨x :: xs, H2, I2, .cons r1 r2, q2⟩
noncomputable def tTup (t : TA) : TE := fun σ H Q => t σ H fun xs H1 => xs.length ≤ sizeLine ∧ ∀ p, H1 p = none → Q (.ref p) (upd H1 p (.tup xs))
noncomputable def tLst (t : TA) : TE := fun σ H Q => t σ H fun xs H1 => xs.length ≤ sizeLine ∧ ∀ p, H1 p = none → Q (.ref p) (upd H1 p (.lst xs))
theorem pe_tup {x1} (h : PA X es t) : PE X (.Tuple es x1 pos) (tTup t) := by
  intro pins s σ H Q I hq
  refine wpAny_Tuple_spliced (thn (h pos pins s σ H _ I hq) fun us s1 ⟨xs, H1, I1, r, z, q⟩ => ⟨by rw [← r.length]; exact z, ?_⟩)
  have hf : H1 s1.heap.objs.size = none := I1.hok.fresh (Nat.le_refl _)
  refine ⟨.ref s1.heap.objs.size, upd H1 s1.heap.objs.size (.tup xs), I1.laid (t' := s1.toks) (fun b u e => Heap.get?_push_of_some _ e) (Nat.le_refl _) ?_, rfl, q _ hf⟩
  exact ⟨z, us, r, ⟨_, Heap.get?_push_size _ rfl, rfl, rfl, _, rfl⟩⟩
theorem pe_lst (h : PA X es t) : PE X (.List es pos) (tLst t) := by
  intro pins s σ H Q I hq
  refine wpAny_List_spliced (thn (h pos pins s σ H _ I hq) fun us s1 ⟨xs, H1, I1, r, z, q⟩ => ⟨by rw [← r.length]; exact z, ?_⟩)
  have hf : H1 s1.heap.objs.size = none := I1.hok.fresh (Nat.le_refl _)
  refine ⟨.ref s1.heap.objs.size, upd H1 s1.heap.objs.size (.lst xs), I1.laid (t' := s1.toks) (fun b u e => Heap.get?_push_of_some _ e) (Nat.le_refl _) ?_, rfl, q _ hf⟩
  exact ⟨z, us, 0, r, Heap.get?_push_size _ rfl⟩
end
noncomputable abbrev Sp := List V → Hp → VK → XK → Prop
noncomputable abbrev CXT := List Env → Hp → Shared → XK → Value → Shared → Prop
structure Env0 (P : Program) (w : World) (K : PySem.W.Frag) (mg : Str → Option Value) (base : Heap) (A : Around) (outer : List Env) (s : Shared) (H : Hp) : Prop where
  frames : A.frames = some outer
  mod : Mod K mg base
  bs : ∀ b o, base.get? b = some o → s.heap.get? b = some o ∧ H b = none
  bsz : base.objs.size ≤ s.heap.objs.size
  funs : s.heap.FunFrames base outer
  frf : ∀ b ∈ frs outer, H b = none
  hok : HOk P w H s.heap
  bare : AllBare s.gens
noncomputable def CE (outer : List Env) (P : Program) (w : World) (H : Hp) (s : Shared) (Q : VK) (u : Value) (s' : Shared) : Prop :=
  ∃ v H', s'.os = s.os ∧ AllBare s'.gens ∧ Un (frs outer) [] H H' s.heap s'.heap ∧ HOk P w H' s'.heap ∧ RelV v u ∧ Q v H'
noncomputable def CR (CX : CXT) (outer : List Env) (P : Program) (w : World) (H : Hp) (s : Shared) (Q : VK) (E : XK) (r : Result) (s' : Shared) : Prop :=
  match r with
  | .ok (.ret u) => CE outer P w H s Q u s'
  | .ok _ => False
  | .error e => CX outer H s E e s'
structure FnOk (P : Program) (w : World) (K : PySem.W.Frag) (mg : Str → Option Value) (base : Heap) (CX : CXT) (k : Nat) (f : Addr) (fd : FuncData) (ps : List Str) (sp : Sp) : Prop where
  len : ∀ vs H Q E, sp vs H Q E → vs.length = ps.length
  run : ∀ (A : Around) (outer : List Env) (s : Shared) (H : Hp) (args : Args) (us : List Value) (vs : List V) (Q : VK) (E : XK), Room k A → Env0 P w K mg base A outer s H → BindsTo s fd args (ps.zip us) → Vals vs us → sp vs H Q E →
    codeAny (model P w) A (.call (.ref f) args) (CR CX outer P w H s Q E) s
theorem FnOk.mono {P : Program} {w : World} {K : PySem.W.Frag} {mg : Str → Option Value} {base : Heap} {CX : CXT} {j k : Nat} {f : Addr} {fd : FuncData} {ps : List Str} {sp : Sp} (F : FnOk P w K mg base CX j f fd ps sp) (h : j ≤ k) :
    FnOk P w K mg base CX k f fd ps sp := ⟨F.len, fun A outer s H args us vs Q E hr => F.run A outer s H args us vs Q E (hr.mono h)⟩
theorem FnOk.imp {P : Program} {w : World} {K : PySem.W.Frag} {mg : Str → Option Value} {base : Heap} {CX : CXT} {k : Nat} {f : Addr} {fd : FuncData} {ps : List Str} {sp sp' : Sp} (F : FnOk P w K mg base CX k f fd ps sp)
    (h : ∀ vs H Q E, sp' vs H Q E → sp vs H Q E) : FnOk P w K mg base CX k f fd ps sp' :=
  ⟨fun vs H Q E q => F.len vs H Q E (h _ _ _ _ q), fun A outer s H args us vs Q E hr he hb hv hs => F.run A outer s H args us vs Q E hr he hb hv (h _ _ _ _ hs)⟩
noncomputable section
variable {X : Cx} {pins : List (Addr × Obj)} {σ : St} {H : Hp} {s s' : Shared}
theorem Inv.env0 (I : Inv X pins σ H s) : Env0 X.prog X.w X.K X.mg X.base X.A X.stack s H :=
  ⟨I.ok.frames, I.ok.mod, I.bs, Nat.le_trans I.ok.bsz I.sz, I.stack, I.stkFree, I.hok, I.bare⟩
theorem Inv.after {Q : VK} {u : Value} (I : Inv X pins σ H s) (h : CE X.stack X.prog X.w H s Q u s') : EP X pins σ Q u s' := by
  obtain ⟨v, H', os, bare, un, hok, r, q⟩ := h
  obtain ⟨hh, g, d, t, os'⟩ := s'
  obtain rfl : os' = s.os := os
  exact ⟨v, H', I.call (h' := hh) (g' := g) (d' := d) (t' := t) (ch := []) un hok bare (fun b z => absurd z (by simp)), r, q⟩
end
noncomputable def tCall (sp : Sp) (dvs : List V) (E : XK) (t : TA) : TE := fun σ H Q => t σ H fun vs H1 => sp (vs ++ dvs) H1 Q E
noncomputable def Binds (K : PySem.W.Frag) (fd : FuncData) (ps : List Str) (ds : List Value) : Prop :=
  ∀ (s : Shared) (us : List Value), K.In s.heap → (us ++ ds).length = ps.length → BindsTo s fd ⟨us, []⟩ (ps.zip (us ++ ds))
theorem Binds.all {K : PySem.W.Frag} {fd : FuncData} {ps : List Str} (h : ∀ us : List Value, us.length = ps.length → bindArgs fd ⟨us, []⟩ = pure (ps.zip us)) : Binds K fd ps [] := fun s us _ hl => by
  rw [List.append_nil] at hl ⊢
  exact .of_eq (h us hl)
noncomputable def Passes (CX : CXT) (X : Cx) (E : XK) : Prop := ∀ (pins : List (Addr × Obj)) (σ : St) (H : Hp) (s : Shared) (e : Value) (s' : Shared), Inv X pins σ H s → CX X.stack H s E e s' → X.xe e s'
noncomputable section
variable {X : Cx} {CX : CXT} {k : Nat} {f C : Addr} {fd : FuncData} {ps : List Str} {sp : Sp} {dvs : List V} {ds : List Value} {E : XK} {x m : Str} {p pos apos : Pos} {e o : Expr} {es : List Expr} {ta : TE} {t : TA}
theorem run_fn {pins : List (Addr × Obj)} {σ : St} {H : Hp} {s : Shared} {Q : VK} {us : List Value} {vs : List V} (F : FnOk X.prog X.w X.K X.mg X.base CX k f fd ps sp) (hr : Room k X.A) (hb : Binds X.K fd ps ds) (hd : Vals dvs ds) (hx : Passes CX X E)
    (I : Inv X pins σ H s) (r : Vals vs us) (h : sp (vs ++ dvs) H Q E) : wpAny (model X.prog X.w) X.A (call (.ref f) us) (EP X pins σ Q) X.xe s := by
  have r2 : Vals (vs ++ dvs) (us ++ ds) := r.append hd
  have hl : (us ++ ds).length = ps.length := by rw [← r2.length]; exact F.len _ _ _ _ h
  refine wpAny_call (codeAny_mono (F.run X.A X.stack s H ⟨us, []⟩ (us ++ ds) (vs ++ dvs) Q E hr I.env0 (hb s us I.kIn hl) r2 h) fun r s' hq => ?_)
  cases r with
  | error e => exact hx pins σ H s e s' I hq
  | ok fl =>
    cases fl with
    | ret u => exact I.after hq
    | next => exact False.elim hq
    | brk => exact False.elim hq
    | cont => exact False.elim hq
theorem pe_call (F : FnOk X.prog X.w X.K X.mg X.base CX k f fd ps sp) (hr : Room k X.A) (hg : Gl X x) (hm : X.mg x = some (.ref f)) (hk : PySem.W.keepIn X.K (.ref f) = true) (hb : Binds X.K fd ps ds) (hd : Vals dvs ds) (hx : Passes CX X E)
    (ha : PA X (e :: es) t) (hdb : (x == ("__debug__" : Str)) = false := by decide) (he : starEach (e :: es) X.env = (false, eval e X.env) :: starEach es X.env := by rfl) (hpl : (backTo pos (starEach es X.env)).any (·.1) = false := by rfl) :
    PE X (.Call (.Name x p) (e :: es) [] pos) (tCall sp dvs E t) := by
  intro pins s σ H Q I h
  refine wpAny_Call_Name_kw (ld_glob I hg hm ?_ hdb)
  refine PySem.W.callWith_K (h₀ := X.base) I.ok.mod.kin hk (thn (ha pos pins s σ H _ I h) fun us s1 ⟨vs, H1, I1, r, q⟩ => ⟨I1.kIn, ?_⟩) he hpl
  exact run_fn F hr hb hd hx I1 r q
structure Mk (K : PySem.W.Frag) (C f : Addr) : Prop where
  makes : PySem.W.makesIn K C = true
  init : PySem.W.findIn K (.ref C) "__init__" = some (some (.ref f))
  fn : PySem.W.isFn K (.ref f) = true
  kp : PySem.W.keepIn K (.ref C) = true
end
noncomputable section
variable {X : Cx} {CX : CXT} {k : Nat} {f C : Addr} {fd : FuncData} {ps ks : List Str} {sp : Sp} {E : XK} {x m : Str} {p pos apos kpos : Pos} {e o : Expr} {es : List Expr} {kws : List Keyword} {te ta : TE} {t tk : TA} {nm : Option Str}
structure KBinds (K : PySem.W.Frag) (fd : FuncData) (ps ks : List Str) (g : List Value → List Value → List Value) (gV : List V → List V → List V) : Prop where
  to : ∀ (s : Shared) (us ws : List Value), K.In s.heap → (g us ws).length = ps.length → BindsTo s fd ⟨us, ks.zip ws⟩ (ps.zip (g us ws))
  rel : ∀ {vs : List V} {us : List Value} {zs : List V} {ws : List Value}, Vals vs us → Vals zs ws → Vals (gV vs zs) (g us ws)
variable {g : List Value → List Value → List Value} {gV : List V → List V → List V}
end
structure FnScope (N P : List Str) (sc : Scope) : Prop where
  kind : sc.kind = .function
  co : sc.isCoroutine = false
  gen : sc.isGenerator = false
  nd : N.Nodup
  pre : N.take P.length = P
  par : ∀ x ∈ P, sc.names.lookup x = some .local ∨ sc.names.lookup x = some .cell
  nofree : ∀ y ∈ sc.names, y.2 ≠ .free
theorem bindL_out {kindOf : Str → Option NameKind} {x : Str} : ∀ {binds : List (Str × Value)} {m : Str → Option Value}, (∀ v, (x, v) ∉ binds) → bindL kindOf binds m x = m x
  | [], _, _ => rfl
  | (n, v) :: r, m, h => by
    unfold bindL
    rw [bindL_out fun w hw => h w (List.mem_cons_of_mem _ hw)]
    split
    · have : x ≠ n := by rintro rfl; exact h v List.mem_cons_self
      simp [this]
    · rfl
theorem bindC_out {kindOf : Str → Option NameKind} {x : Str} : ∀ {binds : List (Str × Value)} {m : Str → Option Value}, (∀ v, (x, v) ∉ binds) → bindC kindOf binds m x = m x
  | [], _, _ => rfl
  | (n, v) :: r, m, h => by
    unfold bindC
    rw [bindC_out fun w hw => h w (List.mem_cons_of_mem _ hw)]
    split
    · rfl
    · have : x ≠ n := by rintro rfl; exact h v List.mem_cons_self
      simp [this]
theorem bindL_get {kindOf : Str → Option NameKind} {x : Str} {v : Value} : ∀ {P : List Str} {vs : List Value} {i : Nat} {m : Str → Option Value}, P.Nodup → P[i]? = some x → vs[i]? = some v → kindOf x = some .local →
    bindL kindOf (P.zip vs) m x = some v
  | [], _, _, _, _, h, _, _ => by simp at h
  | _ :: _, [], _, _, _, _, h, _ => by simp at h
  | p :: P, w :: vs, 0, m, nd, h1, h2, hk => by
    simp at h1 h2; subst h1; subst h2
    show bindL kindOf ((p, w) :: P.zip vs) m p = _
    unfold bindL
    rw [bindL_out fun v hv => (List.nodup_cons.mp nd).1 (List.of_mem_zip hv).1, if_pos hk]
    simp
  | p :: P, w :: vs, i + 1, m, nd, h1, h2, hk => by
    show bindL kindOf ((p, w) :: P.zip vs) m x = _
    unfold bindL
    exact bindL_get (i := i) (List.nodup_cons.mp nd).2 (by simpa using h1) (by simpa using h2) hk
theorem bindC_get {kindOf : Str → Option NameKind} {x : Str} {v : Value} : ∀ {P : List Str} {vs : List Value} {i : Nat} {m : Str → Option Value}, P.Nodup → P[i]? = some x → vs[i]? = some v → kindOf x ≠ some .local →
    bindC kindOf (P.zip vs) m x = some v
  | [], _, _, _, _, h, _, _ => by simp at h
  | _ :: _, [], _, _, _, _, h, _ => by simp at h
  | p :: P, w :: vs, 0, m, nd, h1, h2, hk => by
    simp at h1 h2; subst h1; subst h2
    show bindC kindOf ((p, w) :: P.zip vs) m p = _
    unfold bindC
    rw [bindC_out fun v hv => (List.nodup_cons.mp nd).1 (List.of_mem_zip hv).1, if_neg hk]
    simp
  | p :: P, w :: vs, i + 1, m, nd, h1, h2, hk => by
    show bindC kindOf ((p, w) :: P.zip vs) m x = _
    unfold bindC
    exact bindC_get (i := i) (List.nodup_cons.mp nd).2 (by simpa using h1) (by simpa using h2) hk
noncomputable def start (N : List Str) (vs : List V) : St := vs.map some ++ List.replicate (N.length - vs.length) none
noncomputable def cxOf (CX : CXT) (P : Program) (w : World) (K : PySem.W.Frag) (mg : Str → Option Value) (base : Heap) (N : List Str) (qual : Str) (scope : Scope) (f : Addr) (cd : Value) (A : Around) (outer : List Env) (s : Shared) (H : Hp) (E : XK) : Cx where
  prog := P
  w := w
  K := K
  mg := mg
  base := base
  A := A.deeper (envOfC qual scope s.heap.objs.size f cd)
  N := N
  s₀ := s
  H₀ := H
  env := envOfC qual scope s.heap.objs.size f cd
  outer := outer
  stack := envOfC qual scope s.heap.objs.size f cd :: outer
  ex := []
  calm := true
  fn := fun _ => true
  pn := []
  xe := fun e s' => wpAny (model P w) (A.deeper (envOfC qual scope s.heap.objs.size f cd)) (leaving (envOfC qual scope s.heap.objs.size f cd) e) (fun _ s'' => CX outer H s E e s'') (fun e' s'' => CX outer H s E e' s'') s'
theorem cell_has {sc : Scope} {n : Nat} {x : Str} (h : sc.names.lookup x = some .cell) : ∃ c, (cellsFrom n sc.names []).lookup x = some c := by
  have q := PySem.W.cellsFrom_some sc.names n [] (.inl h)
  exact Option.isSome_iff_exists.mp q
theorem inv_start {CX : CXT} {P : Program} {w : World} {K : PySem.W.Frag} {mg : Str → Option Value} {base : Heap} {N ps : List Str} {qual : Str} {scope : Scope} {f : Addr} {cd : Value} {A : Around} {outer : List Env} {s s1 : Shared} {H : Hp} {E : XK} {us : List Value} {vs : List V}
    (S : FnScope N ps scope) (hd : A.handled = none) (e0 : Env0 P w K mg base A outer s H) (hl : vs.length = ps.length) (r : Vals vs us)
    (x : InCallC s s.heap.objs.size (bindL (envOfC qual scope s.heap.objs.size f cd).kindOf (ps.zip us) fun _ => none) (cellsFrom (s.heap.objs.size + 1) scope.names []) (bindC (envOfC qual scope s.heap.objs.size f cd).kindOf (ps.zip us) fun _ => none) s1) :
    Inv (cxOf CX P w K mg base N qual scope f cd A outer s H E) [] (start N vs) H s1 := by
  have hpl : ps.length ≤ N.length := by have := congrArg List.length S.pre; rw [List.length_take] at this; omega
  obtain ⟨h1, tk, rfl, hk⟩ := x.done
  have noA : ∀ b : Addr, b ∉ (cxOf CX P w K mg base N qual scope f cd A outer s H E).ex := fun b z => absurd (show b ∈ ([] : List Addr) from z) (by simp)
  refine ⟨⟨e0.mod, S.kind, rfl, rfl, Nat.le_refl _, fun y z c h1 h2 => ?_, fun y hy => ?_, fun y c _ h => ?_, fun _ => hd, Around.frames_deeper e0.frames, .inr ⟨rfl, rfl⟩, fun b z => absurd z (noA b), e0.bs, e0.bsz, fun b _ _ => noA b, fun b z => absurd z (noA b), e0.funs, e0.frf⟩,
    rfl, e0.bare, Un.kept hk, ⟨_, x.toInCall.ns, fun i y v h1 h2 h3 => ?_⟩, fun y c h => ⟨_, x.cell y c h⟩, e0.hok.fresh (Nat.le_refl _), fun y c h => ?_, fun p hp => absurd (show p ∈ ([] : List (Addr × Obj)) from hp) (by simp), e0.hok.kept hk, ?_⟩
  · exact name_of_addr x.apart (PySem.mem_of_lookup h1) (PySem.mem_of_lookup h2)
  · have hy : scope.names.lookup y = some .cell ∨ scope.names.lookup y = some .free := hy
    rcases hy with hy | hy
    · exact cell_has hy
    · exact absurd rfl (S.nofree _ (PySem.mem_of_lookup hy))
  · exact Nat.le_of_lt (x.above y c (PySem.mem_of_lookup h))
  · have hi : i < vs.length := by
      unfold start at h2
      by_cases hi : i < vs.length
      · exact hi
      · rw [List.getElem?_append_right (by simpa using hi)] at h2
        rw [List.getElem?_replicate] at h2
        split at h2 <;> cases h2
    have ha : vs[i]? = some v := by
      unfold start at h2
      rw [List.getElem?_append_left (by simpa using hi), List.getElem?_map] at h2
      cases e : vs[i]? with
      | none => rw [e] at h2; cases h2
      | some a => rw [e] at h2; cases h2; rfl
    obtain ⟨u, hu, rv⟩ := r.get ha
    have hp : ps[i]? = some y := by
      rw [← S.pre, List.getElem?_take_of_lt (by omega)]; exact h1
    have ndP : ps.Nodup := by rw [← S.pre]; exact S.nd.sublist (List.take_sublist _ _)
    refine ⟨u, rv, ?_⟩
    rcases S.par y (List.mem_of_getElem? hp) with k | k
    · exact .inl ⟨k, bindL_get ndP hp hu k⟩
    · obtain ⟨c, e⟩ := cell_has (n := s.heap.objs.size + 1) k
      refine .inr ⟨.inl k, c, e, ?_⟩
      have q := x.cell y c e
      rw [bindC_get ndP hp hu (by show scope.names.lookup y ≠ _; rw [k]; decide)] at q
      exact q
  · exact e0.hok.fresh (Nat.le_of_lt (x.above y c (PySem.mem_of_lookup h)))
  · unfold start
    show _ = N.length
    rw [List.length_append, List.length_map, List.length_replicate]
    omega
theorem fn_of {CX : CXT} {P : Program} {w : World} {K : PySem.W.Frag} {mg : Str → Option Value} {base : Heap} {k : Nat} {f : Addr} {name qual : Str} {params : Arguments} {body : List Stmt} {scope : Scope} {dV kV doc pm cdv ct oc : Value} {an od : Option Addr}
    {osl : Array (Option Value)} {N ps : List Str} {sp : Sp} (lk : K.lookup f = some ⟨oc, od, .func (PySem.W.fnOf name qual params body scope dV kV doc pm an cdv ct), osl⟩) (hcd : PySem.W.codeIn K cdv qual = true) (S : FnScope N ps scope)
    (len : ∀ vs H Q E, sp vs H Q E → vs.length = ps.length)
    (hbody : ∀ (A : Around) (outer : List Env) (s : Shared) (H : Hp) (vs : List V) (Q : VK) (E : XK), Room k (A.deeper (envOfC qual scope s.heap.objs.size f cdv)) → sp vs H Q E →
      ∃ t, PSs (cxOf CX P w K mg base N qual scope f cdv A outer s H E) body t ∧ t { nx := fun _ H' => Q .non H', rt := Q } (start N vs) H) :
    FnOk P w K mg base CX (k + 1) f (PySem.W.fnOf name qual params body scope dV kV doc pm an cdv ct) ps sp := by
  refine ⟨len, fun A outer s H args us vs Q E hr e0 hb r hsp => ?_⟩
  have hl := len _ _ _ _ hsp
  have KX : K.In s.heap := e0.mod.kin.keeps fun b o e => (e0.bs b o e).1
  have lim : s.heap.NoLimit := e0.mod.nolimit.keeps fun b o e => (e0.bs b o e).1
  have hkind : ∀ y ∈ ps.zip us, scope.names.lookup y.1 = some .local ∨ (scope.names.lookup y.1 = some .cell ∧ ((cellsFrom (s.heap.objs.size + 1) scope.names []).lookup y.1).isSome = true) := fun ⟨n, v⟩ hy => by
    rcases S.par n (List.of_mem_zip hy).1 with q | q
    · exact .inl q
    · exact .inr ⟨q, PySem.W.cellsFrom_some _ _ _ (.inl q)⟩
  refine codeAny_call_function hr.depth (KX _ _ lk) rfl S.co S.gen rfl (PySem.W.codeRec_of KX hcd) (hb _ _ _ _ ?_)
  refine wpAny_newFunctionEnv_cells S.kind hkind fun env he s1 x => ?_
  subst he
  refine ⟨lim.keeps x.toInCall.keep, codeAny_func ?_⟩
  obtain ⟨t, ht, hq⟩ := hbody A outer s H vs Q E (hr.deeper _) hsp
  have I : Inv (cxOf CX P w K mg base N qual scope f cdv A outer s H E) [] (start N vs) H s1 := inv_start S hr.hd e0 hl r x
  refine wpAny_mono (ht [] s1 (start N vs) H _ I hq) (fun fl s' hs => ?_) fun e s' hs => hs
  have fin : ∀ {σ' : St} {H' : Hp} {v : V} {u : Value}, Inv (cxOf CX P w K mg base N qual scope f cdv A outer s H E) [] σ' H' s' → RelV v u → Q v H' → CE outer P w H s Q u s' :=
    fun {σ' H' v u} J rv q => ⟨v, H', J.os, J.bare, J.base, J.hok, rv, q⟩
  cases fl with
  | ret u =>
    obtain ⟨v, σ', H', J, rv, q⟩ := hs
    exact fin J rv q
  | next =>
    obtain ⟨σ', H', J, q⟩ := hs
    exact fin (v := V.non) (u := Value.none) J rfl q
  | brk =>
    obtain ⟨_, _, _, q⟩ := hs
    exact False.elim q
  | cont =>
    obtain ⟨_, _, _, q⟩ := hs
    exact False.elim q
end L2
namespace L2
open PySem PySem.Spec PyProof.Rows
noncomputable section
variable {X : Cx} {x : Str} {p pos : Pos} {e : Expr} {es : List Expr} {t : TA} {id T : String} {r : List V → Hp → VK → Prop}
noncomputable def tCB (r : List V → Hp → VK → Prop) (t : TA) : TE := fun σ H Q => t σ H fun vs H1 => r vs H1 Q
theorem pe_callB (hc : CallR X (.builtin id) r) (hg : Gl X x) (hm : X.mg x = none) (hv : bootBuiltins x = some (.builtin id)) (ha : PA X (e :: es) t) (hn : x ≠ "__name__" := by decide) (hdb : (x == ("__debug__" : Str)) = false := by decide)
    (he : starEach (e :: es) X.env = (false, eval e X.env) :: starEach es X.env := by rfl) (hpl : (backTo pos (starEach es X.env)).any (·.1) = false := by rfl) : PE X (.Call (.Name x p) (e :: es) [] pos) (tCB r t) := by
  intro pins s σ H Q I h
  refine wpAny_Call_Name_kw (ld_blt I hg hm hv ?_ hn hdb)
  exact PyProof.Rows.callWith_builtin1 (thn (ha pos pins s σ H _ I h) fun us s1 ⟨vs, H1, I1, r1, q1⟩ => hc pins s1 σ H1 vs us Q I1 r1 q1) he hpl
theorem pe_callTy (hc : CallR X (.type T) r) (hg : Gl X x) (hm : X.mg x = none) (hv : bootBuiltins x = some (.type T)) (ha : PA X (e :: es) t) (hn : x ≠ "__name__" := by decide) (hdb : (x == ("__debug__" : Str)) = false := by decide)
    (he : starEach (e :: es) X.env = (false, eval e X.env) :: starEach es X.env := by rfl) (hpl : (backTo pos (starEach es X.env)).any (·.1) = false := by rfl) : PE X (.Call (.Name x p) (e :: es) [] pos) (tCB r t) := by
  intro pins s σ H Q I h
  refine wpAny_Call_Name_kw (ld_blt I hg hm hv ?_ hn hdb)
  exact PyProof.Rows.callWith_type1 (thn (ha pos pins s σ H _ I h) fun us s1 ⟨vs, H1, I1, r1, q1⟩ => hc pins s1 σ H1 vs us Q I1 r1 q1) he hpl
end
end L2
end
noncomputable section
set_option linter.all false
set_option maxRecDepth 100000
namespace HT
open PySem PyProof.Rows
noncomputable section
open PySem.SeqAt
open PySem.AutoSeq1 (wpAny_loadPart')
open PySem.MeetsSeq PySem.MeetsSeq2 PySem.MeetsSeq3
end
noncomputable section
variable {prog : Program} {w : World} {A : Around} {E : Value → Shared → Prop} {s : Shared}
theorem cat_tup {t b : Addr} {vs ws : List Value} {Q : Value → Shared → Prop} (ht : IsTup s.heap t vs.toArray) (hb : IsTup s.heap b ws.toArray) (hv : vs ≠ [])
    (h1 : ws = [] → Q (.ref t) s) (h2 : ws ≠ [] → Q (.ref s.heap.objs.size) { s with heap := s.heap.push { cls := .type "tuple", data := .seq (vs ++ ws).toArray } })
    (hsz : vs.length + ws.length ≤ sizeLine) : wpAny (model prog w) A (binaryOp .Add (.ref t) (.ref b)) Q E s := by
  obtain ⟨⟨cls, dd, data, sl⟩, ho, hc, n, hd⟩ := id ht
  obtain ⟨⟨cls2, dd2, data2, sl2⟩, ho2, hc2, n2, hd2⟩ := id hb
  simp only at hc hd hc2 hd2
  subst hc hd hc2 hd2
  have e : vs.toArray ++ ws.toArray = (vs ++ ws).toArray := by simp
  by_cases hw : ws = []
  · exact concat_meets ⟨_, ho, rfl⟩ ⟨_, ho2, rfl⟩ noFill_tuple_add seq_tuple_add PySem.F.slot_tuple_add PySem.F.entry_tuple_add (PySem.F.args_tuple_add_2 _ _)
      (tuple_addW1 t b vs.toArray ws.toArray n n2 dd dd2 sl sl2 (by simpa using hv) (by simp [hw])) ⟨ho, ho2, h1 hw⟩
  · refine concat_meets ⟨_, ho, rfl⟩ ⟨_, ho2, rfl⟩ noFill_tuple_add seq_tuple_add PySem.F.slot_tuple_add PySem.F.entry_tuple_add (PySem.F.args_tuple_add_2 _ _)
      (tuple_addW2 t b vs.toArray ws.toArray n n2 dd dd2 sl sl2 (by simpa using hv) (by simpa using hw) (by rw [List.size_toArray, List.size_toArray]; exact hsz)) ⟨ho, ho2, ?_⟩
    rw [e]
    exact h2 hw
noncomputable def sIx (n d : Nat) : Option Int → Nat
  | none => d
  | some v => if v < 0 then (v + (n : Int)).toNat else min v.toNat n
theorem sIx_le (n d : Nat) (hd : d ≤ n) (o : Option Int) : sIx n d o ≤ n := by
  cases o with
  | none => exact hd
  | some v =>
    show (if v < 0 then (v + (n : Int)).toNat else min v.toNat n) ≤ n
    by_cases hv : v < 0
    · rw [if_pos hv]; omega
    · rw [if_neg hv]; exact Nat.min_le_right _ _
theorem clip_eq (v : Int) (n d : Nat) : (if v < 0 then max (v + (n : Int)) 0 else min v (n : Int)) = ((sIx n d (some v) : Nat) : Int) := by
  show (if v < 0 then max (v + (n : Int)) 0 else min v (n : Int)) = (((if v < 0 then (v + (n : Int)).toNat else min v.toNat n) : Nat) : Int)
  by_cases hv : v < 0
  · simp only [if_pos hv]; omega
  · simp only [if_neg hv]; omega
theorem adjust_gen (lo hi : Option Int) (n : Nat) : Builtin.Slice.sliceAdjust lo hi 1 (n : Int) = (((sIx n 0 lo : Nat) : Int), ((sIx n n hi : Nat) : Int)) := by
  have h1 : ¬ ((1 : Int) < 0) := by omega
  unfold Builtin.Slice.sliceAdjust
  simp only [h1, if_false]
  refine Prod.ext ?_ ?_
  · cases lo with
    | none => rfl
    | some v => exact clip_eq v n 0
  · cases hi with
    | none => rfl
    | some v => exact clip_eq v n n
theorem places_gen (i j : Nat) : Builtin.Slice.slicePlaces (i : Int) (j : Int) 1 = j - i := by
  unfold Builtin.Slice.slicePlaces
  have h1 : (1 : Int) > 0 := by omega
  simp only [h1, if_true, Int.ediv_one]
  split <;> omega
theorem slicePart_ {v : Value} {o : Option Int} {Q : Option Int → Shared → Prop} (p : IsPart v o) (h : Q o s) : wpAny (model prog w) A (Builtin.Slice.slicePartIndex v) Q E s := by
  cases p with
  | none => exact slicePart_none h
  | int i t => exact slicePart_int h
theorem sliceApplied_gen {sl : Addr} {vl vu : Value} {lo hi : Option Int} {n : Nat} {Q : Int × Int × Nat → Shared → Prop} (hs : s.heap.IsSliceOf sl vl vu .none) (pl : IsPart vl lo) (pu : IsPart vu hi)
    (h : Q (((sIx n 0 lo : Nat) : Int), 1, sIx n n hi - sIx n 0 lo) s) : wpAny (model prog w) A (Builtin.Slice.sliceApplied (.ref sl) (pure (n : Int))) Q E s := by
  obtain ⟨os, hos, hcs, hds⟩ := id hs
  unfold Builtin.Slice.sliceApplied Builtin.Slice.sliceFields
  refine wpAny_bind (wpAny_bind (wpAny_field hos hds (x := vl) rfl (wpAny_bind (wpAny_field hos hds (x := vu) rfl (wpAny_bind (wpAny_field hos hds (x := .none) rfl (wpAny_pure ?_)))))))
  refine wpAny_bind (slicePart_none ?_)
  show wpAny _ _ (if ((1 : Int) == 0) = true then _ else _) _ _ s
  rw [if_neg (by decide)]
  refine wpAny_bind (slicePart_ pl (wpAny_bind (slicePart_ pu (wpAny_bind (wpAny_pure ?_)))))
  show wpAny _ _ (match Builtin.Slice.sliceAdjust lo hi 1 (n : Int) with | (lo, hi) => pure (lo, (1 : Int), Builtin.Slice.slicePlaces lo hi 1)) _ _ s
  rw [adjust_gen lo hi n]
  show wpAny _ _ (pure (((sIx n 0 lo : Nat) : Int), (1 : Int), Builtin.Slice.slicePlaces ((sIx n 0 lo : Nat) : Int) ((sIx n n hi : Nat) : Int) 1)) _ _ s
  rw [places_gen]
  exact wpAny_pure h
theorem pick_gen (xs : Array Value) (i k : Nat) : ((List.range k).filterMap fun (m : Nat) => xs[((i : Int) + (m : Int) * 1).toNat]?).toArray = ((xs.toList.drop i).take k).toArray := by
  have e : (fun (m : Nat) => xs[((i : Int) + (m : Int) * 1).toNat]?) = fun m => xs[i + m]? := by
    funext m
    have : ((i : Int) + (m : Int) * 1).toNat = i + m := by omega
    rw [this]
  rw [e]
  have := pick_run xs i k
  rw [List.filterMap_map] at this
  have e2 : ((fun x => xs[x]?) ∘ fun x => i + x) = fun m => xs[i + m]? := rfl
  rw [e2] at this
  rw [this]
theorem getItem_tuple_cut {t sl : Addr} {items : Array Value} {vl vu : Value} {lo hi : Option Int} {Q : Value → Shared → Prop} (ht : IsTup s.heap t items) (hs : s.heap.IsSliceOf sl vl vu .none) (pl : IsPart vl lo) (pu : IsPart vu hi)
    (hw : ¬ (sIx items.size 0 lo = 0 ∧ sIx items.size items.size hi = items.size))
    (h : Q (.ref s.heap.objs.size) { s with heap := s.heap.push { cls := .type "tuple", data := .seq ((items.toList.drop (sIx items.size 0 lo)).take (sIx items.size items.size hi - sIx items.size 0 lo)).toArray } })
    (hsz : items.size ≤ sizeLine) : wpAny (model prog w) A (getItem (.ref t) (.ref sl)) Q E s := by
  have htake : sizeOk (.seq ((items.toList.drop (sIx items.size 0 lo)).take (sIx items.size items.size hi - sIx items.size 0 lo)).toArray) := by
    show ((items.toList.drop (sIx items.size 0 lo)).take (sIx items.size items.size hi - sIx items.size 0 lo)).toArray.size ≤ sizeLine
    rw [List.size_toArray, List.length_take, List.length_drop, Array.length_toList]
    omega
  have hj : sIx items.size items.size hi ≤ items.size := sIx_le _ _ (Nat.le_refl _) hi
  obtain ⟨os, hos, hcs, hds⟩ := id hs
  have hTs : s.TypeIs (.ref sl) "slice" := ⟨os, hos, hcs⟩
  unfold getItem
  try with_reducible refine wpAny_holding ?_
  first | refine wpAny_bind (wpAny_pure ?_) | skip
  refine wpAny_bind (wpAny_sequenceKey ht.typeIs (by decide) ?_)
  refine wpAny_bind (wpAny_callSpecial?_slot (name := Str.ofString "__getitem__") ht.typeIs PyProof.Rows.slot_tuple_getitem
    (wpAny_call_entry PyProof.Rows.slot_tuple_getitem ht.typeIs entry_tuple_getitem ?_ (args_tuple_getitem _ _)))
  show wpAny _ _ (Builtin.Tuple.tupleItemsOf (.ref t) >>= _) _ _ s
  refine wpAny_bind (tupleItemsOf_ ht ?_)
  refine wpAny_bind (wpAny_typeOf hTs ?_)
  rw [if_pos (by decide)]
  refine wpAny_bind (sliceApplied_gen hs pl pu ?_)
  have hno : ¬ ((((sIx items.size 0 lo : Nat) : Int) == 0 && (1 : Int) == 1 && (sIx items.size items.size hi - sIx items.size 0 lo) == items.size) = true) := by
    intro q
    rw [Bool.and_eq_true, Bool.and_eq_true] at q
    have q1 : ((sIx items.size 0 lo : Nat) : Int) = 0 := eq_of_beq q.1.1
    have q2 : sIx items.size items.size hi - sIx items.size 0 lo = items.size := eq_of_beq q.2
    exact hw ⟨by omega, by omega⟩
  show wpAny _ _ (if (((sIx items.size 0 lo : Nat) : Int) == 0 && (1 : Int) == 1 && (sIx items.size items.size hi - sIx items.size 0 lo) == items.size) = true then _ else _) _ _ s
  rw [if_neg hno, pick_gen]
  first
    | exact wpAny_bind (m := Builtin.Tuple.tupleExact _) (wpAny_newObj_type (wpAny_pure ⟨_, rfl, wpAny_pure h⟩) htake)
    | exact wpAny_bind (m := Builtin.Tuple.tupleExact _) (wpAny_newObj_type (wpAny_bind (wpAny_pure (wpAny_pure ⟨_, rfl, wpAny_pure h⟩))) htake)
    | exact wpAny_bind (wpAny_bind (m := Builtin.Tuple.tupleExact _) (wpAny_newObj_type (wpAny_pure (wpAny_pure ⟨_, rfl, wpAny_pure h⟩)) htake))
    | exact wpAny_bind (wpAny_bind (m := Builtin.Tuple.tupleExact _) (wpAny_newObj_type (wpAny_pure ⟨_, rfl, wpAny_pure h⟩) htake))
end
end HT
namespace L2
open PySem PySem.Spec PyProof.Rows
noncomputable abbrev TO := St → Hp → (Option Int → Hp → Prop) → Prop
noncomputable def PO (X : Cx) (e : Option Expr) (t : TO) : Prop :=
  ∀ (pins : List (Addr × Obj)) (s : Shared) (σ : St) (H : Hp) (Q : Option Int → Hp → Prop), Inv X pins σ H s → t σ H Q →
    wpAny (model X.prog X.w) X.A (evalPart e X.env) (fun u s' => ∃ o H', Inv X pins σ H' s' ∧ IsPart u o ∧ Q o H') X.xe s
noncomputable def tPart (t : TE) : TO := fun σ H Q => t σ H fun x H1 => ∃ i, x = .int i ∧ Q (some i) H1
noncomputable section
variable {X : Cx} {e : Expr} {te : TE} {lo hi : Option Expr} {tl th : TO} {pos p2 : Pos}
theorem po_some (h : PE X e te) : PO X (some e) (tPart te) := by
  intro pins s σ H Q I hw
  rw [evalPart_some]
  refine thn (h pins s σ H _ I hw) fun u s1 ⟨x, H1, I1, r1, q1⟩ => ?_
  obtain ⟨i, rfl, q⟩ := q1
  obtain ⟨t, rfl⟩ := r1
  exact ⟨some i, H1, I1, .int i t, q⟩
noncomputable def SlR (X : Cx) (r : V → Option Int → Option Int → Hp → VK → Prop) : Prop :=
  ∀ (pins : List (Addr × Obj)) (s : Shared) (σ : St) (H : Hp) (x : V) (v vl vu : Value) (lo hi : Option Int) (sl : Addr) (Q : VK), Inv X pins σ H s → RelV x v → s.heap.IsSliceOf sl vl vu .none → IsPart vl lo → IsPart vu hi → r x lo hi H Q →
    ∃ T id, typeLookup (.type T) "__getitem__" = pure (some (.builtin id)) ∧ s.TypeIs v T ∧ wpAny (model X.prog X.w) X.A (getItem v (.ref sl)) (EP X pins σ Q) X.xe s
theorem SlR.or {r r' : V → Option Int → Option Int → Hp → VK → Prop} (h : SlR X r) (h' : SlR X r') : SlR X (fun x lo hi H Q => r x lo hi H Q ∨ r' x lo hi H Q) := by
  intro pins s σ H x v vl vu lo hi sl Q I rx hs pl pu q
  rcases q with q | q
  · exact h pins s σ H x v vl vu lo hi sl Q I rx hs pl pu q
  · exact h' pins s σ H x v vl vu lo hi sl Q I rx hs pl pu q
noncomputable def tSl (r : V → Option Int → Option Int → Hp → VK → Prop) (te : TE) (tl th : TO) : TE := fun σ H Q => te σ H fun x H1 => tl σ H1 fun l H2 => th σ H2 fun u H3 => r x l u H3 Q
theorem pe_slice {r : V → Option Int → Option Int → Hp → VK → Prop} (hr : SlR X r) (he : PE X e te) (hl : PO X lo tl) (hu : PO X hi th) : PE X (.Subscript e (.Slice lo hi none p2) pos) (tSl r te tl th) := by
  intro pins s σ H Q I h
  refine Subscript_ (thn (he pins s σ H _ I h) fun v s1 ⟨x, H1, I1, r1, q1⟩ => ?_)
  refine wpAny_Slice (thn (hl pins s1 σ H1 _ I1 q1) fun vl s2 ⟨l, H2, I2, pl, q2⟩ => thn (hu pins s2 σ H2 _ I2 q2) fun vu s3 ⟨u, H3, I3, pu, q3⟩ => ?_)
  rw [evalPart_none]
  refine wpAny_pure ?_
  have I4 : Inv X pins σ H3 { s3 with heap := s3.heap.push { cls := .type "slice", data := .fields #[vl, vu, .none] } } := I3.kept (t' := s3.toks) fun b ob q => Heap.get?_push_of_some _ q
  obtain ⟨T, id, hT, ht, hg⟩ := hr pins { s3 with heap := s3.heap.push { cls := .type "slice", data := .fields #[vl, vu, .none] } } σ H3 x v vl vu l u s3.heap.objs.size Q I4 r1 (Heap.IsSliceOf.new ..) pl pu q3
  show wpAny (model X.prog X.w) X.A (subscriptTail e (.Slice lo hi none p2) v (.ref s3.heap.objs.size)) (EP X pins σ Q) X.xe { s3 with heap := s3.heap.push { cls := .type "slice", data := .fields #[vl, vu, .none] } }
  exact tail_any (ops := [.ref s3.heap.objs.size, v]) ht hT hg (by with_unfolding_all rfl)
noncomputable def cutV (xs : List V) (lo hi : Option Int) : List V := (xs.drop (HT.sIx xs.length 0 lo)).take (HT.sIx xs.length xs.length hi - HT.sIx xs.length 0 lo)
theorem cutV_length (xs : List V) (lo hi : Option Int) : (cutV xs lo hi).length ≤ xs.length := by
  unfold cutV
  rw [List.length_take, List.length_drop]
  omega
noncomputable def rSlT (K : PySem.W.Frag) : V → Option Int → Option Int → Hp → VK → Prop := fun x lo hi H Q => ∃ a xs, x = .ref a ∧ SqT K H a xs ∧
  ¬ (HT.sIx xs.length 0 lo = 0 ∧ HT.sIx xs.length xs.length hi = xs.length) ∧ ∀ p, H p = none → Q (.ref p) (upd H p (.tup (cutV xs lo hi)))
theorem sl_tup : SlR X (rSlT X.K) := by
  intro pins s σ H x v vl vu lo hi sl Q I rx hs pl pu h
  obtain ⟨a, xs, rfl, hx, hw, q⟩ := h
  cases rx
  obtain ⟨its, r, ht, hz⟩ := I.tuple hx
  have hlen : its.toArray.size = xs.length := by rw [List.size_toArray]; exact r.length.symm
  refine ⟨"tuple", _, PyProof.Rows.slot_tuple_getitem.lookup, ht.typeIs, ?_⟩
  refine HT.getItem_tuple_cut ht hs pl pu (by rw [hlen]; exact hw) ?_ (by rw [hlen]; exact hz)
  rw [hlen]
  refine ⟨.ref s.heap.objs.size, _, I.laid (t' := s.toks) (o := .tup (cutV xs lo hi)) (fun b ob q => Heap.get?_push_of_some _ q) (Nat.le_refl _) ?_, rfl, q _ (I.hok.fresh (Nat.le_refl _))⟩
  exact ⟨Nat.le_trans (cutV_length xs lo hi) hz, _, (r.drop (HT.sIx xs.length 0 lo)).take (HT.sIx xs.length xs.length hi - HT.sIx xs.length 0 lo), TupD.new _ _⟩
noncomputable def rCatT (K : PySem.W.Frag) : R2 := fun x y H Q => ∃ a b xs ys, x = .ref a ∧ y = .ref b ∧ SqT K H a xs ∧ SqT K H b ys ∧ xs ≠ [] ∧ xs.length + ys.length ≤ sizeLine ∧
  (ys = [] → Q (.ref a) H) ∧ (ys ≠ [] → ∀ p, H p = none → Q (.ref p) (upd H p (.tup (xs ++ ys))))
theorem Vals.nil_iff {xs : List V} {us : List Value} (r : Vals xs us) : us = [] ↔ xs = [] := by
  cases r with
  | nil => simp
  | cons _ _ => simp
theorem op_catT : OpR X (binaryOp .Add) (rCatT X.K) := by
  intro pins s σ H x y v u Q I rx ry h
  obtain ⟨a, b, xs, ys, rfl, rfl, ha, hb, hx, hz, q1, q2⟩ := h
  cases rx
  cases ry
  obtain ⟨its, r1, p1, _⟩ := I.tuple ha
  obtain ⟨its2, r2, p2, _⟩ := I.tuple hb
  refine HT.cat_tup p1 p2 (fun z => hx (r1.nil_iff.mp z)) (fun z => ⟨.ref a, H, I, rfl, q1 (r2.nil_iff.mp z)⟩) (fun z => ?_) (by rw [← r1.length, ← r2.length]; exact hz)
  refine ⟨.ref s.heap.objs.size, _, I.laid (t' := s.toks) (o := .tup (xs ++ ys)) (fun b ob q => Heap.get?_push_of_some _ q) (Nat.le_refl _) ?_, rfl, q2 (fun w => z (r2.nil_iff.mpr w)) _ (I.hok.fresh (Nat.le_refl _))⟩
  exact ⟨by rw [List.length_append]; exact hz, _, r1.append r2, TupD.new _ _⟩
end
end L2
namespace L2
open PySem PySem.Spec PyProof.Rows
noncomputable def ixN (n : Nat) (i : Int) : Option Nat := if 0 ≤ i then (if i < n then some i.toNat else none) else if -(n : Int) ≤ i then some (i + n).toNat else none
noncomputable def atI {α : Type} (xs : List α) (i : Int) : Option α := (ixN xs.length i).bind fun j => xs[j]?
theorem ixN_seq {n : Nat} {i : Int} {j : Nat} (h : ixN n i = some j) : seqIndex? i n = some j ∧ j < n ∧ -(n : Int) ≤ i ∧ i < n := by
  unfold ixN at h
  by_cases h0 : 0 ≤ i
  · rw [if_pos h0] at h
    by_cases h1 : i < n
    · rw [if_pos h1] at h
      have e : i.toNat = j := Option.some.inj h
      exact ⟨by rw [seqIndex_of h0 h1, e], by omega, by omega, h1⟩
    · rw [if_neg h1] at h; cases h
  · rw [if_neg h0] at h
    by_cases h1 : -(n : Int) ≤ i
    · rw [if_pos h1] at h
      have e : (i + n).toNat = j := Option.some.inj h
      exact ⟨by rw [seqIndex_neg (by omega) h1, e], by omega, h1, by omega⟩
    · rw [if_neg h1] at h; cases h
theorem atI_get {α : Type} {xs : List α} {i : Int} {v : α} (h : atI xs i = some v) : ∃ j, seqIndex? i xs.length = some j ∧ xs[j]? = some v ∧ j < xs.length ∧ -(xs.length : Int) ≤ i ∧ i < xs.length := by
  unfold atI at h
  cases e : ixN xs.length i with
  | none => rw [e] at h; cases h
  | some j =>
    rw [e] at h
    obtain ⟨h1, h2, h3, h4⟩ := ixN_seq e
    exact ⟨j, h1, h, h2, h3, h4⟩
noncomputable def PlainIx (b : Expr) : Prop := ∀ o i, subscripted b false o i = operate [o, i] (getItem o i)
noncomputable def IxR (X : Cx) (r : R2) : Prop :=
  ∀ (value slice : Expr) (pins : List (Addr × Obj)) (s : Shared) (σ : St) (H : Hp) (x y : V) (v u : Value) (Q : VK), Inv X pins σ H s → RelV x v → RelV y u → r x y H Q →
    subscripted slice false v u = operate [v, u] (getItem v u) → wpAny (model X.prog X.w) X.A (subscriptTail value slice v u) (EP X pins σ Q) X.xe s
noncomputable def MtR (X : Cx) (id : String) (r : V → List V → Hp → VK → Prop) : Prop :=
  ∀ (pins : List (Addr × Obj)) (s : Shared) (σ : St) (H : Hp) (x : V) (xs : List V) (v : Value) (us : List Value) (Q : VK), Inv X pins σ H s → RelV x v → Vals xs us → r x xs H Q →
    wpAny (model X.prog X.w) X.A (call (.builtin id) (v :: us)) (EP X pins σ Q) X.xe s
noncomputable section
variable {X : Cx} {a b : Expr} {ta tb : TE} {pos : Pos}
theorem IxR.or {r r' : R2} (h : IxR X r) (h' : IxR X r') : IxR X (fun x y H Q => r x y H Q ∨ r' x y H Q) := by
  intro value slice pins s σ H x y v u Q I rx ry q hs
  rcases q with q | q
  · exact h value slice pins s σ H x y v u Q I rx ry q hs
  · exact h' value slice pins s σ H x y v u Q I rx ry q hs
theorem MtR.or {id : String} {r r' : V → List V → Hp → VK → Prop} (h : MtR X id r) (h' : MtR X id r') : MtR X id (fun x xs H Q => r x xs H Q ∨ r' x xs H Q) := by
  intro pins s σ H x xs v us Q I rx rs q
  rcases q with q | q
  · exact h pins s σ H x xs v us Q I rx rs q
  · exact h' pins s σ H x xs v us Q I rx rs q
theorem pe_ix {r : R2} (hr : IxR X r) (ha : PE X a ta) (hb : PE X b tb) (hs : PlainIx b) : PE X (.Subscript a b pos) (tOp r ta tb) := by
  intro pins s σ H Q I h
  exact Subscript_ (binT ha hb I h fun v u s2 x y H2 I2 rx ry q => hr a b pins s2 σ H2 x y v u Q I2 rx ry q (hs _ _))
noncomputable def rIxL (K : PySem.W.Frag) : R2 := fun x y H Q => ∃ p xs i v, x = .ref p ∧ y = .int i ∧ SqL K H p xs ∧ atI xs i = some v ∧ Q v H
noncomputable def rIxT (K : PySem.W.Frag) : R2 := fun x y H Q => ∃ p xs i v, x = .ref p ∧ y = .int i ∧ SqT K H p xs ∧ atI xs i = some v ∧ Q v H
noncomputable def rIxS : R2 := fun x y H Q => ∃ z i c, x = .str z ∧ y = .int i ∧ z.length ≤ sizeLine ∧ atI z.cps.toList i = some c ∧ Q (.str ⟨#[c]⟩) H
theorem ix_list : IxR X (rIxL X.K) := by
  intro value slice pins s σ H x y v u Q I rx ry h hs
  obtain ⟨p, xs, i, z, rfl, rfl, hq, he, q⟩ := h
  cases rx
  obtain ⟨t, rfl⟩ := ry
  obtain ⟨its, r, pl, hz⟩ := I.list hq
  obtain ⟨j, h1, h2, h3, h4, h5⟩ := atI_get he
  obtain ⟨w, ew, rw'⟩ := r.get h2
  have hl := r.length
  have hn := line63
  have fin : EP X pins σ Q w s := ⟨z, H, I, rw', q⟩
  by_cases h0 : 0 ≤ i
  · have hj : i.toNat = j := by
      rw [seqIndex_of h0 h5] at h1
      exact Option.some.inj h1
    exact item_listR pl.isList h0 (by omega) (by rw [hj]; simpa using ew) fin hs
  · have hj : (i + (its.toArray.size : Int)).toNat = j := by
      rw [seqIndex_neg (by omega) h4] at h1
      rw [List.size_toArray, ← hl]
      exact Option.some.inj h1
    exact subscriptTail_builtinR (x := w) pl.isList.typeIs slot_list_getitem.lookup
      (wpAny_getItem_list_neg (Q := fun r s' => r = w ∧ EP X pins σ Q r s') pl.isList (by omega) (by rw [List.size_toArray] <;> omega) (by omega) (by rw [hj]; simpa using ew) ⟨rfl, fin⟩) hs
theorem ix_tup : IxR X (rIxT X.K) := by
  intro value slice pins s σ H x y v u Q I rx ry h hs
  obtain ⟨p, xs, i, z, rfl, rfl, hq, he, q⟩ := h
  cases rx
  obtain ⟨t, rfl⟩ := ry
  obtain ⟨its, r, pl, hz⟩ := I.tuple hq
  obtain ⟨j, h1, h2, h3, h4, h5⟩ := atI_get he
  obtain ⟨w, ew, rw'⟩ := r.get h2
  have hl := r.length
  have hn := line63
  have fin : EP X pins σ Q w s := ⟨z, H, I, rw', q⟩
  exact subscriptTail_builtinR (x := w) pl.typeIs slot_tuple_getitem.lookup
    (getItem_tuple (j := j) (Q := fun r s' => r = w ∧ EP X pins σ Q r s') pl (by omega) (by omega) (by rw [List.size_toArray, ← hl]; exact h1) (by simpa using ew) ⟨rfl, fin⟩) hs
theorem ix_str : IxR X rIxS := by
  intro value slice pins s σ H x y v u Q I rx ry h hs
  obtain ⟨z, i, c, rfl, rfl, hz, he, q⟩ := h
  obtain ⟨t, rfl⟩ := rx
  obtain ⟨t', rfl⟩ := ry
  obtain ⟨j, h1, h2, h3, h4, h5⟩ := atI_get he
  have hl : z.cps.toList.length = z.length := by simp [Str.length]
  rw [hl] at h1 h4 h5
  have hn := line63
  exact tail_any (typeIs_str s z t) slot_str_getitem.lookup (getItem_str (c := c) (by
    have e1 : decide (i < -(2 ^ 63 : Int)) = false := decide_eq_false (by omega)
    have e2 : decide (i ≥ 2 ^ 63) = false := decide_eq_false (by omega)
    rw [e1, e2, Bool.or_false]) (by rw [h1]; simpa using h2) ⟨.str ⟨#[c]⟩, H, I.tok _, ⟨_, rfl⟩, q⟩) hs
theorem mapSeq_set (its : List Value) (n j : Nat) (u : Value) : Obj.mapSeq (·.setIfInBounds j u) { cls := .type "list", data := .seq its.toArray n } = { cls := .type "list", data := .seq (its.set j u).toArray n } := by
  simp [Obj.mapSeq]
theorem Inv.lst {pins : List (Addr × Obj)} {σ : St} {H : Hp} {s : Shared} {p : Addr} {xs : List V} (I : Inv X pins σ H s) (h : H p = some (.lst xs)) :
    ∃ (its : List Value) (n : Nat), Vals xs its ∧ s.heap.get? p = some { cls := .type "list", data := .seq its.toArray n } ∧ xs.length ≤ sizeLine := by
  obtain ⟨z, its, n, r, e⟩ := I.hok p _ h
  exact ⟨its, n, r, e, z⟩
theorem Inv.lstUpd {pins : List (Addr × Obj)} {σ : St} {H : Hp} {s : Shared} {p : Addr} {xs ys : List V} {its its' : List Value} {n n' : Nat} {f : Obj → Obj} (I : Inv X pins σ H s) (h : H p = some (.lst xs))
    (ho : s.heap.get? p = some { cls := .type "list", data := .seq its.toArray n }) (hf : f { cls := .type "list", data := .seq its.toArray n } = { cls := .type "list", data := .seq its'.toArray n' }) (r : Vals ys its') (hz : ys.length ≤ sizeLine) (t : Nat) :
    Inv X pins σ (upd H p (.lst ys)) { s with heap := s.heap.update p f, toks := t } := by
  have e : (s.heap.update p f).get? p = some { cls := .type "list", data := .seq its'.toArray n' } := by
    rw [Heap.get?_update_self f ho (by rw [hf] <;> rfl), hf]
  refine I.write (x := p) (e := p) (by rw [h]; trivial) (.inl rfl) (fun b u hb q => (Heap.get?_update_other _ _ (Ne.symm hb)).trans q) ⟨_, e⟩ ?_
  exact ⟨hz, its', n', r, e⟩
noncomputable def rSetL : V → V → V → Hp → (Hp → Prop) → Prop := fun o i v H Q => ∃ p xs k j, o = .ref p ∧ i = .int k ∧ H p = some (.lst xs) ∧ ixN xs.length k = some j ∧ Q (upd H p (.lst (xs.set j v)))
theorem set_list : PSet X rSetL := by
  intro pins s σ H o i v ov iv u Q I ro ri rv h
  obtain ⟨p, xs, k, j, rfl, rfl, hp, hj, q⟩ := h
  cases ro
  obtain ⟨t, rfl⟩ := ri
  obtain ⟨its, n, r, ho, hz⟩ := I.lst hp
  obtain ⟨h1, h2, h3, h4⟩ := ixN_seq hj
  have hl := r.length
  have hn := line63
  have I' : Inv X pins σ (upd H p (.lst (xs.set j v))) { s with heap := s.heap.update p (Obj.mapSeq (·.setIfInBounds j u)) } :=
    I.lstUpd hp ho (mapSeq_set its n j u) (r.set rv j) (by rw [List.length_set]; exact hz) s.toks
  by_cases h0 : 0 ≤ k
  · have hk : k.toNat = j := by
      rw [seqIndex_of h0 h4] at h1
      exact Option.some.inj h1
    exact PySem.W.ki_setAt ho h0 (by omega) (by rw [List.size_toArray, ← hl]; exact h4) (by rw [hk]; exact ⟨_, I', q⟩)
  · have hk : (k + (its.toArray.size : Int)).toNat = j := by
      rw [seqIndex_neg (by omega) h3] at h1
      rw [List.size_toArray, ← hl]
      exact Option.some.inj h1
    exact PySem.W.ki_setBack ho (by omega) (by rw [List.size_toArray, ← hl]; exact h3) (by omega) (by rw [hk]; exact ⟨_, I', q⟩)
theorem slice_bounds (lo hi : Option Int) (n : Nat) : (sliceBounds lo hi none n).1 = ((HT.sIx n 0 lo : Nat) : Int) ∧ (sliceBounds lo hi none n).2.1 = ((HT.sIx n n hi : Nat) : Int) ∧ (sliceBounds lo hi none n).2.2 = 1 := by
  refine ⟨?_, ?_, rfl⟩
  · cases lo with
    | none => simp [sliceBounds, HT.sIx]
    | some i =>
      simp only [sliceBounds, HT.sIx, Option.getD_none, show (1 : Int) > 0 by decide, if_true]
      by_cases h : i < 0
      · simp only [h, if_true] <;> omega
      · simp only [h, if_false] <;> omega
  · cases hi with
    | none => simp [sliceBounds, HT.sIx]
    | some i =>
      simp only [sliceBounds, HT.sIx, Option.getD_none, show (1 : Int) > 0 by decide, if_true]
      by_cases h : i < 0
      · simp only [h, if_true] <;> omega
      · simp only [h, if_false] <;> omega
theorem slicePick_cut (its : List Value) (lo hi : Option Int) : slicePick its.toArray lo hi none = ((its.drop (HT.sIx its.length 0 lo)).take (HT.sIx its.length its.length hi - HT.sIx its.length 0 lo)).toArray := by
  obtain ⟨h1, h2, h3⟩ := slice_bounds lo hi its.toArray.size
  unfold slicePick
  rw [h1, h2, h3]
  simp only [sliceRange_one, pick_run, List.size_toArray] <;> rfl
noncomputable def rSlL (K : PySem.W.Frag) : V → Option Int → Option Int → Hp → VK → Prop := fun x lo hi H Q => ∃ a xs, x = .ref a ∧ SqL K H a xs ∧ ∀ p, H p = none → Q (.ref p) (upd H p (.lst (cutV xs lo hi)))
theorem sl_list : SlR X (rSlL X.K) := by
  intro pins s σ H x v vl vu lo hi sl Q I rx hs pl pu h
  obtain ⟨a, xs, rfl, hx, q⟩ := h
  cases rx
  obtain ⟨its, r, ht, hz⟩ := I.list hx
  have hlen := r.length
  refine ⟨"list", _, slot_list_getitem.lookup, ht.isList.typeIs, ?_⟩
  refine wpAny_getItem_list_slice ht.isList hs pl pu .none (by simp) ?_ (by rw [List.size_toArray] <;> omega)
  rw [slicePick_cut, ← hlen]
  refine ⟨.ref s.heap.objs.size, _, I.laid (t' := s.toks) (o := .lst (cutV xs lo hi)) (fun b ob q => Heap.get?_push_of_some _ q) (Nat.le_refl _) ?_, rfl, q _ (I.hok.fresh (Nat.le_refl _))⟩
  exact ⟨Nat.le_trans (cutV_length xs lo hi) hz, _, 0, (r.drop (HT.sIx xs.length 0 lo)).take (HT.sIx xs.length xs.length hi - HT.sIx xs.length 0 lo), Heap.get?_push_size _ rfl⟩
theorem call_len_seq : CallR X (.builtin "len") (fun xs H Q => ∃ p ys, xs = [.ref p] ∧ (SqL X.K H p ys ∨ SqT X.K H p ys) ∧ Q (.int ys.length) H) := by
  intro pins s σ H xs us Q I r h
  obtain ⟨p, ys, rfl, hq, q⟩ := h
  obtain ⟨u, rfl, rx⟩ := vals1 r
  cases rx
  have hn := line63
  rcases hq with hq | hq
  · obtain ⟨its, r', pl, hz⟩ := I.list hq
    have hlen := r'.length
    exact Calls.call_len_list pl.isList (by simp only [List.size_toArray] <;> omega) ⟨.int ys.length, H, I.tok _, ⟨s.toks + 1, by rw [List.size_toArray, hlen]⟩, q⟩
  · obtain ⟨its, r', pl, hz⟩ := I.tuple hq
    have hlen := r'.length
    exact len_tuple pl (by simp only [List.size_toArray] <;> omega) ⟨.int ys.length, H, I.tok _, ⟨s.toks + 1, by rw [List.size_toArray, hlen]⟩, q⟩
theorem call_len_str : CallR X (.builtin "len") (fun xs H Q => ∃ z, xs = [.str z] ∧ z.length ≤ sizeLine ∧ Q (.int z.length) H) := by
  intro pins s σ H xs us Q I r h
  obtain ⟨z, rfl, hz, q⟩ := h
  obtain ⟨u, rfl, t, rfl⟩ := vals1 r
  have hn := line63
  exact len_str (by omega) ⟨.int z.length, H, I.tok _, ⟨_, rfl⟩, q⟩
theorem CallR.or {f : Value} {r r' : List V → Hp → VK → Prop} (h : CallR X f r) (h' : CallR X f r') : CallR X f (fun xs H Q => r xs H Q ∨ r' xs H Q) := by
  intro pins s σ H xs us Q I rs q
  rcases q with q | q
  · exact h pins s σ H xs us Q I rs q
  · exact h' pins s σ H xs us Q I rs q
theorem call_list_of : CallR X (.type "list") (fun xs H Q => ∃ p ys, xs = [.ref p] ∧ (SqL X.K H p ys ∨ SqT X.K H p ys) ∧ ∀ l, H l = none → Q (.ref l) (upd H l (.lst ys))) := by
  intro pins s σ H xs us Q I r h
  obtain ⟨p, ys, rfl, hq, q⟩ := h
  obtain ⟨u, rfl, rx⟩ := vals1 r
  cases rx
  have fin : ∀ (its : List Value), Vals ys its → ys.length ≤ sizeLine → ∀ (h' : Heap) (c' : Nat), (∀ b o', s.heap.get? b = some o' → h'.get? b = some o') →
      h'.get? s.heap.objs.size = some { cls := .type "list", dict := none, data := .seq its.toArray c', slots := #[] } → EP X pins σ Q (.ref s.heap.objs.size) { s with heap := h' } := fun its r' hz h' c' kp e =>
    ⟨.ref s.heap.objs.size, _, I.laid (t' := s.toks) kp (Nat.le_refl _) (show ObjOk X.prog X.w _ h' _ (.lst ys) from ⟨hz, its, c', r', e⟩), rfl, q _ (I.hok.fresh (Nat.le_refl _))⟩
  rcases hq with hq | hq
  · obtain ⟨its, r', pl, hz⟩ := I.list hq
    have hlen := r'.length
    obtain ⟨o, ho, hc, n, hd⟩ := pl.isList
    exact call_list_seq p (.inl rfl) ho hc hd (fun h' c' kp e => fin its r' hz h' c' kp e) (by simp only [List.size_toArray] <;> omega)
  · obtain ⟨its, r', pl, hz⟩ := I.tuple hq
    have hlen := r'.length
    obtain ⟨o, ho, hc, n, hd⟩ := pl
    exact call_list_seq p (.inr rfl) ho hc hd (fun h' c' kp e => fin its r' hz h' c' kp e) (by simp only [List.size_toArray] <;> omega)
theorem call_tuple_of : CallR X (.type "tuple") (fun xs H Q => ∃ p ys, xs = [.ref p] ∧ ((SqL X.K H p ys ∧ ∀ l, H l = none → Q (.ref l) (upd H l (.tup ys))) ∨ (SqT X.K H p ys ∧ Q (.ref p) H))) := by
  intro pins s σ H xs us Q I r h
  obtain ⟨p, ys, rfl, h⟩ := h
  obtain ⟨u, rfl, rx⟩ := vals1 r
  cases rx
  rcases h with ⟨hq, q⟩ | ⟨hq, q⟩
  · obtain ⟨its, r', pl, hz⟩ := I.list hq
    have hlen := r'.length
    refine call_tuple_list pl.isList (fun h' kp => ?_) (by simp only [List.size_toArray] <;> omega)
    have I1 : Inv X pins σ H { s with heap := h' } := I.kept (t' := s.toks) kp
    have I2 : Inv X pins σ (upd H h'.objs.size (.tup ys)) { s with heap := h'.push { cls := .type "tuple", data := .seq its.toArray } } :=
      I1.laid (t' := s.toks) (fun b o e => Heap.get?_push_of_some _ e) (Nat.le_refl _) (show ObjOk X.prog X.w _ _ _ (.tup ys) from ⟨hz, its, r', TupD.new _ _⟩)
    exact ⟨.ref h'.objs.size, _, I2, rfl, q _ (I1.hok.fresh (Nat.le_refl _))⟩
  · obtain ⟨its, r', pl, hz⟩ := I.tuple hq
    exact call_tuple_same pl ⟨.ref p, H, I, rfl, q⟩
noncomputable def tyV (K : PySem.W.Frag) (T : String) (x : V) (H : Hp) : Prop := match x with
  | .str _ => T = "str"
  | .int _ => T = "int"
  | .ref p => (T = "list" ∧ ∃ xs, SqL K H p xs) ∨ (T = "tuple" ∧ ∃ o, K.lookup p = some o ∧ o.cls = .type "tuple" ∧ o.dict = none) ∨
      (T = "dict" ∧ ((∃ kvs, H p = some (.dK kvs)) ∨ ∃ kvs, H p = some (.dT kvs))) ∨ (T = "set" ∧ ∃ S n, H p = some (.set S n))
  | _ => False
theorem tyV_is {pins : List (Addr × Obj)} {σ : St} {H : Hp} {s : Shared} {T : String} {x : V} {v : Value} (I : Inv X pins σ H s) (r : RelV x v) (ty : tyV X.K T x H) :
    s.TypeIs v T ∧ ∀ a, v = .ref a → ∃ ob, s.heap.get? a = some ob ∧ ob.dict = none := by
  cases x with
  | str z =>
    obtain ⟨t, rfl⟩ := r
    cases (show T = "str" from ty)
    exact ⟨typeIs_str s z t, fun _ e => nomatch e⟩
  | int i =>
    obtain ⟨t, rfl⟩ := r
    cases (show T = "int" from ty)
    exact ⟨typeIs_int s i t, fun _ e => nomatch e⟩
  | ref p =>
    cases r
    rcases ty with ⟨rfl, xs, hq⟩ | ⟨rfl, o, hk, hc, hd⟩ | ⟨rfl, hk⟩ | ⟨rfl, S, n, hk⟩
    · obtain ⟨its, _, pl, _⟩ := I.list hq
      refine ⟨pl.isList.typeIs, fun a e => ?_⟩
      cases e
      obtain ⟨o, n, e, c, hd, _⟩ := pl
      exact ⟨o, e, hd⟩
    · refine ⟨⟨o, I.kIn p o hk, hc⟩, fun a e => ?_⟩
      cases e
      exact ⟨o, I.kIn _ o hk, hd⟩
    · have z : ∃ o, s.heap.get? p = some o ∧ o.ExactDict := by
        rcases hk with ⟨kvs, hk⟩ | ⟨kvs, hk⟩
        · obtain ⟨_, _, _, _, o, _, _, e, ex, _⟩ := I.hok p _ hk
          exact ⟨o, e, ex⟩
        · obtain ⟨_, _, _, _, o, _, _, e, ex, _⟩ := I.hok p _ hk
          exact ⟨o, e, ex⟩
      obtain ⟨o, e, ex⟩ := z
      refine ⟨⟨o, e, ex.1⟩, fun a e2 => ?_⟩
      cases e2
      exact ⟨o, e, ex.2.1⟩
    · obtain ⟨o, _, _, _, e, ex, _⟩ := I.hok p _ hk
      refine ⟨⟨o, e, ex.1⟩, fun a e2 => ?_⟩
      cases e2
      exact ⟨o, e, ex.2.1⟩
  | _ => exact False.elim ty
noncomputable def tBM0 (K : PySem.W.Frag) (T : String) (r : V → List V → Hp → VK → Prop) (to : TE) : TE := fun σ H Q => to σ H fun x H1 => tyV K T x H1 ∧ r x [] H1 Q
noncomputable def tBM (K : PySem.W.Frag) (T : String) (r : V → List V → Hp → VK → Prop) (to : TE) (t : TA) : TE := fun σ H Q => to σ H fun x H1 => tyV K T x H1 ∧ t σ H1 fun xs H2 => r x xs H2 Q
variable {o e : Expr} {es : List Expr} {to : TE} {t : TA} {name : Str} {apos cpos : Pos} {T id : String} {r : V → List V → Hp → VK → Prop}
theorem pe_bm0 (pa : PlainAttrs T) (slot : Slot T name id) (hty : typeOf (.builtin id) = pure (.type "method_descriptor")) (hm : MtR X id r) (ho : PE X o to)
    (hbase : attributeBase o name X.env (eval o X.env) = eval o X.env := by rfl) (hline : (apos.endLine == cpos.line) = true := by rfl) : PE X (.Call (.Attribute o name apos) [] [] cpos) (tBM0 X.K T r to) := by
  intro pins s σ H Q I h
  refine wpAny_Call_method0_late hbase hline (thn (ho pins s σ H _ I h) fun v s1 ⟨x, H1, I1, r1, ty, q1⟩ => ?_)
  obtain ⟨h1, h2⟩ := tyV_is I1 r1 ty
  exact ⟨T, id, pa, slot, hty, h1, h2, Calls.callWith_builtin rfl (PySem.evalArgs_none (hm pins s1 σ H1 x [] v [] Q I1 r1 .nil q1))⟩
theorem pe_bm (pa : PlainAttrs T) (slot : Slot T name id) (hty : typeOf (.builtin id) = pure (.type "method_descriptor")) (hm : MtR X id r) (ho : PE X o to) (ha : PA X (e :: es) t)
    (hbase : attributeBase o name X.env (eval o X.env) = eval o X.env := by rfl)
    (hfew : ((backTo cpos (starEach (e :: es) X.env)).all (fun x => !x.1) && (backToKw cpos (keywordEach [] X.env)).all (fun x => x.1.isSome)
      && decide ((e :: es).length + ([] : List Keyword).length + (if ([] : List Keyword).isEmpty then 0 else 1) < 30)) = true := by rfl)
    (hline : (apos.endLine == cpos.line) = true := by rfl) (hs : starEach (e :: es) X.env = (false, eval e X.env) :: starEach es X.env := by rfl) (hplain : (backTo cpos (starEach es X.env)).any (·.1) = false := by rfl) :
    PE X (.Call (.Attribute o name apos) (e :: es) [] cpos) (tBM X.K T r to t) := by
  intro pins s σ H Q I h
  refine wpAny_Call_method_late hbase hfew hline rfl (thn (ho pins s σ H _ I h) fun v s1 ⟨x, H1, I1, r1, ty, q1⟩ => ?_)
  obtain ⟨h1, h2⟩ := tyV_is I1 r1 ty
  refine ⟨T, id, pa, slot, hty, h1, h2, ?_⟩
  have hA := ha cpos pins s1 σ H1 _ I1 q1
  rw [hs] at hA ⊢
  refine Calls.callWith_builtin (by show (false || (backTo cpos (starEach es X.env)).any (·.1)) = false; rw [hplain] <;> rfl) (Calls.evalArgs_plain ?_)
  exact thn hA fun us s2 ⟨vs, H2, I2, r2, q2⟩ => hm pins s2 σ H2 x vs v us Q I2 r1 r2 q2
end
end L2
namespace L2
open PySem PySem.Spec PyProof.Rows
noncomputable def MtM (X : Cx) (id : String) (r : V → List V → Hp → VK → Prop) : Prop :=
  ∀ (pins : List (Addr × Obj)) (s : Shared) (σ : St) (H : Hp) (x : V) (xs : List V) (v : Value) (us : List Value) (Q : VK), Inv X pins σ H s → RelV x v → Vals xs us → r x xs H Q →
    wpAny (model X.prog X.w) X.A (call (.builtin id) (v :: us)) (EP X pins σ Q) X.xe s
theorem Vals.one : ∀ {x : V} {us : List Value}, Vals [x] us → ∃ u, us = [u] ∧ RelV x u
  | _, _, .cons r .nil => ⟨_, rfl, r⟩
theorem Vals.two : ∀ {x y : V} {us : List Value}, Vals [x, y] us → ∃ u v, us = [u, v] ∧ RelV x u ∧ RelV y v
  | _, _, _, .cons r (.cons q .nil) => ⟨_, _, rfl, r, q⟩
theorem Vals.zero : ∀ {us : List Value}, Vals [] us → us = []
  | _, .nil => rfl
theorem Vals.dropLast {xs : List V} {us : List Value} (h : Vals xs us) : Vals xs.dropLast us.dropLast := by
  induction h with
  | nil => exact .nil
  | cons r t ih =>
    cases t with
    | nil => exact .nil
    | cons q t' => exact .cons r ih
theorem Vals.reverse {xs : List V} {us : List Value} (h : Vals xs us) : Vals xs.reverse us.reverse := by
  induction h with
  | nil => exact .nil
  | cons r t ih => rw [List.reverse_cons, List.reverse_cons]; exact Vals.append ih (.cons r .nil)
theorem Vals.rep {xs : List V} {us : List Value} (h : Vals xs us) : ∀ k : Nat, Vals (List.replicate k xs).flatten (List.replicate k us).flatten
  | 0 => .nil
  | k + 1 => by
    rw [List.replicate_succ, List.replicate_succ, List.flatten_cons, List.flatten_cons]
    exact Vals.append h (Vals.rep h k)
theorem erase_last {α : Type} (l : List α) : l.eraseIdx (l.length - 1) = l.dropLast := by
  induction l with
  | nil => rfl
  | cons a r ih =>
    cases r with
    | nil => rfl
    | cons b r =>
      have e : (a :: b :: r).length - 1 = ((b :: r).length - 1) + 1 := by
        have h1 : (a :: b :: r).length = r.length + 2 := rfl
        have h2 : (b :: r).length = r.length + 1 := rfl
        omega
      rw [e, List.eraseIdx_cons_succ, ih]
      all_goals rfl
noncomputable section
variable {X : Cx} {pins : List (Addr × Obj)} {σ : St} {H : Hp} {s : Shared} {l b : Addr} {xs ys zs : List V}
theorem Inv.lset {its its' : List Value} {n : Nat} {f : Array Value → Array Value} {t' : Nat} (I : Inv X pins σ H s) (hH : H l = some (.lst xs))
    (e : s.heap.get? l = some { cls := .type "list", data := .seq its.toArray n }) (hf : f its.toArray = its'.toArray) (hv : Vals ys its') (hz : ys.length ≤ sizeLine) :
    Inv X pins σ (upd H l (.lst ys)) { s with heap := s.heap.update l (Obj.mapSeq f), toks := t' } := by
  have q := PySem.IsL.update e f
  rw [hf] at q
  refine I.write (x := l) (e := l) (by rw [hH]; exact trivial) (.inl rfl) (fun b' u hb hu => (Heap.get?_update_other s.heap (Obj.mapSeq f) (Ne.symm hb)).trans hu) ⟨_, q⟩ ?_
  exact ⟨hz, its', _, hv, q⟩
theorem Inv.lnew {its : List Value} {t' : Nat} (I : Inv X pins σ H s) (hv : Vals ys its) (hz : ys.length ≤ sizeLine) :
    Inv X pins σ (upd H s.heap.objs.size (.lst ys)) { s with heap := s.heap.push { cls := .type "list", data := .seq its.toArray }, toks := t' } :=
  I.laid (fun _ _ q => Heap.get?_push_of_some _ q) (Nat.le_refl _) ⟨hz, its, 0, hv, Heap.get?_push_size _ rfl⟩
theorem Inv.fresh (I : Inv X pins σ H s) : H s.heap.objs.size = none := I.hok.fresh (Nat.le_refl _)
theorem Inv.lstM (I : Inv X pins σ H s) (hH : H l = some (.lst xs)) : xs.length ≤ sizeLine ∧ ∃ (its : List Value) (n : Nat), Vals xs its ∧ xs.length = its.length ∧ s.heap.get? l = some { cls := .type "list", data := .seq its.toArray n } := by
  obtain ⟨z, its, n, r, e⟩ := I.hok l _ hH
  exact ⟨z, its, n, r, r.length, e⟩
theorem notLongL {n : Nat} (h : n ≤ sizeLine) : Builtin.List.listTooLong n = false := by
  unfold Builtin.List.listTooLong
  exact decide_eq_false (by omega)
end
noncomputable section
variable {X : Cx}
noncomputable def rAppend : V → List V → Hp → VK → Prop := fun x vs H Q => ∃ l xs y, x = .ref l ∧ vs = [y] ∧ H l = some (.lst xs) ∧ xs.length < sizeLine ∧ Q .non (upd H l (.lst (xs ++ [y])))
theorem mt_append : MtM X "list.append" rAppend := by
  intro pins s σ H x vs v us Q I rx rv h
  obtain ⟨l, xs, y, rfl, rfl, hH, hz, q⟩ := h
  cases rx
  obtain ⟨u, rfl, ru⟩ := rv.one
  obtain ⟨z, its, n, r, hl, e⟩ := I.lstM hH
  refine call_meets F.slot_list_append ⟨_, e, rfl⟩ F.entry_list_append (F.args_list_append_2 _ _) (PySem.list_append l its.toArray n u (by rw [List.size_toArray]; omega)) ⟨e, ?_⟩
  refine ⟨.non, _, I.lset (its' := its ++ [u]) hH e (by simp) (r.append (.cons ru .nil)) ?_, rfl, q⟩
  rw [List.length_append, List.length_singleton]
  omega
noncomputable def rPop : V → List V → Hp → VK → Prop := fun x vs H Q => ∃ l xs y, x = .ref l ∧ vs = [] ∧ H l = some (.lst xs) ∧ xs[xs.length - 1]? = some y ∧ Q y (upd H l (.lst xs.dropLast))
theorem mt_pop : MtM X "list.pop" rPop := by
  intro pins s σ H x vs v us Q I rx rv h
  obtain ⟨l, xs, y, rfl, rfl, hH, hy, q⟩ := h
  cases rx
  have hus := rv.zero
  subst hus
  obtain ⟨z, its, n, r, hl, e⟩ := I.lstM hH
  obtain ⟨u, hu, ru⟩ := r.get hy
  have hy' : its.toArray[its.toArray.size - 1]? = some u := by
    show its.toArray[its.length - 1]? = some u
    rw [← Array.getElem?_toList, ← hl]
    exact hu
  refine call_meets F.slot_list_pop ⟨_, e, rfl⟩ F.entry_list_pop (F.args_list_pop_1 _) (MeetsSeq.list_pop_last l its.toArray n u hy' (by rw [List.size_toArray]; omega)) ⟨e, ?_⟩
  refine ⟨y, _, I.lset (its' := its.dropLast) hH e ?_ r.dropLast ?_, ru, q⟩
  · show its.toArray.eraseIdxIfInBounds (its.toArray.size - 1) = its.dropLast.toArray
    rw [List.size_toArray, List.eraseIdxIfInBounds_toArray, erase_last]
  · rw [List.length_dropLast]
    omega
end
noncomputable section
variable {prog : Program} {w : World} {A : Around} {E : Value → Shared → Prop} {s : Shared}
end
noncomputable section
variable {X : Cx}
end
end L2
end
noncomputable section
set_option linter.all false
set_option maxRecDepth 100000
namespace L2
open PySem PySem.Spec PyProof.Rows
noncomputable section
variable {κ : Type} [DecidableEq κ]
noncomputable def valV (kvs : List (κ × V)) (k : κ) : Option V := (kvs.find? fun kv => decide (kv.1 = k)).map (·.2)
noncomputable def putK (kvs : List (κ × V)) (k : κ) (v : V) : List (κ × V) :=
  if (kvs.any fun kv => decide (kv.1 = k)) = true then kvs.map (fun kv => if kv.1 = k then (kv.1, v) else kv) else kvs ++ [(k, v)]
theorem valV_pos {p : κ × V} {r : List (κ × V)} {k : κ} (e : p.1 = k) : valV (p :: r) k = some p.2 := by simp [valV, List.find?_cons, e]
theorem valV_neg {p : κ × V} {r : List (κ × V)} {k : κ} (e : ¬ p.1 = k) : valV (p :: r) k = valV r k := by simp [valV, List.find?_cons, e]
theorem RelO.isSome_eq {o : Option V} {u : Option Value} (r : RelO o u) : o.isSome = u.isSome := by
  cases o with
  | none => cases u with
    | none => rfl
    | some _ => exact (show False from r).elim
  | some _ => cases u with
    | none => exact (show False from r).elim
    | some _ => rfl
theorem RelO.getD {o : Option V} {u : Option Value} {d : V} {d' : Value} (r : RelO o u) (rd : RelV d d') : RelV (o.getD d) (u.getD d') := by
  cases o with
  | none => cases u with
    | none => exact rd
    | some _ => exact (show False from r).elim
  | some _ => cases u with
    | none => exact (show False from r).elim
    | some _ => exact r
theorem KV.val {kvs : List (κ × V)} {vs : List (κ × Value)} (r : KV kvs vs) (k : κ) : RelO (valV kvs k) (valueAt vs k) := by
  unfold KV at r
  induction r with
  | nil => exact True.intro
  | @cons p q ps qs h t ih =>
    obtain ⟨h1, h2⟩ := h
    by_cases e : p.1 = k
    · have e' : q.1 = k := h1.symm.trans e
      have b : valueAt (q :: qs) k = some q.2 := by simp [valueAt, List.find?_cons, e']
      rw [valV_pos e, b]; exact h2
    · have e' : ¬ q.1 = k := fun z => e (h1.trans z)
      have b : valueAt (q :: qs) k = valueAt qs k := by simp [valueAt, List.find?_cons, e']
      rw [valV_neg e, b]; exact ih
theorem KV.any {kvs : List (κ × V)} {vs : List (κ × Value)} (r : KV kvs vs) (k : κ) : (kvs.any fun kv => decide (kv.1 = k)) = vs.any fun kv => decide (kv.1 = k) := by
  unfold KV at r
  induction r with
  | nil => rfl
  | cons h t ih => rw [List.any_cons, List.any_cons, ih, h.1]
theorem KV.keys {kvs : List (κ × V)} {vs : List (κ × Value)} (r : KV kvs vs) : kvs.map (·.1) = vs.map (·.1) := by
  unfold KV at r
  induction r with
  | nil => rfl
  | cons h t ih => rw [List.map_cons, List.map_cons, ih, h.1]
theorem KV.length {kvs : List (κ × V)} {vs : List (κ × Value)} (r : KV kvs vs) : kvs.length = vs.length := Paired.length r
end
theorem kV_is {P : Program} {w : World} {k : Key} {u : Value} (r : RelV (kV k) u) : (mixKind P w).is k u = true := by
  cases k with
  | inl i => obtain ⟨t, e⟩ := (show ∃ t, u = Value.int i t from r); subst e; exact mixKind_int P w i t
  | inr x => obtain ⟨t, e⟩ := (show ∃ t, u = Value.str x t from r); subst e; exact mixKind_str P w x t
theorem items_are {P : Program} {w : World} : ∀ {ks : List Key} {us : List Value}, Vals (ks.map kV) us → ItemsAre (mixKind P w) ks us
  | [], _, r => by rw [List.map_nil] at r; cases r; exact .nil
  | k :: ks, _, r => by
    rw [List.map_cons] at r
    cases r with
    | cons h t => exact .cons (kV_is h) (items_are t)
noncomputable abbrev KT (H : Hp) : List (List Key × V) → List (List Key × Addr × Value) → Prop := Paired fun p q => p.1 = q.1 ∧ H q.2.1 = some (.tup (p.1.map kV)) ∧ RelV p.2 q.2.2
theorem KT.val {H : Hp} {kvs : List (List Key × V)} {xs : List (List Key × Addr × Value)} (r : KT H kvs xs) (k : List Key) : RelO (valV kvs k) ((atKey xs k).map (·.2)) := by
  induction r with
  | nil => exact True.intro
  | @cons p q ps qs h t ih =>
    obtain ⟨h1, _, h2⟩ := h
    by_cases e : p.1 = k
    · have e' : q.1 = k := h1.symm.trans e
      have b : atKey (q :: qs) k = some q.2 := by simp [atKey, List.find?_cons, e']
      rw [valV_pos e, b]; exact h2
    · have e' : ¬ q.1 = k := fun z => e (h1.trans z)
      have b : atKey (q :: qs) k = atKey qs k := by simp [atKey, List.find?_cons, e']
      rw [valV_neg e, b]; exact ih
noncomputable section
variable {P : Program} {w : World} {H : Hp} {h : Heap} {a : Addr}
theorem rd_of {u : HO} (ok : HOk P w H h) (e : Rd H a u) : ObjOk P w H h a u := e.ok ok
theorem dk_rd {kvs : List (Key × V)} (ok : HOk P w H h) (e : Rd H a (.dK kvs)) : kvs.length ≤ sizeLine ∧ (a == sysModules) = false ∧ ∃ vs, KV kvs vs ∧ h.DictOf (mixKind P w) a vs :=
  show ObjOk P w H h a (.dK kvs) from rd_of ok e
theorem key_of {ks : List Key} (ok : HOk P w H h) (e : H a = some (.tup (ks.map kV))) : (tupleKind (mixKind P w)).is h ks a := by
  obtain ⟨_, its, r, o, h1, h2, _, n, h3⟩ := (show ObjOk P w H h a (.tup (ks.map kV)) from ok a _ e)
  exact ⟨o, its.toArray, n, h1, h2, h3, by simpa using items_are r⟩
theorem dt_rd {kvs : List (List Key × V)} (ok : HOk P w H h) (e : Rd H a (.dT kvs)) : kvs.length ≤ sizeLine ∧ (a == sysModules) = false ∧
    ∃ xs, KT H kvs xs ∧ h.DictOfH (tupleKind (mixKind P w)) a xs := by
  obtain ⟨z, y, xs, r, o, es, ep, h1, h2, h3, h4, h5⟩ := (show ObjOk P w H h a (.dT kvs) from rd_of ok e)
  refine ⟨z, y, xs, r, o, es, ep, h1, h2, h3, h4, fun x hx => ?_, h5⟩
  have all : ∀ {l : List (List Key × V)} {m : List (List Key × Addr × Value)}, KT H l m → ∀ x ∈ m, (tupleKind (mixKind P w)).is h x.1 x.2.1 := by
    intro l m q
    induction q with
    | nil => intro x hx; exact nomatch hx
    | @cons p q ps qs hq t ih =>
      intro x hx
      rcases List.mem_cons.mp hx with e | hx
      · subst e
        exact key_of ok (by rw [← hq.1]; exact hq.2.1)
      · exact ih x hx
  exact all r x hx
end
noncomputable def DGet (H : Hp) (a : Addr) (y : V) (r : Option V) : Prop :=
  (∃ kvs k, Rd H a (.dK kvs) ∧ y = kV k ∧ r = valV kvs k) ∨ ∃ kvs k b, Rd H a (.dT kvs) ∧ y = .ref b ∧ H b = some (.tup (k.map kV)) ∧ r = valV kvs k
noncomputable def DPut (H : Hp) (a : Addr) (y v : V) (H' : Hp) : Prop :=
  (∃ kvs k, H a = some (.dK kvs) ∧ y = kV k ∧ kvs.length < sizeLine ∧ H' = upd H a (.dK (putK kvs k v))) ∨
  ∃ kvs k b, H a = some (.dT kvs) ∧ y = .ref b ∧ H b = some (.tup (k.map kV)) ∧ kvs.length < sizeLine ∧ H' = upd H a (.dT (putK kvs k v))
theorem DGet.k {H : Hp} {a : Addr} {kvs : List (Key × V)} {k : Key} (e : H a = some (.dK kvs)) : DGet H a (kV k) (valV kvs k) := .inl ⟨kvs, k, .inl e, rfl, rfl⟩
theorem DGet.t {H : Hp} {a b : Addr} {kvs : List (List Key × V)} {k : List Key} (e : H a = some (.dT kvs)) (eb : H b = some (.tup (k.map kV))) : DGet H a (.ref b) (valV kvs k) := .inr ⟨kvs, k, b, .inl e, rfl, eb, rfl⟩
theorem DPut.k {H : Hp} {a : Addr} {kvs : List (Key × V)} {k : Key} {v : V} (e : H a = some (.dK kvs)) (hl : kvs.length < sizeLine) : DPut H a (kV k) v (upd H a (.dK (putK kvs k v))) := .inl ⟨kvs, k, e, rfl, hl, rfl⟩
theorem DPut.t {H : Hp} {a b : Addr} {kvs : List (List Key × V)} {k : List Key} {v : V} (e : H a = some (.dT kvs)) (eb : H b = some (.tup (k.map kV))) (hl : kvs.length < sizeLine) :
    DPut H a (.ref b) v (upd H a (.dT (putK kvs k v))) := .inr ⟨kvs, k, b, e, rfl, eb, hl, rfl⟩
noncomputable section
variable {X : Cx} {pins : List (Addr × Obj)} {σ : St} {H : Hp} {s : Shared} {a : Addr} {y v : V} {u r : Value} {o : Option V} {A : Around} {E : Value → Shared → Prop}
theorem d_getItem {Q : Value → Shared → Prop} (hu : A.units + 1 < cLine) (I : Inv X pins σ H s) (g : DGet H a y (some v)) (ry : RelV y u) (h : ∀ w' s', Inv X pins σ H s' → RelV v w' → Q w' s') :
    wpAny (model X.prog X.w) A (getItem (.ref a) u) Q E s := by
  rcases g with ⟨kvs, k, e, ey, l⟩ | ⟨kvs, k, b, e, ey, eb, l⟩
  · subst ey
    obtain ⟨z, hd, vs, rel, dd⟩ := dk_rd I.hok e
    obtain ⟨w', hw, rw'⟩ := RelO.some_of (v := v) (o := valueAt vs k) (by rw [l]; exact rel.val k)
    exact wpAny_getItem_of (kV_is ry) dd.mapOf hw (h w' _ (I.tok _) rw')
  · subst ey
    cases (show u = Value.ref b from ry)
    obtain ⟨z, hd, xs, rel, dd⟩ := dt_rd I.hok e
    obtain ⟨w', hw, rw'⟩ := RelO.some_of (v := v) (o := (atKey xs k).map (·.2)) (by rw [l]; exact rel.val k)
    obtain ⟨p, hp, hp2⟩ := Option.map_eq_some_iff.mp hw
    refine wpAny_getItem_heap (tupleKind_room_in1 hu) (key_of I.hok eb) dd hp ?_
    rw [hp2]
    exact h w' _ (I.tok _) rw'
theorem d_in {Q : Value → Shared → Prop} (hu : A.units + 1 < cLine) (I : Inv X pins σ H s) (g : DGet H a y o) (ry : RelV y u) (h : ∀ s', Inv X pins σ H s' → Q (.bool o.isSome) s') :
    wpAny (model X.prog X.w) A (compareOp .In u (.ref a)) Q E s := by
  rcases g with ⟨kvs, k, e, ey, l⟩ | ⟨kvs, k, b, e, ey, eb, l⟩
  · subst ey
    obtain ⟨z, hd, vs, rel, dd⟩ := dk_rd I.hok e
    refine wpAny_in_of (kV_is ry) hd dd.mapOf ?_
    rw [← (rel.val k).isSome_eq, ← l]
    exact h _ (I.tok _)
  · subst ey
    cases (show u = Value.ref b from ry)
    obtain ⟨z, hd, xs, rel, dd⟩ := dt_rd I.hok e
    refine wpAny_in_heap (tupleKind_room_in1 hu) (key_of I.hok eb) hd dd ?_
    have q := (rel.val k).isSome_eq
    rw [Option.isSome_map] at q
    rw [← q, ← l]
    exact h _ (I.tok _)
theorem d_notIn {Q : Value → Shared → Prop} (hu : A.units + 1 < cLine) (I : Inv X pins σ H s) (g : DGet H a y o) (ry : RelV y u) (h : ∀ s', Inv X pins σ H s' → Q (.bool (!o.isSome)) s') :
    wpAny (model X.prog X.w) A (compareOp .NotIn u (.ref a)) Q E s := by
  rcases g with ⟨kvs, k, e, ey, l⟩ | ⟨kvs, k, b, e, ey, eb, l⟩
  · subst ey
    obtain ⟨z, hd, vs, rel, dd⟩ := dk_rd I.hok e
    refine wpAny_notIn_of (kV_is ry) hd dd.mapOf ?_
    rw [← (rel.val k).isSome_eq, ← l]
    exact h _ (I.tok _)
  · subst ey
    cases (show u = Value.ref b from ry)
    obtain ⟨z, hd, xs, rel, dd⟩ := dt_rd I.hok e
    refine wpAny_notIn_heap (tupleKind_room_in1 hu) (key_of I.hok eb) hd dd ?_
    have q := (rel.val k).isSome_eq
    rw [Option.isSome_map] at q
    rw [← q, ← l]
    exact h _ (I.tok _)
end
noncomputable section
variable {X : Cx} {pins : List (Addr × Obj)} {σ : St} {H : Hp} {s : Shared} {a : Addr} {kvs : List (Key × V)} {k : Key} {u : Value} {A : Around} {E : Value → Shared → Prop}
theorem d_len {Q : Value → Shared → Prop} (I : Inv X pins σ H s) (e : Rd H a (.dK kvs)) (h : ∀ t s', Inv X pins σ H s' → Q (.int kvs.length t) s') : wpAny (model X.prog X.w) A (call (.builtin "len") [.ref a]) Q E s := by
  obtain ⟨z, hd, vs, rel, dd⟩ := dk_rd I.hok e
  refine call_len_dict hd dd (by rw [← rel.length]; rw [sizeLine_eq] at z; omega) ?_
  rw [← rel.length]
  exact h _ _ (I.tok _)
end
theorem dict_typeIs {X : Cx} {pins : List (Addr × Obj)} {σ : St} {H : Hp} {s : Shared} {a : Addr} {y : V} {o : Option V} (I : Inv X pins σ H s) (g : DGet H a y o) : s.TypeIs (.ref a) "dict" := by
  rcases g with ⟨kvs, k, e, _, _⟩ | ⟨kvs, k, b, e, _, _, _⟩
  · obtain ⟨_, _, vs, _, dd⟩ := dk_rd I.hok e
    exact dd.typeIs
  · obtain ⟨_, _, xs, _, dd⟩ := dt_rd I.hok e
    exact dd.typeIs
noncomputable section
variable {X : Cx} {o i e value : Expr} {pos pos' tpos : Pos} {td ty tv : TE}
end
noncomputable section
variable {X : Cx} {pos : Pos}
end
structure M1 (X : Cx) (o : Expr) (m : Str) (apos : Pos) (e : Expr) (cpos : Pos) : Prop where
  base : attributeBase o m X.env (eval o X.env) = eval o X.env
  few : ((backTo cpos (starEach [e] X.env)).all (fun x => !x.1) && (backToKw cpos (keywordEach [] X.env)).all (fun x => x.1.isSome)
    && decide (([e] : List Expr).length + ([] : List Keyword).length + (if ([] : List Keyword).isEmpty then 0 else 1) < 30)) = true
  line : (apos.endLine == cpos.line) = true
  trees : backTo cpos (starEach [e] X.env) = [(false, eval e X.env)]
structure M2 (X : Cx) (o : Expr) (m : Str) (apos : Pos) (e f : Expr) (cpos : Pos) : Prop where
  base : attributeBase o m X.env (eval o X.env) = eval o X.env
  few : ((backTo cpos (starEach [e, f] X.env)).all (fun x => !x.1) && (backToKw cpos (keywordEach [] X.env)).all (fun x => x.1.isSome)
    && decide (([e, f] : List Expr).length + ([] : List Keyword).length + (if ([] : List Keyword).isEmpty then 0 else 1) < 30)) = true
  line : (apos.endLine == cpos.line) = true
  trees : backTo cpos (starEach [e, f] X.env) = [(false, eval e X.env), (false, eval f X.env)]
noncomputable section
variable {X : Cx} {pins : List (Addr × Obj)} {σ : St} {H : Hp} {s : Shared} {a : Addr} {y d : V} {u r : Value} {o : Option V} {A : Around} {E : Value → Shared → Prop}
end
noncomputable section
variable {X : Cx} {o e f : Expr} {apos cpos : Pos} {td ty tx : TE}
end
noncomputable section
variable {X : Cx} {pins : List (Addr × Obj)} {σ : St} {H : Hp} {s : Shared} {a : Addr} {kvs : List (Key × V)} {A : Around} {E : Value → Shared → Prop}
end
noncomputable section
variable {X : Cx} {pins : List (Addr × Obj)} {σ : St} {H : Hp} {s : Shared} {a : Addr} {y : V} {u : Value} {A : Around} {E : Value → Shared → Prop}
end
end L2
end
noncomputable section
set_option linter.all false
set_option maxRecDepth 100000
namespace Att
open PySem PySem.W PySem.Calls PyProof.Rows
theorem ints_of_wellAll {P : Params} {h : Heap} : ∀ (ns : List Int) (vs : List Value), WellAll P h vs (ns.map WData.int) → IntsAre vs ns := by
  intro ns
  induction ns with
  | nil =>
    intro vs w
    rw [List.map_nil] at w
    cases w
    exact .nil
  | cons n ns ih =>
    intro vs w
    rw [List.map_cons] at w
    cases w with
    | cons a b =>
      cases a
      exact .cons _ _ (ih _ b)
theorem script_of {l : OpenLaw} {n : Nat} (hn : l.most = some n) {P : Params} {h : Heap} {args : List WData} {vals : List Value}
    (hpre : l.row.toRowW.claim.pre args = true) (hwl : WellAll P h vals args) :
    ∃ a vs ns, vals = [Value.ref a] ∧ args = [WData.list (ns.map WData.int)] ∧ h.get? a = some { cls := .type "list", data := .seq vs.toArray } ∧ IntsAre vs ns ∧ ns.length ≤ n := by
  have hsh : WShape.hasAll [] args [.list .int] = true := (pre_splitW hpre).1
  have hc : l.pre.holds [] { args := args } = true := (pre_splitW hpre).2
  obtain ⟨d, r, rfl, h1, h2⟩ := hasAllW_cons hsh
  obtain rfl := hasAllW_nil h2
  obtain ⟨xs, rfl, h3⟩ := hasW_list h1
  obtain ⟨ns, rfl⟩ := items_int h3
  have hlen : ns.length ≤ n := by
    unfold OpenLaw.pre at hc
    have h4 : (WTm.not (.lt (.lit (.int (n : Int))) (.len (.arg 0)))).holds [] { args := [.list (ns.map .int)] } = true := by
      have h4 := (holds_andW hc).1
      rw [hn] at h4
      exact h4
    have h5 := condW_of h4 (w_not (w_lt w_lit (w_len_list (w_arg rfl))))
    rw [List.length_map] at h5
    refine Nat.le_of_not_lt fun q => ?_
    have q' : (n : Int) < ((ns.length : Nat) : Int) := by omega
    first
      | (rw [decide_eq_true q'] at h5; exact absurd h5 (by decide))
      | (simp at h5; omega)
  cases hwl with
  | cons w1 w2 =>
    cases w2
    cases w1 with
    | list ho hall => exact ⟨_, _, ns, rfl, rfl, ho, ints_of_wellAll ns _ hall, hlen⟩
theorem post_true (l : OpenLaw) (args : List WData) : l.row.toRowW.claim.post args (.bool true) args = true :=
  postW_of (r := l.row.toRowW) (X := (true == true))
    (show WShape.has [] (.bool true) .bool = true by first | rfl | decide | simp [WShape.has, WShape.arms, WShape.armsAll])
    (show (WTm.eq .res (.lit (.bool true))).value [] { args := args, res := some (.bool true), after := args } = some (.bool (true == true)) from w_eq_bool (w_res rfl) w_lit) rfl
theorem attach_call {l : OpenLaw} {n : Nat} {q : Program} {loose : List Str} {XP : (Str → Option Value) → Heap → Prop} {YP : World → Heap → Prop} {d : DefRec}
    (hn : l.most = some n) (hdf : d.params.defaults = [])
    (call : ∀ (w : World) (s₀ s₁ : Shared) (mg mb : Str → Option Value) (fa : Addr) (o : Obj) (pm cd doc : Value) (a : Addr) (vs : List Value) (ns : List Int),
      Ground q loose [] XP w s₀ mg mb s₁.heap → YP w s₁.heap →
      s₁.heap.get? fa = some o → o.data = .func (docDef d.name d.params d.body d.scope pm cd doc) → s₁.heap.CodeRec cd d.name → mg d.name = some (.ref fa) →
      s₁.heap.get? a = some { cls := .type "list", data := .seq vs.toArray } → IntsAre vs ns → ns.length ≤ n → s₁.gens = #[] →
      codeAny (model l.prog w) callerA (.call (.ref fa) ⟨[.ref a], []⟩) (fun r s' => r = .ok (.ret (.bool true)) ∧ OldK s₁.heap s'.heap ∧ s'.os = s₁.os ∧ AllBare s'.gens) s₁) :
    WalkO q loose XP YP l.row.toRowW d [] (fun f vs => PySem.call f vs) := by
  intro w s₀ s₁ mg mb G Y fa o pm cd doc dV kV ho hd hcd hD hmg hg args vals as hpre hlay hrd hwl hlo
  obtain rfl : dV = .none := Dflts.none hD hdf
  obtain rfl : kV = .none := Dflts.noKw hD
  obtain ⟨a, vs, ns, rfl, rfl, hobj, hints, hlen⟩ := script_of hn hpre hwl
  refine enter_call (codeAny_mono (call w s₀ s₁ mg mb fa o pm cd doc a vs ns G Y ho (fd_plain hd) hcd hmg hobj hints hlen hg) fun r s' hq => ?_)
  obtain ⟨rfl, h2, h3, h4⟩ := hq
  exact ⟨.inl ⟨.bool true, .bool true, [], rfl, fun _ => rfl, .bool true, post_true l _, fun _ => ⟨List.Pairwise.nil, fun _ hm => (nomatch hm)⟩⟩, h2, h3, h4⟩
noncomputable section
variable {prog : Program} {w : World} {A : Around} {E : Value → Shared → Prop} {s : Shared} {K : Frag}
end
end Att
namespace L2
open PySem PySem.Spec PyProof.Rows
theorem vals_ints : ∀ {vs : List Value} {ns : List Int}, IntsAre vs ns → Vals (ns.map V.int) vs
  | _, _, .nil => .nil
  | _, _, .cons n t h => .cons ⟨t, rfl⟩ (vals_ints h)
noncomputable def Only (H : Hp) : Prop := ∀ b, H b = none ∨ ∃ o xs, H b = some (.frz o (.lst xs))
theorem law_call {P : Program} {w : World} {K : PySem.W.Frag} {mg mb : Str → Option Value} {CX : CXT} {k : Nat} {fa a : Addr} {fd : FuncData} {x : Str} {sp : Sp} {s₁ : Shared} {vs : List Value} {ns : List Int}
    (KX : K.In s₁.heap) (hns : s₁.heap.Ns mainGlobals mg) (hb : s₁.heap.Ns builtinsNs mb) (hbb : ∀ x : Str, x ≠ "__name__" → mb x = bootBuiltins x) (hlim : s₁.heap.NoLimit) (hg : s₁.gens = #[])
    (ha : s₁.heap.get? a = some { cls := .type "list", data := .seq vs.toArray }) (hi : IntsAre vs ns) (hl : ns.length ≤ sizeLine) (hr : Room k callerA)
    (F : ∀ base : Heap, K.In base → base.Ns mainGlobals mg → FnOk P w K mg base CX k fa fd [x] sp) (hbind : ∀ (s : Shared) (u : Value), BindsTo s fd ⟨[u], []⟩ [(x, u)])
    (hsp : ∀ H : Hp, Only H → SqL K H a (ns.map V.int) → sp [.ref a] H (fun v _ => v = .bl true) fun _ _ _ => False)
    (hCX : ∀ H e s', CX [] H s₁ (fun _ _ _ => False) e s' → False) :
    codeAny (model P w) callerA (.call (.ref fa) ⟨[.ref a], []⟩) (fun r s' => r = .ok (.ret (.bool true)) ∧ OldK s₁.heap s'.heap ∧ s'.os = s₁.os ∧ AllBare s'.gens) s₁ := by
  have rv := vals_ints hi
  have lenV := hi.length
  have core : ∀ H : Hp, Only H → SqL K H a (ns.map V.int) → HOk P w H s₁.heap → (∀ b, H b ≠ none → b = a) → (H a ≠ none → K.lookup a = none) →
      codeAny (model P w) callerA (.call (.ref fa) ⟨[.ref a], []⟩) (fun r s' => r = .ok (.ret (.bool true)) ∧ OldK s₁.heap s'.heap ∧ s'.os = s₁.os ∧ AllBare s'.gens) s₁ := by
    intro H hO hS hok hA hK
    have base_of : ∀ {b : Addr} {o : Obj}, s₁.heap.get? b = some o → H b = none → (hidT s₁.heap H).get? b = some o := fun e n => hidT_get e n
    have noA : ∀ {b : Addr} {o : Obj} {es : Array DictEntry} {ep : Nat}, s₁.heap.get? b = some o → o.data = .dict es ep → H b = none := fun {b o es ep} e d => by
      cases q : H b with
      | none => rfl
      | some u =>
        have e' : b = a := hA b (by rw [q]; simp)
        subst e'
        rw [ha] at e; cases e
        have d' : Data.seq vs.toArray _ = Data.dict es ep := d
        cases d'
    have nsK : ∀ {b : Addr} {m : Str → Option Value}, s₁.heap.Ns b m → (hidT s₁.heap H).Ns b m := fun {b m} ⟨o, es, ep, e, d, r⟩ => ⟨o, es, ep, base_of e (noA e d), d, r⟩
    have hKb : K.In (hidT s₁.heap H) := fun b o e => base_of (KX b o e) (by
      cases q : H b with
      | none => rfl
      | some u =>
        have e' : b = a := hA b (by rw [q]; simp)
        subst e'
        rw [hK (by rw [q]; simp)] at e; cases e)
    have hM : Mod K mg (hidT s₁.heap H) := ⟨hKb, nsK hns, ⟨mb, nsK hb, hbb⟩, let ⟨mc, h1, h2⟩ := hlim; ⟨mc, nsK h1, h2⟩⟩
    have e0 : Env0 P w K mg (hidT s₁.heap H) callerA [] s₁ H := ⟨rfl, hM, fun b o e => of_hidT e, Nat.le_of_eq (hidT_size _ _), trivial, fun b hb => absurd (show b ∈ ([] : List Addr) from hb) (by simp), hok, .of_eq hg⟩
    refine codeAny_mono ((F _ hKb (nsK hns)).run callerA [] s₁ H ⟨[.ref a], []⟩ [.ref a] [.ref a] _ _ hr e0 (hbind s₁ (.ref a)) (.cons rfl .nil) (hsp H hO hS)) fun r s' h => ?_
    cases r with
    | error e => exact (hCX H e s' h).elim
    | ok fl =>
      cases fl with
      | next => exact False.elim h
      | brk => exact False.elim h
      | cont => exact False.elim h
      | ret u =>
        obtain ⟨v, H', os, bare, un, hok', r', q⟩ := h
        have q' : v = .bl true := q
        subst q'
        obtain rfl : u = Value.bool true := r'
        refine ⟨rfl, OldK.of_keep fun b o e => ?_, os, bare⟩
        cases q : H b with
        | none => exact un.keep b o e q (by intro z; exact absurd (show b ∈ ([] : List Addr) from z) (by simp)) (by simp)
        | some u =>
          rcases hO b with z | ⟨ob, xs, z⟩
          · rw [q] at z; cases z
          · have z2 := un.frzs b ob _ z
            obtain ⟨e1, _⟩ := hok b _ z
            obtain ⟨e2, _⟩ := hok' b _ z2
            rw [e] at e1; cases e1
            exact e2
  cases hk : K.lookup a with
  | some o =>
    have e := KX a o hk
    rw [ha] at e
    cases e
    refine core (fun _ => none) (fun _ => .inl rfl) (.inr ⟨_, vs.toArray, _, hk, rfl, rfl, rfl, by rw [List.size_toArray, lenV]; exact hl, by simpa using rv⟩) (fun b u z => by have z' : (none : Option HO) = some u := z; cases z') (fun b z => absurd rfl z) fun z => absurd rfl z
  | none =>
    refine core (fun b => if b = a then some (.frz { cls := .type "list", data := .seq vs.toArray } (.lst (ns.map V.int))) else none) (fun b => ?_) (.inl (.inr ⟨{ cls := .type "list", data := .seq vs.toArray }, if_pos rfl⟩)) (fun b u z => ?_) (fun b z => ?_) fun _ => hk
    · by_cases hb : b = a
      · exact .inr ⟨_, _, if_pos hb⟩
      · exact .inl (if_neg hb)
    · by_cases hb : b = a
      · have z' := (if_pos hb).symm.trans z
        cases z'
        subst hb
        exact ⟨ha, by rw [List.length_map]; exact hl, vs, _, rv, ha⟩
      · have z' := (if_neg hb).symm.trans z
        cases z'
    · by_cases hb : b = a
      · exact hb
      · exact absurd (if_neg hb) z
end L2
namespace L2
open PySem PySem.Spec PyProof.Rows
theorem walk_of {l : PySem.W.OpenLaw} {n k : Nat} {q : Program} {loose : List Str} {XP : (Str → Option Value) → Heap → Prop} {YP : World → Heap → Prop} {d : DefRec} {K : Params → PySem.W.Frag} {CX : World → CXT} {sp : World → Sp} {x : Str}
    (hn : l.most = some n) (hn2 : n ≤ sizeLine) (hdf : d.params.defaults = []) (hr : Room k callerA)
    (hY : ∀ (w : World) (h : Heap), YP w h → (K w.params).In h)
    (F : ∀ (w : World) (mg : Str → Option Value) (fa : Addr) (h : Heap), (K w.params).In h → h.Ns mainGlobals mg → mg d.name = some (.ref fa) →
      ∃ fd : FuncData, (∀ (s : Shared) (u : Value), BindsTo s fd ⟨[u], []⟩ [(x, u)]) ∧
        ∀ base : Heap, (K w.params).In base → base.Ns mainGlobals mg → FnOk l.prog w (K w.params) mg base (CX w) k fa fd [x] (sp w))
    (hsp : ∀ (w : World) (H : Hp) (a : Addr) (ns : List Int), ns.length ≤ n → Only H → SqL (K w.params) H a (ns.map V.int) → sp w [.ref a] H (fun v _ => v = .bl true) fun _ _ _ => False)
    (hCX : ∀ (w : World) (H : Hp) (s : Shared) (e : Value) (s' : Shared), CX w [] H s (fun _ _ _ => False) e s' → False) :
    PySem.W.WalkO q loose XP YP l.row.toRowW d [] (fun f vs => PySem.call f vs) := by
  refine Att.attach_call hn hdf fun w s₀ s₁ mg mb fa o pm cd doc a vs ns G Y ho hd hcd hmg hobj hints hlen hg => ?_
  have KX := hY w _ Y
  obtain ⟨fd, hb, hF⟩ := F w mg fa _ KX G.T.g hmg
  exact law_call KX G.T.g G.T.b G.T.builtins G.T.nolimit hg hobj hints (Nat.le_trans hlen hn2) hr hF hb (fun H hO hS => hsp w H a ns hlen hO hS) fun H e s' => hCX w H s₁ e s'
end L2
namespace L2
open PySem PySem.Spec PyProof.Rows
noncomputable def defArgs (s : Stmt) : Arguments := match s with
  | .FunctionDef _ a _ _ _ _ _ _ _ _ => a
  | _ => { posonlyargs := [], args := [], vararg := none, kwonlyargs := [], kw_defaults := [], kwarg := none, defaults := [] }
noncomputable def defBody (s : Stmt) : List Stmt := match s with
  | .FunctionDef _ _ b _ _ _ _ _ _ _ => b
  | _ => []
noncomputable def defScope (s : Stmt) : Scope := match s with
  | .FunctionDef _ _ _ _ _ _ sc _ _ _ => sc
  | _ => { kind := .function, names := [], isGenerator := false, isCoroutine := false }
noncomputable abbrev CX0 : CXT := fun _ _ _ _ _ _ => False
noncomputable abbrev E0 : XK := fun _ _ _ => False
theorem pass0 {X : Cx} : Passes CX0 X E0 := fun _ _ _ _ _ _ _ h => h.elim
structure Fun (K : PySem.W.Frag) (x qual : Str) (st : Stmt) (f : Addr) (fd : FuncData) : Prop where
  ex : ∃ (oc : Value) (od : Option Addr) (kV doc pm : Value) (an : Option Addr) (cdv ct : Value) (osl : Array (Option Value)),
    fd = PySem.W.fnOf x qual (defArgs st) (defBody st) (defScope st) .none kV doc pm an cdv ct ∧ K.lookup f = some ⟨oc, od, .func fd, osl⟩ ∧ PySem.W.codeIn K cdv qual = true
  kp : PySem.W.keepIn K (.ref f) = true
noncomputable section
variable {P : Program} {w : World} {K : PySem.W.Frag} {mg : Str → Option Value} {base : Heap}
theorem Fun.ok {x qual : Str} {st : Stmt} {f : Addr} {fd : FuncData} {N ps : List Str} {k : Nat} {sp : Sp} (F : Fun K x qual st f fd) (S : FnScope N ps (defScope st)) (len : ∀ vs H Q E, sp vs H Q E → vs.length = ps.length)
    (hbody : ∀ (cdv : Value) (A : Around) (outer : List Env) (s : Shared) (H : Hp) (vs : List V) (Q : VK) (E : XK), Room k (A.deeper (envOfC qual (defScope st) s.heap.objs.size f cdv)) → sp vs H Q E →
      ∃ t, PSs (cxOf CX0 P w K mg base N qual (defScope st) f cdv A outer s H E).nox (defBody st) t ∧ t { nx := fun _ H' => Q .non H', rt := Q } (start N vs) H) : FnOk P w K mg base CX0 (k + 1) f fd ps sp := by
  obtain ⟨oc, od, kV, doc, pm, an, cdv, ct, osl, rfl, lk, hcd⟩ := F.ex
  refine fn_of lk hcd S len fun A outer s H vs Q E hr hsp => ?_
  obtain ⟨t, h, q⟩ := hbody cdv A outer s H vs Q E hr hsp
  exact ⟨t, h.nox, q⟩
theorem Fun.binds {x qual : Str} {st : Stmt} {f : Addr} {fd : FuncData} {ps : List Str} (F : Fun K x qual st f fd)
    (h : ∀ (kV doc pm : Value) (an : Option Addr) (cdv ct : Value) (us : List Value), us.length = ps.length → bindArgs (PySem.W.fnOf x qual (defArgs st) (defBody st) (defScope st) .none kV doc pm an cdv ct) ⟨us, []⟩ = pure (ps.zip us)) : Binds K fd ps [] := by
  obtain ⟨oc, od, kV, doc, pm, an, cdv, ct, osl, rfl, lk, hcd⟩ := F.ex
  exact .all (h kV doc pm an cdv ct)
theorem fun_mk {x qual : Str} {st : Stmt} {f : Addr} {oc : Value} {od an : Option Addr} {osl : Array (Option Value)} {kV doc pm cdv ct : Value} (l : K.lookup f = some ⟨oc, od, .func (PySem.W.fnOf x qual (defArgs st) (defBody st) (defScope st) .none kV doc pm an cdv ct), osl⟩)
    (c : PySem.W.codeIn K cdv qual = true) (k : PySem.W.keepIn K (.ref f) = true) : Fun K x qual st f (PySem.W.fnOf x qual (defArgs st) (defBody st) (defScope st) .none kV doc pm an cdv ct) := ⟨⟨oc, od, kV, doc, pm, an, cdv, ct, osl, rfl, l, c⟩, k⟩
end
theorem hu_of {A : Around} {k : Nat} (hr : Room k A) : A.units + 1 < cLine := Nat.lt_of_le_of_lt (Nat.add_le_add_left (by decide : 1 ≤ 64) _) hr.units
theorem small1000 {n : Nat} (h : n ≤ 1000) : n < sizeLine := Nat.lt_of_le_of_lt h (by decide)
noncomputable section
variable {X : Cx}
theorem pv (i : Nat) {x : Str} {pos : Pos} (hN : X.N[i]? = some x := by rfl) (hv : Vis X.env.scope x := by first | exact Or.inl rfl | exact Or.inr (Or.inl rfl) | exact Or.inr (Or.inr rfl)) (hd : (x == ("__debug__" : Str)) = false := by decide)
    (hcd : (x == ("__classdict__" : Str)) = false := by decide) : PE X (.Name x pos) (tVar i) := pe_var hN hv hd hcd
end
theorem iteF {A B : Prop} (h : B) : if false = true then A else B := by
  rw [if_neg Bool.false_ne_true]
  exact h
theorem iteT {A B : Prop} (h : A) : if true = true then A else B := by
  rw [if_pos rfl]
  exact h
noncomputable def Same (H H' : Hp) : Prop := ∀ b o, H b = some o → H' b = some o
theorem Same.refl (H : Hp) : Same H H := fun _ _ h => h
theorem Same.trans {H H1 H2 : Hp} (a : Same H H1) (b : Same H1 H2) : Same H H2 := fun c o h => b c o (a c o h)
theorem Same.free {H H' : Hp} (e : Same H H') {l : Addr} (h : H' l = Option.none) : H l = Option.none := by
  cases q : H l with
  | none => rfl
  | some o =>
    rw [e l o q] at h
    cases h
theorem Same.seq {K : PySem.W.Frag} {H H' : Hp} {a : Addr} {xs : List V} (e : Same H H') (h : SqL K H a xs) : SqL K H' a xs := by
  rcases h with (h | ⟨o, h⟩) | h
  · exact .inl (.inl (e _ _ h))
  · exact .inl (.inr ⟨o, e _ _ h⟩)
  · exact .inr h
end L2
end
noncomputable section
set_option linter.all false
set_option maxRecDepth 100000
namespace L2
open PySem PySem.Spec PyProof.Rows
noncomputable section
variable {X : Cx}
end
noncomputable section
variable {κ : Type} [DecidableEq κ]
end
end L2
end
noncomputable section
namespace C
open PySem
noncomputable abbrev Key := Sum Int Str
inductive T where
  | non | bl (b : Bool) | int (i : Int) | str (x : Str)
  | tup (xs : List T) | lst (xs : List T) | dic (kvs : List (Key × T)) | obj (n : Nat)
instance : Inhabited T := ⟨.non⟩
inductive SO where
  | dic (kvs : List (Key × T)) | lst (xs : List T) | ins (c : Str) (fs : List (Str × T))
noncomputable abbrev Slot := Option (T × Bool)
structure Sta where
  env : List Slot
  sto : List SO
noncomputable abbrev M (α : Type) := Sta → Option (α × Sta)
noncomputable def dGet (k : Key) : List (Key × T) → Option T
  | [] => none
  | (q, t) :: r => if q = k then some t else dGet k r
noncomputable def keyOf : T → Option Key
  | .int i => some (.inl i)
  | .str x => some (.inr x)
  | _ => none
noncomputable def ofKey : Key → T
  | .inl i => .int i
  | .inr x => .str x
mutual
noncomputable def dat : T → Option PyData
  | .non => some .none
  | .bl b => some (.bool b)
  | .int i => some (.int i)
  | .str x => if PyData.canLay0 (.str x) then some (.str x) else none
  | .tup xs => (dats xs).map .tuple
  | .lst xs => (dats xs).map .list
  | .dic _ => none
  | .obj _ => none
noncomputable def dats : List T → Option (List PyData)
  | [] => some []
  | x :: r => match dat x with
    | some a => (dats r).map (a :: ·)
    | none => none
end
noncomputable def eqD (a b : T) : Option Bool := match dat a with
  | some x => match dat b with
    | some y => if x.depth ≤ 40 then some (PyData.eqv x y) else none
    | none => none
  | none => none
noncomputable def eqKs : List (Key × T) → List (Key × T) → Option Bool
  | [], _ => some true
  | (k, x) :: r, ys => match dGet k ys with
    | none => some false
    | some y => match eqD x y with
      | some e => (eqKs r ys).map (e && ·)
      | none => none
noncomputable def eqT : T → T → Option Bool
  | .dic a, .dic b => if a.length = b.length then eqKs a b else some false
  | x, y => eqD x y
noncomputable def mPure (t : T) : M T := fun s => some (t, s)
noncomputable def mVar (i : Nat) : M T := fun s => match s.env[i]? with
  | some (some (t, false)) => some (t, s)
  | some (some (t, true)) => some (t, { s with env := s.env.set i (some (t, false)) })
  | _ => none
noncomputable def mNil : M (List T) := fun s => some ([], s)
noncomputable def mCons (a : M T) (r : M (List T)) : M (List T) := fun s => match a s with
  | some (t, s1) => match r s1 with
    | some (ts, s2) => some (t :: ts, s2)
    | none => none
  | none => none
noncomputable def mStrs : List Str → M (List T)
  | [] => mNil
  | x :: r => mCons (mPure (.str x)) (mStrs r)
noncomputable def mMap (f : List T → Option T) (a : M (List T)) : M T := fun s => match a s with
  | some (ts, s1) => match f ts with
    | some t => some (t, s1)
    | none => none
  | none => none
noncomputable def mUn (f : T → Option T) (a : M T) : M T := fun s => match a s with
  | some (t, s1) => match f t with
    | some u => some (u, s1)
    | none => none
  | none => none
noncomputable def mOp (f : T → T → Option T) (a b : M T) : M T := fun s => match a s with
  | some (t, s1) => match b s1 with
    | some (u, s2) => match f t u with
      | some v => some (v, s2)
      | none => none
    | none => none
  | none => none
noncomputable abbrev Fn := List T → List SO → Option (T × List SO)
noncomputable def mCall (F : Fn) (a : M (List T)) : M T := fun s => match a s with
  | some (ts, s1) => match F ts s1.sto with
    | some (t, sto) => some (t, { s1 with sto := sto })
    | none => none
  | none => none
noncomputable def mTest (a : M T) : M Bool := fun s => match a s with
  | some (.bl b, s1) => some (b, s1)
  | _ => none
noncomputable def mNot (a : M Bool) : M Bool := fun s => match a s with
  | some (b, s1) => some (!b, s1)
  | none => none
noncomputable def mAnd (a b : M Bool) : M Bool := fun s => match a s with
  | some (true, s1) => b s1
  | some (false, s1) => some (false, s1)
  | none => none
noncomputable def mOr (a b : M Bool) : M Bool := fun s => match a s with
  | some (true, s1) => some (true, s1)
  | some (false, s1) => b s1
  | none => none
noncomputable def mBool (a : M Bool) : M T := fun s => match a s with
  | some (b, s1) => some (.bl b, s1)
  | none => none
noncomputable def mIf (c : M Bool) (a b : M T) : M T := fun s => match c s with
  | some (true, s1) => a s1
  | some (false, s1) => b s1
  | none => none
noncomputable abbrev lim : Nat := 1000000
noncomputable def bnd64 (i : Int) : Bool := decide (-(2 ^ 64) < i ∧ i < 2 ^ 64)
noncomputable def addT : T → T → Option T
  | .int i, .int j => some (.int (i + j))
  | .str x, .str y => if x.length + y.length < lim then some (.str (x ++ y)) else none
  | .tup x, .tup y => if x.length + y.length < lim then some (.tup (x ++ y)) else none
  | .lst x, .lst y => if x.length + y.length < lim then some (.lst (x ++ y)) else none
  | _, _ => none
noncomputable def subT : T → T → Option T
  | .int i, .int j => some (.int (i - j))
  | _, _ => none
noncomputable def mulT : T → T → Option T
  | .int i, .int j => if bnd64 i || bnd64 j then some (.int (i * j)) else none
  | .str x, .int j => if 0 ≤ j ∧ j ≤ 1000 ∧ x.length ≤ 100 then some (.str ⟨((List.replicate j.toNat x.cps.toList).flatten).toArray⟩) else none
  | _, _ => none
noncomputable def modT : T → T → Option T
  | .int i, .int j => if 0 < j then some (.int (i % j)) else none
  | _, _ => none
noncomputable def fdl : Nat := 2 ^ 200
noncomputable def fdivT : T → T → Option T
  | .int i, .int j => if 0 < j ∧ (j < 1073741824 ∨ j.natAbs < fdl) then some (.int (i / j)) else none
  | _, _ => none
noncomputable def powT : T → T → Option T
  | .int i, .int j => if 0 ≤ j ∧ j ≤ 1000 ∧ i.natAbs < 1000 then some (.int (i ^ j.toNat)) else none
  | _, _ => none
noncomputable def negT : T → Option T
  | .int i => some (.int (-i))
  | _ => none
noncomputable def ltT : T → T → Option T
  | .int i, .int j => some (.bl (decide (i < j)))
  | _, _ => none
noncomputable def leT : T → T → Option T
  | .int i, .int j => some (.bl (decide (i ≤ j)))
  | _, _ => none
noncomputable def gtT : T → T → Option T
  | .int i, .int j => some (.bl (decide (j < i)))
  | _, _ => none
noncomputable def eqO (x y : T) : Option T := match eqT x y with
  | some b => some (.bl b)
  | none => none
noncomputable def neO (x y : T) : Option T := match eqT x y with
  | some b => some (.bl (!b))
  | none => none
noncomputable def ixI (n : Nat) (i : Int) : Option Nat := if 0 ≤ i then (if i < n then some i.toNat else none) else if -(n : Int) ≤ i then some (i + n).toNat else none
noncomputable def itemT : T → T → Option T
  | .tup xs, .int i => (ixI xs.length i).bind (xs[·]?)
  | .lst xs, .int i => (ixI xs.length i).bind (xs[·]?)
  | .str x, .int i => if x.length < lim then (ixI x.cps.toList.length i).bind fun j => (x.cps.toList[j]?).map fun c => .str ⟨#[c]⟩ else none
  | .dic kvs, k => (keyOf k).bind (dGet · kvs)
  | _, _ => none
noncomputable def lenT : List T → Option T
  | [.tup xs] => some (.int xs.length)
  | [.lst xs] => some (.int xs.length)
  | [.str x] => if x.length < lim then some (.int x.length) else none
  | [.dic kvs] => some (.int kvs.length)
  | _ => none
noncomputable def inL (x : T) : List T → Option Bool
  | [] => some false
  | y :: r => match eqD y x with
    | some e => (inL x r).map (e || ·)
    | none => none
noncomputable def inT (x y : T) : Option T := match y with
  | .dic kvs => (keyOf x).map fun q => .bl (dGet q kvs).isSome
  | _ => if (dat x).isSome then (match y with
    | .tup ys => (inL x ys).map .bl
    | .lst ys => (inL x ys).map .bl
    | _ => none) else none
noncomputable def tupleT : List T → Option T
  | [.lst xs] => some (.tup xs)
  | [.tup xs] => some (.tup xs)
  | _ => none
noncomputable def listT : List T → Option T
  | [.lst xs] => some (.lst xs)
  | [.tup xs] => some (.lst xs)
  | _ => none
noncomputable def boolsT : List T → Option (List Bool)
  | [] => some []
  | .bl b :: r => (boolsT r).map (b :: ·)
  | _ => none
noncomputable def anyT : List T → Option T
  | [.lst xs] => (boolsT xs).map fun l => .bl (l.any id)
  | _ => none
noncomputable def strsT : List T → Option (List Str)
  | [] => some []
  | .str x :: r => (strsT r).map (x :: ·)
  | _ => none
noncomputable def ins1 (x : Str) : List Str → List Str
  | [] => [x]
  | y :: r => if decide (x.cps.toList < y.cps.toList) then x :: y :: r else y :: ins1 x r
noncomputable def isort (l : List Str) : List Str := l.foldl (fun acc x => ins1 x acc) []
noncomputable def dedup : List Str → List Str
  | [] => []
  | x :: r => if x ∈ r then dedup r else x :: dedup r
noncomputable def sortedT : List T → Option T
  | [.lst xs] => if xs.length < 64 then (strsT xs).map fun l => .lst ((isort l).map .str) else none
  | [.dic kvs] => if kvs.length < 64 then (strsT (kvs.map fun p => ofKey p.1)).map fun l => .lst ((isort l).map .str) else none
  | _ => none
noncomputable def sortedSetT : List T → Option T
  | [.lst xs] => (strsT xs).bind fun l => if l.length < lim ∧ (dedup l).length < 64 then some (.lst ((isort (dedup l)).map .str)) else none
  | _ => none
noncomputable def isBl : List T → Option T
  | [.bl _] => some (.bl true)
  | [.obj _] => none
  | [_] => some (.bl false)
  | _ => none
noncomputable def revT : T → Option T
  | .lst xs => some (.lst xs.reverse)
  | .tup xs => some (.tup xs.reverse)
  | _ => none
noncomputable def absT : List T → Option T
  | [.int i] => some (.int (if i < 0 then -i else i))
  | _ => none
noncomputable def mOwnLen (i : Nat) : M T := fun s => match s.env[i]? with
  | some (some (.lst xs, _)) => some (.int xs.length, s)
  | some (some (.dic xs, _)) => some (.int xs.length, s)
  | _ => none
noncomputable def lstAt (i : Nat) (s : Sta) : Bool := match s.env[i]? with
  | some (some (.lst _, _)) => true
  | _ => false
noncomputable def mObjIx (o k : M T) : M T := fun s => match o s with
  | some (.obj n, s1) => match k s1 with
    | some (.int i, s2) => match s2.sto[n]? with
      | some (.lst xs) => match (ixI xs.length i).bind (xs[·]?) with
        | some t => some (t, s2)
        | none => none
      | _ => none
    | _ => none
  | _ => none
noncomputable def mObjLen (o : M T) : M T := fun s => match o s with
  | some (.obj n, s1) => match s1.sto[n]? with
    | some (.lst xs) => some (.int xs.length, s1)
    | _ => none
  | _ => none
noncomputable def mNewLst (a : M (List T)) : M T := fun s => match a s with
  | some (ts, s1) => some (.obj s1.sto.length, { s1 with sto := s1.sto ++ [.lst ts] })
  | none => none
inductive Flow where
  | next | ret (t : T) | brk | cont
noncomputable abbrev S := Sta → Option (Flow × Sta)
noncomputable def sNil : S := fun s => some (.next, s)
noncomputable def sSeq (a b : S) : S := fun s => match a s with
  | some (.next, s1) => b s1
  | r => r
noncomputable def sRet (e : M T) : S := fun s => match e s with
  | some (t, s1) => some (.ret t, s1)
  | none => none
noncomputable def sIf (c : M Bool) (a b : S) : S := fun s => match c s with
  | some (true, s1) => a s1
  | some (false, s1) => b s1
  | none => none
noncomputable def putSlot (i : Nat) (t : T) (own : Bool) (s : Sta) : Sta := { s with env := s.env.set i (some (t, own)) }
noncomputable def sSet (i : Nat) (e : M T) : S := fun s => match e s with
  | some (t, s1) => some (.next, putSlot i t false s1)
  | none => none
noncomputable def sNew (i : Nat) (e : M T) : S := fun s => match e s with
  | some (t, s1) => some (.next, putSlot i t true s1)
  | none => none
noncomputable def sAppend (i : Nat) (e : M T) : S := fun s => if lstAt i s then (match e s with
  | some (t, s1) => match s1.env[i]? with
    | some (some (.lst xs, true)) => if xs.length < lim then some (.next, putSlot i (.lst (xs ++ [t])) true s1) else none
    | _ => none
  | none => none) else none
noncomputable def seqOf : T → Option (List T)
  | .lst xs => some xs
  | .tup xs => some xs
  | _ => none
noncomputable def sExtend (i : Nat) (e : M T) : S := fun s => if lstAt i s then (match e s with
  | some (t, s1) => match seqOf t, s1.env[i]? with
    | some ys, some (some (.lst xs, true)) => if xs.length + ys.length < lim then some (.next, putSlot i (.lst (xs ++ ys)) true s1) else none
    | _, _ => none
  | none => none) else none
noncomputable def sReverse (i : Nat) : S := fun s => match s.env[i]? with
  | some (some (.lst xs, true)) => some (.next, putSlot i (.lst xs.reverse) true s)
  | _ => none
noncomputable def sNx (u : S) : S := fun s => match u s with
  | some (.next, s1) => some (.next, s1)
  | _ => none
noncomputable def sRetOwn (i : Nat) : S := fun s => match s.env[i]? with
  | some (some (t, true)) => some (.ret t, s)
  | _ => none
noncomputable def sObjIx (o k v : M T) : S := fun s => match v s with
  | some (t, s1) => match o s1 with
    | some (.obj n, s2) => match k s2 with
      | some (.int i, s3) => match s3.sto[n]? with
        | some (.lst xs) => match ixI xs.length i with
          | some j => some (.next, { s3 with sto := s3.sto.set n (.lst (xs.set j t)) })
          | none => none
        | _ => none
      | _ => none
    | _ => none
  | none => none
noncomputable def sObjApp (i : Nat) (v : M T) : S := fun s => match s.env[i]? with
  | some (some (.obj n, false)) => match s.sto[n]? with
    | some (.lst _) => match v s with
      | some (t, s1) => match s1.sto[n]? with
        | some (.lst xs) => if xs.length < lim then some (.next, { s1 with sto := s1.sto.set n (.lst (xs ++ [t])) }) else none
        | _ => none
      | none => none
    | _ => none
  | _ => none
noncomputable abbrev G := T → Sta → Option Sta
noncomputable def hName (i : Nat) : G := fun t s => some (putSlot i t false s)
noncomputable def hTup (is : List Nat) : G := fun t s => match t with
  | .tup xs => if xs.length = is.length then some ((is.zip xs).foldl (fun s p => putSlot p.1 p.2 false s) s) else none
  | _ => none
noncomputable def sGo (g : G) (m : M T) : S := fun s => match m s with
  | some (t, s1) => match g t s1 with
    | some s2 => some (.next, s2)
    | none => none
  | none => none
noncomputable def forL (g : G) (b : S) : List T → S
  | [] => fun s => some (.next, s)
  | t :: r => fun s => match g t s with
    | some s1 => match b s1 with
      | some (.next, s2) => forL g b r s2
      | some (.cont, s2) => forL g b r s2
      | some (.brk, s2) => some (.next, s2)
      | some (.ret v, s2) => some (.ret v, s2)
      | none => none
    | none => none
noncomputable def sFor (g : G) (it : M (List T)) (b : S) : S := fun s => match it s with
  | some (ts, s1) => forL g b ts s1
  | none => none
noncomputable def rangeT (n : Nat) : List T := (List.range n).map fun (k : Nat) => .int (k : Int)
noncomputable def iRange (a : M T) : M (List T) := fun s => match a s with
  | some (.int n, s1) => if n.natAbs < lim then some (rangeT n.toNat, s1) else none
  | _ => none
noncomputable def iSeq (a : M T) : M (List T) := fun s => match a s with
  | some (.lst xs, s1) => if xs.length < lim then some (xs, s1) else none
  | some (.tup xs, s1) => if xs.length < lim then some (xs, s1) else none
  | _ => none
noncomputable def thaw (s : Slot) : Slot := match s with
  | some (t, _) => some (t, false)
  | none => none
noncomputable def freezeAll (s : Sta) : Sta := { s with env := s.env.map thaw }
noncomputable def compL (g : G) (c : M Bool) (e : M T) : List T → Sta → List T → Option (List T × Sta)
  | [], s, acc => some (acc, s)
  | t :: r, s, acc => match g t s with
    | some s1 => match c s1 with
      | some (true, s2) => match e s2 with
        | some (u, s3) => if acc.length < lim then compL g c e r (freezeAll s3) (acc ++ [u]) else none
        | none => none
      | some (false, s2) => compL g c e r (freezeAll s2) acc
      | none => none
    | none => none
noncomputable def mTrue : M Bool := fun s => some (true, s)
noncomputable def freezeAt (is : List Nat) (env : List Slot) : List Slot := is.foldl (fun e i => match e[i]? with
  | some (some (t, _)) => e.set i (some (t, false))
  | _ => e) env
noncomputable def mComp (nv : Nat) (cap : List Nat) (g : G) (it : M (List T)) (c : M Bool) (e : M T) : M T := fun s => match it s with
  | some (ts, s1) =>
    let env := freezeAt cap s1.env
    match compL g c e ts ⟨List.replicate nv none ++ cap.map (fun i => (env[i]?).getD none), s1.sto⟩ [] with
    | some (us, s2) => some (.lst us, ⟨env, s2.sto⟩)
    | none => none
  | none => none
noncomputable def runFn (n : Nat) (b : S) : Fn := fun ts sto => match b ⟨ts.map (fun t => some (t, false)) ++ List.replicate (n - ts.length) none, sto⟩ with
  | some (.ret t, s) => some (t, s.sto)
  | some (.next, s) => some (.non, s.sto)
  | _ => none
noncomputable section
variable {s s' : Sta} {t v : T} {a b : M T}
theorem mOp_inv {f : T → T → Option T} (h : mOp f a b s = some (v, s')) : ∃ t s1 u, a s = some (t, s1) ∧ b s1 = some (u, s') ∧ f t u = some v := by
  unfold mOp at h
  cases ha : a s with
  | none => rw [ha] at h; cases h
  | some p =>
    obtain ⟨t, s1⟩ := p; rw [ha] at h; dsimp only at h
    cases hb : b s1 with
    | none => rw [hb] at h; cases h -- here
    | some p =>
      obtain ⟨u, s2⟩ := p; rw [hb] at h; dsimp only at h
      cases hf : f t u with
      | none => rw [hf] at h; cases h
      | some w => rw [hf] at h; cases h; exact ⟨t, s1, u, rfl, hb, hf⟩
theorem mUn_inv {f : T → Option T} (h : mUn f a s = some (v, s')) : ∃ t, a s = some (t, s') ∧ f t = some v := by
  unfold mUn at h
  cases ha : a s with
  | none => rw [ha] at h; cases h
  | some p =>
    obtain ⟨t, s1⟩ := p; rw [ha] at h; dsimp only at h
    cases hf : f t with
    | none => rw [hf] at h; cases h
    | some w => rw [hf] at h; cases h; exact ⟨t, rfl, hf⟩
theorem mMap_inv {f : List T → Option T} {a : M (List T)} (h : mMap f a s = some (v, s')) : ∃ ts, a s = some (ts, s') ∧ f ts = some v := by
  unfold mMap at h
  cases ha : a s with
  | none => rw [ha] at h; cases h
  | some p =>
    obtain ⟨t, s1⟩ := p; rw [ha] at h; dsimp only at h
    cases hf : f t with
    | none => rw [hf] at h; cases h
    | some w => rw [hf] at h; cases h; exact ⟨t, rfl, hf⟩
theorem mCons_inv {r : M (List T)} {ts : List T} (h : mCons a r s = some (ts, s')) : ∃ t s1 us, a s = some (t, s1) ∧ r s1 = some (us, s') ∧ ts = t :: us := by
  unfold mCons at h
  cases ha : a s with
  | none => rw [ha] at h; cases h
  | some p =>
    obtain ⟨t, s1⟩ := p; rw [ha] at h; dsimp only at h
    cases hb : r s1 with
    | none => rw [hb] at h; cases h -- here
    | some p => obtain ⟨u, s2⟩ := p; rw [hb] at h; cases h; exact ⟨t, s1, u, rfl, hb, rfl⟩
theorem mCall_inv {F : Fn} {a : M (List T)} (h : mCall F a s = some (v, s')) : ∃ ts s1 sto, a s = some (ts, s1) ∧ F ts s1.sto = some (v, sto) ∧ s' = { s1 with sto := sto } := by
  unfold mCall at h
  cases ha : a s with
  | none => rw [ha] at h; cases h
  | some p =>
    obtain ⟨t, s1⟩ := p; rw [ha] at h; dsimp only at h
    cases hf : F t s1.sto with
    | none => rw [hf] at h; cases h
    | some w => obtain ⟨w, sto⟩ := w; rw [hf] at h; cases h; exact ⟨t, s1, sto, rfl, hf, rfl⟩
theorem mTest_inv {b : Bool} (h : mTest a s = some (b, s')) : a s = some (.bl b, s') := by
  unfold mTest at h
  cases ha : a s with
  | none => rw [ha] at h; cases h
  | some p =>
    obtain ⟨t, s1⟩ := p; rw [ha] at h
    cases t <;> first | (cases h; rfl) | (cases h)
theorem mBool_inv {c : M Bool} (h : mBool c s = some (v, s')) : ∃ b, c s = some (b, s') ∧ v = .bl b := by
  unfold mBool at h
  cases ha : c s with
  | none => rw [ha] at h; cases h
  | some p => obtain ⟨t, s1⟩ := p; rw [ha] at h; cases h; exact ⟨t, rfl, rfl⟩
theorem mNot_inv {c : M Bool} {b : Bool} (h : mNot c s = some (b, s')) : ∃ k, c s = some (k, s') ∧ b = !k := by
  unfold mNot at h
  cases ha : c s with
  | none => rw [ha] at h; cases h
  | some p => obtain ⟨t, s1⟩ := p; rw [ha] at h; cases h; exact ⟨t, rfl, rfl⟩
theorem mAnd_inv {c d : M Bool} {b : Bool} (h : mAnd c d s = some (b, s')) : (∃ s1, c s = some (true, s1) ∧ d s1 = some (b, s')) ∨ (c s = some (false, s') ∧ b = false) := by
  unfold mAnd at h
  cases ha : c s with
  | none => rw [ha] at h; cases h
  | some p =>
    obtain ⟨k, s1⟩ := p; rw [ha] at h
    cases k with
    | true => exact .inl ⟨s1, rfl, h⟩
    | false => cases h; exact .inr ⟨rfl, rfl⟩
theorem mOr_inv {c d : M Bool} {b : Bool} (h : mOr c d s = some (b, s')) : (∃ s1, c s = some (false, s1) ∧ d s1 = some (b, s')) ∨ (c s = some (true, s') ∧ b = true) := by
  unfold mOr at h
  cases ha : c s with
  | none => rw [ha] at h; cases h
  | some p =>
    obtain ⟨k, s1⟩ := p; rw [ha] at h
    cases k with
    | false => exact .inl ⟨s1, rfl, h⟩
    | true => cases h; exact .inr ⟨rfl, rfl⟩
theorem mIf_inv {c : M Bool} (h : mIf c a b s = some (v, s')) : (∃ s1, c s = some (true, s1) ∧ a s1 = some (v, s')) ∨ (∃ s1, c s = some (false, s1) ∧ b s1 = some (v, s')) := by
  unfold mIf at h
  cases ha : c s with
  | none => rw [ha] at h; cases h
  | some p =>
    obtain ⟨k, s1⟩ := p; rw [ha] at h
    cases k with
    | true => exact .inl ⟨s1, rfl, h⟩
    | false => exact .inr ⟨s1, rfl, h⟩
theorem mVar_inv {i : Nat} (h : mVar i s = some (v, s')) : (s.env[i]? = some (some (v, false)) ∧ s' = s) ∨ (s.env[i]? = some (some (v, true)) ∧ s' = { s with env := s.env.set i (some (v, false)) }) := by
  unfold mVar at h
  split at h
  · rename_i t e; cases h; exact .inl ⟨e, rfl⟩
  · rename_i t e; cases h; exact .inr ⟨e, rfl⟩
  · cases h
end
end C
end
noncomputable section
set_option linter.all false
set_option maxRecDepth 100000
set_option maxHeartbeats 4000002
namespace L2
open PySem PySem.Spec PyProof.Rows
noncomputable section
variable {pr : Program} {wd : World} {Ar : Around} {Rs : Result → Shared → Prop} {s : Shared}
theorem compLoop_gen {el tgt itr : Expr} {cs : List Expr} {scp : Scope} {ps : Pos} {itv accv : Value} {en : Env} (J : Nat → Shared → Prop)
    (turn : ∀ n z, J n z → wpAny (model pr wd) Ar (pyNext itv) (fun nx z1 => match nx with
      | none => Rs (.ok .next) z1
      | some v => wpAny (model pr wd) Ar (letOwnedTupleGo tgt itv v) (fun _ z2 => wpAny (model pr wd) Ar (assign tgt en v) (fun _ z3 =>
          wpAny (model pr wd) Ar (forIn cs true fun c go => if go = true then do let ok ← isTrue c en (eval c en); pure (ForInStep.yield ok) else pure (ForInStep.yield go)) (fun ok z4 =>
            if ok = true then wpAny (model pr wd) Ar (eval el en) (fun x z5 =>
              wpAny (model pr wd) Ar (call (.builtin "list.append") [accv, x]) (fun _ z6 => ∃ m, m < n ∧ J m z6) (fun _ _ => False) z5) (fun _ _ => False) z4
            else ∃ m, m < n ∧ J m z4) (fun _ _ => False) z3) (fun _ _ => False) z2) (fun _ _ => False) z1) (fun _ _ => False) z)
    (n : Nat) (h : J n s) :
    codeAny (model pr wd) Ar (.compLoop (.ListComp el [⟨tgt, itr, cs, 0⟩] scp ps) 0 itv accv en) Rs s := by
  refine codeAny_loop rfl J (fun k z hz => ?_) n h
  show wpAny _ Ar ((compTurn (.ListComp el [⟨tgt, itr, cs, 0⟩] scp ps) 0 itv accv en).onRaise (fun ex => do noteFrame ex en; theTreesLotGoes ex)) _ _ z
  refine wpAny_noted ?_
  rw [compTurn_list]
  refine wpAny_bind (wpAny_standAt (wpAny_bind (wpAny_mono (turn k z hz) (fun nx z1 g1 => ?_) fun _ _ no => no.elim)))
  cases nx with
  | none => exact wpAny_pure g1
  | some v =>
    refine wpAny_bind (wpAny_mono g1 (fun _ z2 g2 => ?_) fun _ _ no => no.elim)
    refine wpAny_bind (wpAny_mono g2 (fun _ z3 g3 => wpAny_bind (wpAny_mono g3 (fun ok z4 g4 => ?_) fun _ _ no => no.elim)) fun _ _ no => no.elim)
    cases ok with
    | false => exact wpAny_pure (And.intro rfl g4)
    | true =>
      exact wpAny_bind (wpAny_bind (wpAny_mono g4 (fun x z5 g5 => wpAny_bind (wpAny_mono g5 (fun _ z6 g6 => wpAny_pure (wpAny_pure (And.intro rfl g6))) fun _ _ no => no.elim)) fun _ _ no => no.elim))
end
noncomputable def clOf (env : Env) : List (Str × NameKind) → List (Str × Addr) → List (Str × Addr)
  | [], cs => cs
  | (n, k) :: r, cs => clOf env r (if (k == NameKind.free) = true then (match env.cells.lookup n with | some c => (n, c) :: cs | none => cs) else cs)
noncomputable def hasCells (env : Env) (names : List (Str × NameKind)) : Bool := names.all fun y => !(y.2 == NameKind.free) || (env.cells.lookup y.1).isSome
theorem closureFor_cl {scope : Scope} {env : Env} (h : hasCells env scope.names = true) : closureFor scope env = pure (clOf env scope.names []) := by
  have key : ∀ (l : List (Str × NameKind)) (cs : List (Str × Addr)), hasCells env l = true →
      (forIn (m := Sem) l cs fun x r => (do
        if (x.2 == NameKind.free) = true then
          let c ← cellOf env x.1
          pure (ForInStep.yield ((x.1, c) :: r))
        else pure (ForInStep.yield r))) = pure (clOf env l cs) := by
    intro l
    induction l with
    | nil => intro cs _; rfl
    | cons x r ih =>
      intro cs h
      obtain ⟨n, k⟩ := x
      unfold hasCells at h
      rw [List.all_cons, Bool.and_eq_true] at h -- here
      obtain ⟨h1, h2⟩ := h
      rw [List.forIn_cons]
      by_cases hk : (k == NameKind.free) = true
      · have h1' : (env.cells.lookup n).isSome = true := by simpa [hk] using h1
        obtain ⟨c, hc⟩ := Option.isSome_iff_exists.mp h1'
        have e : cellOf env n = pure c := by unfold cellOf; rw [hc]
        simp only [hk, if_true, e, pure_bind]
        rw [ih _ h2]
        simp only [clOf, hk, if_true, hc]
      · simp only [hk, if_false, pure_bind, Bool.false_eq_true]
        rw [ih _ h2]
        simp only [clOf, hk, if_false, Bool.false_eq_true]
  have := key scope.names [] h
  unfold closureFor
  simpa using this
noncomputable def compCx (X : Cx) (scope : Scope) (N : List Str) (C : Addr) (s₀ : Shared) (H₀ : Hp) (ex : List Addr) (pn : List (Addr × Obj)) : Cx :=
  { X with N := N, s₀ := s₀, H₀ := H₀, env := compEnvC scope (clOf X.env scope.names []) C X.env, outer := X.stack, ex := ex, fn := fun _ => false, pn := pn, xe := fun _ _ => False }
structure CompSc (X : Cx) (scope : Scope) (N : List Str) : Prop where
  has : hasCells X.env scope.names = true
  kind : scope.kind = .function
  nocell : ∀ y ∈ scope.names, y.2 ≠ .cell
  names : ∀ y ∈ scope.names, y.2 = .local → scope.names.lookup y.1 = some .local
noncomputable def CapK (X : Cx) (scope : Scope) (x : Str) : Prop :=
  (X.env.kindOf x = some .cell ∨ X.env.kindOf x = some .free) ∧ Vis X.env.scope x ∧ ((relabel scope X.env).names.lookup x = some .cell ∨ (relabel scope X.env).names.lookup x = some .free)
theorem cl_sub {env : Env} : ∀ (l : List (Str × NameKind)) (cs : List (Str × Addr)), (∀ x c, cs.lookup x = some c → env.cells.lookup x = some c) →
    ∀ x c, (clOf env l cs).lookup x = some c → env.cells.lookup x = some c
  | [], cs, h, x, c, e => h x c e
  | (n, k) :: r, cs, h, x, c, e => by
    rw [clOf] at e
    refine cl_sub r _ (fun y d q => ?_) x c e
    split at q
    · split at q
      · rename_i c' hc'
        rw [List.lookup_cons] at q
        split at q
        · rename_i hb
          cases q
          have hyn := eq_of_beq hb
          rw [hyn]; exact hc'
        · exact h y d q
      · exact h y d q
    · exact h y d q
theorem cl_keep {env : Env} : ∀ (l : List (Str × NameKind)) (cs : List (Str × Addr)) (x : Str), (∃ c, cs.lookup x = some c) → ∃ c, (clOf env l cs).lookup x = some c
  | [], cs, x, h => h
  | (n, k) :: r, cs, x, h => by
    rw [clOf]
    refine cl_keep r _ x ?_
    split
    · split
      · rename_i c' hc'
        rw [List.lookup_cons]
        split
        · exact ⟨_, rfl⟩
        · exact h
      · exact h
    · exact h
theorem cl_has {env : Env} : ∀ (l : List (Str × NameKind)) (cs : List (Str × Addr)) (x : Str), hasCells env l = true → (x, NameKind.free) ∈ l → ∃ c, (clOf env l cs).lookup x = some c
  | [], cs, x, _, h => by simp at h
  | (n, k) :: r, cs, x, hh, h => by
    unfold hasCells at hh
    rw [List.all_cons, Bool.and_eq_true] at hh
    rw [clOf]
    rcases List.mem_cons.mp h with e | h'
    · injection e with e1 e2
      subst e1; subst e2
      have h1 : (env.cells.lookup x).isSome = true := by simpa using hh.1
      obtain ⟨c, hc⟩ := Option.isSome_iff_exists.mp h1
      refine cl_keep r _ x ?_
      simp [hc]
    · exact cl_has r _ x hh.2 h'
theorem mem_of_lookup {α : Type} : ∀ {l : List (Str × α)} {x : Str} {k : α}, l.lookup x = some k → (x, k) ∈ l
  | [], _, _, h => by simp at h
  | (n, k') :: r, x, k, h => by
    rw [List.lookup_cons] at h
    split at h
    · rename_i hb
      cases h
      have hyn := eq_of_beq hb
      rw [hyn]; exact List.mem_cons_self
    · exact List.mem_cons_of_mem _ (mem_of_lookup h)
theorem rel_free {scope : Scope} {env : Env} (nc : ∀ y ∈ scope.names, y.2 ≠ .cell) {x : Str} (h : (relabel scope env).names.lookup x = some .cell ∨ (relabel scope env).names.lookup x = some .free) : (x, NameKind.free) ∈ scope.names := by
  have : ∃ k, (x, k) ∈ (relabel scope env).names ∧ (k = .cell ∨ k = .free) := by
    rcases h with h | h
    · exact ⟨_, mem_of_lookup h, .inl rfl⟩
    · exact ⟨_, mem_of_lookup h, .inr rfl⟩
  obtain ⟨k, hm, hk⟩ := this
  obtain ⟨⟨n, k'⟩, hm', e⟩ := List.mem_map.mp hm
  dsimp only at e
  split at e
  · rename_i hc
    cases e
    simp only [Bool.and_eq_true, beq_iff_eq] at hc
    obtain ⟨⟨h1, _⟩, _⟩ := hc
    subst h1; exact hm'
  · cases e
    rcases hk with rfl | rfl
    · exact absurd rfl (nc _ hm')
    · exact hm'
noncomputable def PTs (X : Cx) (ifs : List Expr) (t : TT) : Prop := ∀ (pins : List (Addr × Obj)) (s : Shared) (σ : St) (H : Hp) (Q : Bool → Hp → Prop), Inv X pins σ H s → t σ H Q →
  wpAny (model X.prog X.w) X.A (forIn ifs true fun c r => if r = true then do let ok ← isTrue c X.env (eval c X.env); pure (ForInStep.yield ok) else pure (ForInStep.yield r)) (TP X pins σ Q) X.xe s
theorem pts_nil {X : Cx} : PTs X [] (fun _ H Q => Q true H) := fun pins s σ H Q I h => wpAny_tests_nil ⟨H, I, h⟩
theorem pts_one {X : Cx} {c : Expr} {t : TT} (h : PT X c t) : PTs X [c] t := fun pins s σ H Q I q => wpAny_tests_one (h pins s σ H Q I q)
noncomputable def tCompIn (X : Cx) (scope : Scope) (N : List Str) (g : TG) (tc : TT) (te : TE) (σ : St) (J : It) (H1 : Hp) (Q : VK) : Prop := ∀ D, H1 D = none → ∃ σ0 : St, σ0.length = N.length ∧
  (∀ (i : Nat) (v : V) (x : Str), σ0[i]? = some (some v) → N[i]? = some x → Vis (relabel scope X.env) x → ∃ k : Nat, X.N[k]? = some x ∧ σ[k]? = some (some v) ∧ CapK X scope x) ∧
  ∃ W : Nat → Nat → St → Hp → Prop, (∃ m, W 0 m σ0 (upd H1 D (.lst []))) ∧ ∀ i m σ' H', W i m σ' H' →
    (J.stop i H' ∧ Q (.ref D) H') ∨ (J.go i H' ∧ ∀ x H2, J.yld i H' x H2 → g x σ' H2 fun σ2 H3 => tc σ2 H3 fun b H4 => if b = true then te σ2 H4 fun y H5 => ∃ l, H5 D = some (.lst l) ∧ l.length < sizeLine ∧ ∃ m', m' < m ∧ W (i + 1) m' σ2 (upd H5 D (.lst (l ++ [y]))) else ∃ m', m' < m ∧ W (i + 1) m' σ2 H4)
noncomputable def tComp (X : Cx) (scope : Scope) (N : List Str) (wi : TI) (g : TG) (tc : TT) (te : TE) : TE := fun σ H Q => wi σ H fun J H1 => tCompIn X scope N g tc te σ J H1 Q
noncomputable section
variable {X : Cx} {scope : Scope} {N : List Str}
theorem comp_ok (sc : CompSc X scope N) {pins : List (Addr × Obj)} {σ : St} {H : Hp} {s : Shared} {fp : List Addr} (I : Inv X pins σ H s) (hf : ∀ b ∈ fp, FpOk X pins H b) (hfl : ∀ b ∈ fp, b < s.heap.objs.size) :
    (compCx X scope N s.heap.objs.size s H fp (X.pn ++ pins)).Ok where
  mod := I.ok.mod
  kind := sc.kind
  glob := I.ok.glob
  blt := I.ok.blt
  above := Nat.le_refl _
  inj := fun x y c h1 h2 => I.ok.inj x y c (cl_sub _ [] (fun _ _ z => by simp at z) x c h1) (cl_sub _ [] (fun _ _ z => by simp at z) y c h2)
  has := fun x h => cl_has _ [] x sc.has (rel_free sc.nocell h)
  cab := fun x c h => by cases h
  hd := I.ok.hd
  frames := I.ok.frames
  stk := .inl rfl
  exf := fun b hb => ⟨Nat.ne_of_lt (hfl b hb), fun x c h => (hf b hb).2.2.2.2.1 x c (cl_sub _ [] (fun _ _ z => by simp at z) x c h)⟩
  bs := I.bs
  bsz := Nat.le_trans I.ok.bsz I.sz
  noex := fun b o e hb => by
    rcases (hf b hb).2.2.2.1 with z | z
    · exact I.ok.noex b o e z
    · exact absurd (Nat.lt_of_lt_of_le (Heap.lt_size e) (Nat.le_trans I.ok.bsz z)) (Nat.lt_irrefl _)
  exfs := fun b hb z => by
    rcases List.mem_cons.mp (I.stkSub b z) with e | e
    · exact (hf b hb).2.1 e
    · exact (hf b hb).2.2.1 e
  funs := I.stack
  frf := I.stkFree
theorem comp_start (sc : CompSc X scope N) {pins : List (Addr × Obj)} {σ σ0 : St} {H : Hp} {s : Shared} {fp : List Addr} {h' : Heap} {m : Str → Option Value} {tk : Nat} (I : Inv X pins σ H s) (hf : ∀ b ∈ fp, FpOk X pins H b) (hfl : ∀ b ∈ fp, b < s.heap.objs.size)
    (hl : σ0.length = N.length) (h0 : ∀ (i : Nat) (v : V) (x : Str), σ0[i]? = some (some v) → N[i]? = some x → Vis (relabel scope X.env) x → ∃ k : Nat, X.N[k]? = some x ∧ σ[k]? = some (some v) ∧ CapK X scope x)
    (hn : h'.Ns s.heap.objs.size m) (hk : ∀ b o, s.heap.get? b = some o → h'.get? b = some o) :
    Inv (compCx X scope N s.heap.objs.size s H fp (X.pn ++ pins)) [] σ0 H { s with heap := h', toks := tk } where
  ok := comp_ok sc I hf hfl
  os := rfl
  bare := I.bare
  base := Un.kept hk
  loc := ⟨m, hn, fun i x v e1 e2 e3 => by
    obtain ⟨k, n2, n3, ck, cv, cr⟩ := h0 i v x e2 e1 e3
    obtain ⟨m0, _, hl0⟩ := I.loc
    obtain ⟨u, r, l⟩ := hl0 k x v n2 n3 cv
    refine ⟨u, r, .inr ⟨cr, ?_⟩⟩
    rcases l with ⟨l1, _⟩ | ⟨_, c, hc, z⟩
    · rcases ck with q | q <;> (rw [l1] at q; cases q)
    · obtain ⟨c', hc'⟩ := cl_has (env := X.env) scope.names [] x sc.has (rel_free sc.nocell cr)
      have q := cl_sub scope.names [] (fun _ _ z => by simp at z) x c' hc'
      rw [hc] at q; cases q
      obtain ⟨o, ho, hd⟩ := z
      exact ⟨c, hc', o, hk _ _ ho, hd⟩⟩
  cell := fun x c e => by
    obtain ⟨v, o, ho, hd⟩ := I.cell x c (cl_sub scope.names [] (fun _ _ z => by simp at z) x c e)
    exact ⟨v, o, hk _ _ ho, hd⟩
  free := I.hok.fresh (Nat.le_refl _)
  freeC := fun x c e => I.freeC x c (cl_sub scope.names [] (fun _ _ z => by simp at z) x c e)
  pin := fun p hp => by
    have hp' : p ∈ X.pn ++ pins := by simpa [compCx] using hp
    obtain ⟨a, b, c, d, e⟩ := I.pin p hp'
    refine ⟨hk _ _ a, b, Nat.ne_of_lt (Heap.lt_size a), fun z => ?_, e⟩
    rcases List.mem_cons.mp (I.stkSub p.1 z) with q | q
    · exact c q
    · exact d q
  hok := I.hok.kept hk
  len := hl
theorem comp_end {pins : List (Addr × Obj)} {σ σ' : St} {H H' : Hp} {s s' : Shared} {fp : List Addr} {h' : Heap} (I : Inv X pins σ H s) (hf : ∀ b ∈ fp, FpOk X pins H b)
    (J : Inv (compCx X scope N s.heap.objs.size s H fp (X.pn ++ pins)) [] σ' H' s') (hs : Heap.SameBut s.heap.objs.size s'.heap h') : Inv X pins σ H' { s' with heap := h' } := by
  have kb : ∀ b o, b ≠ s.heap.objs.size → s'.heap.get? b = some o → h'.get? b = some o := fun b o n e => hs.extBut b o n e
  have ne : ∀ b o, s.heap.get? b = some o → b ≠ s.heap.objs.size := fun b o e => Nat.ne_of_lt (Heap.lt_size e)
  have fr : H' s.heap.objs.size = none := J.free
  have u0 : Un (frs X.stack) fp H H' s.heap s'.heap := J.base
  have u : Un (frs X.stack) fp H H' s.heap h' := ⟨fun b o e n h1 h2 => kb b o (ne b o e) (u0.keep b o e n h1 h2), fun b o e n h1 h2 => by
      obtain ⟨sl, q⟩ := u0.slot b o e n h1 h2
      exact ⟨sl, kb b _ (ne b o e) q⟩, u0.free, fun b o e h => by
      obtain ⟨o', q⟩ := u0.there b o e h
      exact ⟨o', kb b _ (ne b o e) q⟩, u0.tups, u0.frzs, u0.tbls⟩
  have hok : HOk X.prog X.w H' h' := fun b o e => by
    refine (J.hok b o e).stay (fun c v hc q => kb c v ?_ q) (fun _ q => q) fun _ _ q => q
    rcases hc with z | z
    · rw [z]; intro y; rw [y] at e; rw [fr] at e; cases e
    · intro y; rw [y] at z; rw [fr] at z; cases z
  have hos : s'.os = s.os := J.os
  obtain ⟨hh, g, d, t, os'⟩ := s'
  obtain rfl : os' = s.os := hos
  exact Inv.call (X := X) (s := s) (H := H) (h' := h') (g' := g) (d' := d) (t' := t) (ch := fp) I u hok J.bare fun b hb => ⟨(hf b hb).2.2.2.1, (hf b hb).2.1, (hf b hb).2.2.2.2.1, (hf b hb).2.2.2.2.2⟩
variable {tg iter elt : Expr} {ifs : List Expr} {pos : Pos} {g : TG} {tc : TT} {te : TE}
theorem comp_block (sc : CompSc X scope N) (calm : X.calm = true)
    (hg : ∀ C s₀ H₀ ex pn, PG (compCx X scope N C s₀ H₀ ex pn) tg g) (hc : ∀ C s₀ H₀ ex pn, PTs (compCx X scope N C s₀ H₀ ex pn) ifs tc) (he : ∀ C s₀ H₀ ex pn, PE (compCx X scope N C s₀ H₀ ex pn) elt te)
    {pins : List (Addr × Obj)} {σ : St} {H1 : Hp} {s₂ : Shared} {it : Addr} {fp : List Addr} {tn : Nat → Heap → Prop} {J : It} {Q : VK} {E : Value → Shared → Prop} {RR : Value → Addr → Result → Shared → Prop}
    (I : Inv X pins σ H1 s₂) (T : Turn X.prog X.w X.K tg J fp it tn) (st2 : tn 0 s₂.heap) (f2 : ∀ b ∈ fp, FpOk X pins H1 b) (q : tCompIn X scope N g tc te σ J H1 Q)
    (hRR : ∀ D s₃ H3 σ' H' s', Inv X pins σ H3 s₃ → (∀ b ∈ fp, FpOk X pins H3 b) → Inv (compCx X scope N s₃.heap.objs.size s₃ H3 fp (X.pn ++ pins)) [] σ' H' s' → Q (.ref D) H' → RR (.ref D) s₃.heap.objs.size (.ok .next) s') :
    wpAny (model X.prog X.w) X.A (newList []) (fun acc s₃ => wpAny (model X.prog X.w) X.A (newFunctionEnv scope X.env.globals (clOf X.env scope.names []) [] X.env.qual none .none (some X.env)) (fun cenv s₄ =>
      codeAny (model X.prog X.w) X.A (.compStart (.ListComp elt [⟨tg, iter, ifs, 0⟩] scope pos) 0 (.ref it) acc { cenv with scope := relabel scope X.env }) (RR acc cenv.locals) s₄) E s₃) E s₂ := by
  refine wpAny_newObj_type (wpAny_newFunctionEnv sc.nocell (by intro y hy; simp at hy) (fun h₁ hns₁ hsb₁ => ?_) sc.kind)
  dsimp only at hns₁ hsb₁ ⊢
  have I3 : Inv X pins σ (upd H1 s₂.heap.objs.size (.lst [])) { s₂ with heap := s₂.heap.push { cls := .type "list", dict := none, data := .seq ([] : List Value).toArray } } :=
    I.laid (t' := s₂.toks) (fun b ob q => Heap.get?_push_of_some _ q) (Nat.le_refl _) ⟨Nat.zero_le _, [], _, .nil, Heap.get?_push_size _ rfl⟩
  generalize hs3 : ({ s₂ with heap := s₂.heap.push { cls := .type "list", dict := none, data := .seq ([] : List Value).toArray } } : Shared) = s₃ at I3
  have hheap : s₂.heap.push { cls := .type "list", dict := none, data := .seq ([] : List Value).toArray } = s₃.heap := by rw [← hs3]
  have hstate : ∀ (h : Heap) (t : Nat), ({ s₂ with heap := h, toks := t } : Shared) = { s₃ with heap := h, toks := t } := fun h t => by rw [← hs3]
  rw [hheap] at hns₁ hsb₁ ⊢
  have lt2 : ∀ b ∈ fp, b < s₂.heap.objs.size := fun b hb => by
    obtain ⟨o, ho, _⟩ := T.obj _ _ st2 b hb
    exact Heap.lt_size ho
  have sz3 : s₃.heap.objs.size = s₂.heap.objs.size + 1 := by rw [← hheap, Heap.size_push]
  have k23 : ∀ b o, s₂.heap.get? b = some o → s₃.heap.get? b = some o := fun b o e => by rw [← hheap]; exact Heap.get?_push_of_some _ e
  have f3 : ∀ b ∈ fp, FpOk X pins (upd H1 s₂.heap.objs.size (.lst [])) b := fun b hb => ⟨by rw [upd_ne (Nat.ne_of_lt (lt2 b hb))]; exact (f2 b hb).1, (f2 b hb).2⟩
  have lt3 : ∀ b ∈ fp, b < s₃.heap.objs.size := fun b hb => by rw [sz3]; exact Nat.lt_succ_of_lt (lt2 b hb)
  obtain ⟨σ0, hl, h0, W, ⟨m0, w0⟩, turn⟩ := q s₂.heap.objs.size (I.hok.fresh (Nat.le_refl _))
  have k34 : ∀ b o, s₃.heap.get? b = some o → h₁.get? b = some o := fun b o e => hsb₁.extBut b o (Nat.ne_of_lt (Heap.lt_size e)) (Heap.get?_push_of_some _ e)
  rw [hstate]
  have J0 := comp_start (tk := s₂.toks + ([] : List (Str × Value)).length) sc I3 f3 lt3 hl h0 hns₁ k34
  have st4 : tn 0 h₁ := T.keep _ _ _ st2 fun b _ o e => k34 b o (k23 b o e)
  have key : ∀ s₄ : Shared, s₄ = { s₃ with heap := h₁, toks := s₂.toks + ([] : List (Str × Value)).length } → codeAny (model X.prog X.w) X.A (.compLoop (.ListComp elt [⟨tg, iter, ifs, 0⟩] scope pos) 0 (.ref it) (.ref s₂.heap.objs.size)
      (compCx X scope N s₃.heap.objs.size s₃ (upd H1 s₂.heap.objs.size (.lst [])) fp (X.pn ++ pins)).env) (RR (.ref s₂.heap.objs.size) s₃.heap.objs.size) s₄ := by
    rintro s₄ rfl
    generalize hX : compCx X scope N s₃.heap.objs.size s₃ (upd H1 s₂.heap.objs.size (.lst [])) fp (X.pn ++ pins) = X' at J0
    have hP : X'.prog = X.prog := by rw [← hX]; rfl
    have hW : X'.w = X.w := by rw [← hX]; rfl
    have hA : X'.A = X.A := by rw [← hX]; rfl
    have hxe : X'.xe = fun _ _ => False := by rw [← hX]; rfl
    have hK : X'.K = X.K := by rw [← hX]; rfl
    have hcal : X'.calm = true := by rw [← hX]; exact calm
    have stat : ∀ {H' : Hp}, (∀ b ∈ fp, H' b = none) → ∀ b ∈ fp, FpOk X' [] H' b := fun hn b hb => by
      have z := comp_ok sc I3 f3 lt3
      rw [hX] at z
      refine ⟨hn b hb, (z.exf b (by rw [← hX]; exact hb)).1, z.exfs b (by rw [← hX]; exact hb), .inl (by rw [← hX]; exact hb), (z.exf b (by rw [← hX]; exact hb)).2, fun p hp => ?_⟩
      have hp' : p ∈ X.pn ++ pins := by rw [← hX] at hp; simpa [compCx] using hp
      exact (f3 b hb).2.2.2.2.2 p hp'
    have hg' : PG X' tg g := by rw [← hX]; exact hg _ _ _ _ _
    have hc' : PTs X' ifs tc := by rw [← hX]; exact hc _ _ _ _ _
    have he' : PE X' elt te := by rw [← hX]; exact he _ _ _ _ _
    have fin : ∀ σ' H' s', Inv X' [] σ' H' s' → Q (.ref s₂.heap.objs.size) H' → RR (.ref s₂.heap.objs.size) s₃.heap.objs.size (.ok .next) s' := fun σ' H' s' I' q' => hRR _ s₃ _ σ' H' s' I3 f3 (by rw [hX]; exact I') q'
    have T' : Turn X'.prog X'.w X'.K tg J fp it tn := by rw [hP, hW, hK]; exact T
    rw [← hP, ← hW, ← hA]
    refine compLoop_gen (J := fun n s' => ∃ i σ' H', Inv X' [] σ' H' s' ∧ tn i s'.heap ∧ (∀ b ∈ fp, H' b = none) ∧ W i n σ' H') ?_ m0 ⟨0, σ0, _, J0, st4, fun b hb => (f3 b hb).1, w0⟩
    rintro n s5 ⟨i, σ5, H5, I5, st5, fr5, w5⟩
    rcases turn i n σ5 H5 w5 with ⟨stop, qn⟩ | ⟨go, step⟩
    · refine thn (T'.done X' rfl rfl rfl hcal i [] s5 σ5 H5 _ I5 (stat fr5) st5 stop) fun r s6 ⟨hr, I6⟩ => ?_
      subst hr
      exact fin _ _ _ I6 qn
    · refine thn (T'.item X' rfl rfl rfl hcal i [] s5 σ5 H5 _ I5 (stat fr5) st5 go) fun r s6 ⟨u, hr, h6⟩ => ?_
      subst hr
      refine thn h6 fun _ s7 ⟨x, H7, I7, r7, y7, st7, fr7⟩ => ?_
      have I7' := I7.pinned (stat fr7) (T'.obj _ _ st7)
      have a1 := hg' _ s7 σ5 H7 x u _ I7' r7 (step x H7 y7)
      rw [hxe] at a1
      refine thn a1 fun _ s8 ⟨σ8, H8, I8, q8⟩ => ?_
      have a2 := hc' _ s8 σ8 H8 _ I8 q8
      rw [hxe] at a2
      refine thn a2 fun ok s9 ⟨H9, I9, q9⟩ => ?_
      have again : ∀ {σ7 : St} {H7 : Hp} {s' : Shared} {m' : Nat}, Inv X' ([] ++ pinsAt fp s7.heap) σ7 H7 s' → m' < n → W (i + 1) m' σ7 H7 → ∃ m, m < n ∧ ∃ i σ' H', Inv X' [] σ' H' s' ∧ tn i s'.heap ∧ (∀ b ∈ fp, H' b = none) ∧ W i m σ' H' := fun {σ7 H7 s' m'} I7 hm w7 => by
        refine ⟨m', hm, i + 1, σ7, H7, I7.unpinned, T'.keep _ _ _ st7 fun b hb o e => (I7.pin (b, o) (List.mem_append_right _ (List.mem_append_right _ (mem_pinsAt hb e)))).1, fun b hb => ?_, w7⟩
        obtain ⟨o, e, d⟩ := T'.obj _ _ st7 b hb
        exact (I7.pin (b, o) (List.mem_append_right _ (List.mem_append_right _ (mem_pinsAt hb e)))).2.1
      cases ok with
      | false =>
        rw [if_neg Bool.false_ne_true] at q9 ⊢
        obtain ⟨m', hm, w9⟩ := q9
        exact again I9 hm w9
      | true =>
        rw [if_pos rfl] at q9 ⊢
        have a3 := he' _ s9 σ8 H9 _ I9 q9
        rw [hxe] at a3
        refine thn a3 fun xv s10 ⟨y, H10, I10, r10, l, hl10, hz10, m', hm, w10⟩ => ?_
        have a4 := mt_append (X := X') _ s10 σ8 H10 (.ref s₂.heap.objs.size) [y] (.ref s₂.heap.objs.size) [xv] (fun _ H' => H' = upd H10 s₂.heap.objs.size (.lst (l ++ [y]))) I10 rfl (.cons r10 .nil) ⟨_, l, y, rfl, rfl, hl10, hz10, rfl⟩
        rw [hxe] at a4
        refine thn a4 fun _ s11 ⟨v, H11, I11, _, e11⟩ => ?_
        subst e11
        exact again I11 hm w10
  exact codeAny_compStart_list (key _ rfl) (T.self _ 0 _ _ _ st4 (key _ rfl))
theorem pe_comp {wi : TI} (sc : CompSc X scope N) (calm : X.calm = true) (hi : PI X tg iter wi)
    (hg : ∀ C s₀ H₀ ex pn, PG (compCx X scope N C s₀ H₀ ex pn) tg g) (hc : ∀ C s₀ H₀ ex pn, PTs (compCx X scope N C s₀ H₀ ex pn) ifs tc) (he : ∀ C s₀ H₀ ex pn, PE (compCx X scope N C s₀ H₀ ex pn) elt te)
    (hs : ∀ x, foldedSetIterable iter X.env x = pure x := by intro _; rfl) : PE X (.ListComp elt [⟨tg, iter, ifs, 0⟩] scope pos) (tComp X scope N wi g tc te) := by
  intro pins s σ H Q I h
  rw [eval_ListComp]
  refine wpAny_comprehension_free (use := none) rfl hs (closureFor_cl sc.has) sc.kind sc.names ?_
  refine wpAny_mono (hi pins s σ H _ I h) (fun x s₁ h₁ => wpAny_mono h₁ (fun itv s₂ h₂ => ?_) fun _ _ e => e) fun _ _ e => e
  obtain ⟨it, fp, tn, J, H1, rfl, I2, T, st2, f2, q⟩ := h₂
  refine comp_block (RR := fun acc C => compPost (model X.prog X.w) X.A X.xe none (EP X pins σ Q) acc C) sc calm hg hc he I2 T st2 f2 q ?_
  intro D s₃ H3 σ' H' s' I3 f3 I' qn
  obtain ⟨m, hn, _⟩ := I'.loc
  exact ⟨m, hn, fun h' hs' => ⟨.ref D, H', comp_end I3 f3 I' hs', rfl, qn⟩⟩
theorem ps_comp {wi : TI} {y : Str} {py spos : Pos} {i : Nat} (sc : CompSc X scope N) (calm : X.calm = true) (hi : PI X tg iter wi)
    (hg : ∀ C s₀ H₀ ex pn, PG (compCx X scope N C s₀ H₀ ex pn) tg g) (hc : ∀ C s₀ H₀ ex pn, PTs (compCx X scope N C s₀ H₀ ex pn) ifs tc) (he : ∀ C s₀ H₀ ex pn, PE (compCx X scope N C s₀ H₀ ex pn) elt te)
    (hgN : PG X (.Name y py) (gName i)) (hsw : swapsWith (.ListComp elt [⟨tg, iter, ifs, 0⟩] scope pos) (some (.Name y py)) spos.line X.env = pure true)
    (hs : ∀ x, foldedSetIterable iter X.env x = pure x := by intro _; rfl) : PS X (.Assign [.Name y py] (.ListComp elt [⟨tg, iter, ifs, 0⟩] scope pos) spos) (tAsg (tComp X scope N wi g tc te) (gName i)) := by
  intro pins s σ H D I h
  rw [exec_Assign_Name_used _ _ _ _ hsw] -- here
  refine wpAny_bind (wpAny_standAt (wpAny_bind ?_)) -- here
  show wpAny _ X.A (do let _ ← comprehension (.ListComp elt [⟨tg, iter, ifs, 0⟩] scope pos) scope X.env _ (newList []) false (eval iter X.env) (some (assign (.Name y py) X.env))) _ _ s
  refine wpAny_bind (wpAny_mono (wpAny_comprehension_free (use := some (assign (.Name y py) X.env)) (Q := fun _ s' => SP X pins D .next s') rfl hs (closureFor_cl sc.has) sc.kind sc.names ?_) (fun _ s' hq => wpAny_pure (wpAny_pure hq)) fun _ _ e => e)
  refine wpAny_mono (hi pins s σ H _ I h) (fun x s₁ h₁ => wpAny_mono h₁ (fun itv s₂ h₂ => ?_) fun _ _ e => e) fun _ _ e => e
  obtain ⟨it, fp, tn, J, H1, rfl, I2, T, st2, f2, q⟩ := h₂
  refine comp_block (RR := fun acc C => compPost (model X.prog X.w) X.A X.xe (some (assign (.Name y py) X.env)) (fun _ s' => SP X pins D .next s') acc C) sc calm hg hc he I2 T st2 f2 q ?_
  intro D' s₃ H3 σ' H' s' I3 f3 I' qn
  obtain ⟨m, hn, _⟩ := I'.loc
  obtain ⟨oC, es, ep, hoC, hdC, hrest⟩ := id hn
  have IX : Inv X pins σ H' s' := comp_end I3 f3 I' (.refl ..)
  have fC : FpOk X pins H' s₃.heap.objs.size := I3.fpOk (Nat.le_refl _) I'.free
  have IXp := IX.pinned (fp := [s₃.heap.objs.size]) (fun b hb => by rw [List.mem_singleton.mp hb]; exact fC) (fun b hb => by
    rw [List.mem_singleton.mp hb]
    exact ⟨oC, hoC, fun v z => by rw [hdC] at z; cases z⟩)
  show wpAny _ X.A (assign (.Name y py) X.env (.ref D')) _ _ _
  refine thn (hgN _ s' σ H' (.ref D') (.ref D') _ IXp rfl qn) fun _ s'' ⟨σ'', H'', I'', q''⟩ => ?_
  have pC := I''.pin (s₃.heap.objs.size, oC) (List.mem_append_right _ (List.mem_append_right _ (mem_pinsAt (by simp) hoC)))
  refine ⟨m, ⟨oC, es, ep, pC.1, hdC, hrest⟩, fun h' hs' => ⟨σ'', H'', ?_, q''⟩⟩
  exact I''.unpinned.turned (h' := h') (t' := s''.toks) (it := s₃.heap.objs.size) (fun b o ne e => hs'.extBut b o ne e) pC.2.1 fC.2.1 fC.2.2.2.1 fC.2.2.2.2.1 fC.2.2.2.2.2
end
end L2
end
noncomputable section
set_option linter.all false
set_option maxHeartbeats 4000002
set_option autoImplicit false
namespace C
open PySem PySem.Spec PyProof.Rows L2
mutual
inductive Rep (K : PySem.W.Frag) (S : Hp) (as : List Addr) : V → T → Prop where
  | non : Rep K S as .non .non
  | bl (b : Bool) : Rep K S as (.bl b) (.bl b)
  | int (i : Int) : Rep K S as (.int i) (.int i)
  | str (x : Str) : Rep K S as (.str x) (.str x)
  | tup {a : Addr} {vs : List V} {ts : List T} : SqT K S a vs → Reps K S as vs ts → Rep K S as (.ref a) (.tup ts)
  | lst {a : Addr} {vs : List V} {ts : List T} : SqL K S a vs → Reps K S as vs ts → Rep K S as (.ref a) (.lst ts)
  | dic {a : Addr} {kvs : List (L2.Key × V)} {ts : List (L2.Key × T)} : Rd S a (.dK kvs) → RepK K S as kvs ts → Rep K S as (.ref a) (.dic ts)
  | obj {n : Nat} {a : Addr} : as[n]? = some a → Rep K S as (.ref a) (.obj n)
inductive Reps (K : PySem.W.Frag) (S : Hp) (as : List Addr) : List V → List T → Prop where
  | nil : Reps K S as [] []
  | cons {v : V} {t : T} {vs : List V} {ts : List T} : Rep K S as v t → Reps K S as vs ts → Reps K S as (v :: vs) (t :: ts)
inductive RepK (K : PySem.W.Frag) (S : Hp) (as : List Addr) : List (L2.Key × V) → List (L2.Key × T) → Prop where
  | nil : RepK K S as [] []
  | cons {k : L2.Key} {v : V} {t : T} {vs : List (L2.Key × V)} {ts : List (L2.Key × T)} : Rep K S as v t → RepK K S as vs ts → RepK K S as ((k, v) :: vs) ((k, t) :: ts)
end
theorem rd_mono {S S' : Hp} {a : Addr} {u : HO} (e : Same S S') (h : Rd S a u) : Rd S' a u := by
  rcases h with h | ⟨o, h⟩
  · exact .inl (e _ _ h)
  · exact .inr ⟨o, e _ _ h⟩
theorem sqT_mono {K : PySem.W.Frag} {S S' : Hp} {a : Addr} {xs : List V} (e : Same S S') (h : SqT K S a xs) : SqT K S' a xs := by
  rcases h with h | h
  · exact .inl (rd_mono e h)
  · exact .inr h
theorem sqL_mono {K : PySem.W.Frag} {S S' : Hp} {a : Addr} {xs : List V} (e : Same S S') (h : SqL K S a xs) : SqL K S' a xs := by
  rcases h with h | h
  · exact .inl (rd_mono e h)
  · exact .inr h
noncomputable section
variable {K : PySem.W.Frag} {S S' : Hp} {as as' : List Addr}
theorem get_app {α : Type} {l r : List α} {n : Nat} {a : α} (h : l[n]? = some a) : (l ++ r)[n]? = some a := by
  have := (List.getElem?_eq_some_iff.mp h).1
  rw [List.getElem?_append_left this]; exact h
mutual
theorem Rep.mono (e : Same S S') (x : ∃ l, as' = as ++ l) : ∀ {v : V} {t : T}, Rep K S as v t → Rep K S' as' v t
  | _, _, .non => .non
  | _, _, .bl b => .bl b
  | _, _, .int i => .int i
  | _, _, .str y => .str y
  | _, _, .tup h r => .tup (sqT_mono e h) (Reps.mono e x r)
  | _, _, .lst h r => .lst (sqL_mono e h) (Reps.mono e x r)
  | _, _, .dic h r => .dic (rd_mono e h) (RepK.mono e x r)
  | _, _, .obj h => .obj (by obtain ⟨l, rfl⟩ := x; exact get_app h)
theorem Reps.mono (e : Same S S') (x : ∃ l, as' = as ++ l) : ∀ {v : List V} {t : List T}, Reps K S as v t → Reps K S' as' v t
  | _, _, .nil => .nil
  | _, _, .cons h r => .cons (Rep.mono e x h) (Reps.mono e x r)
theorem RepK.mono (e : Same S S') (x : ∃ l, as' = as ++ l) : ∀ {v : List (L2.Key × V)} {t : List (L2.Key × T)}, RepK K S as v t → RepK K S' as' v t
  | _, _, .nil => .nil
  | _, _, .cons h r => .cons (Rep.mono e x h) (RepK.mono e x r)
end
theorem Reps.length : ∀ {vs : List V} {ts : List T}, Reps K S as vs ts → vs.length = ts.length
  | _, _, .nil => rfl
  | _, _, .cons _ r => congrArg (· + 1) r.length
theorem RepK.length : ∀ {vs : List (L2.Key × V)} {ts : List (L2.Key × T)}, RepK K S as vs ts → vs.length = ts.length
  | _, _, .nil => rfl
  | _, _, .cons _ r => congrArg (· + 1) r.length
theorem Reps.get : ∀ {vs : List V} {ts : List T} {i : Nat} {t : T}, Reps K S as vs ts → ts[i]? = some t → ∃ v, vs[i]? = some v ∧ Rep K S as v t
  | _, _, _, _, .nil, e => by simp at e
  | _, _, 0, _, .cons r _, e => by simp at e; subst e; exact ⟨_, rfl, r⟩
  | _, _, i + 1, t, .cons _ r, e => by
    obtain ⟨v, h1, h2⟩ := Reps.get (i := i) (t := t) r (by simpa using e)
    exact ⟨v, by simpa using h1, h2⟩
theorem Reps.append : ∀ {vs : List V} {ts : List T} {ws : List V} {us : List T}, Reps K S as vs ts → Reps K S as ws us → Reps K S as (vs ++ ws) (ts ++ us)
  | _, _, _, _, .nil, q => q
  | _, _, _, _, .cons h r, q => .cons h (Reps.append r q)
theorem Reps.reverse : ∀ {vs : List V} {ts : List T}, Reps K S as vs ts → Reps K S as vs.reverse ts.reverse
  | _, _, .nil => .nil
  | _, _, .cons h r => by rw [List.reverse_cons, List.reverse_cons]; exact Reps.append (Reps.reverse r) (.cons h .nil)
theorem Reps.drop : ∀ (n : Nat) {vs : List V} {ts : List T}, Reps K S as vs ts → Reps K S as (vs.drop n) (ts.drop n)
  | 0, _, _, r => r
  | _ + 1, _, _, .nil => .nil
  | n + 1, _, _, .cons _ r => Reps.drop n r
theorem RepK.get (k : L2.Key) : ∀ {vs : List (L2.Key × V)} {ts : List (L2.Key × T)}, RepK K S as vs ts → (∃ v t, valV vs k = some v ∧ dGet k ts = some t ∧ Rep K S as v t) ∨ (valV vs k = none ∧ dGet k ts = none)
  | _, _, .nil => .inr ⟨rfl, rfl⟩
  | _, _, .cons (k := q) (v := v) (t := t) (vs := vs) (ts := ts) h r => by
    by_cases e : q = k
    · exact .inl ⟨v, t, valV_pos (p := (q, v)) e, by rw [dGet, if_pos e], h⟩
    · rw [valV_neg (p := (q, v)) e, dGet, if_neg e]
      exact RepK.get k r
end
structure Bas where
  S : Hp
  as : List Addr
  H : Hp
structure Grow (B : Bas) (S : Hp) (as : List Addr) (H : Hp) : Prop where
  same : Same B.S S
  more : ∃ l, as = B.as ++ l
  keep : ∀ p o, B.H p = some o → B.S p = none → p ∉ B.as → H p = some o ∧ S p = none ∧ p ∉ as
structure Ext (S H S' H' : Hp) : Prop where
  s : Same S S'
  h : Same H H'
  sub : Same S' H'
  new : ∀ p, S' p ≠ none → S p ≠ none ∨ H p = none
theorem Ext.refl {S H : Hp} (h : Same S H) : Ext S H S H := ⟨Same.refl _, Same.refl _, h, fun _ q => .inl q⟩
theorem Same.upd {H : Hp} {p : Addr} (h : H p = none) (o : HO) : Same H (upd H p o) := fun b u q => by rw [upd_ne (ne_of_none q h)]; exact q
theorem Ext.laid {S H : Hp} (h : Same S H) {p : Addr} (n : H p = none) (o : HO) : Ext S H (upd S p o) (upd H p o) where
  s := Same.upd (h.free n) o
  h := Same.upd n o
  sub := fun b u q => by
    by_cases e : b = p
    · subst e; rw [upd_same] at q ⊢; exact q
    · rw [upd_ne e] at q ⊢; exact h _ _ q
  new := fun b q => by
    by_cases e : b = p
    · subst e; exact .inr n
    · rw [upd_ne e] at q; exact .inl q
theorem Ext.trans {S H S1 H1 S2 H2 : Hp} (a : Ext S H S1 H1) (b : Ext S1 H1 S2 H2) : Ext S H S2 H2 where
  s := a.s.trans b.s
  h := a.h.trans b.h
  sub := b.sub
  new := fun p q => by
    rcases b.new p q with z | z
    · exact a.new p z
    · exact .inr (a.h.free z)
noncomputable def Own (K : PySem.W.Frag) (S : Hp) (as : List Addr) (H : Hp) (p : Addr) : T → Prop
  | .lst ts => ∃ vs, H p = some (.lst vs) ∧ Reps K S as vs ts
  | .dic ts => ∃ kvs, H p = some (.dK kvs) ∧ RepK K S as kvs ts
  | _ => False
structure OwnAt (K : PySem.W.Frag) (B : Bas) (S : Hp) (as : List Addr) (H : Hp) (p : Addr) (t : T) : Prop where
  own : Own K S as H p t
  out : S p = none
  nas : p ∉ as
  new : B.H p = none
noncomputable def SRep (K : PySem.W.Frag) (S : Hp) (as : List Addr) (H : Hp) (a : Addr) : SO → Prop
  | .dic ts => ∃ kvs, H a = some (.dK kvs) ∧ RepK K S as kvs ts
  | .lst ts => ∃ vs, H a = some (.lst vs) ∧ Reps K S as vs ts
  | .ins _ _ => False
structure StoOk (K : PySem.W.Frag) (S : Hp) (as : List Addr) (H : Hp) (sto : List SO) : Prop where
  len : as.length = sto.length
  nd : as.Nodup
  at' : ∀ (n : Nat) so, sto[n]? = some so → ∃ a, as[n]? = some a ∧ S a = none ∧ SRep K S as H a so
structure Rel (K : PySem.W.Frag) (B : Bas) (st : Sta) (σ : L2.St) (H : Hp) (ps : List (V × T)) (S : Hp) (as : List Addr) : Prop where
  sub : Same S H
  grow : Grow B S as H
  slots : ∀ (i : Nat) t f, st.env[i]? = some (some (t, f)) → ∃ v, σ[i]? = some (some v) ∧ (f = false → Rep K S as v t) ∧ (f = true → ∃ p, v = .ref p ∧ OwnAt K B S as H p t)
  apart : ∀ (i j : Nat) t u p, st.env[i]? = some (some (t, true)) → st.env[j]? = some (some (u, true)) → σ[i]? = some (some (.ref p)) → σ[j]? = some (some (.ref p)) → i = j
  sto : StoOk K S as H st.sto
  pend : ∀ p ∈ ps, Rep K S as p.1 p.2
  len : σ.length = st.env.length
noncomputable section
variable {K : PySem.W.Frag} {B : Bas} {st : Sta} {σ : L2.St} {H H' S S' : Hp} {ps : List (V × T)} {as : List Addr}
theorem nol {as : List Addr} : ∃ l : List Addr, as = as ++ l := ⟨[], (List.append_nil _).symm⟩
theorem Own.mono {p : Addr} {t : T} (hs : Same S S') (hh : H p = H' p) (o : Own K S as H p t) : Own K S' as H' p t := by
  cases t with
  | lst ts => obtain ⟨vs, h, r⟩ := o; exact ⟨vs, hh ▸ h, r.mono hs nol⟩
  | dic ts => obtain ⟨vs, h, r⟩ := o; exact ⟨vs, hh ▸ h, r.mono hs nol⟩
  | _ => exact o.elim
theorem Own.there {p : Addr} {t : T} (o : Own K S as H p t) : ∃ ob, H p = some ob := by
  cases t with
  | lst ts => obtain ⟨vs, h, r⟩ := o; exact ⟨_, h⟩
  | dic ts => obtain ⟨vs, h, r⟩ := o; exact ⟨_, h⟩
  | _ => exact o.elim
theorem SRep.mono {a : Addr} {so : SO} (hs : Same S S') (hh : H a = H' a) (o : SRep K S as H a so) : SRep K S' as H' a so := by
  cases so with
  | dic ts => obtain ⟨vs, h, r⟩ := o; exact ⟨vs, hh ▸ h, r.mono hs nol⟩
  | lst ts => obtain ⟨vs, h, r⟩ := o; exact ⟨vs, hh ▸ h, r.mono hs nol⟩
  | ins c f => exact o.elim
theorem SRep.there {a : Addr} {so : SO} (o : SRep K S as H a so) : ∃ ob, H a = some ob := by
  cases so with
  | dic ts => obtain ⟨vs, h, r⟩ := o; exact ⟨_, h⟩
  | lst ts => obtain ⟨vs, h, r⟩ := o; exact ⟨_, h⟩
  | ins c f => exact o.elim
theorem Ext.outs (x : Ext S H S' H') {p : Addr} {o : HO} (h : H p = some o) (n : S p = none) : S' p = none := by
  cases q : S' p with
  | none => rfl
  | some u =>
    rcases x.new p (by rw [q]; exact Option.some_ne_none _) with z | z
    · exact absurd n z
    · rw [h] at z; cases z
theorem StoOk.ext {sto : List SO} (r : StoOk K S as H sto) (x : Ext S H S' H') : StoOk K S' as H' sto where
  len := r.len
  nd := r.nd
  at' := fun n so e => by
    obtain ⟨a, h1, h2, h3⟩ := r.at' n so e
    obtain ⟨ob, ho⟩ := h3.there
    exact ⟨a, h1, x.outs ho h2, h3.mono x.s (by rw [ho, x.h _ _ ho])⟩
theorem Rel.ext (r : Rel K B st σ H ps S as) (x : Ext S H S' H') : Rel K B st σ H' ps S' as where
  sub := x.sub
  grow := ⟨r.grow.same.trans x.s, r.grow.more, fun p o h1 h2 h3 => by
    obtain ⟨a, b, c⟩ := r.grow.keep p o h1 h2 h3
    exact ⟨x.h _ _ a, x.outs a b, c⟩⟩
  slots := fun i t f e => by
    obtain ⟨v, h1, h2, h3⟩ := r.slots i t f e
    refine ⟨v, h1, fun q => (h2 q).mono x.s nol, fun q => ?_⟩
    obtain ⟨p, e, o⟩ := h3 q
    obtain ⟨ob, ho⟩ := o.own.there
    exact ⟨p, e, o.own.mono x.s (by rw [ho, x.h _ _ ho]), x.outs ho o.out, o.nas, o.new⟩
  apart := r.apart
  sto := r.sto.ext x
  pend := fun p hp => (r.pend p hp).mono x.s nol
  len := r.len
theorem Rel.push (r : Rel K B st σ H ps S as) {v : V} {t : T} (h : Rep K S as v t) : Rel K B st σ H ((v, t) :: ps) S as :=
  ⟨r.sub, r.grow, r.slots, r.apart, r.sto, fun p hp => by
    rcases List.mem_cons.mp hp with rfl | z
    · exact h
    · exact r.pend p z, r.len⟩
theorem Rel.drop {p : V × T} (r : Rel K B st σ H (p :: ps) S as) : Rel K B st σ H ps S as :=
  ⟨r.sub, r.grow, r.slots, r.apart, r.sto, fun q hq => r.pend q (List.mem_cons_of_mem _ hq), r.len⟩
theorem Rel.top {v : V} {t : T} (r : Rel K B st σ H ((v, t) :: ps) S as) : Rep K S as v t := r.pend (v, t) List.mem_cons_self
theorem Rel.top2 {v : V} {t : T} {q : V × T} (r : Rel K B st σ H (q :: (v, t) :: ps) S as) : Rep K S as v t := r.pend (v, t) (List.mem_cons_of_mem _ List.mem_cons_self)
end
noncomputable def tOf (K : PySem.W.Frag) (B : Bas) (m : M T) : TE := fun σ H Q => ∃ st ps S as, Rel K B st σ H ps S as ∧ ∃ t st', m st = some (t, st') ∧
  ∀ v H' S' as', Rel K B st' σ H' ((v, t) :: ps) S' as' → Q v H'
noncomputable def cOf (K : PySem.W.Frag) (B : Bas) (m : M Bool) : TT := fun σ H Q => ∃ st ps S as, Rel K B st σ H ps S as ∧ ∃ b st', m st = some (b, st') ∧
  ∀ H' S' as', Rel K B st' σ H' ps S' as' → Q b H'
noncomputable def aOf (K : PySem.W.Frag) (B : Bas) (m : M (List T)) : TA := fun σ H Q => ∃ st ps S as, Rel K B st σ H ps S as ∧ ∃ ts st', m st = some (ts, st') ∧
  ∀ vs H' S' as', Rel K B st' σ H' ps S' as' → Reps K S' as' vs ts → Q vs H'
theorem _root_.L2.PE.imp {X : Cx} {e : Expr} {t t' : TE} (h : PE X e t) (i : ∀ σ H Q, t' σ H Q → t σ H Q) : PE X e t' := fun pins s σ H Q I q => h pins s σ H Q I (i σ H Q q)
theorem _root_.L2.PT.imp {X : Cx} {e : Expr} {t t' : TT} (h : PT X e t) (i : ∀ σ H Q, t' σ H Q → t σ H Q) : PT X e t' := fun pins s σ H Q I q => h pins s σ H Q I (i σ H Q q)
theorem _root_.L2.PA.imp {X : Cx} {e : List Expr} {t t' : TA} (h : PA X e t) (i : ∀ σ H Q, t' σ H Q → t σ H Q) : PA X e t' := fun pos pins s σ H Q I q => h pos pins s σ H Q I (i σ H Q q)
theorem _root_.L2.PS.imp {X : Cx} {e : Stmt} {t t' : TS} (h : PS X e t) (i : ∀ D σ H, t' D σ H → t D σ H) : PS X e t' := fun pins s σ H D I q => h pins s σ H D I (i D σ H q)
theorem _root_.L2.PSs.imp {X : Cx} {e : List Stmt} {t t' : TS} (h : PSs X e t) (i : ∀ D σ H, t' D σ H → t D σ H) : PSs X e t' := fun pins s σ H D I q => h pins s σ H D I (i D σ H q)
noncomputable def r2 (K : PySem.W.Frag) (f : T → T → Option T) : R2 := fun x y H Q => ∃ S as t u w, Same S H ∧ Rep K S as x t ∧ Rep K S as y u ∧ f t u = some w ∧ ∀ v H' S', Ext S H S' H' → Rep K S' as v w → Q v H'
noncomputable def r1 (K : PySem.W.Frag) (f : T → Option T) : V → Hp → VK → Prop := fun x H Q => ∃ S as t w, Same S H ∧ Rep K S as x t ∧ f t = some w ∧ ∀ v H' S', Ext S H S' H' → Rep K S' as v w → Q v H'
noncomputable def rL (K : PySem.W.Frag) (f : List T → Option T) : List V → Hp → VK → Prop := fun xs H Q => ∃ S as ts w, Same S H ∧ Reps K S as xs ts ∧ f ts = some w ∧ ∀ v H' S', Ext S H S' H' → Rep K S' as v w → Q v H'
noncomputable abbrev OpT (X : Cx) (f : Value → Value → Sem Value) (g : T → T → Option T) : Prop := OpR X f (r2 X.K g)
noncomputable abbrev UnT (X : Cx) (f : Value → Sem Value) (g : T → Option T) : Prop := UnR X f (r1 X.K g)
noncomputable abbrev CallT (X : Cx) (f : Value) (g : List T → Option T) : Prop := CallR X f (rL X.K g)
noncomputable section
variable {X : Cx} {B : Bas} {a b c : Expr} {m m1 m2 : M T} {pos : Pos}
theorem te_const {v : V} {t : T} {e : Expr} (h : PE X e (tC v)) (r : ∀ S as, Rep X.K S as v t) : PE X e (tOf X.K B (mPure t)) := h.imp fun σ H Q ⟨st, ps, S, as, R, t', st', e, q⟩ => by
  cases e
  exact q v H S as (R.push (r S as))
theorem te_int {i : Int} {j : Nat} : PE X (.Constant (.int i) j pos) (tOf X.K B (mPure (.int i))) := te_const pe_int fun _ _ => .int i
theorem te_bl {i : Bool} {j : Nat} : PE X (.Constant (.bool i) j pos) (tOf X.K B (mPure (.bl i))) := te_const pe_bl fun _ _ => .bl i
theorem te_str {i : Str} {j : Nat} : PE X (.Constant (.str i) j pos) (tOf X.K B (mPure (.str i))) := te_const pe_str fun _ _ => .str i
theorem te_op {op : Operator} {f : T → T → Option T} (ho : OpT X (binaryOp op) f) (ha : PE X a (tOf X.K B m1)) (hb : PE X b (tOf X.K B m2)) : PE X (.BinOp a op b pos) (tOf X.K B (mOp f m1 m2)) :=
  (pe_op ho ha hb).imp fun σ H Q ⟨st, ps, S, as, R, t, st', e, q⟩ => by
    obtain ⟨t1, s1, t2, e1, e2, e3⟩ := mOp_inv e
    refine ⟨st, ps, S, as, R, t1, s1, e1, fun v H1 S1 as1 R1 => ⟨s1, _, S1, as1, R1, t2, st', e2, fun u H2 S2 as2 R2 => ?_⟩⟩
    exact ⟨S2, as2, t1, t2, t, R2.sub, R2.top2, R2.top, e3, fun w H3 S3 x r => q w H3 S3 as2 ((R2.drop.drop.ext x).push r)⟩
end
end C
end
noncomputable section
set_option linter.all false
set_option maxRecDepth 100000
set_option maxHeartbeats 4000002
set_option autoImplicit false
namespace C
open PySem PySem.Spec PyProof.Rows L2
noncomputable section
variable {K : PySem.W.Frag} {B : Bas} {st : Sta} {σ : L2.St} {H H' S S' : Hp} {ps : List (V × T)} {as : List Addr}
theorem Rel.freeze (r : Rel K B st σ H ps S as) {i : Nat} {t : T} (e : st.env[i]? = some (some (t, true))) :
    ∃ v S', σ[i]? = some (some v) ∧ Rel K B { st with env := st.env.set i (some (t, false)) } σ H ((v, t) :: ps) S' as := by
  obtain ⟨v, h1, _, h3⟩ := r.slots i t true e
  obtain ⟨p, rfl, o⟩ := h3 rfl
  obtain ⟨ob, ho⟩ := o.own.there
  have hi : i < st.env.length := (List.getElem?_eq_some_iff.mp e).1
  have sS : Same S (upd S p ob) := Same.upd o.out ob
  have rep : Rep K (upd S p ob) as (.ref p) t := by
    have w := o.own
    cases t with
    | lst ts => obtain ⟨vs, h, q⟩ := w; rw [ho] at h; cases h; exact .lst (SqL.of upd_same) (q.mono sS nol)
    | dic ts => obtain ⟨vs, h, q⟩ := w; rw [ho] at h; cases h; exact .dic (.inl upd_same) (q.mono sS nol)
    | _ => exact w.elim
  have outs : ∀ q, S q = none → q ≠ p → upd S p ob q = none := fun q h n => by rw [upd_ne n]; exact h
  refine ⟨.ref p, upd S p ob, h1, ?_⟩
  refine Rel.push (v := .ref p) (t := t) ⟨?_, ?_, ?_, ?_, ?_, ?_, ?_⟩ rep
  · intro b u q
    by_cases z : b = p
    · subst z; rw [upd_same] at q; cases q; exact ho
    · rw [upd_ne z] at q; exact r.sub _ _ q
  · refine ⟨r.grow.same.trans sS, r.grow.more, fun q w a b c => ?_⟩
    obtain ⟨x, y, z⟩ := r.grow.keep q w a b c
    refine ⟨x, outs q y fun n => ?_, z⟩
    subst n; rw [o.new] at a; cases a
  · intro j u f ej
    by_cases hij : i = j
    · subst hij
      rw [List.getElem?_set_self hi] at ej
      cases ej
      exact ⟨.ref p, h1, fun _ => rep, fun z => by cases z⟩
    · rw [List.getElem?_set_ne hij] at ej
      obtain ⟨v', a1, a2, a3⟩ := r.slots j u f ej
      refine ⟨v', a1, fun z => (a2 z).mono sS nol, fun z => ?_⟩
      subst z
      obtain ⟨p', rfl, o'⟩ := a3 rfl
      refine ⟨p', rfl, o'.own.mono sS rfl, outs p' o'.out fun n => ?_, o'.nas, o'.new⟩
      subst n
      exact hij (r.apart i j t u p' e ej h1 a1)
  · intro j k u w q ej ek
    have hj : st.env[j]? = some (some (u, true)) := by
      by_cases hij : i = j
      · subst hij; rw [List.getElem?_set_self hi] at ej; cases ej
      · rwa [List.getElem?_set_ne hij] at ej
    have hk : st.env[k]? = some (some (w, true)) := by
      by_cases hij : i = k
      · subst hij; rw [List.getElem?_set_self hi] at ek; cases ek
      · rwa [List.getElem?_set_ne hij] at ek
    exact r.apart j k u w q hj hk
  · refine ⟨r.sto.len, r.sto.nd, fun n so en => ?_⟩
    obtain ⟨a, a1, a2, a3⟩ := r.sto.at' n so en
    refine ⟨a, a1, outs a a2 fun z => ?_, a3.mono sS rfl⟩
    subst z
    exact o.nas (List.mem_of_getElem? a1)
  · exact fun q hq => (r.pend q hq).mono sS nol
  · show σ.length = (st.env.set i _).length
    rw [List.length_set]; exact r.len
end
noncomputable section
variable {X : Cx} {B : Bas} {a b c : Expr} {m m1 m2 : M T} {pos : Pos}
theorem te_var (i : Nat) {e : Expr} (h : PE X e (tVar i)) : PE X e (tOf X.K B (mVar i)) := h.imp fun σ H Q ⟨st, ps, S, as, R, t, st', e, q⟩ => by
  rcases mVar_inv e with ⟨e1, rfl⟩ | ⟨e1, rfl⟩
  · obtain ⟨v, h1, h2, _⟩ := R.slots i t false e1
    exact ⟨v, h1, q v H S as (R.push (h2 rfl))⟩
  · obtain ⟨v, S', h1, R'⟩ := R.freeze e1
    exact ⟨v, h1, q v H S' as R'⟩
theorem ta_nil : PA X [] (aOf X.K B mNil) := pa_nil.imp fun σ H Q ⟨st, ps, S, as, R, ts, st', e, q⟩ => by
  cases e
  exact q [] H S as R .nil
theorem ta_cons {es : List Expr} {ms : M (List T)} (ha : PE X a (tOf X.K B m)) (hr : PA X es (aOf X.K B ms)) (hs : starEach (a :: es) X.env = (false, eval a X.env) :: starEach es X.env := by rfl) : PA X (a :: es) (aOf X.K B (mCons m ms)) :=
  (pa_cons ha hr hs).imp fun σ H Q ⟨st, ps, S, as, R, ts, st', e, q⟩ => by
    obtain ⟨t, s1, us, e1, e2, rfl⟩ := mCons_inv e
    refine ⟨st, ps, S, as, R, t, s1, e1, fun v H1 S1 as1 R1 => ⟨s1, _, S1, as1, R1, us, st', e2, fun vs H2 S2 as2 R2 rs => ?_⟩⟩
    exact q (v :: vs) H2 S2 as2 R2.drop (.cons R2.top rs)
theorem te_tup {es : List Expr} {ms : M (List T)} {k : Nat} (h : PA X es (aOf X.K B ms)) (hm : ∀ st ts st', ms st = some (ts, st') → ts.length ≤ 1000) : PE X (.Tuple es k pos) (tOf X.K B (mMap (fun l => some (.tup l)) ms)) :=
  (pe_tup h).imp fun σ H Q ⟨st, ps, S, as, R, t, st', e, q⟩ => by
    obtain ⟨ts, e1, e2⟩ := mMap_inv e
    cases e2
    refine ⟨st, ps, S, as, R, ts, st', e1, fun vs H1 S1 as1 R1 rs => ⟨?_, fun p hp => ?_⟩⟩
    · rw [rs.length]; exact Nat.le_of_lt (small1000 (hm _ _ _ e1))
    · have x := Ext.laid R1.sub hp (.tup vs)
      exact q _ _ _ _ ((R1.ext x).push (.tup (SqT.of upd_same) (rs.mono x.s nol)))
theorem te_lst {es : List Expr} {ms : M (List T)} (h : PA X es (aOf X.K B ms)) (hm : ∀ st ts st', ms st = some (ts, st') → ts.length ≤ 1000) : PE X (.List es pos) (tOf X.K B (mMap (fun l => some (.lst l)) ms)) :=
  (pe_lst h).imp fun σ H Q ⟨st, ps, S, as, R, t, st', e, q⟩ => by
    obtain ⟨ts, e1, e2⟩ := mMap_inv e
    cases e2
    refine ⟨st, ps, S, as, R, ts, st', e1, fun vs H1 S1 as1 R1 rs => ⟨?_, fun p hp => ?_⟩⟩
    · rw [rs.length]; exact Nat.le_of_lt (small1000 (hm _ _ _ e1))
    · have x := Ext.laid R1.sub hp (.lst vs)
      exact q _ _ _ _ ((R1.ext x).push (.lst (SqL.of upd_same) (rs.mono x.s nol)))
theorem len_nil : ∀ st ts st', mNil st = some (ts, st') → ts.length ≤ 0 := fun st ts st' e => by cases e; exact Nat.le_refl _
theorem len_cons {r : M (List T)} {n : Nat} (h : ∀ st ts st', r st = some (ts, st') → ts.length ≤ n) : ∀ st ts st', mCons m r st = some (ts, st') → ts.length ≤ n + 1 := fun st ts st' e => by
  obtain ⟨t, s1, us, e1, e2, rfl⟩ := mCons_inv e
  exact Nat.succ_le_succ (h _ _ _ e2)
theorem te_of_cb {ms : M (List T)} {f : List T → Option T} {e : Expr} (h : PE X e (tCB (rL X.K f) (aOf X.K B ms))) : PE X e (tOf X.K B (mMap f ms)) :=
  h.imp fun σ H Q ⟨st, ps, S, as, R, t, st', e, q⟩ => by
    obtain ⟨ts, e1, e2⟩ := mMap_inv e
    refine ⟨st, ps, S, as, R, ts, st', e1, fun vs H1 S1 as1 R1 rs => ⟨S1, as1, ts, t, R1.sub, rs, e2, fun v H2 S2 x r => ?_⟩⟩
    exact q v H2 S2 as1 ((R1.ext x).push r)
theorem te_of_op {f : T → T → Option T} {e : Expr} (h : PE X e (tOp (r2 X.K f) (tOf X.K B m1) (tOf X.K B m2))) : PE X e (tOf X.K B (mOp f m1 m2)) :=
  h.imp fun σ H Q ⟨st, ps, S, as, R, t, st', e, q⟩ => by
    obtain ⟨t1, s1, t2, e1, e2, e3⟩ := mOp_inv e
    refine ⟨st, ps, S, as, R, t1, s1, e1, fun v H1 S1 as1 R1 => ⟨s1, _, S1, as1, R1, t2, st', e2, fun u H2 S2 as2 R2 => ?_⟩⟩
    exact ⟨S2, as2, t1, t2, t, R2.sub, R2.top2, R2.top, e3, fun w H3 S3 x r => q w H3 S3 as2 ((R2.drop.drop.ext x).push r)⟩
theorem te_of_un {f : T → Option T} {e : Expr} (h : PE X e (tUn (r1 X.K f) (tOf X.K B m))) : PE X e (tOf X.K B (mUn f m)) :=
  h.imp fun σ H Q ⟨st, ps, S, as, R, t, st', e, q⟩ => by
    obtain ⟨t1, e1, e3⟩ := mUn_inv e
    refine ⟨st, ps, S, as, R, t1, st', e1, fun v H1 S1 as1 R1 => ⟨S1, as1, t1, t, R1.sub, R1.top, e3, fun w H3 S3 x r => q w H3 S3 as1 ((R1.drop.ext x).push r)⟩⟩
theorem te_cmp {op : CmpOp} {f : T → T → Option T} (ho : OpT X (compareOp op) f) (ha : PE X a (tOf X.K B m1)) (hb : PE X b (tOf X.K B m2)) (hm : behindInMarks op b = false) : PE X (.Compare a [op] [b] pos) (tOf X.K B (mOp f m1 m2)) := te_of_op (pe_cmpR ho ha hb hm)
theorem te_un {op : UnaryOp} {f : T → Option T} (ho : UnT X (unaryOp op) f) (ha : PE X a (tOf X.K B m)) : PE X (.UnaryOp op a pos) (tOf X.K B (mUn f m)) := te_of_un (pe_un ho ha)
theorem tc_of_test {e : Expr} (h : PT X e (tTest (tOf X.K B m))) : PT X e (cOf X.K B (mTest m)) := h.imp fun σ H Q ⟨st, ps, S, as, R, t, st', e, q⟩ => by
  refine ⟨st, ps, S, as, R, .bl t, st', mTest_inv e, fun v H1 S1 as1 R1 => ?_⟩
  cases R1.top
  exact ⟨t, rfl, q H1 S1 as1 R1.drop⟩
theorem tc_cmp {op : CmpOp} {f : T → T → Option T} (ho : OpT X (compareOp op) f) (ha : PE X a (tOf X.K B m1)) (hb : PE X b (tOf X.K B m2)) (hm : behindInMarks op b = false) : PT X (.Compare a [op] [b] pos) (cOf X.K B (mTest (mOp f m1 m2))) :=
  tc_of_test ((pt_cmpR ho ha hb hm).imp fun σ H Q ⟨st, ps, S, as, R, t, st', e, q⟩ => by
    obtain ⟨t1, s1, t2, e1, e2, e3⟩ := mOp_inv e
    refine ⟨st, ps, S, as, R, t1, s1, e1, fun v H1 S1 as1 R1 => ⟨s1, _, S1, as1, R1, t2, st', e2, fun u H2 S2 as2 R2 => ?_⟩⟩
    exact ⟨S2, as2, t1, t2, t, R2.sub, R2.top2, R2.top, e3, fun w H3 S3 x r => q w H3 S3 as2 ((R2.drop.drop.ext x).push r)⟩)
theorem tc_val {e : Expr} (h : PE X e (tOf X.K B m)) (he : ∀ whole, isTrue e X.env whole = (do let v ← whole; standAt e.pos; holding [v] (truthy v)) := by intro _; rfl) : PT X e (cOf X.K B (mTest m)) :=
  tc_of_test ((pt_val h he).imp fun σ H Q h => h)
theorem tc_not {c1 : M Bool} (ha : PT X a (cOf X.K B c1)) : PT X (.UnaryOp .Not a pos) (cOf X.K B (mNot c1)) := (pt_not ha).imp fun σ H Q ⟨st, ps, S, as, R, t, st', e, q⟩ => by
  obtain ⟨k, e1, rfl⟩ := mNot_inv e
  exact ⟨st, ps, S, as, R, k, st', e1, q⟩
theorem tc_and1 {c1 : M Bool} (ha : PT X a (cOf X.K B c1)) : PW X (.BoolOp .And [a] pos) (cOf X.K B c1) := pw_and1 ha
theorem tc_or1 {c1 : M Bool} (ha : PT X a (cOf X.K B c1)) : PW X (.BoolOp .Or [a] pos) (cOf X.K B c1) := pw_or1 ha
theorem pwImp {e : Expr} {t t' : TT} (h : PW X e t) (i : ∀ σ H Q, t' σ H Q → t σ H Q) : PW X e t' := fun whole pins s σ H Q I q => h whole pins s σ H Q I (i σ H Q q)
theorem tc_and {c1 c2 : M Bool} {rest : List Expr} (ha : PT X a (cOf X.K B c1)) (hb : PW X (.BoolOp .And (b :: rest) pos) (cOf X.K B c2)) : PW X (.BoolOp .And (a :: b :: rest) pos) (cOf X.K B (mAnd c1 c2)) :=
  pwImp (pw_and ha hb) fun σ H Q ⟨st, ps, S, as, R, t, st', e, q⟩ => by
    rcases mAnd_inv e with ⟨s1, e1, e2⟩ | ⟨e1, rfl⟩
    · exact ⟨st, ps, S, as, R, true, s1, e1, fun H1 S1 as1 R1 => iteT (⟨s1, ps, S1, as1, R1, t, st', e2, q⟩)⟩
    · exact ⟨st, ps, S, as, R, false, st', e1, fun H1 S1 as1 R1 => iteF (q H1 S1 as1 R1)⟩
theorem tc_or {c1 c2 : M Bool} {rest : List Expr} (ha : PT X a (cOf X.K B c1)) (hb : PW X (.BoolOp .Or (b :: rest) pos) (cOf X.K B c2)) : PW X (.BoolOp .Or (a :: b :: rest) pos) (cOf X.K B (mOr c1 c2)) :=
  pwImp (pw_or ha hb) fun σ H Q ⟨st, ps, S, as, R, t, st', e, q⟩ => by
    rcases mOr_inv e with ⟨s1, e1, e2⟩ | ⟨e1, rfl⟩
    · exact ⟨st, ps, S, as, R, false, s1, e1, fun H1 S1 as1 R1 => iteF (⟨s1, ps, S1, as1, R1, t, st', e2, q⟩)⟩
    · exact ⟨st, ps, S, as, R, true, st', e1, fun H1 S1 as1 R1 => iteT (q H1 S1 as1 R1)⟩
theorem te_ifExp {c1 : M Bool} (hc : PT X c (cOf X.K B c1)) (ha : PE X a (tOf X.K B m1)) (hb : PE X b (tOf X.K B m2)) : PE X (.IfExp c a b pos) (tOf X.K B (mIf c1 m1 m2)) :=
  (pe_ifExp hc ha hb).imp fun σ H Q ⟨st, ps, S, as, R, t, st', e, q⟩ => by
    rcases mIf_inv e with ⟨s1, e1, e2⟩ | ⟨s1, e1, e2⟩
    · exact ⟨st, ps, S, as, R, true, s1, e1, fun H1 S1 as1 R1 => iteT (⟨s1, ps, S1, as1, R1, t, st', e2, q⟩)⟩
    · exact ⟨st, ps, S, as, R, false, s1, e1, fun H1 S1 as1 R1 => iteF (⟨s1, ps, S1, as1, R1, t, st', e2, q⟩)⟩
theorem te_not (ha : PE X a (tOf X.K B m)) : PE X (.UnaryOp .Not a pos) (tOf X.K B (mBool (mNot (mTest m)))) := (pe_not ha).imp fun σ H Q ⟨st, ps, S, as, R, t, st', e, q⟩ => by
  obtain ⟨b, e1, rfl⟩ := mBool_inv e
  obtain ⟨k, e2, rfl⟩ := mNot_inv e1
  refine ⟨st, ps, S, as, R, .bl k, st', mTest_inv e2, fun v H1 S1 as1 R1 => ?_⟩
  cases R1.top
  exact ⟨k, rfl, q _ H1 S1 as1 (R1.drop.push (.bl _))⟩
theorem te_one {op : BoolOp} (ha : PE X a (tOf X.K B m)) : PE X (.BoolOp op [a] pos) (tOf X.K B m) := pe_one ha
theorem te_and {rest : List Expr} (ha : PE X a (tOf X.K B m1)) (hb : PE X (.BoolOp .And (b :: rest) pos) (tOf X.K B m2)) : PE X (.BoolOp .And (a :: b :: rest) pos) (tOf X.K B (mBool (mAnd (mTest m1) (mTest m2)))) :=
  (pe_and ha hb).imp fun σ H Q ⟨st, ps, S, as, R, t, st', e, q⟩ => by
    obtain ⟨b, e1, rfl⟩ := mBool_inv e
    rcases mAnd_inv e1 with ⟨s1, e2, e3⟩ | ⟨e2, rfl⟩
    · refine ⟨st, ps, S, as, R, .bl true, s1, mTest_inv e2, fun v H1 S1 as1 R1 => ?_⟩
      cases R1.top
      exact ⟨true, rfl, iteT (⟨s1, ps, S1, as1, R1.drop, .bl b, st', mTest_inv e3, q⟩)⟩
    · refine ⟨st, ps, S, as, R, .bl false, st', mTest_inv e2, fun v H1 S1 as1 R1 => ?_⟩
      cases R1.top
      exact ⟨false, rfl, iteF (q _ H1 S1 as1 (R1.drop.push (.bl _)))⟩
theorem te_or {rest : List Expr} (ha : PE X a (tOf X.K B m1)) (hb : PE X (.BoolOp .Or (b :: rest) pos) (tOf X.K B m2)) : PE X (.BoolOp .Or (a :: b :: rest) pos) (tOf X.K B (mBool (mOr (mTest m1) (mTest m2)))) :=
  (pe_or ha hb).imp fun σ H Q ⟨st, ps, S, as, R, t, st', e, q⟩ => by
    obtain ⟨b, e1, rfl⟩ := mBool_inv e
    rcases mOr_inv e1 with ⟨s1, e2, e3⟩ | ⟨e2, rfl⟩
    · refine ⟨st, ps, S, as, R, .bl false, s1, mTest_inv e2, fun v H1 S1 as1 R1 => ?_⟩
      cases R1.top
      exact ⟨false, rfl, iteF (⟨s1, ps, S1, as1, R1.drop, .bl b, st', mTest_inv e3, q⟩)⟩
    · refine ⟨st, ps, S, as, R, .bl true, st', mTest_inv e2, fun v H1 S1 as1 R1 => ?_⟩
      cases R1.top
      exact ⟨true, rfl, iteT (q _ H1 S1 as1 (R1.drop.push (.bl _)))⟩
end
end C
end
noncomputable section
set_option linter.all false
set_option maxRecDepth 100000
set_option maxHeartbeats 4000002
set_option autoImplicit false
namespace C
open PySem PySem.Spec PyProof.Rows L2
theorem sSeq_inv {a b : S} {s s' : Sta} {fl : Flow} (h : sSeq a b s = some (fl, s')) : (∃ s1, a s = some (.next, s1) ∧ b s1 = some (fl, s')) ∨ (a s = some (fl, s') ∧ fl ≠ .next) := by
  unfold sSeq at h
  split at h
  · rename_i s1 e; exact .inl ⟨s1, e, h⟩
  · rename_i r hr; exact .inr ⟨h, fun z => by subst z; exact hr _ h⟩
theorem sRet_inv {e : M T} {s s' : Sta} {fl : Flow} (h : sRet e s = some (fl, s')) : ∃ t, e s = some (t, s') ∧ fl = .ret t := by
  unfold sRet at h
  split at h
  · rename_i t s1 e; cases h; exact ⟨t, e, rfl⟩
  · cases h
theorem sIf_inv {c : M Bool} {a b : S} {s s' : Sta} {fl : Flow} (h : sIf c a b s = some (fl, s')) : (∃ s1, c s = some (true, s1) ∧ a s1 = some (fl, s')) ∨ (∃ s1, c s = some (false, s1) ∧ b s1 = some (fl, s')) := by
  unfold sIf at h
  split at h
  · rename_i s1 e; exact .inl ⟨s1, e, h⟩
  · rename_i s1 e; exact .inr ⟨s1, e, h⟩
  · cases h
theorem sSet_inv {i : Nat} {e : M T} {s s' : Sta} {fl : Flow} (h : sSet i e s = some (fl, s')) : ∃ t s1, e s = some (t, s1) ∧ fl = .next ∧ s' = putSlot i t false s1 := by
  unfold sSet at h
  split at h
  · rename_i t s1 e; cases h; exact ⟨t, s1, e, rfl, rfl⟩
  · cases h
theorem sNew_inv {i : Nat} {e : M T} {s s' : Sta} {fl : Flow} (h : sNew i e s = some (fl, s')) : ∃ t s1, e s = some (t, s1) ∧ fl = .next ∧ s' = putSlot i t true s1 := by
  unfold sNew at h
  split at h
  · rename_i t s1 e; cases h; exact ⟨t, s1, e, rfl, rfl⟩
  · cases h
theorem sFor_inv {g : G} {it : M (List T)} {b : S} {s s' : Sta} {fl : Flow} (h : sFor g it b s = some (fl, s')) : ∃ ts s1, it s = some (ts, s1) ∧ forL g b ts s1 = some (fl, s') := by
  unfold sFor at h
  split at h
  · rename_i ts s1 e; exact ⟨ts, s1, e, h⟩
  · cases h
theorem sAppend_inv {i : Nat} {e : M T} {s s' : Sta} {fl : Flow} (h : sAppend i e s = some (fl, s')) :
    lstAt i s = true ∧ ∃ t s1 xs, e s = some (t, s1) ∧ s1.env[i]? = some (some (.lst xs, true)) ∧ xs.length < lim ∧ fl = .next ∧ s' = putSlot i (.lst (xs ++ [t])) true s1 := by
  unfold sAppend at h
  split at h
  · rename_i hd
    refine ⟨hd, ?_⟩
    split at h
    · rename_i t s1 e
      split at h
      · rename_i xs ex
        split at h
        · rename_i hl; cases h; exact ⟨t, s1, xs, e, ex, hl, rfl, rfl⟩
        · cases h
      · cases h
    · cases h
  · cases h
theorem sExtend_inv {i : Nat} {e : M T} {s s' : Sta} {fl : Flow} (h : sExtend i e s = some (fl, s')) :
    lstAt i s = true ∧ ∃ t s1 xs ys, e s = some (t, s1) ∧ seqOf t = some ys ∧ s1.env[i]? = some (some (.lst xs, true)) ∧ xs.length + ys.length < lim ∧ fl = .next ∧ s' = putSlot i (.lst (xs ++ ys)) true s1 := by
  unfold sExtend at h
  split at h
  · rename_i hd
    refine ⟨hd, ?_⟩
    split at h
    · rename_i t s1 e
      split at h
      · rename_i ys xs ey ex
        split at h
        · rename_i hl; cases h; exact ⟨t, s1, _, _, e, ey, ex, hl, rfl, rfl⟩
        · cases h
      · cases h
    · cases h
  · cases h
noncomputable section
variable {K : PySem.W.Frag} {B : Bas} {st : Sta} {σ : L2.St} {H H' S S' : Hp} {ps ps2 : List (V × T)} {as as' : List Addr}
theorem Rel.pick (r : Rel K B st σ H ps S as) (h : ∀ p ∈ ps2, p ∈ ps) : Rel K B st σ H ps2 S as :=
  ⟨r.sub, r.grow, r.slots, r.apart, r.sto, fun p hp => r.pend p (h p hp), r.len⟩
theorem set_out {α : Type} {l : List α} {i : Nat} {x : α} (h : l.length ≤ i) : l.set i x = l := List.set_eq_of_length_le h
theorem Rel.put (r : Rel K B st σ H ps S as) {i : Nat} {v : V} {t : T} (h : Rep K S as v t) : Rel K B (putSlot i t false st) (σ.set i (some v)) H ps S as := by
  by_cases hi : i < st.env.length
  · have hs : i < σ.length := by rw [r.len]; exact hi
    refine ⟨r.sub, r.grow, fun j u f e => ?_, fun j k u w p ej ek sj sk => ?_, r.sto, r.pend, by show _ = (st.env.set i _).length; rw [List.length_set, List.length_set]; exact r.len⟩
    · have e : (st.env.set i (some (t, false)))[j]? = some (some (u, f)) := e
      by_cases hij : i = j
      · subst hij
        rw [List.getElem?_set_self hi] at e; cases e
        exact ⟨v, List.getElem?_set_self hs, fun _ => h, fun z => by cases z⟩
      · rw [List.getElem?_set_ne hij] at e ⊢
        exact r.slots j u f e
    · have ej : (st.env.set i (some (t, false)))[j]? = some (some (u, true)) := ej
      have ek : (st.env.set i (some (t, false)))[k]? = some (some (w, true)) := ek
      have hij : i ≠ j := fun z => by subst z; rw [List.getElem?_set_self hi] at ej; cases ej
      have hik : i ≠ k := fun z => by subst z; rw [List.getElem?_set_self hi] at ek; cases ek
      rw [List.getElem?_set_ne hij] at ej sj
      rw [List.getElem?_set_ne hik] at ek sk
      exact r.apart j k u w p ej ek sj sk
  · have e1 : putSlot i t false st = st := by unfold putSlot; rw [set_out (Nat.le_of_not_lt hi)]
    have e2 : σ.set i (some v) = σ := set_out (by rw [r.len]; exact Nat.le_of_not_lt hi)
    rw [e1, e2]; exact r
noncomputable def NoSlot (st : Sta) (σ : L2.St) (p : Addr) : Prop := ∀ (j : Nat) u, st.env[j]? = some (some (u, true)) → σ[j]? = some (some (.ref p)) → False
theorem Rel.putOwn (r : Rel K B st σ H ps S as) {i : Nat} {p : Addr} {t : T} (h : OwnAt K B S as H p t) (hn : NoSlot st σ p) : Rel K B (putSlot i t true st) (σ.set i (some (.ref p))) H ps S as := by
  by_cases hi : i < st.env.length
  · have hs : i < σ.length := by rw [r.len]; exact hi
    refine ⟨r.sub, r.grow, fun j u f e => ?_, fun j k u w q ej ek sj sk => ?_, r.sto, r.pend, by show _ = (st.env.set i _).length; rw [List.length_set, List.length_set]; exact r.len⟩
    · have e : (st.env.set i (some (t, true)))[j]? = some (some (u, f)) := e
      by_cases hij : i = j
      · subst hij
        rw [List.getElem?_set_self hi] at e; cases e
        exact ⟨.ref p, List.getElem?_set_self hs, (fun z => by cases z), fun _ => ⟨p, rfl, h⟩⟩
      · rw [List.getElem?_set_ne hij] at e ⊢
        exact r.slots j u f e
    · have ej : (st.env.set i (some (t, true)))[j]? = some (some (u, true)) := ej
      have ek : (st.env.set i (some (t, true)))[k]? = some (some (w, true)) := ek
      by_cases hij : i = j
      · by_cases hik : i = k
        · rw [← hij, ← hik]
        · subst hij
          rw [List.getElem?_set_self hs] at sj; cases sj
          rw [List.getElem?_set_ne hik] at ek sk
          exact (hn k w ek sk).elim
      · rw [List.getElem?_set_ne hij] at ej sj
        by_cases hik : i = k
        · subst hik
          rw [List.getElem?_set_self hs] at sk; cases sk
          exact (hn j u ej sj).elim
        · rw [List.getElem?_set_ne hik] at ek sk
          exact r.apart j k u w q ej ek sj sk
  · have e1 : putSlot i t true st = st := by unfold putSlot; rw [set_out (Nat.le_of_not_lt hi)]
    have e2 : σ.set i (some (.ref p)) = σ := set_out (by rw [r.len]; exact Nat.le_of_not_lt hi)
    rw [e1, e2]; exact r
theorem Rel.turn (r : Rel K B st σ H ps S as) {i : Nat} {t t' : T} {p : Addr} {ob : HO} (e : st.env[i]? = some (some (t, true))) (hp : σ[i]? = some (some (.ref p))) (h : Own K S as (upd H p ob) p t') :
    Rel K B (putSlot i t' true st) σ (upd H p ob) ps S as := by
  obtain ⟨v, h1, _, h3⟩ := r.slots i t true e
  rw [hp] at h1; cases h1
  obtain ⟨p', ep, o⟩ := h3 rfl
  cases ep
  have hi : i < st.env.length := (List.getElem?_eq_some_iff.mp e).1
  have other : ∀ q, q ≠ p → H q = upd H p ob q := fun q n => (upd_ne n).symm
  refine ⟨fun b u q => ?_, ⟨r.grow.same, r.grow.more, fun q w a b c => ?_⟩, fun j u f ej => ?_, fun j k u w q ej ek sj sk => ?_, ⟨r.sto.len, r.sto.nd, fun n so en => ?_⟩, r.pend, by show _ = (st.env.set i _).length; rw [List.length_set]; exact r.len⟩
  · have n : b ≠ p := fun z => by subst z; rw [o.out] at q; cases q
    rw [upd_ne n]; exact r.sub _ _ q
  · obtain ⟨x, y, z⟩ := r.grow.keep q w a b c
    have n : q ≠ p := fun z => by subst z; rw [o.new] at a; cases a
    exact ⟨by rw [upd_ne n]; exact x, y, z⟩
  · have ej : (st.env.set i (some (t', true)))[j]? = some (some (u, f)) := ej
    by_cases hij : i = j
    · subst hij
      rw [List.getElem?_set_self hi] at ej; cases ej
      exact ⟨.ref p, hp, (fun z => by cases z), fun _ => ⟨p, rfl, h, o.out, o.nas, o.new⟩⟩
    · rw [List.getElem?_set_ne hij] at ej
      obtain ⟨v', a1, a2, a3⟩ := r.slots j u f ej
      refine ⟨v', a1, a2, fun z => ?_⟩
      subst z
      obtain ⟨p', rfl, o'⟩ := a3 rfl
      have n : p' ≠ p := fun z => by subst z; exact hij (r.apart i j t u p' e ej hp a1)
      exact ⟨p', rfl, o'.own.mono (Same.refl _) (other p' n), o'.out, o'.nas, o'.new⟩
  · have back : ∀ (j : Nat) u, (st.env.set i (some (t', true)))[j]? = some (some (u, true)) → ∃ u', st.env[j]? = some (some (u', true)) := fun j u ej => by
      by_cases hij : i = j
      · subst hij; exact ⟨t, e⟩
      · rw [List.getElem?_set_ne hij] at ej; exact ⟨u, ej⟩
    obtain ⟨u', ej'⟩ := back j u ej
    obtain ⟨w', ek'⟩ := back k w ek
    exact r.apart j k u' w' q ej' ek' sj sk
  · obtain ⟨a, a1, a2, a3⟩ := r.sto.at' n so en
    have n : a ≠ p := fun z => by subst z; exact o.nas (List.mem_of_getElem? a1)
    exact ⟨a, a1, a2, a3.mono (Same.refl _) (other a n)⟩
theorem Rel.objPut (r : Rel K B st σ H ps S as) {n : Nat} {so so' : SO} {a : Addr} {ob : HO} (e : st.sto[n]? = some so) (ha : as[n]? = some a) (h : SRep K S as (upd H a ob) a so') :
    Rel K B { st with sto := st.sto.set n so' } σ (upd H a ob) ps S as := by
  have ma : a ∈ as := List.mem_of_getElem? ha
  have hn : n < st.sto.length := (List.getElem?_eq_some_iff.mp e).1
  have sa : S a = none := by
    obtain ⟨a', a1, a2, _⟩ := r.sto.at' n so e
    rw [ha] at a1; cases a1; exact a2
  have other : ∀ q, q ≠ a → H q = upd H a ob q := fun q n => (upd_ne n).symm
  refine ⟨fun b u q => ?_, ⟨r.grow.same, r.grow.more, fun q w x y z => ?_⟩, fun j u f ej => ?_, r.apart, ⟨by rw [List.length_set]; exact r.sto.len, r.sto.nd, fun k so2 en => ?_⟩, r.pend, r.len⟩
  · have n : b ≠ a := fun z => by subst z; rw [sa] at q; cases q
    rw [upd_ne n]; exact r.sub _ _ q
  · obtain ⟨x1, y1, z1⟩ := r.grow.keep q w x y z
    have n : q ≠ a := fun z => by subst z; exact z1 ma
    exact ⟨by rw [upd_ne n]; exact x1, y1, z1⟩
  · obtain ⟨v', a1, a2, a3⟩ := r.slots j u f ej
    refine ⟨v', a1, a2, fun z => ?_⟩
    obtain ⟨p', rfl, o'⟩ := a3 z
    have n : p' ≠ a := fun z => by subst z; exact o'.nas ma
    exact ⟨p', rfl, o'.own.mono (Same.refl _) (other p' n), o'.out, o'.nas, o'.new⟩
  · by_cases hk : n = k
    · subst hk
      rw [List.getElem?_set_self hn] at en; cases en
      exact ⟨a, ha, sa, h⟩
    · rw [List.getElem?_set_ne hk] at en
      obtain ⟨b, b1, b2, b3⟩ := r.sto.at' k so2 en
      have n : b ≠ a := fun z => by
        subst z
        have l1 := (List.getElem?_eq_some_iff.mp b1).1
        have l2 := (List.getElem?_eq_some_iff.mp ha).1
        exact hk ((List.getElem?_inj (i := n) (j := k) l2 r.sto.nd).mp (by rw [ha, b1]))
      exact ⟨b, b1, b2, b3.mono (Same.refl _) (other b n)⟩
end
noncomputable def Fin (K : PySem.W.Frag) (B : Bas) (D : Ends) (ps : List (V × T)) : Flow → Sta → Prop
  | .next, st' => ∀ σ' H' S' as', Rel K B st' σ' H' ps S' as' → D.nx σ' H'
  | .ret t, st' => ∀ v σ' H' S' as', Rel K B st' σ' H' ((v, t) :: ps) S' as' → D.rt v H'
  | .brk, st' => ∀ σ' H' S' as', Rel K B st' σ' H' ps S' as' → D.bk σ' H'
  | .cont, st' => ∀ σ' H' S' as', Rel K B st' σ' H' ps S' as' → D.ct σ' H'
noncomputable def sOf (K : PySem.W.Frag) (B : Bas) (s : S) : TS := fun D σ H => ∃ st ps S as, Rel K B st σ H ps S as ∧ ∃ fl st', s st = some (fl, st') ∧ Fin K B D ps fl st'
noncomputable def gOf (K : PySem.W.Frag) (B : Bas) (g : G) : TG := fun v σ H Q => ∃ st ps S as t, Rel K B st σ H ((v, t) :: ps) S as ∧ ∃ st', g t st = some st' ∧ ∀ σ' H' S' as', Rel K B st' σ' H' ps S' as' → Q σ' H'
noncomputable def fOf (K : PySem.W.Frag) (B : Bas) (m : M T) : TE := fun σ H Q => ∃ st ps S as, Rel K B st σ H ps S as ∧ ∃ t st', m st = some (t, st') ∧
  ∀ p H' S' as', Rel K B st' σ H' ps S' as' → OwnAt K B S' as' H' p t → NoSlot st' σ p → Q (.ref p) H'
noncomputable section
variable {X : Cx} {B : Bas} {a b c e : Expr} {m m1 m2 : M T} {pos : Pos} {u v : S}
theorem ts_nil : PSs X [] (sOf X.K B sNil) := pss_nil.imp fun D σ H ⟨st, ps, S, as, R, fl, st', e, q⟩ => by
  cases e; exact q σ H S as R
theorem ts_cons {st : Stmt} {rest : List Stmt} (h1 : PS X st (sOf X.K B u)) (h2 : PSs X rest (sOf X.K B v)) : PSs X (st :: rest) (sOf X.K B (sSeq u v)) := (pss_cons h1 h2).imp fun D σ H ⟨st, ps, S, as, R, fl, st', e, q⟩ => by
  rcases sSeq_inv e with ⟨s1, e1, e2⟩ | ⟨e1, hn⟩
  · exact ⟨st, ps, S, as, R, .next, s1, e1, fun σ' H' S' as' R' => ⟨s1, ps, S', as', R', fl, st', e2, q⟩⟩
  · refine ⟨st, ps, S, as, R, fl, st', e1, ?_⟩
    cases fl with
    | next => exact absurd rfl hn
    | ret t => exact q
    | brk => exact q
    | cont => exact q
theorem ts_one {st : Stmt} (h1 : PS X st (sOf X.K B u)) : PSs X [st] (sOf X.K B u) := pss_one h1
theorem ts_ret (he : PE X e (tOf X.K B m)) : PS X (.Return (some e) pos) (sOf X.K B (sRet m)) := (ps_ret he).imp fun D σ H ⟨st, ps, S, as, R, fl, st', e, q⟩ => by
  obtain ⟨t, e1, rfl⟩ := sRet_inv e
  exact ⟨st, ps, S, as, R, t, st', e1, fun v H' S' as' R' => q v σ H' S' as' R'⟩
theorem ts_if {c1 : M Bool} {sa sb : List Stmt} (hc : PT X c (cOf X.K B c1)) (ha : PSs X sa (sOf X.K B u)) (hb : PSs X sb (sOf X.K B v)) : PS X (.If c sa sb pos) (sOf X.K B (sIf c1 u v)) := (ps_if hc ha hb).imp fun D σ H ⟨st, ps, S, as, R, fl, st', e, q⟩ => by
  rcases sIf_inv e with ⟨s1, e1, e2⟩ | ⟨s1, e1, e2⟩
  · exact ⟨st, ps, S, as, R, true, s1, e1, fun H1 S1 as1 R1 => iteT ⟨s1, ps, S1, as1, R1, fl, st', e2, q⟩⟩
  · exact ⟨st, ps, S, as, R, false, s1, e1, fun H1 S1 as1 R1 => iteF ⟨s1, ps, S1, as1, R1, fl, st', e2, q⟩⟩
theorem tg_name (i : Nat) {tg : Expr} (h : PG X tg (gName i)) : PG X tg (gOf X.K B (hName i)) := fun pins s σ H x u Q I r ⟨st, ps, S, as, t, R, st', e, q⟩ => h pins s σ H x u Q I r (by
  cases e
  exact q _ H S as (R.drop.put R.top))
theorem ts_set (i : Nat) {te : TE} {s : Stmt} (h : PS X s (tAsg te (gName i))) (hm : ∀ σ H Q, tOf X.K B m σ H Q → te σ H Q) : PS X s (sOf X.K B (sSet i m)) := h.imp fun D σ H ⟨st, ps, S, as, R, fl, st', e, q⟩ => by
  obtain ⟨t, s1, e1, rfl, rfl⟩ := sSet_inv e
  exact hm σ H _ ⟨st, ps, S, as, R, t, s1, e1, fun v H' S' as' R' => q _ H' S' as' (R'.drop.put R'.top)⟩
theorem ts_new (i : Nat) {te : TE} {s : Stmt} (h : PS X s (tAsg te (gName i))) (hm : ∀ σ H Q, fOf X.K B m σ H Q → te σ H Q) : PS X s (sOf X.K B (sNew i m)) := h.imp fun D σ H ⟨st, ps, S, as, R, fl, st', e, q⟩ => by
  obtain ⟨t, s1, e1, rfl, rfl⟩ := sNew_inv e
  exact hm σ H _ ⟨st, ps, S, as, R, t, s1, e1, fun p H' S' as' R' o n => q _ H' S' as' (R'.putOwn o n)⟩
end
end C
end
noncomputable section
set_option linter.all false
set_option maxRecDepth 100000
set_option maxHeartbeats 4000002
set_option autoImplicit false
namespace C
open PySem PySem.Spec PyProof.Rows L2
noncomputable section
variable {K : PySem.W.Frag} {B : Bas} {st : Sta} {σ : L2.St} {H H' S S' : Hp} {ps ps2 : List (V × T)} {as as' : List Addr}
theorem Own.more {p : Addr} {t : T} (hs : Same S S') (x : ∃ l, as' = as ++ l) (hh : H p = H' p) (o : Own K S as H p t) : Own K S' as' H' p t := by
  cases t with
  | lst ts => obtain ⟨vs, h, r⟩ := o; exact ⟨vs, hh ▸ h, r.mono hs x⟩
  | dic ts => obtain ⟨vs, h, r⟩ := o; exact ⟨vs, hh ▸ h, r.mono hs x⟩
  | _ => exact o.elim
theorem Rel.call {sto' : List SO} (r : Rel K B st σ H ps S as) (g : Grow ⟨S, as, H⟩ S' as' H') (sub : Same S' H') (so : StoOk K S' as' H' sto') : Rel K B { st with sto := sto' } σ H' ps S' as' where
  sub := sub
  grow := by
    refine ⟨r.grow.same.trans g.same, ?_, fun p o a b c => ?_⟩
    · obtain ⟨l, e⟩ := r.grow.more
      obtain ⟨l', e'⟩ := g.more
      exact ⟨l ++ l', by rw [e', e, List.append_assoc]⟩
    · obtain ⟨x, y, z⟩ := r.grow.keep p o a b c
      exact g.keep p o x y z
  slots := fun i t f e => by
    obtain ⟨v, h1, h2, h3⟩ := r.slots i t f e
    refine ⟨v, h1, fun q => (h2 q).mono g.same g.more, fun q => ?_⟩
    obtain ⟨p, rfl, o⟩ := h3 q
    obtain ⟨ob, ho⟩ := o.own.there
    obtain ⟨x, y, z⟩ := g.keep p ob ho o.out o.nas
    exact ⟨p, rfl, o.own.more g.same g.more (by rw [ho, x]), y, z, o.new⟩
  apart := r.apart
  sto := so
  pend := fun p hp => (r.pend p hp).mono g.same g.more
  len := r.len
end
noncomputable def spF (K : PySem.W.Frag) (ar : Nat) (F : Fn) : Sp := fun vs H Q _ => ∃ S as sto ts t sto', Same S H ∧ StoOk K S as H sto ∧ Reps K S as vs ts ∧ ts.length = ar ∧ F ts sto = some (t, sto') ∧
  ∀ v H' S' as', Grow ⟨S, as, H⟩ S' as' H' → Same S' H' → StoOk K S' as' H' sto' → Rep K S' as' v t → Q v H'
noncomputable section
variable {X : Cx} {B : Bas} {a b c e : Expr} {m m1 m2 : M T} {pos p : Pos} {u v : S} {es : List Expr} {ms : M (List T)} {k : Nat} {f : Addr} {fd : FuncData} {pn : List Str} {F : Fn} {x : Str}
theorem te_call (G : FnOk X.prog X.w X.K X.mg X.base CX0 k f fd pn (spF X.K pn.length F)) (hr : Room k X.A) (hg : Gl X x) (hm : X.mg x = some (.ref f)) (hk : PySem.W.keepIn X.K (.ref f) = true) (hb : Binds X.K fd pn [])
    (ha : PA X (e :: es) (aOf X.K B ms)) (hl : ∀ st ts st', ms st = some (ts, st') → ts.length = pn.length) (hdb : (x == ("__debug__" : Str)) = false := by decide)
    (he : starEach (e :: es) X.env = (false, eval e X.env) :: starEach es X.env := by rfl) (hpl : (backTo pos (starEach es X.env)).any (·.1) = false := by rfl) :
    PE X (.Call (.Name x p) (e :: es) [] pos) (tOf X.K B (mCall F ms)) :=
  (pe_call G hr hg hm hk hb .nil pass0 ha hdb he hpl).imp fun σ H Q ⟨st, ps, S, as, R, t, st', e, q⟩ => by
    obtain ⟨ts, s1, sto, e1, e2, rfl⟩ := mCall_inv e
    refine ⟨st, ps, S, as, R, ts, s1, e1, fun vs H1 S1 as1 R1 rs => ?_⟩
    show spF X.K pn.length F (vs ++ []) H1 Q E0
    rw [List.append_nil]
    exact ⟨S1, as1, s1.sto, ts, t, sto, R1.sub, R1.sto, rs, hl _ _ _ e1, e2, fun v H2 S2 as2 g sub so r => q v H2 S2 as2 ((R1.call g sub so).push r)⟩
theorem eq_nil : ∀ st ts st', mNil st = some (ts, st') → ts.length = 0 := fun st ts st' e => by cases e; rfl
theorem eq_cons {r : M (List T)} {n : Nat} (h : ∀ st ts st', r st = some (ts, st') → ts.length = n) : ∀ st ts st', mCons m r st = some (ts, st') → ts.length = n + 1 := fun st ts st' e => by
  obtain ⟨t, s1, us, e1, e2, rfl⟩ := mCons_inv e
  exact congrArg (· + 1) (h _ _ _ e2)
end
noncomputable section
variable {P : Program} {w : World} {K : PySem.W.Frag} {mg : Str → Option Value} {base : Heap}
theorem start_get {N : List Str} {vs : List V} {i : Nat} {v : V} (h : vs[i]? = some v) : (L2.start N vs)[i]? = some (some v) := by
  unfold L2.start
  have hi := (List.getElem?_eq_some_iff.mp h).1
  rw [List.getElem?_append_left (by rw [List.length_map]; exact hi), List.getElem?_map, h]; rfl
theorem rel_start {S H : Hp} {as : List Addr} {sto : List SO} {vs : List V} {ts : List T} {N : List Str} (h1 : Same S H) (h2 : StoOk K S as H sto) (h3 : Reps K S as vs ts) (hN : ts.length ≤ N.length) :
    Rel K ⟨S, as, H⟩ ⟨ts.map (fun t => some (t, false)) ++ List.replicate (N.length - ts.length) none, sto⟩ (L2.start N vs) H [] S as := by
  have key : ∀ (i : Nat) t fl, (ts.map (fun t => some (t, false)) ++ List.replicate (N.length - ts.length) (none : Slot))[i]? = some (some (t, fl)) → fl = false ∧ ts[i]? = some t := fun i t fl e => by
    by_cases hi : i < ts.length
    · rw [List.getElem?_append_left (by rw [List.length_map]; exact hi), List.getElem?_map] at e
      cases z : ts[i]? with
      | none => rw [z] at e; cases e
      | some t' => rw [z] at e; cases e; exact ⟨rfl, rfl⟩
    · rw [List.getElem?_append_right (by rw [List.length_map]; exact Nat.le_of_not_lt hi)] at e
      have := List.eq_of_mem_replicate (List.mem_of_getElem? e)
      cases this
  refine ⟨h1, ⟨Same.refl _, nol, fun p o a b c => ⟨a, b, c⟩⟩, fun i t fl e => ?_, fun i j t u p ei ej => ?_, h2, (fun p hp => by cases hp), ?_⟩
  · obtain ⟨rfl, e'⟩ := key i t fl e
    obtain ⟨v, hv, r⟩ := h3.get e'
    exact ⟨v, start_get hv, fun _ => r, fun z => by cases z⟩
  · obtain ⟨z, _⟩ := key i t true ei; cases z
  · unfold L2.start
    rw [List.length_append, List.length_append, List.length_map, List.length_map, List.length_replicate, List.length_replicate, h3.length]
theorem fn_tree {x qual : Str} {st : Stmt} {f : Addr} {fd : FuncData} {N ps : List Str} {k : Nat} {b : S} (F : Fun K x qual st f fd) (Sc : FnScope N ps (defScope st)) (hN : ps.length ≤ N.length)
    (hb : ∀ (cdv : Value) (A : Around) (outer : List Env) (s : Shared) (H : Hp) (E : XK) (B : Bas), Room k (A.deeper (envOfC qual (defScope st) s.heap.objs.size f cdv)) →
      PSs (cxOf CX0 P w K mg base N qual (defScope st) f cdv A outer s H E).nox (defBody st) (sOf K B b)) : FnOk P w K mg base CX0 (k + 1) f fd ps (spF K ps.length (runFn N.length b)) := by
  refine F.ok Sc (fun vs H Q E h => ?_) fun cdv A outer s H vs Q E hr h => ?_
  · obtain ⟨S, as, sto, ts, t, sto', h1, h2, h3, h4, _⟩ := h
    rw [h3.length, h4]
  · obtain ⟨S, as, sto, ts, t, sto', h1, h2, h3, h4, h5, q⟩ := h
    refine ⟨_, hb cdv A outer s H E ⟨S, as, H⟩ hr, ?_⟩
    have lv : vs.length = ps.length := by rw [h3.length, h4]
    have R : Rel K ⟨S, as, H⟩ ⟨ts.map (fun t => some (t, false)) ++ List.replicate (N.length - ts.length) none, sto⟩ (L2.start N vs) H [] S as := rel_start h1 h2 h3 (by rw [h4]; exact hN)
    unfold runFn at h5
    split at h5
    · rename_i t' s' e
      cases h5
      exact ⟨_, [], S, as, R, .ret t, s', e, fun v σ' H' S' as' R' => q v H' S' as' R'.grow R'.sub R'.sto R'.top⟩
    · rename_i s' e
      cases h5
      exact ⟨_, [], S, as, R, .next, s', e, fun σ' H' S' as' R' => q .non H' S' as' R'.grow R'.sub R'.sto .non⟩
    · cases h5
end
end C
end
noncomputable section
set_option linter.all false
set_option maxRecDepth 100000
set_option maxHeartbeats 4000002
set_option autoImplicit false
namespace C
open PySem PySem.Spec PyProof.Rows L2
theorem forL_inv {g : G} {b : S} {t : T} {r : List T} {s s' : Sta} {fl : Flow} (h : forL g b (t :: r) s = some (fl, s')) : ∃ s1 fb s2, g t s = some s1 ∧ b s1 = some (fb, s2) ∧
    (match fb with | .next => forL g b r s2 = some (fl, s') | .cont => forL g b r s2 = some (fl, s') | .brk => fl = .next ∧ s' = s2 | .ret v => fl = .ret v ∧ s' = s2) := by
  rw [forL] at h
  dsimp only at h
  split at h
  · rename_i s1 e1
    split at h
    · rename_i s2 e2; exact ⟨s1, .next, s2, e1, e2, h⟩
    · rename_i s2 e2; exact ⟨s1, .cont, s2, e1, e2, h⟩
    · rename_i s2 e2; cases h; exact ⟨s1, .brk, _, e1, e2, rfl, rfl⟩
    · rename_i v s2 e2; cases h; exact ⟨s1, .ret v, _, e1, e2, rfl, rfl⟩
    · cases h
  · cases h
structure ItFacts (K : PySem.W.Frag) (S : Hp) (as : List Addr) (H : Hp) (J : It) (ts : List T) : Prop where
  go : ∀ (i : Nat) t, ts[i]? = some t → J.go i H ∧ ∀ x H', J.yld i H x H' → ∃ S', Ext S H S' H' ∧ Rep K S' as x t
  stop : ∀ i, ts.length ≤ i → J.stop i H
noncomputable def iOf (K : PySem.W.Frag) (B : Bas) (m : M (List T)) : TI := fun σ H R => ∃ st ps S as, Rel K B st σ H ps S as ∧ ∃ ts st', m st = some (ts, st') ∧ ts.length ≤ sizeLine ∧
  ∀ J H' S' as' ps', Rel K B st' σ H' (ps' ++ ps) S' as' → (∀ S as H, (∀ p ∈ ps', Rep K S as p.1 p.2) → Same S H → ItFacts K S as H J ts) → R J H'
noncomputable section
variable {X : Cx} {tg l : Expr} {tl : TE}
noncomputable def iSq (K : PySem.W.Frag) (tl : TE) : TI := fun σ H R => tl σ H fun x H1 => ∃ a, x = .ref a ∧ (((∃ xs, SqL K H1 a xs) ∧ R (Itl K a) H1) ∨ ((∃ xs, SqT K H1 a xs) ∧ R (Itt K a) H1))
theorem pi_sq (hl : PE X l tl) : PI X tg l (iSq X.K tl) := by
  intro pins s σ H R I h
  refine thn (hl pins s σ H _ I h) fun v s1 ⟨x, H1, I1, r1, q1⟩ => ?_
  obtain ⟨a, e, q⟩ := q1
  subst e
  cases r1
  rcases q with ⟨⟨xs, hq⟩, q⟩ | ⟨⟨xs, hq⟩, q⟩
  · obtain ⟨its, rv, p, hz⟩ := I1.list hq
    refine wpAny_pyIter_list p.isList ?_
    refine ⟨s1.heap.objs.size, [s1.heap.objs.size], _, _, H1, rfl, I1.kept (t' := s1.toks) fun b o e => Heap.get?_push_of_some _ e, turn_list a _, ⟨_, Heap.get?_push_size _ rfl, rfl, rfl⟩, fun b hb => ?_, q⟩
    have e : b = s1.heap.objs.size := by simpa using hb
    subst e
    exact I1.fpOk (Nat.le_refl _) (I1.hok.fresh (Nat.le_refl _))
  · obtain ⟨its, rv, p, hz⟩ := I1.tuple hq
    refine wpAny_pyIter_tuple (show s1.heap.IsTuple a its.toArray from p) ?_
    refine ⟨s1.heap.objs.size, [s1.heap.objs.size], _, _, H1, rfl, I1.kept (t' := s1.toks) fun b o e => Heap.get?_push_of_some _ e, turn_tuple a _, ⟨_, Heap.get?_push_size _ rfl, rfl, rfl⟩, fun b hb => ?_, q⟩
    have e : b = s1.heap.objs.size := by simpa using hb
    subst e
    exact I1.fpOk (Nat.le_refl _) (I1.hok.fresh (Nat.le_refl _))
end
noncomputable section
variable {X : Cx} {B : Bas} {a b c e tg iter : Expr} {m m1 m2 : M T} {pos p : Pos} {u v : S} {g : G} {it : M (List T)} {body : List Stmt}
theorem itL {K : PySem.W.Frag} {S : Hp} {as : List Addr} {H : Hp} {p : Addr} {vs : List V} {ts : List T} (sub : Same S H) (h : SqL K H p vs) (r : Reps K S as vs ts) : ItFacts K S as H (Itl K p) ts where
  go := fun i t e => by
    obtain ⟨v, hv, rv⟩ := r.get e
    exact ⟨⟨vs, v, h, hv⟩, fun x H' y => ⟨S, by rw [y.1]; exact Ext.refl sub, by have := y.2 vs h; rw [hv] at this; cases this; exact rv⟩⟩
  stop := fun i hi => ⟨vs, h, by rw [r.length]; exact hi⟩
theorem itT {K : PySem.W.Frag} {S : Hp} {as : List Addr} {H : Hp} {p : Addr} {vs : List V} {ts : List T} (sub : Same S H) (h : SqT K H p vs) (r : Reps K S as vs ts) : ItFacts K S as H (Itt K p) ts where
  go := fun i t e => by
    obtain ⟨v, hv, rv⟩ := r.get e
    exact ⟨⟨vs, v, h, hv⟩, fun x H' y => ⟨S, by rw [y.1]; exact Ext.refl sub, by have := y.2 vs h; rw [hv] at this; cases this; exact rv⟩⟩
  stop := fun i hi => ⟨vs, h, by rw [r.length]; exact hi⟩
theorem lim_line : lim ≤ sizeLine := by rw [sizeLine_eq]; decide
theorem ti_seq (h : PE X iter (tOf X.K B m)) : PI X tg iter (iOf X.K B (iSeq m)) := by
  intro pins s σ H R I hw
  refine pi_sq h pins s σ H R I ?_
  obtain ⟨st, ps, S, as, Rl, ts, st', e, hz, q⟩ := hw
  unfold iSeq at e
  split at e
  · rename_i xs s1 e1
    split at e
    · rename_i hl
      cases e
      refine ⟨st, ps, S, as, Rl, _, _, e1, fun v H1 S1 as1 R1 => ?_⟩
      have top := R1.top
      cases top with
      | @lst a vs _ hs hr =>
        refine ⟨a, rfl, .inl ⟨⟨vs, sqL_mono R1.sub hs⟩, q _ H1 S1 as1 [(.ref a, .lst _)] R1 fun S2 as2 H2 hp hh => ?_⟩⟩
        have := hp _ List.mem_cons_self
        cases this with
        | @lst _ vs2 _ hs2 hr2 => exact itL hh (sqL_mono hh hs2) hr2
    · cases e
  · rename_i xs s1 e1
    split at e
    · rename_i hl
      cases e
      refine ⟨st, ps, S, as, Rl, _, _, e1, fun v H1 S1 as1 R1 => ?_⟩
      have top := R1.top
      cases top with
      | @tup a vs _ hs hr =>
        refine ⟨a, rfl, .inr ⟨⟨vs, sqT_mono R1.sub hs⟩, q _ H1 S1 as1 [(.ref a, .tup _)] R1 fun S2 as2 H2 hp hh => ?_⟩⟩
        have := hp _ List.mem_cons_self
        cases this with
        | @tup _ vs2 _ hs2 hr2 => exact itT hh (sqT_mono hh hs2) hr2
    · cases e
  · cases e
theorem iRange_inv {a : M T} {ts : List T} {s s' : Sta} (h : iRange a s = some (ts, s')) : ∃ n : Int, a s = some (.int n, s') ∧ (-1000000 < n ∧ n < 1000000) ∧ ts = rangeT n.toNat := by
  unfold iRange at h
  split at h
  · rename_i n s1 e
    split at h
    · rename_i hl; cases h; exact ⟨n, e, by have : n.natAbs < 1000000 := hl; omega, rfl⟩
    · cases h
  · cases h
theorem rangeT_get {n i : Nat} {t : T} (h : (rangeT n)[i]? = some t) : i < n ∧ t = .int (i : Int) := by
  unfold rangeT at h
  rw [List.getElem?_map] at h
  cases z : (List.range n)[i]? with
  | none => rw [z] at h; cases h
  | some k =>
    rw [z] at h; cases h
    obtain ⟨hi, e⟩ := List.getElem?_eq_some_iff.mp z
    rw [List.getElem_range] at e; subst e
    rw [List.length_range] at hi
    exact ⟨hi, rfl⟩
theorem ti_range (hg : Gl X "range") (hm : X.mg "range" = none) (h : PE X a (tOf X.K B m)) (hs : starEach [a] X.env = [(false, eval a X.env)] := by rfl) : PI X tg (.Call (.Name "range" p) [a] [] pos) (iOf X.K B (iRange m)) := by
  intro pins s σ H R I hw
  refine pi_range1 (ta := tCons (tOf X.K B m) tNil) hg hm (pa_cons h pa_nil hs) hs pins s σ H R I ?_
  obtain ⟨st, ps, S, as, Rl, ts, st', e, hz, q⟩ := hw
  obtain ⟨n, e1, hl, rfl⟩ := iRange_inv e
  refine ⟨st, ps, S, as, Rl, _, _, e1, fun v H1 S1 as1 R1 => ?_⟩
  cases R1.top
  refine ⟨n, rfl, by omega, by omega, q _ H1 S1 as1 [] R1.drop fun S2 as2 H2 _ hh => ⟨fun i t e => ?_, fun i hi => ?_⟩⟩
  · obtain ⟨hi, rfl⟩ := rangeT_get e
    refine ⟨hi, fun x H' y => ⟨S2, by rw [y.1]; exact Ext.refl hh, ?_⟩⟩
    have := y.2; subst this
    rw [Int.zero_add]; exact .int _
  · show n.toNat ≤ i
    unfold rangeT at hi
    rwa [List.length_map, List.length_range] at hi
theorem ts_for (hp : PassesOwn (model X.prog X.w) X.A X.env X.xe) (hc : X.calm = true) (hi : PI X tg iter (iOf X.K B it)) (hg : PG X tg (gOf X.K B g)) (hb : PSs X body (sOf X.K B u)) (hsz : ∀ st ts st', it st = some (ts, st') → ts.length ≤ sizeLine)
    (hs : ∀ x, foldedSetIterable iter X.env x = pure x := by intro _; rfl) : PS X (.For tg iter body [] pos) (sOf X.K B (sFor g it u)) := (ps_for hp hc hi hg hb hs).imp fun D σ H ⟨st, ps, S, as, R, fl, st', e, q⟩ => by
  obtain ⟨ts, s1, e1, e2⟩ := sFor_inv e
  refine ⟨st, ps, S, as, R, ts, s1, e1, hsz _ _ _ e1, fun J H1 S1 as1 ps' R1 facts => ?_⟩
  refine ⟨fun i m σ H => m = ts.length - i ∧ i ≤ ts.length ∧ ∃ sti Si asi, Rel X.K B sti σ H (ps' ++ ps) Si asi ∧ forL g u (ts.drop i) sti = some (fl, st'), ⟨ts.length, by simp, Nat.zero_le _, s1, S1, as1, R1, by simpa using e2⟩, ?_⟩
  rintro i m σ2 H2 ⟨rfl, hi, sti, Si, asi, Ri, ei⟩
  have F := facts Si asi H2 (fun p hp => Ri.pend p (List.mem_append_left _ hp)) Ri.sub
  have sub : ∀ p ∈ ps, p ∈ ps' ++ ps := fun p hp => List.mem_append_right _ hp
  by_cases hlt : i < ts.length
  · rw [List.drop_eq_getElem_cons hlt] at ei
    obtain ⟨s2, fb, s3, eg, eb, er⟩ := forL_inv ei
    have ht : ts[i]? = some ts[i] := List.getElem?_eq_getElem hlt
    refine .inr ⟨(F.go i _ ht).1, fun σ' H' => ∃ sti Si asi, Rel X.K B sti σ' H' (ps' ++ ps) Si asi ∧ forL g u (ts.drop (i + 1)) sti = some (fl, st'), fun σ' H' h => ⟨ts.length - (i + 1), by omega, rfl, hlt, h⟩, fun x H' y => ?_⟩
    obtain ⟨S', ex, rx⟩ := (F.go i _ ht).2 x H' y
    refine ⟨sti, ps' ++ ps, S', asi, _, (Ri.ext ex).push rx, s2, eg, fun σ3 H3 S3 as3 R3 => ⟨s2, ps' ++ ps, S3, as3, R3, fb, s3, eb, ?_⟩⟩
    cases fb with
    | next => exact fun σ' H' S' as' R' => ⟨s3, S', as', R', er⟩
    | cont => exact fun σ' H' S' as' R' => ⟨s3, S', as', R', er⟩
    | brk =>
      obtain ⟨rfl, rfl⟩ := er
      exact fun σ' H' S' as' R' => q σ' H' S' as' (R'.pick sub)
    | ret v =>
      obtain ⟨rfl, rfl⟩ := er
      exact fun v σ' H' S' as' R' => q v σ' H' S' as' (R'.pick fun p hp => by
        rcases List.mem_cons.mp hp with rfl | z
        · exact List.mem_cons_self
        · exact List.mem_cons_of_mem _ (sub p z))
  · have hie : i = ts.length := by omega
    subst hie
    rw [List.drop_length] at ei
    cases ei
    exact .inl ⟨F.stop _ (Nat.le_refl _), q σ2 H2 Si asi (Ri.pick sub)⟩
end
end C
end
noncomputable section
set_option linter.all false
set_option maxRecDepth 100000
set_option maxHeartbeats 4000002
set_option autoImplicit false
namespace C
open PySem PySem.Spec PyProof.Rows L2
noncomputable section
variable {K : PySem.W.Frag} {B : Bas} {st : Sta} {σ : L2.St} {H H' S S' : Hp} {ps ps2 : List (V × T)} {as as' : List Addr}
theorem Rel.freeze1 (r : Rel K B st σ H ps S as) {i : Nat} {t : T} (e : st.env[i]? = some (some (t, true))) : ∃ S', Rel K B { st with env := st.env.set i (some (t, false)) } σ H ps S' as := by
  obtain ⟨v, S', _, R⟩ := r.freeze e
  exact ⟨S', R.drop⟩
theorem Rel.freezeAt : ∀ (cap : List Nat) {st : Sta} {S : Hp}, Rel K B st σ H ps S as → ∃ S', Rel K B { st with env := freezeAt cap st.env } σ H ps S' as
  | [], st, S, r => ⟨S, r⟩
  | i :: l, st, S, r => by
    unfold C.freezeAt
    rw [List.foldl_cons]
    split
    · rename_i t f e
      cases f with
      | true =>
        obtain ⟨S1, R1⟩ := r.freeze1 e
        exact Rel.freezeAt l R1
      | false =>
        have e2 : st.env.set i (some (t, false)) = st.env := by
          apply List.ext_getElem?
          intro j
          by_cases hij : i = j
          · subst hij
            rw [List.getElem?_set_self (List.getElem?_eq_some_iff.mp e).1, e]
          · rw [List.getElem?_set_ne hij]
        rw [e2]
        exact Rel.freezeAt l r
    · exact Rel.freezeAt l r
noncomputable def thawN (env : List Slot) : Nat → List Slot
  | 0 => env
  | n + 1 => match (thawN env n)[n]? with
    | some (some (t, _)) => (thawN env n).set n (some (t, false))
    | _ => thawN env n
theorem thawN_len (env : List Slot) : ∀ n, (thawN env n).length = env.length
  | 0 => rfl
  | n + 1 => by
    rw [thawN]
    split
    · rw [List.length_set]; exact thawN_len env n
    · exact thawN_len env n
theorem thawN_get (env : List Slot) : ∀ (n j : Nat), (thawN env n)[j]? = if j < n then (env[j]?).map thaw else env[j]?
  | 0, j => by rw [if_neg (Nat.not_lt_zero _)]; rfl
  | n + 1, j => by
    have ihn := thawN_get env n n
    rw [if_neg (Nat.lt_irrefl _)] at ihn
    have ihj := thawN_get env n j
    rw [thawN, ihn]
    by_cases hj : j = n
    · subst hj
      rw [if_pos (Nat.lt_succ_self _)]
      cases z : env[j]? with
      | none => simp only [z, Option.map_none]; rw [ihn, z]
      | some s =>
        have hl : j < (thawN env j).length := by rw [thawN_len]; exact (List.getElem?_eq_some_iff.mp z).1
        cases s with
        | none => simp only [Option.map_some]; rw [ihn, z]; rfl
        | some p => obtain ⟨t, f⟩ := p; simp only [Option.map_some]; rw [List.getElem?_set_self hl]; rfl
    · have e1 : (if j < n + 1 then (env[j]?).map thaw else env[j]?) = (if j < n then (env[j]?).map thaw else env[j]?) := by
        by_cases hlt : j < n
        · rw [if_pos hlt, if_pos (Nat.lt_succ_of_lt hlt)]
        · rw [if_neg hlt, if_neg (by omega)]
      rw [e1, ← ihj]
      split
      · rw [List.getElem?_set_ne (Ne.symm hj)]
      · rfl
theorem thawN_all (env : List Slot) : thawN env env.length = env.map thaw := by
  apply List.ext_getElem?
  intro j
  rw [thawN_get, List.getElem?_map]
  by_cases hj : j < env.length
  · rw [if_pos hj]
  · rw [if_neg hj, List.getElem?_eq_none (Nat.le_of_not_lt hj)]; rfl
theorem Rel.thawN (r : Rel K B st σ H ps S as) : ∀ n, ∃ S', Rel K B { st with env := C.thawN st.env n } σ H ps S' as
  | 0 => ⟨S, r⟩
  | n + 1 => by
    obtain ⟨S1, R1⟩ := Rel.thawN r n
    rw [C.thawN]
    split
    · rename_i t f e
      cases f with
      | true => exact R1.freeze1 e
      | false =>
        have e2 : (C.thawN st.env n).set n (some (t, false)) = C.thawN st.env n := by
          apply List.ext_getElem?
          intro j
          by_cases hij : n = j
          · subst hij
            rw [List.getElem?_set_self (List.getElem?_eq_some_iff.mp e).1, e]
          · rw [List.getElem?_set_ne hij]
        rw [e2]
        exact ⟨S1, R1⟩
    · exact ⟨S1, R1⟩
theorem Rel.freezeAll (r : Rel K B st σ H ps S as) : ∃ S', Rel K B (freezeAll st) σ H ps S' as := by
  obtain ⟨S', R⟩ := r.thawN st.env.length
  rw [thawN_all] at R
  exact ⟨S', R⟩
noncomputable def NoOwn (st : Sta) : Prop := ∀ (i : Nat) t, st.env[i]? ≠ some (some (t, true))
theorem noOwn_freeze (st : Sta) : NoOwn (C.freezeAll st) := fun i t e => by
  unfold C.freezeAll at e
  rw [List.getElem?_map] at e
  cases z : st.env[i]? with
  | none => rw [z] at e; cases e
  | some s =>
    rw [z] at e
    cases s with
    | none => cases e
    | some p => obtain ⟨t, f⟩ := p; cases e
theorem Rel.rebase (r : Rel K B st σ H ps S as) (n : NoOwn st) : Rel K ⟨S, as, H⟩ st σ H ps S as :=
  ⟨r.sub, ⟨Same.refl _, nol, fun p o a b c => ⟨a, b, c⟩⟩, fun i t f e => by
    obtain ⟨v, h1, h2, _⟩ := r.slots i t f e
    exact ⟨v, h1, h2, fun z => by subst z; exact absurd e (n i t)⟩, r.apart, r.sto, r.pend, r.len⟩
end
theorem compL_inv {g : G} {c : M Bool} {e : M T} {t : T} {r acc us : List T} {s s' : Sta} (h : compL g c e (t :: r) s acc = some (us, s')) : ∃ s1 b s2, g t s = some s1 ∧ c s1 = some (b, s2) ∧
    ((b = true ∧ ∃ u s3, e s2 = some (u, s3) ∧ acc.length < lim ∧ compL g c e r (freezeAll s3) (acc ++ [u]) = some (us, s')) ∨ (b = false ∧ compL g c e r (freezeAll s2) acc = some (us, s'))) := by
  rw [compL] at h
  split at h
  · rename_i s1 e1
    split at h
    · rename_i s2 e2
      split at h
      · rename_i u s3 e3
        split at h
        · rename_i hl; exact ⟨s1, true, s2, e1, e2, .inl ⟨rfl, u, s3, e3, hl, h⟩⟩
        · cases h
      · cases h
    · rename_i s2 e2; exact ⟨s1, false, s2, e1, e2, .inr ⟨rfl, h⟩⟩
    · cases h
  · cases h
theorem mComp_inv {nv : Nat} {cap : List Nat} {g : G} {it : M (List T)} {c : M Bool} {e : M T} {s s' : Sta} {v : T} (h : mComp nv cap g it c e s = some (v, s')) : ∃ ts s1 us s2, it s = some (ts, s1) ∧
    compL g c e ts ⟨List.replicate nv none ++ cap.map (fun i => ((freezeAt cap s1.env)[i]?).getD none), s1.sto⟩ [] = some (us, s2) ∧ v = .lst us ∧ s' = ⟨freezeAt cap s1.env, s2.sto⟩ := by
  unfold mComp at h
  split at h
  · rename_i ts s1 e1
    dsimp only at h
    split at h
    · rename_i us s2 e2; cases h; exact ⟨ts, s1, us, s2, e1, e2, rfl, rfl⟩
    · cases h
  · cases h
noncomputable section
variable {K : PySem.W.Frag} {B : Bas} {st : Sta} {σ : L2.St} {H H' S S' : Hp} {ps ps2 : List (V × T)} {as as' : List Addr} {D : Addr} {ob : HO}
theorem StoOk.mem {sto : List SO} (r : StoOk K S as H sto) {a : Addr} (h : a ∈ as) : ∃ o, H a = some o := by
  obtain ⟨n, hn⟩ := List.getElem?_of_mem h
  have hl := (List.getElem?_eq_some_iff.mp hn).1
  rw [r.len] at hl
  obtain ⟨a', h1, h2, h3⟩ := r.at' n _ (List.getElem?_eq_getElem hl)
  rw [hn] at h1; cases h1
  exact h3.there
theorem Rel.fresh (r : Rel K B st σ H ps S as) (h : H D = none) : B.H D = none ∧ S D = none ∧ D ∉ as ∧ NoSlot st σ D := by
  have sD : S D = none := r.sub.free h
  have nD : D ∉ as := fun z => by obtain ⟨o, e⟩ := r.sto.mem z; rw [h] at e; cases e
  refine ⟨?_, sD, nD, fun j u e1 e2 => ?_⟩
  · cases q : B.H D with
    | none => rfl
    | some o =>
      have b1 : B.S D = none := by
        cases z : B.S D with
        | none => rfl
        | some u => have := r.grow.same _ _ z; rw [sD] at this; cases this
      have b2 : D ∉ B.as := fun z => by obtain ⟨l, e⟩ := r.grow.more; exact nD (by rw [e]; exact List.mem_append_left _ z)
      have := (r.grow.keep D o q b1 b2).1
      rw [h] at this; cases this
  · obtain ⟨v, h1, _, h3⟩ := r.slots j u true e1
    rw [e2] at h1; cases h1
    obtain ⟨p, ep, o⟩ := h3 rfl
    cases ep
    obtain ⟨ob, ho⟩ := o.own.there
    rw [h] at ho; cases ho
theorem Rel.poke (r : Rel K B st σ H ps S as) (bD : B.H D = none) (sD : S D = none) (nD : D ∉ as) (no : NoSlot st σ D) : Rel K B st σ (upd H D ob) ps S as := by
  have ne : ∀ b u, S b = some u → b ≠ D := fun b u e z => by subst z; rw [sD] at e; cases e
  refine ⟨fun b u e => by rw [upd_ne (ne b u e)]; exact r.sub _ _ e, ⟨r.grow.same, r.grow.more, fun p o x y z => ?_⟩, fun i t f e => ?_, r.apart, ⟨r.sto.len, r.sto.nd, fun n so e => ?_⟩, r.pend, r.len⟩
  · obtain ⟨a, b, c⟩ := r.grow.keep p o x y z
    exact ⟨by rw [upd_ne (fun w => by subst w; rw [bD] at x; cases x)]; exact a, b, c⟩
  · obtain ⟨v, h1, h2, h3⟩ := r.slots i t f e
    refine ⟨v, h1, h2, fun z => ?_⟩
    obtain ⟨p, rfl, o⟩ := h3 z
    have n : p ≠ D := fun w => by subst w; subst z; exact no i t e h1
    exact ⟨p, rfl, o.own.mono (Same.refl _) (upd_ne n).symm, o.out, o.nas, o.new⟩
  · obtain ⟨a, h1, h2, h3⟩ := r.sto.at' n so e
    exact ⟨a, h1, h2, h3.mono (Same.refl _) (upd_ne (fun w => by subst w; exact nD (List.mem_of_getElem? h1))).symm⟩
theorem Rel.poke0 (r : Rel K B st σ H ps S as) (no : NoOwn st) (sD : S D = none) (nD : D ∉ as) : Rel K ⟨S, as, upd H D ob⟩ st σ (upd H D ob) ps S as := by
  have ne : ∀ b u, S b = some u → b ≠ D := fun b u e z => by subst z; rw [sD] at e; cases e
  refine ⟨fun b u e => by rw [upd_ne (ne b u e)]; exact r.sub _ _ e, ⟨Same.refl _, nol, fun p o x y z => ⟨x, y, z⟩⟩, fun i t f e => ?_, r.apart, ⟨r.sto.len, r.sto.nd, fun n so e => ?_⟩, r.pend, r.len⟩
  · obtain ⟨v, h1, h2, _⟩ := r.slots i t f e
    exact ⟨v, h1, h2, fun z => by subst z; exact absurd e (no i t)⟩
  · obtain ⟨a, h1, h2, h3⟩ := r.sto.at' n so e
    exact ⟨a, h1, h2, h3.mono (Same.refl _) (upd_ne (fun w => by subst w; exact nD (List.mem_of_getElem? h1))).symm⟩
end
theorem freezeAt_keep : ∀ (cap : List Nat) (env : List Slot) (k : Nat), (∀ t, env[k]? ≠ some (some (t, true))) → ∀ t, (freezeAt cap env)[k]? ≠ some (some (t, true))
  | [], env, k, h => h
  | i :: l, env, k, h => by
    have e : freezeAt (i :: l) env = freezeAt l (match env[i]? with | some (some (t, _)) => env.set i (some (t, false)) | _ => env) := rfl
    rw [e]
    refine freezeAt_keep l _ k fun t => ?_
    split
    · rename_i t' f e'
      by_cases hk : i = k
      · subst hk
        rw [List.getElem?_set_self (List.getElem?_eq_some_iff.mp e').1]
        intro z; cases z
      · rw [List.getElem?_set_ne hk]; exact h t
    · exact h t
theorem freezeAt_no : ∀ (cap : List Nat) (env : List Slot) (k : Nat), k ∈ cap → ∀ t, (freezeAt cap env)[k]? ≠ some (some (t, true))
  | [], env, k, h => by simp at h
  | i :: l, env, k, h => by
    have e : freezeAt (i :: l) env = freezeAt l (match env[i]? with | some (some (t, _)) => env.set i (some (t, false)) | _ => env) := rfl
    rw [e]
    rcases List.mem_cons.mp h with rfl | h' -- here
    · refine freezeAt_keep l _ k fun t => ?_
      split
      · rename_i t' f e'
        rw [List.getElem?_set_self (List.getElem?_eq_some_iff.mp e').1]
        intro z; cases z
      · rename_i hx
        intro z
        exact hx _ _ z
    · exact freezeAt_no l _ k h'
noncomputable def gE (K : PySem.W.Frag) (g : G) : TG := fun v σ H Q => ∃ B, gOf K B g v σ H Q
noncomputable def cE (K : PySem.W.Frag) (c : M Bool) : TT := fun σ H Q => ∃ B, cOf K B c σ H Q
noncomputable def eE (K : PySem.W.Frag) (e : M T) : TE := fun σ H Q => ∃ B, tOf K B e σ H Q
theorem pgE {X : Cx} {tg : Expr} {g : G} (h : ∀ B, PG X tg (gOf X.K B g)) : PG X tg (gE X.K g) := fun pins s σ H x u Q I r ⟨B, q⟩ => h B pins s σ H x u Q I r q
theorem ptE {X : Cx} {e : Expr} {c : M Bool} (h : ∀ B, PT X e (cOf X.K B c)) : PT X e (cE X.K c) := fun pins s σ H Q I ⟨B, q⟩ => h B pins s σ H Q I q
theorem peE {X : Cx} {e : Expr} {m : M T} (h : ∀ B, PE X e (tOf X.K B m)) : PE X e (eE X.K m) := fun pins s σ H Q I ⟨B, q⟩ => h B pins s σ H Q I q
theorem ptsE_nil {X : Cx} : PTs X [] (cE X.K mTrue) := fun pins s σ H Q I ⟨B, st, ps, S, as, R, b, st', e, q⟩ => by
  cases e
  exact pts_nil pins s σ H Q I (q H S as R)
theorem ptsE_one {X : Cx} {e : Expr} {c : M Bool} (h : ∀ B, PT X e (cOf X.K B c)) : PTs X [e] (cE X.K c) := pts_one (ptE h)
noncomputable section
variable {X : Cx} {scope : Scope} {N : List Str}
theorem comp_core {B : Bas} {nv : Nat} {cap : List Nat} {g : G} {c : M Bool} {e : M T} {ts us : List T} {env : List Slot} {sto1 : List SO} {s2 : Sta} {σ : L2.St} {H1 S1 : Hp} {as1 : List Addr} {ps ps' : List (V × T)} {J : It} {Q : VK}
    (hN : N.length = nv + cap.length) (hv : ∀ i x, i < nv → N[i]? = some x → True)
    (hcap : ∀ (j k : Nat), cap[j]? = some k → ∃ x, N[nv + j]? = some x ∧ X.N[k]? = some x ∧ CapK X scope x)
    (R1 : Rel X.K B ⟨env, sto1⟩ σ H1 (ps' ++ ps) S1 as1) (hno : ∀ k ∈ cap, ∀ t, env[k]? ≠ some (some (t, true)))
    (facts : ∀ S as H, Same B.S S → (∀ p ∈ ps', Rep X.K S as p.1 p.2) → Same S H → ItFacts X.K S as H J ts)
    (hc : compL g c e ts ⟨List.replicate nv none ++ cap.map (fun i => (env[i]?).getD none), sto1⟩ [] = some (us, s2))
    (fin : ∀ D H' S' as', Rel X.K B ⟨env, s2.sto⟩ σ H' (ps' ++ ps) S' as' → OwnAt X.K B S' as' H' D (.lst us) → NoSlot ⟨env, s2.sto⟩ σ D → Q (.ref D) H') :
    tCompIn X scope N (gE X.K g) (cE X.K c) (eE X.K e) σ J H1 Q := by
  intro D hD
  obtain ⟨bD, sD1, nD1, noD⟩ := R1.fresh hD
  have capg : ∀ (i : Nat) s, (List.replicate nv (none : Slot) ++ cap.map (fun i => (env[i]?).getD none))[i]? = some (some s) → ∃ j k, i = nv + j ∧ cap[j]? = some k ∧ env[k]? = some (some s) := fun i s h => by
    by_cases hi : i < nv
    · rw [List.getElem?_append_left (by rw [List.length_replicate]; exact hi)] at h
      have := List.eq_of_mem_replicate (List.mem_of_getElem? h); cases this
    · rw [List.getElem?_append_right (by rw [List.length_replicate]; exact Nat.le_of_not_lt hi), List.length_replicate, List.getElem?_map] at h
      cases z : cap[i - nv]? with
      | none => rw [z] at h; cases h
      | some k =>
        rw [z] at h
        refine ⟨i - nv, k, by omega, z, ?_⟩
        cases w : env[k]? with
        | none => simp [w] at h
        | some s' => simp [w] at h; rw [h]
  have sig : ∀ (j k : Nat) v, cap[j]? = some k → σ[k]? = some (some v) → (List.replicate nv (none : Option V) ++ cap.map (fun i => (σ[i]?).getD none))[nv + j]? = some (some v) := fun j k v h1 h2 => by
    rw [List.getElem?_append_right (by rw [List.length_replicate]; omega), List.length_replicate, Nat.add_sub_cancel_left, List.getElem?_map, h1]
    simp [h2]
  refine ⟨List.replicate nv none ++ cap.map (fun i => (σ[i]?).getD none), by rw [List.length_append, List.length_replicate, List.length_map, hN], fun i v x h1 h2 _ => ?_, ?_⟩
  · by_cases hi : i < nv
    · rw [List.getElem?_append_left (by rw [List.length_replicate]; exact hi)] at h1
      have := List.eq_of_mem_replicate (List.mem_of_getElem? h1); cases this
    · rw [List.getElem?_append_right (by rw [List.length_replicate]; exact Nat.le_of_not_lt hi), List.length_replicate, List.getElem?_map] at h1
      cases z : cap[i - nv]? with
      | none => rw [z] at h1; cases h1
      | some k =>
        rw [z] at h1
        obtain ⟨y, n1, n2, ck⟩ := hcap _ _ z
        have e : nv + (i - nv) = i := by omega
        rw [e, h2] at n1; cases n1
        refine ⟨k, n2, ?_, ck⟩
        cases w : σ[k]? with
        | none => simp [w] at h1
        | some s' => simp [w] at h1; rw [h1]
  refine ⟨fun i m σ' H' => m = ts.length - i ∧ i ≤ ts.length ∧ ∃ sti Si asi acc accv, Rel X.K ⟨Si, asi, H'⟩ sti σ' H' [] Si asi ∧ NoOwn sti ∧ Rel X.K B ⟨env, sti.sto⟩ σ H' (ps' ++ ps) Si asi ∧ H' D = some (.lst accv) ∧ Si D = none ∧ D ∉ asi ∧
    Reps X.K Si asi accv acc ∧ compL g c e (ts.drop i) sti acc = some (us, s2), ⟨ts.length, by simp, Nat.zero_le _, _, S1, as1, [], [], ?_, ?_, ?_, upd_same, sD1, nD1, .nil, hc⟩, ?_⟩
  · refine Rel.poke0 (B := B) (H := H1) ⟨R1.sub, R1.grow, fun i t f h => ?_, fun i j t u p hi hj => ?_, R1.sto, (fun p hp => by cases hp), ?_⟩ (fun i t h => ?_) sD1 nD1
    · obtain ⟨j, k, rfl, hk, ek⟩ := capg i _ h
      obtain ⟨v, h1, h2, h3⟩ := R1.slots k t f ek
      exact ⟨v, sig j k v hk h1, h2, h3⟩
    · obtain ⟨j, k, rfl, hk, ek⟩ := capg i _ hi
      exact absurd ek (hno k (List.mem_of_getElem? hk) t)
    · show (List.replicate nv (none : Option V) ++ cap.map _).length = (List.replicate nv (none : Slot) ++ cap.map _).length
      rw [List.length_append, List.length_append, List.length_replicate, List.length_replicate, List.length_map, List.length_map]
    · obtain ⟨j, k, rfl, hk, ek⟩ := capg i _ h
      exact absurd ek (hno k (List.mem_of_getElem? hk) t)
  · intro i t h
    obtain ⟨j, k, rfl, hk, ek⟩ := capg i _ h
    exact absurd ek (hno k (List.mem_of_getElem? hk) t)
  · exact R1.poke bD sD1 nD1 noD
  rintro i m σ' H' ⟨rfl, hi, sti, Si, asi, acc, accv, Ri, no, Ro, hD', sD, nD, rA, ei⟩
  have F := facts Si asi H' Ro.grow.same (fun p hp => Ro.pend p (List.mem_append_left _ hp)) Ri.sub
  by_cases hlt : i < ts.length
  · rw [List.drop_eq_getElem_cons hlt] at ei
    obtain ⟨s3, b, s4, eg, ec, er⟩ := compL_inv ei
    have ht : ts[i]? = some ts[i] := List.getElem?_eq_getElem hlt
    refine .inr ⟨(F.go i _ ht).1, fun x H2 y => ?_⟩
    obtain ⟨S2, ex, rx⟩ := (F.go i _ ht).2 x H2 y
    refine ⟨⟨Si, asi, H'⟩, sti, [], S2, asi, _, (Ri.ext ex).push rx, s3, eg, fun σ3 H3 S3 as3 R3 => ⟨⟨Si, asi, H'⟩, s3, [], S3, as3, R3, b, s4, ec, fun H4 S4 as4 R4 => ?_⟩⟩
    rcases er with ⟨rfl, w, s5, ee, hlen, erest⟩ | ⟨rfl, erest⟩
    · refine iteT ⟨⟨Si, asi, H'⟩, s4, [], S4, as4, R4, w, s5, ee, fun y H5 S5 as5 R5 => ?_⟩
      obtain ⟨S6, R6⟩ := R5.freezeAll
      obtain ⟨k1, k2, k3⟩ := R6.grow.keep D _ hD' sD nD
      have Ro2 := Ro.call R6.grow R6.sub R6.sto
      refine ⟨accv, k1, ?_, ts.length - (i + 1), by omega, rfl, hlt, freezeAll s5, S6, as5, acc ++ [w], accv ++ [y], R6.drop.poke0 (noOwn_freeze _) k2 k3, noOwn_freeze _, Ro2.poke bD k2 k3 noD, upd_same, k2, k3, (rA.mono R6.grow.same R6.grow.more).append (.cons R6.top .nil), erest⟩
      rw [rA.length]; exact Nat.lt_of_lt_of_le hlen lim_line
    · refine iteF ?_
      obtain ⟨S6, R6⟩ := R4.freezeAll
      obtain ⟨k1, k2, k3⟩ := R6.grow.keep D _ hD' sD nD
      have Ro2 := Ro.call R6.grow R6.sub R6.sto
      exact ⟨ts.length - (i + 1), by omega, rfl, hlt, freezeAll s4, S6, as4, acc, accv, R6.rebase (noOwn_freeze _), noOwn_freeze _, Ro2, k1, k2, k3, rA.mono R6.grow.same R6.grow.more, erest⟩
  · have hie : i = ts.length := by omega
    subst hie
    rw [List.drop_length] at ei
    cases ei
    exact .inl ⟨F.stop _ (Nat.le_refl _), fin D H' Si asi Ro ⟨⟨accv, hD', rA⟩, sD, nD, bD⟩ noD⟩
theorem Rel.give {K : PySem.W.Frag} {B : Bas} {st : Sta} {σ : L2.St} {H S : Hp} {ps : List (V × T)} {as : List Addr} {p : Addr} {t : T} (r : Rel K B st σ H ps S as) (o : OwnAt K B S as H p t) (no : NoSlot st σ p) : ∃ S', Rel K B st σ H ((.ref p, t) :: ps) S' as := by
  obtain ⟨ob, ho⟩ := o.own.there
  have sS : Same S (upd S p ob) := Same.upd o.out ob
  have rep : Rep K (upd S p ob) as (.ref p) t := by
    have w := o.own
    cases t with
    | lst ts => obtain ⟨vs, h, q⟩ := w; rw [ho] at h; cases h; exact .lst (SqL.of upd_same) (q.mono sS nol)
    | dic ts => obtain ⟨vs, h, q⟩ := w; rw [ho] at h; cases h; exact .dic (.inl upd_same) (q.mono sS nol)
    | _ => exact w.elim
  have outs : ∀ q, S q = none → q ≠ p → upd S p ob q = none := fun q h n => by rw [upd_ne n]; exact h
  refine ⟨upd S p ob, Rel.push (v := .ref p) (t := t) ⟨?_, ?_, ?_, r.apart, ?_, fun q hq => (r.pend q hq).mono sS nol, r.len⟩ rep⟩
  · intro b u q
    by_cases z : b = p
    · subst z; rw [upd_same] at q; cases q; exact ho
    · rw [upd_ne z] at q; exact r.sub _ _ q
  · refine ⟨r.grow.same.trans sS, r.grow.more, fun q w a b c => ?_⟩
    obtain ⟨x, y, z⟩ := r.grow.keep q w a b c
    refine ⟨x, outs q y fun n => ?_, z⟩
    subst n; rw [o.new] at a; cases a
  · intro j u f ej
    obtain ⟨v', a1, a2, a3⟩ := r.slots j u f ej
    refine ⟨v', a1, fun z => (a2 z).mono sS nol, fun z => ?_⟩
    subst z
    obtain ⟨p', rfl, o'⟩ := a3 rfl
    refine ⟨p', rfl, o'.own.mono sS rfl, outs p' o'.out fun n => ?_, o'.nas, o'.new⟩
    subst n
    exact no j u ej a1
  · refine ⟨r.sto.len, r.sto.nd, fun n so en => ?_⟩
    obtain ⟨a, a1, a2, a3⟩ := r.sto.at' n so en
    refine ⟨a, a1, outs a a2 fun z => ?_, a3.mono sS rfl⟩
    subst z
    exact o.nas (List.mem_of_getElem? a1)
theorem f_of_t {K : PySem.W.Frag} {B : Bas} {m : M T} {σ : L2.St} {H : Hp} {Q : VK} (h : tOf K B m σ H Q) : fOf K B m σ H Q := by
  obtain ⟨st, ps, S, as, R, t, st', e, q⟩ := h
  refine ⟨st, ps, S, as, R, t, st', e, fun p H' S' as' R' o n => ?_⟩
  obtain ⟨S2, R2⟩ := R'.give o n
  exact q _ H' S2 as' R2
theorem te_fresh {e : Expr} {B : Bas} {m : M T} (h : PE X e (fOf X.K B m)) : PE X e (tOf X.K B m) := h.imp fun σ H Q => f_of_t
variable {B : Bas} {nv : Nat} {cap : List Nat} {g : G} {it : M (List T)} {c : M Bool} {e : M T} {tg iter elt : Expr} {ifs : List Expr} {pos : Pos}
structure CapOk (X : Cx) (scope : Scope) (N : List Str) (nv : Nat) (cap : List Nat) : Prop where
  len : N.length = nv + cap.length
  at' : ∀ (j k : Nat), cap[j]? = some k → ∃ x, N[nv + j]? = some x ∧ X.N[k]? = some x ∧ CapK X scope x
theorem comp_f (co : CapOk X scope N nv cap) (hsz : ∀ st ts st', it st = some (ts, st') → ts.length ≤ sizeLine) {σ : L2.St} {H : Hp} {Q : VK} (h : fOf X.K B (mComp nv cap g it c e) σ H Q) :
    tComp X scope N (iOf X.K B it) (gE X.K g) (cE X.K c) (eE X.K e) σ H Q := by
  obtain ⟨st, ps, S, as, R, t, st', e, q⟩ := h
  obtain ⟨ts, s1, us, s2, e1, e2, rfl, rfl⟩ := mComp_inv e
  refine ⟨st, ps, S, as, R, ts, s1, e1, hsz _ _ _ e1, fun J H1 S1 as1 ps' R1 facts => ?_⟩
  obtain ⟨S2, R2⟩ := R1.freezeAt cap
  exact comp_core co.len (fun _ _ _ _ => trivial) co.at' R2 (fun k hk => freezeAt_no cap s1.env k hk) (fun S as H _ => facts S as H) e2 fun D H' S' as' R' o n => q D H' S' as' (R'.pick fun p hp => List.mem_append_right _ hp) o n
theorem tf_comp (co : CapOk X scope N nv cap) (sc : CompSc X scope N) (calm : X.calm = true) (hi : PI X tg iter (iOf X.K B it)) (hsz : ∀ st ts st', it st = some (ts, st') → ts.length ≤ sizeLine)
    (hg : ∀ C s₀ H₀ ex pn, PG (compCx X scope N C s₀ H₀ ex pn) tg (gE X.K g)) (hc : ∀ C s₀ H₀ ex pn, PTs (compCx X scope N C s₀ H₀ ex pn) ifs (cE X.K c)) (he : ∀ C s₀ H₀ ex pn, PE (compCx X scope N C s₀ H₀ ex pn) elt (eE X.K e))
    (hs : ∀ x, foldedSetIterable iter X.env x = pure x := by intro _; rfl) : PE X (.ListComp elt [⟨tg, iter, ifs, 0⟩] scope pos) (fOf X.K B (mComp nv cap g it c e)) :=
  (pe_comp sc calm hi hg hc he hs).imp fun σ H Q h => comp_f co hsz h
end
end C
end
noncomputable section
set_option linter.all false
set_option maxRecDepth 100000
set_option maxHeartbeats 4000002
set_option autoImplicit false
namespace C
open PySem PySem.Spec PyProof.Rows L2
noncomputable section
variable {X : Cx}
theorem opInt {f : Value → Value → Sem Value} {g : T → T → Option T} {r : R2} (h : OpR X f r)
    (k : ∀ S as x y t u w, Rep X.K S as x t → Rep X.K S as y u → g t u = some w → ∀ (H : Hp) (Q : VK), Same S H → (∀ v H' S', Ext S H S' H' → Rep X.K S' as v w → Q v H') → r x y H Q) : OpT X f g := by
  intro pins s σ H x y v u Q I rx ry ⟨S, as, t, w, z, sub, ht, hu, hf, q⟩
  exact h pins s σ H x y v u Q I rx ry (k S as x y t w z ht hu hf H Q sub q)
theorem two_ints {K : PySem.W.Frag} {S : Hp} {as : List Addr} {x y : V} {t u w : T} {g : T → T → Option T} {P : Prop} (ht : Rep K S as x t) (hu : Rep K S as y u) (hf : g t u = some w)
    (n1 : ∀ t u, (∀ i, t ≠ .int i) → g t u = none) (n2 : ∀ i u, (∀ j, u ≠ .int j) → g (.int i) u = none) (k : ∀ i j, x = .int i → y = .int j → g (.int i) (.int j) = some w → P) : P := by
  by_cases h1 : ∃ i, t = .int i
  · obtain ⟨i, rfl⟩ := h1
    by_cases h2 : ∃ j, u = .int j
    · obtain ⟨j, rfl⟩ := h2
      cases ht; cases hu
      exact k i j rfl rfl hf
    · rw [n2 i u fun j e => h2 ⟨j, e⟩] at hf; cases hf
  · rw [n1 t u fun i e => h1 ⟨i, e⟩] at hf; cases hf
theorem opT_sub : OpT X (binaryOp .Sub) subT := opInt op_sub fun S as x y t u w ht hu hf H Q sub q =>
  two_ints (g := subT) ht hu hf (fun t u h => by cases t <;> first | rfl | exact absurd rfl (h _)) (fun i u h => by cases u <;> first | rfl | exact absurd rfl (h _)) fun i j ex ey hf => by
  subst ex ey; cases hf
  exact ⟨_, _, rfl, rfl, q _ H S (Ext.refl sub) (.int _)⟩
theorem opT_mod : OpT X (binaryOp .Mod) modT := opInt op_mod fun S as x y t u w ht hu hf H Q sub q =>
  two_ints (g := modT) ht hu hf (fun t u h => by cases t <;> first | rfl | exact absurd rfl (h _)) (fun i u h => by cases u <;> first | rfl | exact absurd rfl (h _)) fun i j ex ey hf => by
  subst ex ey
  simp only [modT] at hf
  split at hf
  · cases hf; exact ⟨_, _, rfl, rfl, by assumption, q _ H S (Ext.refl sub) (.int _)⟩
  · cases hf
noncomputable def CDivB (i j : Int) : Prop := 0 < j ∧ (j < 1073741824 ∨ j.natAbs < fdl)
theorem op_fdivB : OpR X (binaryOp .FloorDiv) (rI CDivB fun i j => .int (i / j)) := opI fun i j _ _ _ _ _ hc q => by
  have h1 : (0 : Int) < j := hc.1
  have h2 : j.natAbs < 2 ^ 200 := by
    rcases hc.2 with h | h
    · exact Nat.lt_trans (show j.natAbs < 1073741824 by omega) (by decide)
    · exact h
  exact floordiv_int (by omega) (by rw [Int.fdiv_eq_ediv_of_nonneg i (by omega)]; exact q) (.inl (PyProof.noPylong_of_log2 (Nat.lt_trans ((Nat.log2_lt (by omega)).mpr h2) (by decide))))
theorem opT_fdiv : OpT X (binaryOp .FloorDiv) fdivT := opInt op_fdivB fun S as x y t u w ht hu hf H Q sub q =>
  two_ints (g := fdivT) ht hu hf (fun t u h => by cases t <;> first | rfl | exact absurd rfl (h _)) (fun i u h => by cases u <;> first | rfl | exact absurd rfl (h _)) fun i j ex ey hf => by
  subst ex ey
  simp only [fdivT] at hf
  split at hf
  · rename_i hc; cases hf; exact ⟨_, _, rfl, rfl, hc, q _ H S (Ext.refl sub) (.int _)⟩
  · cases hf
theorem opT_pow : OpT X (binaryOp .Pow) powT := opInt op_pow fun S as x y t u w ht hu hf H Q sub q =>
  two_ints (g := powT) ht hu hf (fun t u h => by cases t <;> first | rfl | exact absurd rfl (h _)) (fun i u h => by cases u <;> first | rfl | exact absurd rfl (h _)) fun i j ex ey hf => by
  subst ex ey
  simp only [powT] at hf
  split at hf
  · rename_i h; cases hf; exact ⟨_, _, rfl, rfl, ⟨h.1, by omega, by omega⟩, q _ H S (Ext.refl sub) (.int _)⟩
  · cases hf
theorem opT_lt : OpT X (compareOp .Lt) ltT := opInt op_lt fun S as x y t u w ht hu hf H Q sub q =>
  two_ints (g := ltT) ht hu hf (fun t u h => by cases t <;> first | rfl | exact absurd rfl (h _)) (fun i u h => by cases u <;> first | rfl | exact absurd rfl (h _)) fun i j ex ey hf => by
  subst ex ey; cases hf
  exact ⟨_, _, rfl, rfl, q _ H S (Ext.refl sub) (.bl _)⟩
theorem opT_gt : OpT X (compareOp .Gt) gtT := opInt op_gt fun S as x y t u w ht hu hf H Q sub q =>
  two_ints (g := gtT) ht hu hf (fun t u h => by cases t <;> first | rfl | exact absurd rfl (h _)) (fun i u h => by cases u <;> first | rfl | exact absurd rfl (h _)) fun i j ex ey hf => by
  subst ex ey; cases hf
  exact ⟨_, _, rfl, rfl, q _ H S (Ext.refl sub) (.bl _)⟩
theorem unT_neg : UnT X (unaryOp .USub) negT := by
  intro pins s σ H x v Q I rx ⟨S, as, t, w, sub, ht, hf, q⟩
  cases ht <;> simp only [negT, reduceCtorEq] at hf
  cases hf
  exact un_neg pins s σ H _ v Q I rx ⟨_, rfl, q _ H S (Ext.refl sub) (.int _)⟩
noncomputable def rCatL (K : PySem.W.Frag) : R2 := fun x y H Q => ∃ l b xs zs, x = .ref l ∧ y = .ref b ∧ SqL K H l xs ∧ SqL K H b zs ∧ xs.length + zs.length ≤ sizeLine ∧ ∀ p, H p = none → Q (.ref p) (upd H p (.lst (xs ++ zs)))
theorem op_catL : OpR X (binaryOp .Add) (rCatL X.K) := by
  intro pins s σ H x y v u Q I rx ry h
  obtain ⟨l, b, xs, zs, rfl, rfl, hH, hB, hz, q⟩ := h
  cases rx
  cases ry
  obtain ⟨its, r, p1, hl⟩ := I.list hH
  obtain ⟨its2, r2, p2, hl2⟩ := I.list hB
  obtain ⟨⟨cls, dd, data, sl⟩, n, ho, hc, hd0, hd⟩ := id p1
  obtain ⟨⟨cls2, dd2, data2, sl2⟩, n2, ho2, hc2, hd02, hd2⟩ := id p2
  simp only at hc hd hc2 hd2
  subst hc hd hc2 hd2
  refine concat_meets ⟨_, ho, rfl⟩ ⟨_, ho2, rfl⟩ noFill_list_add seq_list_add PySem.F.slot_list_add PySem.F.entry_list_add (PySem.F.args_list_add_2 _ _)
      (list_addW l b its.toArray its2.toArray n n2 dd dd2 sl sl2 (by rw [List.size_toArray, List.size_toArray, ← r.length, ← r2.length]; exact hz)) ⟨ho, ho2, ?_⟩
  have ea : its.toArray ++ its2.toArray = (its ++ its2).toArray := by simp
  rw [ea]
  exact ⟨.ref _, _, I.lnew (t' := s.toks) (r.append r2) (by rw [List.length_append]; exact hz), rfl, q _ I.fresh⟩
noncomputable def rCatT0 (K : PySem.W.Frag) : R2 := fun x y H Q => ∃ a b ys, x = .ref a ∧ y = .ref b ∧ SqT K H a [] ∧ SqT K H b ys ∧ Q (.ref b) H
theorem op_catT0 : OpR X (binaryOp .Add) (rCatT0 X.K) := by
  intro pins s σ H x y v u Q I rx ry h
  obtain ⟨a, b, ys, rfl, rfl, ha, hb, q⟩ := h
  cases rx
  cases ry
  obtain ⟨its, r1, p1, _⟩ := I.tuple ha
  obtain ⟨its2, r2, p2, _⟩ := I.tuple hb
  cases r1
  obtain ⟨⟨cls, dd, data, sl⟩, ho, hc, n, hd⟩ := id p1
  obtain ⟨⟨cls2, dd2, data2, sl2⟩, ho2, hc2, n2, hd2⟩ := id p2
  simp only at hc hd hc2 hd2
  subst hc hd hc2 hd2
  exact concat_meets ⟨_, ho, rfl⟩ ⟨_, ho2, rfl⟩ noFill_tuple_add seq_tuple_add PySem.F.slot_tuple_add PySem.F.entry_tuple_add (PySem.F.args_tuple_add_2 _ _)
      (tuple_addW0 a b _ its2.toArray n n2 dd dd2 sl sl2 (by rfl)) ⟨ho, ho2, ⟨.ref b, H, I, rfl, q⟩⟩
theorem opT_add : OpT X (binaryOp .Add) addT := by
  intro pins s σ H x y v u Q I rx ry ⟨S, as, t, t2, w, sub, ht, hu, hf, q⟩
  cases ht <;> first | exact nomatch (show none = some w from hf) | cases hu <;> first | exact nomatch (show none = some w from hf) | simp only [addT] at hf
  · cases hf
    exact op_add pins s σ H _ _ v u Q I rx ry ⟨_, _, rfl, rfl, q _ H S (Ext.refl sub) (.int _)⟩
  · split at hf
    · rename_i hl; cases hf
      exact op_add_str pins s σ H _ _ v u Q I rx ry ⟨_, _, rfl, rfl, Nat.le_trans (Nat.le_of_lt hl) lim_line, q _ H S (Ext.refl sub) (.str _)⟩
    · cases hf
  · rename_i a vs ts hs hr b ws us hs2 hr2
    split at hf
    · rename_i hl; cases hf
      have hz : vs.length + ws.length ≤ sizeLine := by rw [hr.length, hr2.length]; exact Nat.le_trans (Nat.le_of_lt hl) lim_line
      cases hr with
      | nil => exact op_catT0 pins s σ H _ _ v u Q I rx ry ⟨_, _, _, rfl, rfl, sqT_mono sub hs, sqT_mono sub hs2, q _ H S (Ext.refl sub) (.tup hs2 hr2)⟩
      | @cons v0 t0 vs0 ts0 h1 h2 =>
        refine op_catT pins s σ H _ _ v u Q I rx ry ⟨_, _, _, _, rfl, rfl, sqT_mono sub hs, sqT_mono sub hs2, by simp, hz, fun z => ?_, fun z p hp => ?_⟩
        · subst z
          cases hr2
          rw [List.append_nil] at q
          exact q _ H S (Ext.refl sub) (.tup hs (.cons h1 h2))
        · have x := Ext.laid sub hp (.tup ((v0 :: vs0) ++ ws))
          exact q _ _ _ x (.tup (SqT.of upd_same) (((Reps.cons h1 h2).append hr2).mono x.s nol))
    · cases hf
  · rename_i a vs ts hs hr b ws us hs2 hr2
    split at hf
    · rename_i hl; cases hf
      have hz : vs.length + ws.length ≤ sizeLine := by rw [hr.length, hr2.length]; exact Nat.le_trans (Nat.le_of_lt hl) lim_line
      refine op_catL pins s σ H _ _ v u Q I rx ry ⟨_, _, _, _, rfl, rfl, sqL_mono sub hs, sqL_mono sub hs2, hz, fun p hp => ?_⟩
      have x := Ext.laid sub hp (.lst (vs ++ ws))
      exact q _ _ _ x (.lst (SqL.of upd_same) ((hr.append hr2).mono x.s nol))
    · cases hf
theorem txt_mul (x : Str) (n : Int) (h : 0 ≤ n) : Txt.mul x n = ⟨((List.replicate n.toNat x.cps.toList).flatten).toArray⟩ := by
  have key : ∀ (k : Nat) (acc : Array Nat), (List.replicate k x.cps).foldl (· ++ ·) acc = acc ++ ((List.replicate k x.cps.toList).flatten).toArray := by
    intro k
    induction k with
    | zero => intro acc; simp
    | succ k ih =>
      intro acc
      rw [List.replicate_succ, List.foldl_cons, ih, List.replicate_succ, List.flatten_cons]
      apply Array.ext'
      simp
  unfold Txt.mul
  by_cases h1 : n < 1
  · have : n = 0 := by omega
    subst this
    rw [if_pos h1]; rfl
  · rw [if_neg h1]
    by_cases h2 : (n == 1 || x.length == 0) = true
    · rw [if_pos h2]
      rw [Bool.or_eq_true] at h2
      rcases h2 with h2 | h2
      · have : n = 1 := by simpa using h2
        subst this
        cases x; simp
      · have h3 : x.cps.size = 0 := by simpa [Str.length] using h2
        obtain ⟨c⟩ := x
        have h4 : c = #[] := Array.eq_empty_of_size_eq_zero h3
        subst h4
        congr 1
        apply Array.ext'
        simp
    · rw [if_neg h2, key]
      congr 1
      apply Array.ext'
      simp
theorem opT_mul : OpT X (binaryOp .Mult) mulT := by
  intro pins s σ H x y v u Q I rx ry ⟨S, as, t, t2, w, sub, ht, hu, hf, q⟩
  cases ht <;> first | exact nomatch (show none = some w from hf) | cases hu <;> first | exact nomatch (show none = some w from hf) | simp only [mulT] at hf
  · split at hf
    · rename_i hb; cases hf
      refine op_mul pins s σ H _ _ v u Q I rx ry ⟨_, _, rfl, rfl, ?_, q _ H S (Ext.refl sub) (.int _)⟩
      rw [Bool.or_eq_true] at hb
      rcases hb with h | h
      · exact .inl (of_decide_eq_true h)
      · exact .inr (of_decide_eq_true h)
    · cases hf
  · rename_i z j
    split at hf
    · rename_i hb; cases hf
      obtain ⟨t', rfl⟩ := rx
      obtain ⟨t2', rfl⟩ := ry
      refine SB.mul ⟨?_, fun _ _ => ?_, fun _ _ => ?_⟩ fun t3 k => ⟨.str (Txt.mul z j), H, I.tok _, ⟨_, rfl⟩, ?_⟩
      · have h1 : ¬ j < -(2 ^ 63 : Int) := by omega
        have h2 : ¬ j ≥ 2 ^ 63 := by omega
        rw [decide_eq_false h1, decide_eq_false h2]; rfl
      · have h1 : (z.length : Int) ≤ 100 := by omega
        have h2 : (100 : Int) ≤ (2 ^ 63 - 1) / j := by
          have hj : 0 < j := by
            rcases Int.lt_or_le 0 j with h | h
            · exact h
            · exfalso
              have : j = 0 := by omega
              subst this
              rename_i a _; exact a (by decide)
          exact (Int.le_ediv_iff_mul_le hj).mpr (by omega)
        omega
      · have h3 : z.length * j.toNat ≤ 100 * 1000 := Nat.mul_le_mul hb.2.2 (by omega)
        unfold Builtin.Str.tooLong
        rw [sizeLine_eq]
        exact decide_eq_false (by omega)
      · rw [txt_mul z j hb.1]; exact q _ H S (Ext.refl sub) (.str _)
    · cases hf
end
end C
end
noncomputable section
set_option linter.all false
set_option maxRecDepth 100000
set_option maxHeartbeats 4000002
set_option autoImplicit false
namespace C
open PySem PySem.Spec PyProof.Rows L2
noncomputable section
variable {X : Cx} {B : Bas} {a b c e o : Expr} {m m1 m2 : M T} {pos p : Pos}
theorem ixI_eq (n : Nat) (i : Int) : ixI n i = ixN n i := rfl
theorem kV_of {K : PySem.W.Frag} {S : Hp} {as : List Addr} {y : V} {t : T} {q : L2.Key} (r : Rep K S as y t) (h : keyOf t = some q) : y = kV q := by
  cases r <;> simp only [keyOf, reduceCtorEq] at h <;> (cases h; rfl)
noncomputable def rDget : R2 := fun x y H Q => ∃ a v, x = .ref a ∧ DGet H a y (some v) ∧ Q v H
theorem ix_dict (hu : X.A.units + 1 < cLine) : IxR X rDget := by
  intro value slice pins s σ H x y v u Q I rx ry ⟨a, w, ex, g, q⟩ hs
  subst ex
  cases rx
  refine tail_any (dict_typeIs I g) slot_dict_getitem.lookup (d_getItem hu I g ry fun w' s' I' r' => ⟨w, H, I', r', q⟩) hs
theorem ixT_item (hu : X.A.units + 1 < cLine) : IxR X (r2 X.K itemT) := by
  intro value slice pins s σ H x y v u Q I rx ry ⟨S, as, t, t2, w, sub, ht, hu2, hf, q⟩ hs
  cases ht with
  | @tup a vs ts h1 h2 =>
    cases hu2 <;> simp only [itemT, reduceCtorEq] at hf
    rename_i i
    obtain ⟨j, e1, e2⟩ := Option.bind_eq_some_iff.mp hf
    obtain ⟨z, hz, rz⟩ := h2.get e2
    refine ix_tup value slice pins s σ H _ _ v u Q I rx ry ⟨a, vs, i, z, rfl, rfl, sqT_mono sub h1, ?_, q z H S (Ext.refl sub) rz⟩ hs
    rw [ixI_eq, ← h2.length] at e1
    unfold atI; rw [e1]; exact hz
  | @lst a vs ts h1 h2 =>
    cases hu2 <;> simp only [itemT, reduceCtorEq] at hf
    rename_i i
    obtain ⟨j, e1, e2⟩ := Option.bind_eq_some_iff.mp hf
    obtain ⟨z, hz, rz⟩ := h2.get e2
    refine ix_list value slice pins s σ H _ _ v u Q I rx ry ⟨a, vs, i, z, rfl, rfl, sqL_mono sub h1, ?_, q z H S (Ext.refl sub) rz⟩ hs
    rw [ixI_eq, ← h2.length] at e1
    unfold atI; rw [e1]; exact hz
  | str z =>
    cases hu2 <;> simp only [itemT, reduceCtorEq] at hf
    rename_i i
    split at hf
    · rename_i hl
      obtain ⟨j, e1, e2⟩ := Option.bind_eq_some_iff.mp hf
      obtain ⟨cc, e3, e4⟩ := Option.map_eq_some_iff.mp e2
      subst e4
      refine ix_str value slice pins s σ H _ _ v u Q I rx ry ⟨z, i, cc, rfl, rfl, Nat.le_trans (Nat.le_of_lt hl) lim_line, ?_, q _ H S (Ext.refl sub) (.str _)⟩ hs
      rw [ixI_eq] at e1
      unfold atI; rw [e1]; exact e3
    · cases hf
  | @dic a kvs ts h1 h2 =>
    simp only [itemT] at hf
    obtain ⟨k, e1, e2⟩ := Option.bind_eq_some_iff.mp hf
    have ey := kV_of hu2 e1
    subst ey
    rcases h2.get k with ⟨z, t', a1, a2, a3⟩ | ⟨_, a2⟩
    · rw [e2] at a2; cases a2
      exact ix_dict hu value slice pins s σ H _ _ v u Q I rx ry ⟨a, z, rfl, .inl ⟨kvs, k, rd_mono sub h1, rfl, a1.symm⟩, q z H S (Ext.refl sub) a3⟩ hs
    · rw [e2] at a2; cases a2
  | _ => simp only [itemT, reduceCtorEq] at hf
theorem te_ix (hu : X.A.units + 1 < cLine) (ha : PE X a (tOf X.K B m1)) (hb : PE X b (tOf X.K B m2)) (hs : PlainIx b) : PE X (.Subscript a b pos) (tOf X.K B (mOp itemT m1 m2)) := te_of_op (pe_ix (ixT_item hu) ha hb hs)
theorem callT_len : CallT X (.builtin "len") lenT := by
  intro pins s σ H xs us Q I rs ⟨S, as, ts, w, sub, hr, hf, q⟩
  cases hr with
  | nil => simp only [lenT, reduceCtorEq] at hf
  | @cons x t xs' ts' h1 h2 =>
    cases h2 with
    | cons h3 h4 => simp only [lenT, reduceCtorEq] at hf
    | nil =>
      cases h1 with
      | tup g1 g2 => simp only [lenT] at hf; cases hf; exact call_len_seq pins s σ H _ us Q I rs ⟨_, _, rfl, .inr (sqT_mono sub g1), by rw [g2.length]; exact q _ H S (Ext.refl sub) (.int _)⟩
      | lst g1 g2 => simp only [lenT] at hf; cases hf; exact call_len_seq pins s σ H _ us Q I rs ⟨_, _, rfl, .inl (sqL_mono sub g1), by rw [g2.length]; exact q _ H S (Ext.refl sub) (.int _)⟩
      | str z =>
        simp only [lenT] at hf
        split at hf
        · rename_i hl; cases hf; exact call_len_str pins s σ H _ us Q I rs ⟨_, rfl, Nat.le_trans (Nat.le_of_lt hl) lim_line, q _ H S (Ext.refl sub) (.int _)⟩
        · cases hf
      | @dic a kvs ts g1 g2 =>
        simp only [lenT] at hf; cases hf
        obtain ⟨u, rfl, ru⟩ := rs.one
        cases ru
        exact d_len I (rd_mono sub g1) fun t s' I' => ⟨.int kvs.length, H, I', ⟨t, rfl⟩, by rw [g2.length]; exact q _ H S (Ext.refl sub) (.int _)⟩
      | _ => simp only [lenT, reduceCtorEq] at hf
theorem callT_tuple : CallT X (.type "tuple") tupleT := by
  intro pins s σ H xs us Q I rs ⟨S, as, ts, w, sub, hr, hf, q⟩
  cases hr with
  | nil => simp only [tupleT, reduceCtorEq] at hf
  | @cons x t xs' ts' h1 h2 =>
    cases h2 with
    | cons h3 h4 => simp only [tupleT, reduceCtorEq] at hf
    | nil =>
      cases h1 with
      | @tup a vs ts g1 g2 => simp only [tupleT] at hf; cases hf; exact call_tuple_of pins s σ H _ us Q I rs ⟨_, _, rfl, .inr ⟨sqT_mono sub g1, q _ H S (Ext.refl sub) (.tup g1 g2)⟩⟩
      | @lst a vs ts g1 g2 =>
        simp only [tupleT] at hf; cases hf
        refine call_tuple_of pins s σ H _ us Q I rs ⟨_, _, rfl, .inl ⟨sqL_mono sub g1, fun p hp => ?_⟩⟩
        have x := Ext.laid sub hp (.tup vs)
        exact q _ _ _ x (.tup (SqT.of upd_same) (g2.mono x.s nol))
      | _ => simp only [tupleT, reduceCtorEq] at hf
theorem callT_list : CallT X (.type "list") listT := by
  intro pins s σ H xs us Q I rs ⟨S, as, ts, w, sub, hr, hf, q⟩
  cases hr with
  | nil => simp only [listT, reduceCtorEq] at hf
  | @cons x t xs' ts' h1 h2 =>
    cases h2 with
    | cons h3 h4 => simp only [listT, reduceCtorEq] at hf
    | nil =>
      cases h1 with
      | @tup a vs ts g1 g2 =>
        simp only [listT] at hf; cases hf
        refine call_list_of pins s σ H _ us Q I rs ⟨_, _, rfl, .inr (sqT_mono sub g1), fun p hp => ?_⟩
        have x := Ext.laid sub hp (.lst vs)
        exact q _ _ _ x (.lst (SqL.of upd_same) (g2.mono x.s nol))
      | @lst a vs ts g1 g2 =>
        simp only [listT] at hf; cases hf
        refine call_list_of pins s σ H _ us Q I rs ⟨_, _, rfl, .inl (sqL_mono sub g1), fun p hp => ?_⟩
        have x := Ext.laid sub hp (.lst vs)
        exact q _ _ _ x (.lst (SqL.of upd_same) (g2.mono x.s nol))
      | _ => simp only [listT, reduceCtorEq] at hf
end
end C
end
noncomputable section
set_option linter.all false
set_option maxRecDepth 100000
set_option maxHeartbeats 4000002
set_option autoImplicit false
namespace C
open PySem PySem.Spec PyProof.Rows L2
theorem mOwnLen_inv {i : Nat} {s s' : Sta} {t : T} (h : mOwnLen i s = some (t, s')) : s' = s ∧ ((∃ xs f, s.env[i]? = some (some (.lst xs, f)) ∧ t = .int xs.length) ∨ (∃ xs f, s.env[i]? = some (some (.dic xs, f)) ∧ t = .int xs.length)) := by
  unfold mOwnLen at h
  split at h
  · rename_i xs f e; cases h; exact ⟨rfl, .inl ⟨xs, f, e, rfl⟩⟩
  · rename_i xs f e; cases h; exact ⟨rfl, .inr ⟨xs, f, e, rfl⟩⟩
  · cases h
noncomputable section
variable {K : PySem.W.Frag} {B : Bas} {st : Sta} {σ : L2.St} {H S : Hp} {ps : List (V × T)} {as : List Addr}
theorem Rel.dictAt (r : Rel K B st σ H ps S as) {i : Nat} {kvs : List (L2.Key × T)} {f : Bool} (e : st.env[i]? = some (some (.dic kvs, f))) : ∃ p vs, σ[i]? = some (some (.ref p)) ∧ Rd H p (.dK vs) ∧ RepK K S as vs kvs := by
  obtain ⟨v, h1, h2, h3⟩ := r.slots i _ f e
  cases f with
  | false =>
    have h := h2 rfl
    cases h with
    | dic a b => exact ⟨_, _, h1, rd_mono r.sub a, b⟩
  | true =>
    obtain ⟨p, rfl, o⟩ := h3 rfl
    obtain ⟨vs, h, q⟩ := o.own
    exact ⟨p, vs, h1, .inl h, q⟩
end
noncomputable section
variable {X : Cx} {B : Bas} {a b c e o k d : Expr} {m mo mk md mv : M T} {pos p : Pos}
theorem lstAt_inv {i : Nat} {s : Sta} (h : lstAt i s = true) : ∃ kvs f, s.env[i]? = some (some (.lst kvs, f)) := by
  unfold lstAt at h
  split at h
  · rename_i kvs f e; exact ⟨kvs, f, e⟩
  · cases h
end
end C
end
noncomputable section
set_option linter.all false
set_option maxRecDepth 100000
set_option maxHeartbeats 4000002
set_option autoImplicit false
namespace C
open PySem PySem.Spec PyProof.Rows L2
theorem le1000 {ms : M (List T)} {n : Nat} (h : ∀ st ts st', ms st = some (ts, st') → ts.length ≤ n) (hn : n ≤ 1000) : ∀ st ts st', ms st = some (ts, st') → ts.length ≤ 1000 := fun st ts st' e => Nat.le_trans (h st ts st' e) hn
theorem sz_seq {m : M T} : ∀ st ts st', iSeq m st = some (ts, st') → ts.length ≤ sizeLine := fun st ts st' e => by
  unfold iSeq at e
  split at e
  · split at e
    · rename_i h; cases e; exact Nat.le_trans (Nat.le_of_lt h) lim_line
    · cases e
  · split at e
    · rename_i h; cases e; exact Nat.le_trans (Nat.le_of_lt h) lim_line
    · cases e
  · cases e
theorem sz_range {m : M T} : ∀ st ts st', iRange m st = some (ts, st') → ts.length ≤ sizeLine := fun st ts st' e => by
  obtain ⟨n, _, h, rfl⟩ := iRange_inv e
  unfold rangeT
  rw [List.length_map, List.length_range]
  refine Nat.le_trans ?_ lim_line
  show n.toNat ≤ 1000000
  omega
noncomputable def DefOk (P : Program) (w : World) (K : PySem.W.Frag) (mg : Str → Option Value) (base : Heap) (x : Str) (k : Nat) (ps : List Str) (F : Fn) : Prop :=
  ∃ f fd, FnOk P w K mg base CX0 k f fd ps (spF K ps.length F) ∧ Binds K fd ps [] ∧ PySem.W.keepIn K (.ref f) = true ∧ mg x = some (.ref f)
theorem DefOk.mono {P : Program} {w : World} {K : PySem.W.Frag} {mg : Str → Option Value} {base : Heap} {x : Str} {j k : Nat} {ps : List Str} {F : Fn} (d : DefOk P w K mg base x j ps F) (h : j ≤ k) : DefOk P w K mg base x k ps F := by
  obtain ⟨f, fd, h1, h2⟩ := d
  exact ⟨f, fd, h1.mono h, h2⟩
noncomputable section
variable {X : Cx} {B : Bas} {a b c e o k : Expr} {m m1 m2 : M T} {pos p : Pos} {es : List Expr} {ms : M (List T)} {F : Fn} {x : Str} {n : Nat} {pn : List Str}
theorem te_callD (D : DefOk X.prog X.w X.K X.mg X.base x n pn F) (hr : Room n X.A) (hg : Gl X x)
    (ha : PA X (e :: es) (aOf X.K B ms)) (hl : ∀ st ts st', ms st = some (ts, st') → ts.length = pn.length) (hdb : (x == ("__debug__" : Str)) = false := by decide)
    (he : starEach (e :: es) X.env = (false, eval e X.env) :: starEach es X.env := by rfl) (hpl : (backTo pos (starEach es X.env)).any (·.1) = false := by rfl) :
    PE X (.Call (.Name x p) (e :: es) [] pos) (tOf X.K B (mCall F ms)) := by
  obtain ⟨f, fd, h1, h2, h3, h4⟩ := D
  exact te_call h1 hr hg h4 h3 h2 ha hl hdb he hpl
theorem tf_lst (h : PA X es (aOf X.K B ms)) (hm : ∀ st ts st', ms st = some (ts, st') → ts.length ≤ 1000) : PE X (.List es pos) (fOf X.K B (mMap (fun l => some (.lst l)) ms)) :=
  (pe_lst h).imp fun σ H Q ⟨st, ps, S, as, R, t, st', e, q⟩ => by
    obtain ⟨ts, e1, e2⟩ := mMap_inv e
    cases e2
    refine ⟨st, ps, S, as, R, ts, st', e1, fun vs H1 S1 as1 R1 rs => ⟨?_, fun p hp => ?_⟩⟩
    · rw [rs.length]; exact Nat.le_of_lt (small1000 (hm _ _ _ e1))
    · obtain ⟨bD, sD, nD, no⟩ := R1.fresh hp
      exact q p _ S1 as1 (R1.poke bD sD nD no) ⟨⟨vs, upd_same, rs⟩, sD, nD, bD⟩ no
theorem Rel.listAt {K : PySem.W.Frag} {B : Bas} {st : Sta} {σ : L2.St} {H S : Hp} {ps : List (V × T)} {as : List Addr} (r : Rel K B st σ H ps S as) {i : Nat} {xs : List T} {f : Bool} (e : st.env[i]? = some (some (.lst xs, f))) : ∃ p vs, σ[i]? = some (some (.ref p)) ∧ SqL K H p vs ∧ Reps K S as vs xs := by
  obtain ⟨v, h1, h2, h3⟩ := r.slots i _ f e
  cases f with
  | false =>
    have h := h2 rfl
    cases h with
    | lst a b => exact ⟨_, _, h1, sqL_mono r.sub a, b⟩
  | true =>
    obtain ⟨p, rfl, o⟩ := h3 rfl
    obtain ⟨vs, h, q⟩ := o.own
    exact ⟨p, vs, h1, SqL.of h, q⟩
theorem ts_append (i : Nat) {st : Stmt} (h : PS X st (tDrop (tBM X.K "list" rAppend (tVar i) (tCons (tOf X.K B m) tNil)))) : PS X st (sOf X.K B (sAppend i m)) := h.imp fun D σ H ⟨st, ps, S, as, R, fl, st', e, q⟩ => by
  obtain ⟨hd, t, s1, xs, e1, e2, hl, rfl, rfl⟩ := sAppend_inv e
  obtain ⟨xs0, f0, e0⟩ := lstAt_inv hd
  obtain ⟨p0, vs0, s0, q0, _⟩ := R.listAt e0
  refine ⟨_, s0, .inl ⟨rfl, _, q0⟩, st, ps, S, as, R, t, s1, e1, fun v H1 S1 as1 R1 => ?_⟩
  obtain ⟨w, h1, _, h3⟩ := R1.slots i _ true e2
  rw [s0] at h1; cases h1
  obtain ⟨p', ep, ow⟩ := h3 rfl
  cases ep
  obtain ⟨vs, hH, h4⟩ := ow.own
  exact ⟨p0, vs, v, rfl, rfl, hH, by rw [h4.length]; exact Nat.lt_of_lt_of_le hl lim_line, q _ _ S1 as1 (R1.drop.turn e2 s0 ⟨_, upd_same, h4.append (.cons R1.top .nil)⟩)⟩
end
end C
end
noncomputable section
set_option linter.all false
set_option maxRecDepth 100000
set_option maxHeartbeats 4000002
set_option autoImplicit false
namespace C
open PySem PySem.Spec PyProof.Rows L2
noncomputable section
variable {X : Cx} {B : Bas} {a b c e o k : Expr} {m m1 m2 : M T} {pos p : Pos}
theorem bools_vals {K : PySem.W.Frag} {S : Hp} {as : List Addr} : ∀ {vs : List V} {ts : List T} {l : List Bool}, Reps K S as vs ts → boolsT ts = some l → vs = l.map V.bl
  | _, _, l, .nil, h => by cases h; rfl
  | _, _, l, .cons (t := t) h1 h2, h => by
    cases h1 <;> simp only [boolsT, reduceCtorEq] at h
    obtain ⟨l', e1, e2⟩ := Option.map_eq_some_iff.mp h
    subst e2
    rw [bools_vals h2 e1]; rfl
theorem strs_vals {K : PySem.W.Frag} {S : Hp} {as : List Addr} : ∀ {vs : List V} {ts : List T} {l : List Str}, Reps K S as vs ts → strsT ts = some l → vs = l.map V.str
  | _, _, l, .nil, h => by cases h; rfl
  | _, _, l, .cons (t := t) h1 h2, h => by
    cases h1 <;> simp only [strsT, reduceCtorEq] at h
    obtain ⟨l', e1, e2⟩ := Option.map_eq_some_iff.mp h
    subst e2
    rw [strs_vals h2 e1]; rfl
theorem vals_getB {l : List Bool} {us : List Value} (r : Vals (l.map V.bl) us) {i : Nat} {v : Value} (h : us.toArray[i]? = some v) : v = .bool (l.getD i true) := by
  rw [List.getElem?_toArray] at h
  have hi : i < (l.map V.bl).length := by rw [r.length]; exact (List.getElem?_eq_some_iff.mp h).1
  rw [List.length_map] at hi
  have e : (l.map V.bl)[i]? = some (.bl l[i]) := by rw [List.getElem?_map, List.getElem?_eq_getElem hi]; rfl
  obtain ⟨u, h1, h2⟩ := r.get e
  rw [h] at h1; cases h1
  rw [h2, List.getD_eq_getElem?_getD, List.getElem?_eq_getElem hi]; rfl
theorem Inv.lstAt {pins : List (Addr × Obj)} {σ : L2.St} {H : Hp} {s : Shared} {a : Addr} {xs : List V} (I : L2.Inv X pins σ H s) (h : SqL X.K H a xs) : a < s.heap.objs.size := by
  obtain ⟨its, _, ⟨o, n, h1, _⟩, _⟩ := I.list h
  exact Heap.lt_size h1
theorem any_range (l : List Bool) (d : Bool) : ((List.range l.length).any fun i => l.getD i d) = l.any id := by
  induction l with
  | nil => rfl
  | cons x r ih =>
    rw [List.length_cons, List.range_succ_eq_map, List.any_cons, List.any_map, List.any_cons, ← ih]
    rfl
theorem callT_any (hc : X.calm = true) : CallT X (.builtin "any") anyT := by
  intro pins s σ H xs us Q I rs ⟨S, as, ts, w, sub, hr, hf, q⟩
  cases hr with
  | nil => simp only [anyT, reduceCtorEq] at hf
  | @cons x t xs' ts' h1 h2 =>
    cases h2 with
    | cons h3 h4 => simp only [anyT, reduceCtorEq] at hf
    | nil =>
      cases h1 with
      | @lst a vs ts g1 g2 =>
        simp only [anyT] at hf
        obtain ⟨l, e1, e2⟩ := Option.map_eq_some_iff.mp hf
        subst e2
        have ev := bools_vals g2 e1
        subst ev
        obtain ⟨u, rfl, ru⟩ := rs.one
        cases ru
        obtain ⟨its, r, p, hz⟩ := I.list (sqL_mono sub g1)
        have hlt := Inv.lstAt I (sqL_mono sub g1)
        refine call_any_walk (wpAny_pyIter_list p.isList ?_)
        refine ⟨_, _, _, _, _, _, fun i => l.getD i true, rfl, Walks.list (A := X.A.in1) (show X.A.in1.handled = none from I.ok.hd hc) s.heap.objs.size a (Nat.ne_of_lt hlt) its.toArray, And.intro ⟨_, Heap.get?_push_size _ rfl, rfl, rfl⟩ (PlainL.keeps p fun b o e => Heap.get?_push_of_some _ e).isList, fun i v s Q E hv hq => ?_, fun h' tk hk => ?_⟩
        · have e := vals_getB r hv
          subst e
          exact wpAny_truthy_bool hq
        · have hl : its.toArray.size = l.length := by rw [List.size_toArray, ← r.length, List.length_map]
          rw [hl, any_range]
          exact ⟨.bl (l.any id), H, I.kept (h' := h') (t' := tk) fun b u e => hk b u (by simp; exact Nat.ne_of_lt (Heap.lt_size e)) (Heap.get?_push_of_some _ e), rfl, q _ H S (Ext.refl sub) (.bl _)⟩
      | _ => simp only [anyT, reduceCtorEq] at hf
theorem strsAre_of : ∀ {l : List Str} {us : List Value}, Vals (l.map V.str) us → StrsAre us l
  | [], _, r => by cases r; exact .nil
  | x :: l, _, r => by
    rw [List.map_cons] at r
    cases r with
    | cons r1 r2 => obtain ⟨t, rfl⟩ := r1; exact .cons x t (strsAre_of r2)
theorem vals_strs : ∀ {l : List Str} {us : List Value}, StrsAre us l → Vals (l.map V.str) us
  | _, _, .nil => .nil
  | _, _, .cons x t h => .cons ⟨t, rfl⟩ (vals_strs h)
noncomputable abbrev leStr (a b : Str) : Prop := ¬ b.cps.toList < a.cps.toList
theorem leStr_trans {a b c : Str} (h1 : leStr a b) (h2 : leStr b c) : leStr a c := fun h => by
  have h3 : a.cps.toList ≤ b.cps.toList := List.not_lt.mp h1
  have h4 : b.cps.toList ≤ c.cps.toList := List.not_lt.mp h2
  exact List.not_lt.mpr (List.le_trans h3 h4) h
theorem leStr_anti {a b : Str} (h1 : leStr a b) (h2 : leStr b a) : a = b := by
  have h3 : a.cps.toList ≤ b.cps.toList := List.not_lt.mp h1
  have h4 : b.cps.toList ≤ a.cps.toList := List.not_lt.mp h2
  have h5 := List.le_antisymm h3 h4
  cases a; cases b
  simp at h5; subst h5; rfl
theorem rising_pair : ∀ (p : Str) (l : List Str), risingS p l = true → (p :: l).Pairwise leStr
  | p, [], _ => by simp
  | p, x :: r, h => by
    rw [risingS, Bool.and_eq_true] at h
    have ih := rising_pair x r h.2
    have hx : leStr p x := fun z => by
      have := h.1
      rw [ltCps_eq, decide_eq_true z] at this
      cases this
    refine List.pairwise_cons.mpr ⟨fun y hy => ?_, ih⟩
    rcases List.mem_cons.mp hy with rfl | hy -- here
    · exact hx
    · exact leStr_trans hx (List.rel_of_pairwise_cons ih hy)
theorem sorted_pair (l : List Str) (h : sortedS l = true) : l.Pairwise leStr := by
  cases l with
  | nil => exact .nil
  | cons x r => exact rising_pair x r h
theorem ins1_perm (x : Str) : ∀ l, (ins1 x l).Perm (x :: l)
  | [] => .refl _
  | y :: r => by
    rw [ins1]
    split
    · exact .refl _
    · exact ((ins1_perm x r).cons y).trans (.swap x y r)
theorem ins1_pair (x : Str) : ∀ l : List Str, l.Pairwise leStr → (ins1 x l).Pairwise leStr
  | [], _ => by simp [ins1]
  | y :: r, h => by
    rw [ins1]
    split
    · rename_i hx
      have hx := of_decide_eq_true hx
      have hxy : leStr x y := fun z => List.lt_irrefl _ (List.lt_trans hx z)
      refine List.pairwise_cons.mpr ⟨fun z hz => ?_, h⟩
      rcases List.mem_cons.mp hz with rfl | hz -- here
      · exact hxy
      · exact leStr_trans hxy (List.rel_of_pairwise_cons h hz)
    · rename_i hx
      have hx : leStr y x := fun z => hx (decide_eq_true z)
      refine List.pairwise_cons.mpr ⟨fun z hz => ?_, ins1_pair x r (List.pairwise_cons.mp h).2⟩
      rcases List.mem_cons.mp ((ins1_perm x r).mem_iff.mp hz) with rfl | hz
      · exact hx
      · exact List.rel_of_pairwise_cons h hz
theorem isort_fold : ∀ (l acc : List Str), acc.Pairwise leStr → (l.foldl (fun acc x => ins1 x acc) acc).Pairwise leStr ∧ (l.foldl (fun acc x => ins1 x acc) acc).Perm (l ++ acc)
  | [], acc, h => ⟨h, .refl _⟩
  | x :: l, acc, h => by
    obtain ⟨h1, h2⟩ := isort_fold l (ins1 x acc) (ins1_pair x acc h)
    exact ⟨h1, h2.trans (((ins1_perm x acc).append_left l).trans (List.perm_middle))⟩
theorem isort_pair (l : List Str) : (isort l).Pairwise leStr := (isort_fold l [] .nil).1
theorem isort_perm (l : List Str) : (isort l).Perm l := by
  have := (isort_fold l [] .nil).2
  rwa [List.append_nil] at this
theorem isort_eq {l l' : List Str} (h1 : sortedS l' = true) (h2 : l'.Perm l) : l' = isort l :=
  List.Perm.eq_of_pairwise (le := leStr) (fun _ _ _ _ => leStr_anti) (sorted_pair l' h1) (isort_pair l) (h2.trans (isort_perm l).symm)
theorem reps_strs {K : PySem.W.Frag} {S : Hp} {as : List Addr} : ∀ l : List Str, Reps K S as (l.map V.str) (l.map T.str)
  | [] => .nil
  | x :: l => .cons (.str x) (reps_strs l)
theorem sortedL_ok {pins : List (Addr × Obj)} {σ : L2.St} {H S : Hp} {s : Shared} {as : List Addr} {a : Addr} {l : List Str} {Q : VK} (I : L2.Inv X pins σ H s) (sub : Same S H) (g1 : SqL X.K H a (l.map V.str)) (h64 : l.length < 64)
    (q : ∀ v H' S', Ext S H S' H' → Rep X.K S' as v (.lst ((isort l).map .str)) → Q v H') : wpAny (model X.prog X.w) X.A (call (.builtin "sorted") [.ref a]) (EP X pins σ Q) X.xe s := by
  obtain ⟨its, r, p, hz⟩ := I.list g1
  refine sorted_strs p.isList (strsAre_of r) (by rw [← r.length, List.length_map]; exact h64) fun out ss' a1 a2 a3 => ?_
  have es := isort_eq a3 a2
  subst es
  obtain ⟨e, he⟩ := sortedAll_at s.heap its out
  have hl : (List.map V.str (isort l)).length ≤ sizeLine := by
    rw [List.length_map, (isort_perm l).length_eq]
    exact Nat.le_trans (Nat.le_of_lt h64) (by rw [sizeLine_eq]; decide)
  have hn : H (s.heap.objs.size + 1) = none := I.hok.fresh (Nat.le_succ _)
  have x := Ext.laid sub hn (.lst ((isort l).map V.str))
  refine ⟨.ref (s.heap.objs.size + 1), _, I.laid (a := s.heap.objs.size + 1) (o := .lst ((isort l).map V.str)) (h' := sortedAll s.heap its out) (t' := s.toks) (fun _ _ => sortedAll_old) (Nat.le_succ _) ⟨hl, out.toList, e, vals_strs a1, he⟩, rfl, q _ _ _ x (.lst (SqL.of upd_same) (reps_strs _))⟩
theorem callT_sortedL : CallR X (.builtin "sorted") (fun xs H Q => ∃ S as ts l, Same S H ∧ Reps X.K S as xs [.lst ts] ∧ ts.length < 64 ∧ strsT ts = some l ∧ ∀ v H' S', Ext S H S' H' → Rep X.K S' as v (.lst ((isort l).map .str)) → Q v H') := by
  intro pins s σ H xs us Q I rs ⟨S, as, ts, l, sub, hr, h64, e1, q⟩
  cases hr with
  | cons h1 h2 =>
    cases h2
    cases h1 with
    | @lst a vs _ g1 g2 =>
      have ev := strs_vals g2 e1
      subst ev
      obtain ⟨u, rfl, ru⟩ := rs.one
      cases ru
      have hl := g2.length
      rw [List.length_map] at hl
      exact sortedL_ok I sub (sqL_mono sub g1) (by omega) q
noncomputable def tyOf : T → Option Value
  | .non => some (.type "NoneType")
  | .bl _ => some (.type "bool")
  | .int _ => some (.type "int")
  | .str _ => some (.type "str")
  | .tup _ => some (.type "tuple")
  | .lst _ => some (.type "list")
  | .dic _ => some (.type "dict")
  | .obj _ => none
theorem isi_ok {pins : List (Addr × Obj)} {σ : L2.St} {H S : Hp} {s : Shared} {as : List Addr} {x : V} {u c : Value} {t : T} {ty : Value} {b : Bool} {Q : Value → Shared → Prop} {E : Value → Shared → Prop} (I : L2.Inv X pins σ H s) (sub : Same S H) (rx : RelV x u) (r : Rep X.K S as x t) (hty : tyOf t = some ty)
    (e : PySem.W.kitOne X.K ty c = some b) (h : ∀ tk, Q (.bool b) { s with toks := tk }) : wpAny (model X.prog X.w) X.A (call (.builtin "isinstance") [u, c]) Q E s := by
  cases r with
  | non => cases hty; exact isinst_ok I rx .non e h
  | bl y => cases hty; exact isinst_ok I rx (.bl y) e h
  | int y => cases hty; exact isinst_ok I rx (.int y) e h
  | str y => cases hty; exact isinst_ok I rx (.str y) e h
  | @tup a vs ts g1 g2 =>
    cases hty
    cases (show u = Value.ref a from rx)
    obtain ⟨its, _, ⟨o, h1, h2, _⟩, _⟩ := I.tuple (sqT_mono sub g1)
    exact PySem.W.kia_one PySem.W.kitx_tuple I.kIn ⟨o, h1, h2⟩ e (fun z => nomatch z) h
  | @lst a vs ts g1 g2 =>
    cases hty
    cases (show u = Value.ref a from rx)
    obtain ⟨its, _, ⟨o, n, h1, h2, _⟩, _⟩ := I.list (sqL_mono sub g1)
    exact PySem.W.kia_one PySem.W.kitx_list I.kIn ⟨o, h1, h2⟩ e (fun z => nomatch z) h
  | @dic a kvs ts g1 g2 =>
    cases hty
    cases (show u = Value.ref a from rx)
    obtain ⟨_, _, vs, _, o, es, ep, h1, h2, _⟩ := dk_rd I.hok (rd_mono sub g1)
    exact PySem.W.kia_one PySem.W.kitx_dict I.kIn ⟨o, h1, h2.1⟩ e (fun z => nomatch z) h
  | obj h => cases hty
noncomputable def isiT (f : Value → Bool) : List T → Option T
  | [t] => (tyOf t).map fun ty => .bl (f ty)
  | _ => none
theorem te_isi {cn : String} {f : Value → Bool} {pc : Pos} (hg : Gl X "isinstance") (hm : X.mg "isinstance" = none) (hg2 : Gl X (Str.ofString cn)) (hm2 : X.mg (Str.ofString cn) = none) (hv : bootBuiltins (Str.ofString cn) = some (.type cn))
    (hf : ∀ t ty, tyOf t = some ty → PySem.W.kitOne X.K ty (.type cn) = some (f ty)) (ha : PE X a (tOf X.K B m)) (hd : ((Str.ofString cn) == ("__debug__" : Str)) = false) (hn : (Str.ofString cn) ≠ "__name__")
    (he : starEach [a, .Name (Str.ofString cn) pc] X.env = (false, eval a X.env) :: starEach [.Name (Str.ofString cn) pc] X.env := by rfl) (he2 : starEach [.Name (Str.ofString cn) pc] X.env = (false, eval (.Name (Str.ofString cn) pc) X.env) :: starEach [] X.env := by rfl)
    (hpl : (backTo pos (starEach [.Name (Str.ofString cn) pc] X.env)).any (·.1) = false := by rfl) :
    PE X (.Call (.Name "isinstance" p) [a, .Name (Str.ofString cn) pc] [] pos) (tOf X.K B (mMap (isiT f) (mCons m mNil))) := by
  have hc : CallR X (.builtin "isinstance") (fun xs H Q => ∃ S as x t ty, xs = [x, .ty cn] ∧ Same S H ∧ Rep X.K S as x t ∧ tyOf t = some ty ∧ Q (.bl (f ty)) H) := by
    intro pins s σ H xs us Q I rs ⟨S, as, x, t, ty, ex, sub, r, hty, q⟩
    subst ex
    obtain ⟨u, w, rfl, r1, r2⟩ := rs.two
    cases r2
    exact isi_ok I sub r1 r hty (hf t ty hty) fun tk => ⟨.bl (f ty), H, I.tok _, rfl, q⟩
  have hnm : PE X (.Name (Str.ofString cn) pc) (tC (.ty cn)) := pe_bltn hg2 hm2 hv rfl hn hd
  refine (pe_callB hc hg hm PyProof.Rows.boot_isinstance (pa_cons ha (pa_cons hnm pa_nil he2) he) (by decide) (by decide) he hpl).imp fun σ H Q ⟨st, ps, S, as, R, t, st', e, q⟩ => ?_
  obtain ⟨ts, e1, e2⟩ := mMap_inv e
  obtain ⟨t1, s1, us, ea, en, rfl⟩ := mCons_inv e1
  cases en
  simp only [isiT] at e2
  obtain ⟨ty, e3, e4⟩ := Option.map_eq_some_iff.mp e2
  subst e4
  exact ⟨st, ps, S, as, R, t1, _, ea, fun v H1 S1 as1 R1 => ⟨S1, as1, v, t1, ty, rfl, R1.sub, R1.top, e3, q _ H1 S1 as1 (R1.drop.push (.bl _))⟩⟩
example (K : PySem.W.Frag) : PySem.W.kitOne K (.type "bool") (.type "int") = some true := by rfl
example (K : PySem.W.Frag) : PySem.W.kitOne K (.type "str") (.type "int") = some false := by rfl
end
end C
end
noncomputable section
set_option linter.all false
set_option maxRecDepth 100000
set_option maxHeartbeats 4000002
set_option autoImplicit false
namespace C
open PySem PySem.Spec PyProof.Rows L2
theorem list_extendL (l b : Addr) (xs0 ys0 : Array Value) (n n2 : Nat) (dd2 : Option Addr) (sl2 : Array (Option Value)) (hs0 : ¬(!xs0.isEmpty && Builtin.List.listTooLong (xs0.size + ys0.size)) = true) (hs1 : xs0.size ≤ sizeLine) (hs2 : xs0.size + ys0.size ≤ sizeLine + 1) :
    Meets (Builtin.«list.extend» ⟨[.ref l, .ref b], []⟩) (fun _ R s => s.heap.get? l = some { cls := .type "list", dict := none, data := .seq xs0 n, slots := #[] } ∧ s.heap.get? b = some { cls := .type "list", dict := dd2, data := .seq ys0 n2, slots := sl2 } ∧ R (.ok (.ret Value.none)) { s with heap := s.heap.update l (Obj.mapSeq fun x => x ++ ys0), toks := s.toks }) :=
  .of_wp fun pr wd Ar R z h => by
    obtain ⟨hp, gs, dr, tk, os⟩ := z; obtain ⟨hl, hb, h⟩ := h; have f1 := AutoSeq1.idx_int; have f2 := AutoSeq1.sub_tuple_tuple; have f3 := AutoSeq1.sub_list_list; have f4 := AutoSeq1.sub_tuple_list; have f5 := AutoSeq1.sub_list_tuple
    have hz' : (xs0 ++ ys0).size ≤ sizeLine + 1 := by rw [Array.size_append]; exact hs2
    wp_walk using (wpAny_updateSeq hl rfl (hz := hs1) (_hz' := hz')), AutoSeq1.wpAny_loadPart' hl, AutoSeq1.wpAny_loadPart' hb; exact ⟨_, rfl, h⟩
theorem list_extendT (l b : Addr) (xs0 ys0 : Array Value) (n n2 : Nat) (dd2 : Option Addr) (sl2 : Array (Option Value)) (hs0 : ¬(!xs0.isEmpty && Builtin.List.listTooLong (xs0.size + ys0.size)) = true) (hs1 : xs0.size ≤ sizeLine) (hs2 : xs0.size + ys0.size ≤ sizeLine + 1) :
    Meets (Builtin.«list.extend» ⟨[.ref l, .ref b], []⟩) (fun _ R s => s.heap.get? l = some { cls := .type "list", dict := none, data := .seq xs0 n, slots := #[] } ∧ s.heap.get? b = some { cls := .type "tuple", dict := dd2, data := .seq ys0 n2, slots := sl2 } ∧ R (.ok (.ret Value.none)) { s with heap := s.heap.update l (Obj.mapSeq fun x => x ++ ys0), toks := s.toks }) :=
  .of_wp fun pr wd Ar R z h => by
    obtain ⟨hp, gs, dr, tk, os⟩ := z; obtain ⟨hl, hb, h⟩ := h; have f1 := AutoSeq1.idx_int; have f2 := AutoSeq1.sub_tuple_tuple; have f3 := AutoSeq1.sub_list_list; have f4 := AutoSeq1.sub_tuple_list; have f5 := AutoSeq1.sub_list_tuple
    have hz' : (xs0 ++ ys0).size ≤ sizeLine + 1 := by rw [Array.size_append]; exact hs2
    wp_walk using (wpAny_updateSeq hl rfl (hz := hs1) (_hz' := hz')), AutoSeq1.wpAny_loadPart' hl, AutoSeq1.wpAny_loadPart' hb; exact ⟨_, rfl, h⟩
noncomputable section
variable {X : Cx} {B : Bas} {m : M T}
noncomputable def rExtendS (K : PySem.W.Frag) : V → List V → Hp → VK → Prop := fun x vs H Q => ∃ l b xs zs, x = .ref l ∧ vs = [.ref b] ∧ H l = some (.lst xs) ∧ (SqL K H b zs ∨ SqT K H b zs) ∧ xs.length + zs.length ≤ sizeLine ∧ Q .non (upd H l (.lst (xs ++ zs)))
theorem mt_extendS : MtM X "list.extend" (rExtendS X.K) := by
  intro pins s σ H x vs v us Q I rx rv h
  obtain ⟨l, b, xs, zs, rfl, rfl, hH, hB, hz, q⟩ := h
  cases rx
  obtain ⟨u, rfl, ru⟩ := rv.one
  cases ru
  obtain ⟨z, its, n, r, hl, e⟩ := I.lstM hH
  have fin : ∀ its2 : List Value, Vals zs its2 → L2.Inv X pins σ (upd H l (.lst (xs ++ zs))) { s with heap := s.heap.update l (Obj.mapSeq fun x => x ++ its2.toArray), toks := s.toks } := fun its2 r2 =>
    I.lset (its' := its ++ its2) hH e (by simp) (r.append r2) (by rw [List.length_append]; exact hz)
  have hlong : ∀ its2 : List Value, Vals zs its2 → ¬ (!its.toArray.isEmpty && Builtin.List.listTooLong (its.toArray.size + its2.toArray.size)) = true := fun its2 r2 => by
    have hsz : its.toArray.size + its2.toArray.size ≤ sizeLine := by rw [List.size_toArray, List.size_toArray, ← hl, ← r2.length]; exact hz
    rw [notLongL hsz, Bool.and_false]
    exact Bool.false_ne_true
  rcases hB with hB | hB
  · obtain ⟨its2, r2, ⟨⟨cls2, dd2, data2, sl2⟩, n2, ho2, hc2, hd02, hd2⟩, _⟩ := I.list hB
    simp only at hc2 hd2
    subst hc2 hd2
    refine call_meets F.slot_list_extend ⟨_, e, rfl⟩ F.entry_list_extend (F.args_list_extend_2 _ _)
      (list_extendL l b its.toArray its2.toArray n n2 dd2 sl2 (hlong its2 r2) (by rw [List.size_toArray, ← hl]; omega) (by rw [List.size_toArray, List.size_toArray, ← hl, ← r2.length]; omega)) ⟨e, ho2, ?_⟩
    exact ⟨.non, _, fin its2 r2, rfl, q⟩
  · obtain ⟨its2, r2, ⟨⟨cls2, dd2, data2, sl2⟩, ho2, hc2, n2, hd2⟩, _⟩ := I.tuple hB
    simp only at hc2 hd2
    subst hc2 hd2
    refine call_meets F.slot_list_extend ⟨_, e, rfl⟩ F.entry_list_extend (F.args_list_extend_2 _ _)
      (list_extendT l b its.toArray its2.toArray n n2 dd2 sl2 (hlong its2 r2) (by rw [List.size_toArray, ← hl]; omega) (by rw [List.size_toArray, List.size_toArray, ← hl, ← r2.length]; omega)) ⟨e, ho2, ?_⟩
    exact ⟨.non, _, fin its2 r2, rfl, q⟩
theorem ts_extend (i : Nat) {st : Stmt} (h : PS X st (tDrop (tBM X.K "list" (rExtendS X.K) (tVar i) (tCons (tOf X.K B m) tNil)))) : PS X st (sOf X.K B (sExtend i m)) := h.imp fun D σ H ⟨st, ps, S, as, R, fl, st', e, q⟩ => by
  obtain ⟨hd, t, s1, xs, ys, e1, ey, e2, hl, rfl, rfl⟩ := sExtend_inv e
  obtain ⟨xs0, f0, e0⟩ := lstAt_inv hd
  obtain ⟨p0, vs0, s0, q0, _⟩ := R.listAt e0
  refine ⟨_, s0, .inl ⟨rfl, _, q0⟩, st, ps, S, as, R, t, s1, e1, fun v H1 S1 as1 R1 => ?_⟩
  obtain ⟨w, h1, _, h3⟩ := R1.slots i _ true e2
  rw [s0] at h1; cases h1
  obtain ⟨p', ep, ow⟩ := h3 rfl
  cases ep
  obtain ⟨vs, hH, h4⟩ := ow.own
  have top := R1.top
  cases top with
  | @tup b zs _ g1 g2 =>
    simp only [seqOf] at ey; cases ey
    exact ⟨p0, b, vs, zs, rfl, rfl, hH, .inr (sqT_mono R1.sub g1), by rw [h4.length, g2.length]; exact Nat.le_trans (Nat.le_of_lt hl) lim_line, q _ _ S1 as1 (R1.drop.turn e2 s0 ⟨_, upd_same, h4.append g2⟩)⟩
  | @lst b zs _ g1 g2 =>
    simp only [seqOf] at ey; cases ey
    exact ⟨p0, b, vs, zs, rfl, rfl, hH, .inl (sqL_mono R1.sub g1), by rw [h4.length, g2.length]; exact Nat.le_trans (Nat.le_of_lt hl) lim_line, q _ _ S1 as1 (R1.drop.turn e2 s0 ⟨_, upd_same, h4.append g2⟩)⟩
  | _ => simp only [seqOf, reduceCtorEq] at ey
end
end C
end
noncomputable section
set_option linter.all false
set_option maxRecDepth 100000
set_option maxHeartbeats 4000002
set_option autoImplicit false
namespace C
open PySem PySem.Spec PyProof.Rows L2
theorem Rel.newObj {K : PySem.W.Frag} {B : Bas} {st : Sta} {σ : L2.St} {H S : Hp} {ps : List (V × T)} {as : List Addr} {p : Addr} {ob : HO} {so : SO} (r : Rel K B st σ H ps S as) (hp : H p = none) (h : SRep K S (as ++ [p]) (upd H p ob) p so) :
    Rel K B { st with sto := st.sto ++ [so] } σ (upd H p ob) ((.ref p, .obj st.sto.length) :: ps) S (as ++ [p]) := by
  obtain ⟨bD, sD, nD, no⟩ := r.fresh hp
  have mo : ∃ l, as ++ [p] = as ++ l := ⟨[p], rfl⟩
  have other : ∀ q, q ≠ p → H q = upd H p ob q := fun q n => (upd_ne n).symm
  refine Rel.push (st := { st with sto := st.sto ++ [so] }) (H := upd H p ob) (v := .ref p) (t := .obj st.sto.length) ⟨fun b u e => ?_, ⟨r.grow.same, ?_, fun q o a b c => ?_⟩, fun i t f e => ?_, r.apart, ⟨?_, ?_, fun n so2 e => ?_⟩, fun q hq => (r.pend q hq).mono (Same.refl _) mo, r.len⟩ (.obj ?_)
  · rw [upd_ne (fun z => by subst z; rw [sD] at e; cases e)]; exact r.sub _ _ e
  · obtain ⟨l, e⟩ := r.grow.more
    exact ⟨l ++ [p], by rw [e, List.append_assoc]⟩
  · obtain ⟨x, y, z⟩ := r.grow.keep q o a b c
    have n : q ≠ p := fun w => by subst w; rw [bD] at a; cases a
    refine ⟨by rw [upd_ne n]; exact x, y, fun m => ?_⟩
    rcases List.mem_append.mp m with m | m
    · exact z m
    · exact n (List.mem_singleton.mp m)
  · obtain ⟨v, h1, h2, h3⟩ := r.slots i t f e
    refine ⟨v, h1, fun z => (h2 z).mono (Same.refl _) mo, fun z => ?_⟩
    obtain ⟨q, rfl, o⟩ := h3 z
    have n : q ≠ p := fun w => by subst w; subst z; exact no i t e h1
    refine ⟨q, rfl, o.own.more (Same.refl _) mo (other q n), o.out, fun m => ?_, o.new⟩
    rcases List.mem_append.mp m with m | m
    · exact o.nas m
    · exact n (List.mem_singleton.mp m)
  · show (as ++ [p]).length = (st.sto ++ [so]).length
    rw [List.length_append, List.length_append, r.sto.len]; rfl
  · refine List.nodup_append.mpr ⟨r.sto.nd, by simp, fun a ha b hb => ?_⟩
    rw [List.mem_singleton.mp hb]
    intro z; subst z; exact nD ha
  · have e : (st.sto ++ [so])[n]? = some so2 := e
    by_cases hn : n < st.sto.length
    · rw [List.getElem?_append_left hn] at e
      obtain ⟨a, h1, h2, h3⟩ := r.sto.at' n so2 e
      have na : a ≠ p := fun z => by subst z; exact nD (List.mem_of_getElem? h1)
      refine ⟨a, get_app h1, h2, ?_⟩
      cases so2 with
      | dic ts => obtain ⟨vs, x, y⟩ := h3; exact ⟨vs, by rw [upd_ne na]; exact x, y.mono (Same.refl _) mo⟩
      | lst ts => obtain ⟨vs, x, y⟩ := h3; exact ⟨vs, by rw [upd_ne na]; exact x, y.mono (Same.refl _) mo⟩
      | ins _ _ => exact h3.elim
    · rw [List.getElem?_append_right (Nat.le_of_not_lt hn)] at e
      have hn0 : n - st.sto.length = 0 := by
        have := (List.getElem?_eq_some_iff.mp e).1
        simp at this; omega
      rw [hn0] at e; cases e
      have hne : n = as.length := by rw [r.sto.len]; omega
      subst hne
      exact ⟨p, by rw [List.getElem?_append_right (Nat.le_refl _), Nat.sub_self]; rfl, sD, h⟩
  · rw [← r.sto.len, List.getElem?_append_right (Nat.le_refl _), Nat.sub_self]; rfl
noncomputable def PN (X : Cx) (e : Expr) (N : L2.St → V → Prop) : Prop := PE X e (fun σ H Q => ∃ v, N σ v ∧ Q v H)
noncomputable def MN (K : PySem.W.Frag) (m : M T) (N : L2.St → V → Prop) : Prop := ∀ (B : Bas) (st : Sta) (σ : L2.St) (H : Hp) (ps : List (V × T)) (S : Hp) (as : List Addr) (t : T) (st' : Sta), Rel K B st σ H ps S as → m st = some (t, st') → st' = st ∧ ∃ v, N σ v ∧ Rep K S as v t
structure PM (X : Cx) (e : Expr) (m : M T) (N : L2.St → V → Prop) : Prop where
  p : PN X e N
  m : MN X.K m N
noncomputable section
variable {X : Cx} {B : Bas} {a b e e1 e2 : Expr} {m m1 m2 : M T} {N N1 N2 : L2.St → V → Prop} {pos p : Pos}
end
end C
end
noncomputable section
set_option linter.all false
set_option autoImplicit false
namespace C
open PySem PySem.Spec PyProof.Rows L2
inductive StrEs : List Expr → List Str → Prop where
  | nil : StrEs [] []
  | cons {x : Str} {k : Nat} {q : Pos} {es : List Expr} {xs : List Str} : StrEs es xs → StrEs (.Constant (.str x) k q :: es) (x :: xs)
theorem ta_strs {X : Cx} {B : Bas} : ∀ {es : List Expr} {xs : List Str}, StrEs es xs → PA X es (aOf X.K B (mStrs xs))
  | _, _, .nil => ta_nil
  | _, _, .cons h => ta_cons te_str (ta_strs h)
theorem len_strs : ∀ (xs : List Str) (st : Sta) (ts : List T) (st' : Sta), mStrs xs st = some (ts, st') → ts.length ≤ xs.length
  | [], st, ts, st', e => len_nil st ts st' e
  | _ :: xs, st, ts, st', e => len_cons (len_strs xs) st ts st' e
noncomputable section
variable {X : Cx} {B : Bas} {a b c e o k : Expr} {m m1 m2 : M T} {pos p p2 : Pos}
theorem isBl_eq (l : List T) : isBl l = isiT (fun ty => ty == .type "bool") l := by
  match l with
  | [] => rfl
  | [t] => cases t <;> rfl
  | x :: y :: r => cases x <;> rfl
theorem boot_bool' : bootBuiltins "bool" = some (.type "bool") := by decide +kernel
theorem te_isi_bool {pc : Pos} (hg : Gl X "isinstance") (hm : X.mg "isinstance" = none) (hg2 : Gl X "bool") (hm2 : X.mg "bool" = none) (ha : PE X a (tOf X.K B m)) (he : starEach [a, .Name "bool" pc] X.env = (false, eval a X.env) :: starEach [.Name "bool" pc] X.env := by rfl) :
    PE X (.Call (.Name "isinstance" p) [a, .Name "bool" pc] [] pos) (tOf X.K B (mMap isBl (mCons m mNil))) := by
  rw [show isBl = _ from funext isBl_eq]
  exact te_isi (cn := "bool") hg hm hg2 hm2 boot_bool' (fun t ty h => by cases t <;> cases h <;> rfl) ha (by decide) (by decide) he
theorem te_ownLen (i : Nat) (hm : X.mg "len" = none) {es : Expr} (hg : Gl X "len") (h : PE X es (tVar i)) (he : starEach [es] X.env = (false, eval es X.env) :: starEach [] X.env := by rfl) (hpl : (backTo pos (starEach [] X.env)).any (·.1) = false := by rfl) :
    PE X (.Call (.Name "len" p) [es] [] pos) (tOf X.K B (mOwnLen i)) := by
  have hc : CallR X (.builtin "len") (fun xs H Q => ∃ q, xs = [.ref q] ∧ ((∃ ys, SqL X.K H q ys ∧ Q (.int ys.length) H) ∨ (∃ kvs, Rd H q (.dK kvs) ∧ Q (.int kvs.length) H))) := by
    intro pins s σ H xs us Q I rs ⟨q, ex, h⟩
    rcases h with ⟨ys, h1, h2⟩ | ⟨kvs, h1, h2⟩
    · exact call_len_seq pins s σ H xs us Q I rs ⟨q, ys, ex, .inl h1, h2⟩
    · subst ex
      obtain ⟨u, rfl, ru⟩ := rs.one
      cases ru
      exact d_len I h1 fun t s' I' => ⟨.int kvs.length, H, I', ⟨t, rfl⟩, h2⟩
  refine (pe_callB hc hg hm PySem.boot_len (pa_cons h pa_nil he) (by decide) (by decide) he hpl).imp fun σ H Q ⟨st, ps, S, as, R, t, st', e, q⟩ => ?_
  obtain ⟨rfl, h⟩ := mOwnLen_inv e
  rcases h with ⟨xs, f, e1, rfl⟩ | ⟨xs, f, e1, rfl⟩
  · obtain ⟨p0, vs, s0, h1, h2⟩ := R.listAt e1
    exact ⟨_, s0, p0, rfl, .inl ⟨vs, h1, by rw [h2.length]; exact q _ H S as (R.push (.int _))⟩⟩
  · obtain ⟨p0, vs, s0, h1, h2⟩ := R.dictAt e1
    exact ⟨_, s0, p0, rfl, .inr ⟨vs, h1, by rw [h2.length]; exact q _ H S as (R.push (.int _))⟩⟩
end
end C
end
noncomputable section
set_option linter.all false
set_option autoImplicit false
namespace C
open PySem
mutual
theorem dat_lay : ∀ (t : T) {d : PyData}, dat t = some d → d.canLay0 = true
  | .non, _, h => by simp only [dat] at h; cases h; simp only [PyData.canLay0]
  | .bl b, _, h => by simp only [dat] at h; cases h; simp only [PyData.canLay0]
  | .int i, _, h => by simp only [dat] at h; cases h; simp only [PyData.canLay0]
  | .str x, _, h => by
    simp only [dat] at h
    split at h
    · rename_i hx; cases h; exact hx
    · cases h
  | .tup xs, _, h => by
    simp only [dat] at h
    obtain ⟨l, e1, e2⟩ := Option.map_eq_some_iff.mp h
    subst e2
    simp only [PyData.canLay0]
    exact dats_lay xs e1
  | .lst xs, _, h => by
    simp only [dat] at h
    obtain ⟨l, e1, e2⟩ := Option.map_eq_some_iff.mp h
    subst e2
    simp only [PyData.canLay0]
    exact dats_lay xs e1
  | .dic _, _, h => by simp only [dat] at h; cases h
  | .obj _, _, h => by simp only [dat] at h; cases h
theorem dats_lay : ∀ (ts : List T) {l : List PyData}, dats ts = some l → PyData.canLayAll0 l = true
  | [], _, h => by simp only [dats] at h; cases h; simp only [PyData.canLayAll0]
  | x :: r, _, h => by
    simp only [dats] at h
    split at h
    · rename_i a ea
      obtain ⟨l, e1, e2⟩ := Option.map_eq_some_iff.mp h
      subst e2
      simp only [PyData.canLayAll0]
      rw [dat_lay x ea, dats_lay r e1]; rfl
    · cases h
end
theorem dats_cons {x : T} {r : List T} {l : List PyData} (h : dats (x :: r) = some l) : ∃ a l', dat x = some a ∧ dats r = some l' ∧ l = a :: l' := by
  simp only [dats] at h
  split at h
  · rename_i a ea
    obtain ⟨l, e1, e2⟩ := Option.map_eq_some_iff.mp h
    exact ⟨a, l, ea, e1, e2.symm⟩
  · cases h
theorem eqD_inv {t u : T} {b : Bool} (h : eqD t u = some b) : ∃ x y, dat t = some x ∧ dat u = some y ∧ x.depth ≤ 40 ∧ b = PyData.eqv x y := by
  unfold eqD at h
  split at h
  · rename_i x ex
    split at h
    · rename_i y ey
      split at h
      · rename_i hd; cases h; exact ⟨x, y, ex, ey, hd, rfl⟩
      · cases h
    · cases h
  · cases h
theorem eqT_inv {t u : T} {b : Bool} (h : eqT t u = some b) : (∃ x y, t = .dic x ∧ u = .dic y ∧ ((x.length = y.length ∧ eqKs x y = some b) ∨ (x.length ≠ y.length ∧ b = false))) ∨ eqD t u = some b := by
  unfold eqT at h
  split at h
  · split at h
    · rename_i hl; exact .inl ⟨_, _, rfl, rfl, .inl ⟨hl, h⟩⟩
    · rename_i hl; cases h; exact .inl ⟨_, _, rfl, rfl, .inr ⟨hl, rfl⟩⟩
  · exact .inr h
end C
end
noncomputable section
set_option linter.all false
set_option maxRecDepth 100000
set_option maxHeartbeats 4000002
set_option autoImplicit false
namespace C
open PySem PySem.Spec PyProof.Rows L2
noncomputable section
variable {X : Cx} {pins : List (Addr × Obj)} {σ : L2.St} {H S : Hp} {s : Shared} {as : List Addr}
mutual
theorem Rep.reads (I : L2.Inv X pins σ H s) (sub : Same S H) : ∀ {v : V} {t : T}, Rep X.K S as v t → ∀ {d : PyData} {u : Value}, dat t = some d → RelV v u → ∃ bs, Reads s.heap u d bs
  | _, _, .non, _, _, e, r => by simp only [dat] at e; cases e; cases r; exact ⟨_, .none⟩
  | _, _, .bl b, _, _, e, r => by simp only [dat] at e; cases e; cases r; exact ⟨_, .bool b⟩
  | _, _, .int i, _, _, e, r => by simp only [dat] at e; cases e; obtain ⟨t, rfl⟩ := r; exact ⟨_, .int i t⟩
  | _, _, .str x, _, _, e, r => by
    simp only [dat] at e
    split at e
    · cases e; obtain ⟨t, rfl⟩ := r; exact ⟨_, .str x t⟩
    · cases e
  | _, _, .tup h q, _, _, e, r => by
    simp only [dat] at e
    obtain ⟨l, e1, e2⟩ := Option.map_eq_some_iff.mp e
    subst e2
    cases r
    obtain ⟨its, rv, ⟨o, h1, h2, n, h3⟩, _⟩ := I.tuple (sqT_mono sub h)
    obtain ⟨bs, rb⟩ := Reps.reads I sub q e1 rv
    exact ⟨_, .tuple h1 h2 h3 rb⟩
  | _, _, .lst h q, _, _, e, r => by
    simp only [dat] at e
    obtain ⟨l, e1, e2⟩ := Option.map_eq_some_iff.mp e
    subst e2
    cases r
    obtain ⟨its, rv, ⟨o, n, h1, h2, _, h3⟩, _⟩ := I.list (sqL_mono sub h)
    obtain ⟨bs, rb⟩ := Reps.reads I sub q e1 rv
    exact ⟨_, .list h1 h2 h3 rb⟩
  | _, _, .dic _ _, _, _, e, _ => by simp only [dat] at e; cases e
  | _, _, .obj _, _, _, e, _ => by simp only [dat] at e; cases e
theorem Reps.reads (I : L2.Inv X pins σ H s) (sub : Same S H) : ∀ {vs : List V} {ts : List T}, Reps X.K S as vs ts → ∀ {ds : List PyData} {us : List Value}, dats ts = some ds → Vals vs us → ∃ bs, ReadsAll s.heap us ds bs
  | _, _, .nil, _, _, e, r => by simp only [dats] at e; cases e; cases r; exact ⟨_, .nil⟩
  | _, _, .cons h q, _, _, e, r => by
    obtain ⟨a, l, e1, e2, e3⟩ := dats_cons e
    subst e3
    cases r with
    | cons r1 r2 =>
      obtain ⟨b1, x1⟩ := Rep.reads I sub h e1 r1
      obtain ⟨b2, x2⟩ := Reps.reads I sub q e2 r2
      exact ⟨_, .cons x1 x2⟩
end
theorem eqD_at (I : L2.Inv X pins σ H s) (sub : Same S H) {x y : V} {t u : T} {v w : Value} {b : Bool} {A : Around} (hx : Rep X.K S as x t) (hy : Rep X.K S as y u) (rx : RelV x v) (ry : RelV y w) (e : eqD t u = some b) (hu : A.units + 40 < cLine) : SeqAt.EqAt A s v w b := by
  obtain ⟨dx, dy, e1, e2, hd, rfl⟩ := eqD_inv e
  obtain ⟨b1, x1⟩ := hx.reads I sub e1 rx
  obtain ⟨b2, x2⟩ := hy.reads I sub e2 ry
  exact SeqAt.eqAt_reads dx dy A s v w b1 b2 x1 x2 (dat_lay _ e1) (dat_lay _ e2) (by have := Nat.min_le_left dx.depth dy.depth; omega)
theorem keqHits (I : L2.Inv X pins σ H s) (sub : Same S H) {A : Around} (hu : A.units + 40 < cLine) {kb : List (L2.Key × V)} {ub : List (L2.Key × T)} {wb : List (L2.Key × Value)} (rb : RepK X.K S as kb ub) (vb : KV kb wb) :
    ∀ {ka : List (L2.Key × V)} {ua : List (L2.Key × T)} {wa : List (L2.Key × Value)} {r : Bool}, RepK X.K S as ka ua → KV ka wa → eqKs ua ub = some r → PySem.W.KeqHits A s wb wa r
  | _, _, _, _, .nil, va, e => by
    simp only [eqKs] at e; cases e
    cases va
    exact .nil
  | _, _, _, _, .cons (k := k) h q, va, e => by
    simp only [eqKs] at e
    cases va with
    | @cons _ p2 _ _ hp hr =>
      obtain ⟨pk, pv⟩ := p2
      obtain ⟨ek, rv⟩ := hp
      dsimp only at ek rv
      subst ek
      rcases rb.get k with ⟨z, t', a1, a2, a3⟩ | ⟨a1, a2⟩
      · rw [a2] at e
        dsimp only at e
        have rel := KV.val vb k
        rw [a1] at rel
        obtain ⟨w', hw, rw'⟩ := RelO.some_of rel
        split at e
        · rename_i eb he
          obtain ⟨b', e1, e2⟩ := Option.map_eq_some_iff.mp e
          subst e2
          exact .hit hw (eqD_at I sub h a3 rv rw' he hu) (keqHits I sub hu rb vb q hr e1)
        · cases e
      · rw [a2] at e
        cases e
        have rel := KV.val vb k
        rw [a1] at rel
        exact .miss (RelO.none_of rel)
end
noncomputable section
variable {X : Cx}
theorem opT_eqGen {op : CmpOp} {neg : Bool} (hop : (op = .Eq ∧ neg = false) ∨ (op = .NotEq ∧ neg = true)) {g : T → T → Option T} (hg : ∀ t u w, g t u = some w → ∃ b, eqT t u = some b ∧ w = .bl (xor neg b)) (hu : X.A.units + 64 < cLine) : OpT X (compareOp op) g := by
  intro pins s σ H x y v u Q I rx ry ⟨S, as, t, t2, w, sub, ht, hu2, hf, q⟩
  obtain ⟨b, e, rfl⟩ := hg _ _ _ hf
  have fin : EP X pins σ Q (.bool (xor neg b)) s := ⟨.bl (xor neg b), H, I, rfl, q _ H S (Ext.refl sub) (.bl _)⟩
  rcases eqT_inv e with ⟨xs, ys, rfl, rfl, hd⟩ | he
  · cases ht with
    | @dic a kvs _ g1 g2 =>
      cases hu2 with
      | @dic a' kvs' _ k1 k2 =>
        cases rx
        cases ry
        obtain ⟨z, hs, vs, rel, dd⟩ := dk_rd I.hok (rd_mono sub g1)
        obtain ⟨z', hs', vs', rel', dd'⟩ := dk_rd I.hok (rd_mono sub k1)
        have l1 : vs.length = xs.length := by rw [← rel.length]; exact g2.length
        have l2 : vs'.length = ys.length := by rw [← rel'.length]; exact k2.length
        have hu1 : X.A.in1.units + 40 < cLine := by show X.A.units + 1 + 40 < cLine; omega
        rcases hd with ⟨hl, eb⟩ | ⟨hl, rfl⟩
        · have hits : vs.length = vs'.length → PySem.W.KeqHits X.A.in1 s vs' vs b := fun _ => keqHits I sub hu1 k2 rel' g2 rel eb
          have el : (vs.length == vs'.length) = true := by rw [l1, l2, hl]; exact beq_self_eq_true _
          rcases hop with ⟨rfl, rfl⟩ | ⟨rfl, rfl⟩
          · refine PySem.W.keq_eq hs hs' dd dd' (by omega) hits ?_
            rw [el]; simpa using fin
          · refine PySem.W.keq_ne hs hs' dd dd' (by omega) hits ?_
            rw [el]; simpa using fin
        · have hits : vs.length = vs'.length → PySem.W.KeqHits X.A.in1 s vs' vs true := fun h => absurd (by rw [← l1, ← l2]; exact h) hl
          have el : (vs.length == vs'.length) = false := by rw [l1, l2]; exact beq_eq_false_iff_ne.mpr hl
          rcases hop with ⟨rfl, rfl⟩ | ⟨rfl, rfl⟩
          · refine PySem.W.keq_eq hs hs' dd dd' (by omega) hits ?_
            rw [el]; simpa using fin
          · refine PySem.W.keq_ne hs hs' dd dd' (by omega) hits ?_
            rw [el]; simpa using fin
  · obtain ⟨dx, dy, e1, e2, hd, rfl⟩ := eqD_inv he
    obtain ⟨b1, x1⟩ := ht.reads I sub e1 rx
    obtain ⟨b2, x2⟩ := hu2.reads I sub e2 ry
    have hm : X.A.units + min dx.depth dy.depth < cLine := by have := Nat.min_le_left dx.depth dy.depth; omega
    rcases hop with ⟨rfl, rfl⟩ | ⟨rfl, rfl⟩
    · exact SeqAt.compareEq_reads x1 x2 (dat_lay _ e1) (dat_lay _ e2) hm (by simpa using fin)
    · exact SeqAt.compareNe_reads x1 x2 (dat_lay _ e1) (dat_lay _ e2) hm (by simpa using fin)
theorem opT_eq (hu : X.A.units + 64 < cLine) : OpT X (compareOp .Eq) eqO := opT_eqGen (.inl ⟨rfl, rfl⟩) (fun t u w h => by
  unfold eqO at h
  split at h
  · rename_i b e; cases h; exact ⟨b, e, by simp⟩
  · cases h) hu
theorem opT_ne (hu : X.A.units + 64 < cLine) : OpT X (compareOp .NotEq) neO := opT_eqGen (.inr ⟨rfl, rfl⟩) (fun t u w h => by
  unfold neO at h
  split at h
  · rename_i b e; cases h; exact ⟨b, e, by simp⟩
  · cases h) hu
open Classical in
noncomputable def eqBy (h : Heap) (dx : PyData) (y : Value) : Bool := if e : ∃ d bs, Reads h y d bs ∧ d.canLay0 = true then PyData.eqv (Classical.choose e) dx else false
theorem eqBy_eq {h : Heap} {dx d : PyData} {y : Value} {bs : List Addr} (r : Reads h y d bs) (l : d.canLay0 = true) : eqBy h dx y = PyData.eqv d dx := by
  have e : ∃ d bs, Reads h y d bs ∧ d.canLay0 = true := ⟨d, bs, r, l⟩
  unfold eqBy
  rw [dif_pos e]
  obtain ⟨bs', r', l'⟩ := Classical.choose_spec e
  rw [SeqAt.Reads.unique _ _ _ _ _ l' r' r]
theorem inL_at {pins : List (Addr × Obj)} {σ : L2.St} {H S : Hp} {s : Shared} {as : List Addr} {A : Around} (I : L2.Inv X pins σ H s) (sub : Same S H) (hu : A.units + 40 < cLine) {x : V} {t : T} {v : Value} {dx : PyData} (hx : Rep X.K S as x t) (rx : RelV x v) (ex : dat t = some dx) :
    ∀ {vs : List V} {ts : List T} {us : List Value} {b : Bool}, Reps X.K S as vs ts → Vals vs us → inL t ts = some b → (∀ y ∈ us, SeqAt.EqAt A s y v (eqBy s.heap dx y)) ∧ us.any (eqBy s.heap dx) = b
  | _, _, _, _, .nil, r, e => by simp only [inL] at e; cases e; cases r; exact ⟨fun y h => (nomatch h), rfl⟩
  | _, _, _, _, .cons h q, r, e => by
    simp only [inL] at e
    cases r with
    | @cons _ u1 _ us1 r1 r2 =>
      split at e
      · rename_i eb he
        obtain ⟨b', e1, e2⟩ := Option.map_eq_some_iff.mp e
        subst e2
        obtain ⟨i1, i2⟩ := inL_at I sub hu hx rx ex q r2 e1
        obtain ⟨dy, dx', f1, f2, hd, rfl⟩ := eqD_inv he
        rw [ex] at f2; cases f2
        obtain ⟨b1, x1⟩ := h.reads I sub f1 r1
        have hb := eqBy_eq (dx := dx) x1 (dat_lay _ f1)
        refine ⟨fun y hy => ?_, by rw [List.any_cons, i2, hb]⟩
        rcases List.mem_cons.mp hy with rfl | hy -- here
        · rw [hb]; exact eqD_at I sub h hx r1 rx he hu
        · exact i1 y hy
      · cases e
theorem inT_inv {t u w : T} (h : inT t u = some w) : (∃ ys b, (u = .tup ys ∨ u = .lst ys) ∧ inL t ys = some b ∧ (dat t).isSome = true ∧ w = .bl b) ∨ (∃ kvs q, u = .dic kvs ∧ keyOf t = some q ∧ w = .bl (dGet q kvs).isSome) := by
  unfold inT at h
  split at h
  · obtain ⟨q, e1, e2⟩ := Option.map_eq_some_iff.mp h
    exact .inr ⟨_, q, rfl, e1, e2.symm⟩
  · split at h
    · rename_i hd
      split at h
      · obtain ⟨b, e1, e2⟩ := Option.map_eq_some_iff.mp h; exact .inl ⟨_, b, .inl rfl, e1, hd, e2.symm⟩
      · obtain ⟨b, e1, e2⟩ := Option.map_eq_some_iff.mp h; exact .inl ⟨_, b, .inr rfl, e1, hd, e2.symm⟩
      · cases h
    · cases h
theorem opT_inGen {op : CmpOp} {neg : Bool} (hop : (op = .In ∧ neg = false) ∨ (op = .NotIn ∧ neg = true)) {g : T → T → Option T} (hg : ∀ t u w, g t u = some w → ∃ w', inT t u = some w' ∧ ∃ b, w' = .bl b ∧ w = .bl (xor neg b)) (hu : X.A.units + 64 < cLine) : OpT X (compareOp op) g := by
  intro pins s σ H x y v u Q I rx ry ⟨S, as, t, t2, w, sub, ht, hu2, hf, q⟩
  obtain ⟨w', ei, b0, rfl, rfl⟩ := hg _ _ _ hf
  rcases inT_inv ei with ⟨ys, b, hy, e, hdt, eb⟩ | ⟨kvs, qk, rfl, ek, eb⟩
  · cases eb
    obtain ⟨dx, ex⟩ := Option.isSome_iff_exists.mp hdt
    have fin : EP X pins σ Q (.bool (xor neg b0)) s := ⟨.bl (xor neg b0), H, I, rfl, q _ H S (Ext.refl sub) (.bl _)⟩
    have hu1 : X.A.in1.units + 40 < cLine := by show X.A.units + 1 + 40 < cLine; omega
    rcases hy with rfl | rfl
    · cases hu2 with
      | @tup a vs _ g1 g2 =>
        cases ry
        obtain ⟨its, r, p, hz⟩ := I.tuple (sqT_mono sub g1)
        obtain ⟨i1, i2⟩ := inL_at I sub hu1 ht rx ex g2 r e
        have he : ∀ y, y ∈ its.toArray → SeqAt.EqAt X.A.in1 s y v (eqBy s.heap dx y) := fun y hy => i1 y (by simpa using hy)
        have ha : its.toArray.any (eqBy s.heap dx) = b0 := by rw [← i2]; simp
        rcases hop with ⟨rfl, rfl⟩ | ⟨rfl, rfl⟩
        · exact SeqAt.in_tupleAt _ (show s.heap.IsTuple a its.toArray from p) he (by rw [ha]; simpa using fin)
        · exact SeqAt.notIn_tupleAt _ (show s.heap.IsTuple a its.toArray from p) he (by rw [ha]; simpa using fin)
    · cases hu2 with
      | @lst a vs _ g1 g2 =>
        cases ry
        obtain ⟨its, r, p, hz⟩ := I.list (sqL_mono sub g1)
        obtain ⟨i1, i2⟩ := inL_at I sub hu1 ht rx ex g2 r e
        have he : ∀ y, y ∈ its.toArray → SeqAt.EqAt X.A.in1 s y v (eqBy s.heap dx y) := fun y hy => i1 y (by simpa using hy)
        have ha : its.toArray.any (eqBy s.heap dx) = b0 := by rw [← i2]; simp
        rcases hop with ⟨rfl, rfl⟩ | ⟨rfl, rfl⟩
        · exact SeqAt.in_listAt _ p.isList he (by rw [ha]; simpa using fin)
        · exact SeqAt.notIn_listAt _ p.isList he (by rw [ha]; simpa using fin)
  · cases eb
    cases hu2 with
    | @dic a kv _ g1 g2 =>
      cases ry
      have ey := kV_of ht ek
      subst ey
      have hs : (dGet qk kvs).isSome = (valV kv qk).isSome := by
        rcases g2.get qk with ⟨z, t', a1, a2, _⟩ | ⟨a1, a2⟩
        · simp [a1, a2]
        · simp [a1, a2]
      rw [hs] at q
      have gd : DGet H a (kV qk) (valV kv qk) := .inl ⟨kv, qk, rd_mono sub g1, rfl, rfl⟩
      rcases hop with ⟨rfl, rfl⟩ | ⟨rfl, rfl⟩
      · exact d_in (by omega) I gd rx fun s' I' => ⟨.bl _, H, I', rfl, by simpa using q _ H S (Ext.refl sub) (.bl _)⟩
      · exact d_notIn (by omega) I gd rx fun s' I' => ⟨.bl _, H, I', rfl, by simpa using q _ H S (Ext.refl sub) (.bl _)⟩
theorem opT_in (hu : X.A.units + 64 < cLine) : OpT X (compareOp .In) inT := opT_inGen (.inl ⟨rfl, rfl⟩) (fun t u w h => by
  rcases inT_inv h with ⟨ys, b, h1, h2, h3, rfl⟩ | ⟨kvs, q, rfl, h2, rfl⟩
  · exact ⟨_, h, b, rfl, by simp⟩
  · exact ⟨_, h, _, rfl, by simp⟩) hu
end
end C
end
noncomputable section
set_option linter.all false
set_option maxRecDepth 100000
set_option maxHeartbeats 4000002
set_option autoImplicit false
namespace C
open PySem PySem.Spec PyProof.Rows L2
noncomputable def spFF (K : PySem.W.Frag) (ar : Nat) (F : Fn) : Sp := fun vs H Q _ => ∃ S as sto ts t sto', Same S H ∧ StoOk K S as H sto ∧ Reps K S as vs ts ∧ ts.length = ar ∧ F ts sto = some (t, sto') ∧
  ∀ p H' S' as', Grow ⟨S, as, H⟩ S' as' H' → Same S' H' → StoOk K S' as' H' sto' → OwnAt K ⟨S, as, H⟩ S' as' H' p t → Q (.ref p) H'
noncomputable def sOfF (K : PySem.W.Frag) (B : Bas) (s : S) : TS := fun D σ H => ∃ st ps S as, Rel K B st σ H ps S as ∧ ∃ t st', s st = some (.ret t, st') ∧
  ∀ p σ' H' S' as', Rel K B st' σ' H' ps S' as' → OwnAt K B S' as' H' p t → D.rt (.ref p) H'
theorem sGo_inv {g : G} {m : M T} {s s' : Sta} {fl : Flow} (h : sGo g m s = some (fl, s')) : ∃ t s1, m s = some (t, s1) ∧ g t s1 = some s' ∧ fl = .next := by
  unfold sGo at h
  split at h
  · rename_i t s1 e
    split at h
    · rename_i s2 e2; cases h; exact ⟨t, s1, e, e2, rfl⟩
    · cases h
  · cases h
noncomputable def Ends1 (v : S) : Prop := ∀ s s', v s ≠ some (.next, s')
theorem ends_retE (m : M T) : Ends1 (sRet m) := fun s s' h => by
  unfold sRet at h
  split at h <;> cases h
noncomputable section
variable {X : Cx} {B : Bas} {a b c e : Expr} {m m1 m2 : M T} {pos p : Pos} {u v : S} {es : List Expr} {ms : M (List T)} {k n : Nat} {f : Addr} {fd : FuncData} {pn : List Str} {F : Fn} {x : Str}
theorem ts_retFE (he : PE X e (fOf X.K B m)) : PSs X [.Return (some e) pos] (sOfF X.K B (sRet m)) := (pss_one (ps_ret he)).imp fun D σ H ⟨st, ps, S, as, R, t, st', e, q⟩ => by
  obtain ⟨t', e1, ef⟩ := sRet_inv e
  cases ef
  exact ⟨st, ps, S, as, R, t, st', e1, fun p H' S' as' R' o _ => q p σ H' S' as' R' o⟩
theorem ts_go {g : G} {s : Stmt} (h : PS X s (tAsg (tOf X.K B m) (gOf X.K B g))) : PS X s (sOf X.K B (sGo g m)) := h.imp fun D σ H ⟨st, ps, S, as, R, fl, st', e, q⟩ => by
  obtain ⟨t, s1, e1, e2, rfl⟩ := sGo_inv e
  exact ⟨st, ps, S, as, R, t, s1, e1, fun v H' S' as' R' => ⟨s1, ps, S', as', t, R', st', e2, fun σ' H'' S'' as'' R'' => q σ' H'' S'' as'' R''⟩⟩
end
noncomputable def DefOkF (P : Program) (w : World) (K : PySem.W.Frag) (mg : Str → Option Value) (base : Heap) (x : Str) (k : Nat) (ps : List Str) (F : Fn) : Prop :=
  ∃ f fd, FnOk P w K mg base CX0 k f fd ps (spFF K ps.length F) ∧ Binds K fd ps [] ∧ PySem.W.keepIn K (.ref f) = true ∧ mg x = some (.ref f)
theorem DefOkF.mono {P : Program} {w : World} {K : PySem.W.Frag} {mg : Str → Option Value} {base : Heap} {x : Str} {j k : Nat} {ps : List Str} {F : Fn} (d : DefOkF P w K mg base x j ps F) (h : j ≤ k) : DefOkF P w K mg base x k ps F := by
  obtain ⟨f, fd, h1, h2⟩ := d
  exact ⟨f, fd, h1.mono h, h2⟩
noncomputable section
variable {X : Cx} {B : Bas} {a b c e : Expr} {m m1 m2 : M T} {pos p : Pos} {es : List Expr} {ms : M (List T)} {n : Nat} {pn : List Str} {F : Fn} {x : Str}
theorem tf_callD (D : DefOkF X.prog X.w X.K X.mg X.base x n pn F) (hr : Room n X.A) (hg : Gl X x)
    (ha : PA X (e :: es) (aOf X.K B ms)) (hl : ∀ st ts st', ms st = some (ts, st') → ts.length = pn.length) (hdb : (x == ("__debug__" : Str)) = false := by decide)
    (he : starEach (e :: es) X.env = (false, eval e X.env) :: starEach es X.env := by rfl) (hpl : (backTo pos (starEach es X.env)).any (·.1) = false := by rfl) :
    PE X (.Call (.Name x p) (e :: es) [] pos) (fOf X.K B (mCall F ms)) := by
  obtain ⟨f, fd, G, hb, hk, hm⟩ := D
  refine (pe_call G hr hg hm hk hb .nil pass0 ha hdb he hpl).imp fun σ H Q ⟨st, ps, S, as, R, t, st', e, q⟩ => ?_
  obtain ⟨ts, s1, sto, e1, e2, rfl⟩ := mCall_inv e
  refine ⟨st, ps, S, as, R, ts, s1, e1, fun vs H1 S1 as1 R1 rs => ?_⟩
  show spFF X.K pn.length F (vs ++ []) H1 Q E0
  rw [List.append_nil]
  exact ⟨S1, as1, s1.sto, ts, t, sto, R1.sub, R1.sto, rs, hl _ _ _ e1, e2, fun p H2 S2 as2 g sub so o => by
    obtain ⟨b1, b2, b3, b4⟩ := R1.fresh o.new
    exact q p H2 S2 as2 (R1.call g sub so) ⟨o.own, o.out, o.nas, b1⟩ b4⟩
end
noncomputable section
variable {P : Program} {w : World} {K : PySem.W.Frag} {mg : Str → Option Value} {base : Heap}
theorem fn_treeF {x qual : Str} {st : Stmt} {f : Addr} {fd : FuncData} {N ps : List Str} {k : Nat} {b : S} (F : Fun K x qual st f fd) (Sc : FnScope N ps (defScope st)) (hN : ps.length ≤ N.length) (he : Ends1 b)
    (hb : ∀ (cdv : Value) (A : Around) (outer : List Env) (s : Shared) (H : Hp) (E : XK) (B : Bas), Room k (A.deeper (envOfC qual (defScope st) s.heap.objs.size f cdv)) →
      PSs (cxOf CX0 P w K mg base N qual (defScope st) f cdv A outer s H E).nox (defBody st) (sOfF K B b)) : FnOk P w K mg base CX0 (k + 1) f fd ps (spFF K ps.length (runFn N.length b)) := by
  refine F.ok Sc (fun vs H Q E h => ?_) fun cdv A outer s H vs Q E hr h => ?_
  · obtain ⟨S, as, sto, ts, t, sto', h1, h2, h3, h4, _⟩ := h
    rw [h3.length, h4]
  · obtain ⟨S, as, sto, ts, t, sto', h1, h2, h3, h4, h5, q⟩ := h
    refine ⟨_, hb cdv A outer s H E ⟨S, as, H⟩ hr, ?_⟩
    have lv : vs.length = ps.length := by rw [h3.length, h4]
    have R : Rel K ⟨S, as, H⟩ ⟨ts.map (fun t => some (t, false)) ++ List.replicate (N.length - ts.length) none, sto⟩ (L2.start N vs) H [] S as := rel_start h1 h2 h3 (by rw [h4]; exact hN)
    unfold runFn at h5
    split at h5
    · rename_i t' s' e
      cases h5
      exact ⟨_, [], S, as, R, t, s', e, fun p σ' H' S' as' R' o => q p H' S' as' R'.grow R'.sub R'.sto o⟩
    · rename_i s' e
      exact absurd e (he _ _)
    · cases h5
end
end C
end
noncomputable section
set_option linter.all false
set_option maxRecDepth 100000
set_option maxHeartbeats 4000002
set_option autoImplicit false
namespace C
open PySem PySem.Spec PyProof.Rows L2
noncomputable section
variable {X : Cx} {B : Bas} {a b c e : Expr} {m m1 m2 : M T} {pos p p2 pos2 : Pos}
theorem Ext.junk {S H : Hp} (h : Same S H) {p : Addr} (n : H p = none) (o : HO) : Ext S H S (upd H p o) :=
  ⟨Same.refl _, Same.upd n o, fun b u q => (Same.upd n o) _ _ (h _ _ q), fun _ q => .inl q⟩
noncomputable def gNames : List Nat → TGs
  | [] => gNil
  | i :: is => gCons (gName i) (gNames is)
theorem names_ok {K : PySem.W.Frag} {H S : Hp} {as : List Addr} {ps : List (V × T)} : ∀ (is : List Nat) {vs : List V} {xs : List T} {st : Sta} {σ : L2.St} {Q : L2.St → Hp → Prop}, Rel K B st σ H ps S as → Reps K S as vs xs → xs.length = is.length →
    (∀ σ', Rel K B ((is.zip xs).foldl (fun s p => putSlot p.1 p.2 false s) st) σ' H ps S as → Q σ' H) → gNames is vs σ H Q
  | [], _, _, _, _, _, R, .nil, _, q => ⟨rfl, q _ R⟩
  | i :: is, _, _, _, _, _, R, .cons r rs, hl, q => ⟨_, _, rfl, names_ok is (R.put (i := i) r) rs (by simpa using hl) q⟩
  | [], _, _, _, _, _, _, .cons _ _, hl, _ => by simp at hl
  | _ :: _, _, _, _, _, _, _, .nil, hl, _ => by simp at hl
theorem tg_tup {is : List Nat} {tg : Expr} (h : PG X tg (gTup X.K is.length (gNames is))) : PG X tg (gOf X.K B (hTup is)) := fun pins s σ H x u Q I r ⟨st, ps, S, as, t, R, st', e, q⟩ => h pins s σ H x u Q I r (by
  have top := R.top
  cases t with
  | tup xs =>
    cases top with
    | @tup a vs _ g1 g2 =>
      simp only [hTup] at e
      split at e
      · rename_i hl
        cases e
        exact ⟨a, vs, rfl, sqT_mono R.sub g1, by rw [g2.length]; exact hl, names_ok is R.drop g2 hl fun σ' R' => q σ' H S as R'⟩
      · cases e
  | _ => simp only [hTup, reduceCtorEq] at e)
end
end C
namespace C
open PySem PySem.Spec PyProof.Rows L2
end C
end
noncomputable section
set_option autoImplicit false
namespace C
open PySem
noncomputable def whileN : Nat → M Bool → S → S
  | 0, _, _ => fun _ => none
  | n + 1, c, b => fun s => match c s with
    | some (false, s1) => some (.next, s1)
    | some (true, s1) => match b s1 with
      | some (.next, s2) => whileN n c b s2
      | some (.cont, s2) => whileN n c b s2
      | some (.brk, s2) => some (.next, s2)
      | some (.ret v, s2) => some (.ret v, s2)
      | none => none
    | none => none
noncomputable def sPop (i j : Nat) : S := fun s => match s.env[i]? with
  | some (some (.lst xs, true)) => match xs[xs.length - 1]? with
    | some t => some (.next, putSlot j t false (putSlot i (.lst xs.dropLast) true s))
    | none => none
  | _ => none
end C
end
noncomputable section
set_option autoImplicit false
namespace C
open PySem
noncomputable def sIx (n d : Nat) : Option Int → Nat
  | none => d
  | some v => if v < 0 then (v + (n : Int)).toNat else min v.toNat n
noncomputable def cutl (xs : List T) (lo hi : Option Int) : List T := (xs.drop (sIx xs.length 0 lo)).take (sIx xs.length xs.length hi - sIx xs.length 0 lo)
noncomputable def cutX (lo hi : Option Int) : T → Option T
  | .lst xs => some (.lst (cutl xs lo hi))
  | .tup xs => if sIx xs.length 0 lo = 0 ∧ sIx xs.length xs.length hi = xs.length then none else some (.tup (cutl xs lo hi))
  | _ => none
noncomputable def oSome (e : M T) : M (Option Int) := fun s => match e s with
  | some (.int i, s1) => some (some i, s1)
  | _ => none
noncomputable def mSlice (m : M T) (lo hi : M (Option Int)) : M T := fun s => match m s with
  | some (t, s1) => match lo s1 with
    | some (l, s2) => match hi s2 with
      | some (h, s3) => match cutX l h t with
        | some u => some (u, s3)
        | none => none
      | none => none
    | none => none
  | none => none
end C
end
noncomputable section
set_option linter.all false
set_option maxRecDepth 100000
set_option maxHeartbeats 4000002
set_option autoImplicit false
namespace C
open PySem PySem.Spec PyProof.Rows L2
noncomputable section
variable {X : Cx} {B : Bas} {a b c e lo hi : Expr} {m m1 m2 ml mh : M T} {pos p p2 : Pos}
theorem Reps.take {K : PySem.W.Frag} {S : Hp} {as : List Addr} : ∀ (n : Nat) {vs : List V} {ts : List T}, Reps K S as vs ts → Reps K S as (vs.take n) (ts.take n)
  | 0, _, _, _ => .nil
  | _ + 1, _, _, .nil => .nil
  | n + 1, _, _, .cons h r => .cons h (Reps.take n r)
end
end C
end
noncomputable section
set_option linter.all false
set_option maxRecDepth 100000
set_option maxHeartbeats 4000002
set_option autoImplicit false
namespace C
open PySem PySem.Spec PyProof.Rows L2
theorem mObjIx_inv {o k : M T} {s s' : Sta} {t : T} (h : mObjIx o k s = some (t, s')) : ∃ n s1 i xs j, o s = some (.obj n, s1) ∧ k s1 = some (.int i, s') ∧ s'.sto[n]? = some (.lst xs) ∧ ixI xs.length i = some j ∧ xs[j]? = some t := by
  unfold mObjIx at h
  split at h
  · rename_i n s1 e1
    split at h
    · rename_i i s2 e2
      split at h
      · rename_i xs e3
        split at h
        · rename_i t' e4
          cases h
          obtain ⟨j, e5, e6⟩ := Option.bind_eq_some_iff.mp e4
          exact ⟨n, s1, i, xs, j, e1, e2, e3, e5, e6⟩
        · cases h
      · cases h
    · cases h
  · cases h
theorem mObjLen_inv {o : M T} {s s' : Sta} {t : T} (h : mObjLen o s = some (t, s')) : ∃ n xs, o s = some (.obj n, s') ∧ s'.sto[n]? = some (.lst xs) ∧ t = .int xs.length := by
  unfold mObjLen at h
  split at h
  · rename_i n s1 e1
    split at h
    · rename_i xs e3; cases h; exact ⟨n, xs, e1, e3, rfl⟩
    · cases h
  · cases h
theorem mNewLst_inv {a : M (List T)} {s s' : Sta} {t : T} (h : mNewLst a s = some (t, s')) : ∃ ts s1, a s = some (ts, s1) ∧ t = .obj s1.sto.length ∧ s' = { s1 with sto := s1.sto ++ [.lst ts] } := by
  unfold mNewLst at h
  split at h
  · rename_i ts s1 e1; cases h; exact ⟨ts, s1, e1, rfl, rfl⟩
  · cases h
theorem sObjIx_inv {o k v : M T} {s s' : Sta} {fl : Flow} (h : sObjIx o k v s = some (fl, s')) :
    ∃ t s1 n s2 i s3 xs j, v s = some (t, s1) ∧ o s1 = some (.obj n, s2) ∧ k s2 = some (.int i, s3) ∧ s3.sto[n]? = some (.lst xs) ∧ ixI xs.length i = some j ∧ fl = .next ∧ s' = { s3 with sto := s3.sto.set n (.lst (xs.set j t)) } := by
  unfold sObjIx at h
  split at h
  · rename_i t s1 e
    split at h
    · rename_i n s2 eo
      split at h
      · rename_i i s3 ek
        split at h
        · rename_i xs ex
          split at h
          · rename_i j ej; cases h; exact ⟨t, s1, n, s2, i, s3, xs, j, e, eo, ek, ex, ej, rfl, rfl⟩
          · cases h
        · cases h
      · cases h
    · cases h
  · cases h
theorem sObjApp_inv {i : Nat} {v : M T} {s s' : Sta} {fl : Flow} (h : sObjApp i v s = some (fl, s')) :
    ∃ n ys t s1 xs, s.env[i]? = some (some (.obj n, false)) ∧ s.sto[n]? = some (.lst ys) ∧ v s = some (t, s1) ∧ s1.sto[n]? = some (.lst xs) ∧ xs.length < lim ∧ fl = .next ∧ s' = { s1 with sto := s1.sto.set n (.lst (xs ++ [t])) } := by
  unfold sObjApp at h
  split at h
  · rename_i n e
    split at h
    · rename_i ys ey
      split at h
      · rename_i t s1 ev'
        split at h
        · rename_i xs ex
          split at h
          · rename_i hl; cases h; exact ⟨n, ys, t, s1, xs, e, ey, ev', ex, hl, rfl, rfl⟩
          · cases h
        · cases h
      · cases h
    · cases h
  · cases h
theorem Reps.set {K : PySem.W.Frag} {S : Hp} {as : List Addr} {v : V} {t : T} (h : Rep K S as v t) : ∀ {vs : List V} {ts : List T} (j : Nat), Reps K S as vs ts → Reps K S as (vs.set j v) (ts.set j t)
  | _, _, _, .nil => .nil
  | _, _, 0, .cons _ r => .cons h r
  | _, _, j + 1, .cons q r => .cons q (Reps.set h j r)
noncomputable section
variable {X : Cx} {B : Bas} {a b c e o k : Expr} {m mo mk mv : M T} {pos p : Pos}
theorem te_objIx (ho : PE X o (tOf X.K B mo)) (hk : PE X k (tOf X.K B mk)) (hs : PlainIx k) : PE X (.Subscript o k pos) (tOf X.K B (mObjIx mo mk)) := (pe_ix ix_list ho hk hs).imp fun σ H Q ⟨st, ps, S, as, R, t, st', e, q⟩ => by
  obtain ⟨n, s1, i, xs, j, e1, e2, e3, e4, e5⟩ := mObjIx_inv e
  refine ⟨st, ps, S, as, R, _, s1, e1, fun v H1 S1 as1 R1 => ⟨s1, _, S1, as1, R1, _, st', e2, fun u H2 S2 as2 R2 => ?_⟩⟩
  have t2 := R2.top2
  cases R2.top
  cases t2 with
  | @obj _ a ha =>
    obtain ⟨a', h1, h2, vs, h3, h4⟩ := R2.sto.at' n _ e3
    rw [ha] at h1; cases h1
    obtain ⟨z, hz, rz⟩ := h4.get e5
    refine ⟨a, vs, i, z, rfl, rfl, SqL.of h3, ?_, q z H2 S2 as2 (R2.drop.drop.push rz)⟩
    rw [ixI_eq, ← h4.length] at e4
    unfold atI; rw [e4]; exact hz
theorem te_objLen (hg : Gl X "len") (hm : X.mg "len" = none) (ho : PE X o (tOf X.K B mo)) (he : starEach [o] X.env = (false, eval o X.env) :: starEach [] X.env := by rfl) (hpl : (backTo pos (starEach [] X.env)).any (·.1) = false := by rfl) :
    PE X (.Call (.Name "len" p) [o] [] pos) (tOf X.K B (mObjLen mo)) := (pe_callB call_len_seq hg hm PySem.boot_len (pa_cons ho pa_nil he) (by decide) (by decide) he hpl).imp fun σ H Q ⟨st, ps, S, as, R, t, st', e, q⟩ => by
  obtain ⟨n, xs, e1, e2, rfl⟩ := mObjLen_inv e
  refine ⟨st, ps, S, as, R, _, st', e1, fun v H1 S1 as1 R1 => ?_⟩
  have t1 := R1.top
  cases t1 with
  | @obj _ a ha =>
    obtain ⟨a', h1, h2, vs, h3, h4⟩ := R1.sto.at' n _ e2
    rw [ha] at h1; cases h1
    exact ⟨a, vs, rfl, .inl (SqL.of h3), by rw [h4.length]; exact q _ H1 S1 as1 (R1.drop.push (.int _))⟩
theorem te_newLst {es : List Expr} {ms : M (List T)} (h : PA X es (aOf X.K B ms)) (hm : ∀ st ts st', ms st = some (ts, st') → ts.length ≤ 1000) : PE X (.List es pos) (tOf X.K B (mNewLst ms)) :=
  (pe_lst h).imp fun σ H Q ⟨st, ps, S, as, R, t, st', e, q⟩ => by
    obtain ⟨ts, s1, e1, rfl, rfl⟩ := mNewLst_inv e
    refine ⟨st, ps, S, as, R, ts, s1, e1, fun vs H1 S1 as1 R1 rs => ⟨?_, fun p hp => ?_⟩⟩
    · rw [rs.length]; exact Nat.le_of_lt (small1000 (hm _ _ _ e1))
    · exact q _ _ _ _ (R1.newObj hp ⟨vs, upd_same, rs.mono (Same.refl _) ⟨[p], rfl⟩⟩)
theorem ts_objIx {st : Stmt} (h : PS X st (tAsg (tOf X.K B mv) (gSub (tOf X.K B mo) (tOf X.K B mk) rSetL))) : PS X st (sOf X.K B (sObjIx mo mk mv)) := h.imp fun D σ H ⟨st, ps, S, as, R, fl, st', e, q⟩ => by
  obtain ⟨t, s1, n, s2, i, s3, xs, j, e1, e2, e3, e4, e5, rfl, rfl⟩ := sObjIx_inv e
  refine ⟨st, ps, S, as, R, t, s1, e1, fun v H1 S1 as1 R1 => ⟨s1, _, S1, as1, R1, _, s2, e2, fun x H2 S2 as2 R2 => ⟨s2, _, S2, as2, R2, _, s3, e3, fun y H3 S3 as3 R3 => ?_⟩⟩⟩
  have t2 := R3.top2
  cases R3.top
  cases t2 with
  | @obj _ a ha =>
    obtain ⟨a', h1, h2, vs, h3, h4⟩ := R3.sto.at' n _ e4
    rw [ha] at h1; cases h1
    have tv : Rep X.K S3 as3 v t := R3.pend _ (List.mem_cons_of_mem _ (List.mem_cons_of_mem _ List.mem_cons_self))
    rw [ixI_eq, ← h4.length] at e5
    exact ⟨a, vs, i, j, rfl, rfl, h3, e5, q _ _ S3 as3 (R3.drop.drop.drop.objPut e4 ha ⟨_, upd_same, Reps.set tv j h4⟩)⟩
theorem ts_objApp (i : Nat) {st : Stmt} (h : PS X st (tDrop (tBM X.K "list" rAppend (tVar i) (tCons (tOf X.K B mv) tNil)))) : PS X st (sOf X.K B (sObjApp i mv)) := h.imp fun D σ H ⟨st, ps, S, as, R, fl, st', e, q⟩ => by
  obtain ⟨n, ys, t, s1, xs, e0, ey, e1, e2, hl, rfl, rfl⟩ := sObjApp_inv e
  obtain ⟨w, h1, h2, _⟩ := R.slots i _ false e0
  have r0 := h2 rfl
  cases r0 with
  | @obj _ a ha =>
    obtain ⟨a0, l0, _, vs0, l1, _⟩ := R.sto.at' n _ ey
    rw [ha] at l0; cases l0
    refine ⟨_, h1, .inl ⟨rfl, _, SqL.of l1⟩, st, (.ref a, .obj n) :: ps, S, as, R.push (h2 rfl), t, s1, e1, fun v H1 S1 as1 R1 => ?_⟩
    have t2 := R1.top2
    cases t2 with
    | @obj _ a2 ha2 =>
      obtain ⟨a', k1, k2, vs, k3, k4⟩ := R1.sto.at' n _ e2
      rw [ha2] at k1; cases k1
      exact ⟨a, vs, v, rfl, rfl, k3, by rw [k4.length]; exact Nat.lt_of_lt_of_le hl lim_line, q _ _ S1 as1 (R1.drop.drop.objPut e2 ha2 ⟨_, upd_same, k4.append (.cons R1.top .nil)⟩)⟩
end
end C
end
noncomputable section
set_option linter.all false
set_option maxRecDepth 100000
set_option maxHeartbeats 4000002
set_option autoImplicit false
namespace C
open PySem PySem.Spec PyProof.Rows L2
noncomputable section
variable {X : Cx} {B : Bas} {pins : List (Addr × Obj)} {σ : L2.St} {H S : Hp} {s : Shared} {as : List Addr} {Q : VK}
theorem gather {R : List Value → Shared → Prop} {A : Around} {E : Value → Shared → Prop} {T : String} {r d : Addr} {n : Nat} {P : Nat → Value → Prop} {OK : Heap → Prop} (KS : PySem.W.KdlSrc X.prog X.w T r d n P OK) (nh : A.handled = none) (ok0 : OK s.heap) (sz : n ≤ sizeLine)
    (k : ∀ (h1 : Heap) (tk : Nat) (got : Array Value), s.heap.objs.size < h1.objs.size → (∀ b o, s.heap.get? b = some o → h1.get? b = some o) → ItemsOf P got n → R got.toList { s with heap := h1, toks := tk }) :
    wpAny (model X.prog X.w) A (collect (.ref r)) R E s := by
  have lt0 := KS.there _ ok0
  unfold collect
  refine wpAny_bind (wpAny_runValue
    (codeAny_builtin entry_proto_collect' ?_))
  rw [Around.under_plainId
    PySem.F.plain_proto_collect _]
  show wpAny _ A.in1 (newList [] >>= fun z => again (.builtin "list.__iadd__" ⟨[z, .ref r], []⟩)) _ _ s
  refine wpAny_bind (wpAny_newObj_type (wpAny_pure ⟨plainId_quiet PySem.F.plain_list_iadd _, codeAny_builtin entry_list_iadd' ?_⟩))
  rw [Around.under_plainId
    PySem.F.plain_list_iadd _]
  change wpAny _ A.in1 (Builtin.List.listExtendWith (.ref s.heap.objs.size) (.ref r) (.ref s.heap.objs.size)) _ _ _
  have new0 : (s.heap.push { cls := .type "list", data := .seq ([] : List Value).toArray }).get? s.heap.objs.size = some { cls := .type "list", data := .seq #[] } := Heap.get?_push_size _ rfl
  have walk := PySem.W.kdl_extend (A := A) (s := { s with heap := s.heap.push { cls := .type "list", data := .seq ([] : List Value).toArray } })
    (R := fun (f : Result) (s1 : Shared) => ∃ (h1 : Heap) (tk : Nat) (got : Array Value) (c1 : Nat), f = .ok (.ret (.ref s.heap.objs.size)) ∧ s1 = { s with heap := h1, toks := tk } ∧ (∀ b o, s.heap.get? b = some o → h1.get? b = some o) ∧
      h1.get? s.heap.objs.size = some { cls := .type "list", dict := none, data := .seq got c1, slots := #[] } ∧ ItemsOf P got n)
    KS nh (KS.keep _ _ ok0 fun b _ o e => Heap.get?_push_of_some _ e) s.heap.objs.size (Nat.ne_of_gt lt0.1) (Nat.ne_of_gt lt0.2) (.ref s.heap.objs.size) 0 new0
    (fun h1 tk got c1 old at1 its => ⟨h1, tk, got, c1, rfl, rfl, fun b o e => old b o (Nat.ne_of_lt (Heap.lt_size e)) (Heap.get?_push_of_some _ e), at1, its⟩) sz
  have last : ∀ (h1 : Heap) (tk : Nat) (got : Array Value) (c1 : Nat), (∀ b o, s.heap.get? b = some o → h1.get? b = some o) → h1.get? s.heap.objs.size = some { cls := .type "list", dict := none, data := .seq got c1, slots := #[] } → ItemsOf P got n →
      wpAny (model X.prog X.w) A (load s.heap.objs.size >>= fun o => match o.data with | .seq xs _ => pure xs.toList | _ => unsupported "internal:collect") R E { s with heap := h1, toks := tk } :=
    fun h1 tk got c1 old at1 its => wpAny_bind (wpAny_load at1 (wpAny_pure (k h1 tk got (Heap.lt_size at1) old its)))
  refine wpAny_mono walk (fun fin s1 x => ?_) fun e s1 x => ?_
  · cases fin with
    | done f =>
      obtain ⟨h1, tk, got, c1, ef, rfl, old, at1, its⟩ := x
      cases ef
      exact last h1 tk got c1 old at1 its
    | again c =>
      refine ⟨x.1, codeAny_mono x.2 fun f s2 y => ?_⟩
      obtain ⟨h1, tk, got, c1, rfl, rfl, old, at1, its⟩ := y
      exact last h1 tk got c1 old at1 its
  · obtain ⟨_, _, _, _, ef, _⟩ := x
    cases ef
theorem sortedSrc {T : String} {r d : Addr} {n : Nat} {P : Nat → Value → Prop} {OK : Heap → Prop} {l : List Str} (KS : PySem.W.KdlSrc X.prog X.w T r d n P OK) (hc : X.calm = true) (I : L2.Inv X pins σ H s) (sub : Same S H) (hok : OK s.heap) (h64 : n < 64)
    (hi : ∀ vs : List Value, vs.length = n → (∀ (j : Nat) (v : Value), vs[j]? = some v → P j v) → ∃ l', StrsAre vs l' ∧ l'.Perm l)
    (q : ∀ v H' S', Ext S H S' H' → Rep X.K S' as v (.lst ((isort l).map .str)) → Q v H') : wpAny (model X.prog X.w) X.A (call (.builtin "sorted") [.ref r]) (EP X pins σ Q) X.xe s := by
  have hn : n ≤ sizeLine := Nat.le_trans (Nat.le_of_lt h64) (by rw [sizeLine_eq]; decide)
  refine Calls.call_function_entry kind_sorted plain_sorted
    entry_sorted (args_sorted1 _) ?_
  unfold Builtin.«sorted»
  refine wpAny_bind (m := checkCount "sorted" 1 1 _) (wpAny_pure (wpAny_bind ?_))
  refine (gather (A := X.A.in1) KS (show X.A.in1.handled = none from I.ok.hd hc) hok hn fun h' tk acc hlt hk hacc => ?_)
  have hl : acc.toList.length = n := Array.length_toList.trans hacc.1
  obtain ⟨l', hS, hp⟩ := hi acc.toList hl fun j v e => hacc.2 j v (by rw [← Array.getElem?_toList]; exact e)
  refine wpAny_bind (wpAny_newList ?_ (hl ▸ hn))
  have hoL : (h'.push (seqObj "list" acc.toList.toArray 0)).get? h'.objs.size = some (seqObj "list" acc.toList.toArray 0) := Heap.get?_push_size _ rfl
  refine wpAny_bind (wpAny_holding (wpAny_call_entry slot_list_sort ⟨_, hoL, rfl⟩ entry_list_sort (list_sort_treeK strKind_oneLt hoL hS.keysOf (fun v₁ v₂ rest e => keyKind_strs (by rw [← e]; exact hS)) (by rw [hl]; exact h64) fun st' a1 a2 => ⟨_, rfl, ?_⟩) (args_list_sort _)))
  refine wpAny_pure ⟨_, rfl, (?_ : EP X pins σ Q _ _)⟩
  obtain ⟨ss', b1, b2, b3⟩ := sorted_out_str hS a1 a2
  have es := isort_eq b3 (b2.trans hp)
  subst es
  have hle := Nat.le_of_lt hlt
  obtain ⟨e, he⟩ := sortedHeap_at (out := (arrOf st').map (·.2)) hoL
  have hsz : (List.map V.str (isort l)).length ≤ sizeLine := by
    rw [List.length_map, (isort_perm l).length_eq, ← hp.length_eq, ← hS.length, hl]
    exact hn
  have hnn : H h'.objs.size = none := I.hok.fresh hle
  have x := Ext.laid sub hnn (.lst ((isort l).map V.str))
  refine ⟨.ref h'.objs.size, _, I.laid (a := h'.objs.size) (o := .lst ((isort l).map V.str)) (t' := tk) (fun b u eb => ?_) hle ⟨hsz, _, e, vals_strs b1, he⟩, rfl, q _ _ _ x (.lst (SqL.of upd_same) (reps_strs _))⟩
  have hb := Heap.lt_size (hk _ _ eb)
  rw [sortedHeap_old (Nat.ne_of_lt hb) (by rw [Heap.size_push]; exact Nat.lt_succ_of_lt hb)]
  exact Heap.get?_push_of_some _ (hk _ _ eb)
theorem keys_strs : ∀ {kvs : List (L2.Key × V)} {ts : List (L2.Key × T)} {l : List Str}, kvs.map (·.1) = ts.map (·.1) → strsT (ts.map fun p => ofKey p.1) = some l → kvs.map (·.1) = l.map Sum.inr
  | [], [], l, _, h => by simp only [List.map_nil, strsT] at h; cases h; rfl
  | (k, v) :: kvs, (k2, t) :: ts, l, e, h => by
    simp only [List.map_cons, List.cons.injEq] at e
    obtain ⟨e1, e2⟩ := e
    subst e1
    cases k with
    | inl i => simp only [List.map_cons, ofKey, strsT, reduceCtorEq] at h
    | inr x =>
      simp only [List.map_cons, ofKey, strsT] at h
      obtain ⟨l', h1, h2⟩ := Option.map_eq_some_iff.mp h
      subst h2
      rw [List.map_cons, List.map_cons, keys_strs e2 h1]
theorem RepK.keys {K : PySem.W.Frag} {S : Hp} {as : List Addr} : ∀ {kvs : List (L2.Key × V)} {ts : List (L2.Key × T)}, RepK K S as kvs ts → kvs.map (·.1) = ts.map (·.1)
  | _, _, .nil => rfl
  | _, _, .cons h q => by rw [List.map_cons, List.map_cons, RepK.keys q]
theorem strs_of_keys {prog : Program} {w : World} : ∀ {vs : List (L2.Key × Value)} {us : List Value} {l : List Str}, vs.map (·.1) = l.map Sum.inr → us.length = vs.length → (∀ (j : Nat) (v : Value), us[j]? = some v → ∃ k x, vs[j]? = some (k, x) ∧ (mixKind prog w).is k v = true) → StrsAre us l
  | [], us, l, e, hl, h => by
    cases us with
    | cons _ _ => simp at hl
    | nil => cases l with
      | nil => exact .nil
      | cons _ _ => simp at e
  | (k, x) :: vs, us, l, e, hl, h => by
    cases us with
    | nil => simp at hl
    | cons u us =>
      cases l with
      | nil => simp at e
      | cons y l =>
        simp only [List.map_cons, List.cons.injEq] at e
        obtain ⟨e1, e2⟩ := e
        subst e1
        obtain ⟨k', x', h1, h2⟩ := h 0 u rfl
        simp only [List.getElem?_cons_zero, Option.some.injEq, Prod.mk.injEq] at h1
        obtain ⟨rfl, rfl⟩ := h1
        rw [mixKind_is] at h2
        have hu : ∃ t, u = .str y t := by
          rcases keyIs_shape h2 with ⟨i, t, e', _⟩ | ⟨z, t, e', hz⟩
          · cases e'
          · cases e'; exact ⟨t, hz⟩
        obtain ⟨t, rfl⟩ := hu
        exact .cons y t (strs_of_keys e2 (by simpa using hl) fun j v ev => by simpa using h (j + 1) v (by simpa using ev))
theorem callT_sorted (hc : X.calm = true) : CallT X (.builtin "sorted") sortedT := by
  intro pins s σ H xs us Q I rs ⟨S, as, ts, w, sub, hr, hf, q⟩
  cases hr with
  | nil => simp only [sortedT, reduceCtorEq] at hf
  | @cons x t xs' ts' h1 h2 =>
    cases h2 with
    | cons h3 h4 => cases h1 <;> simp only [sortedT, reduceCtorEq] at hf
    | nil =>
      cases h1 with
      | @lst a vs ts g1 g2 =>
        simp only [sortedT] at hf
        split at hf
        · rename_i h64
          obtain ⟨l, e1, e2⟩ := Option.map_eq_some_iff.mp hf
          subst e2
          exact callT_sortedL pins s σ H _ us Q I rs ⟨S, as, ts, l, sub, .cons (.lst g1 g2) .nil, h64, e1, q⟩
        · cases hf
      | @dic a kvs ts g1 g2 =>
        simp only [sortedT] at hf
        split at hf
        · rename_i h64
          obtain ⟨l, e1, e2⟩ := Option.map_eq_some_iff.mp hf
          subst e2
          obtain ⟨u, rfl, ru⟩ := rs.one
          cases ru
          obtain ⟨z, hd, vs, rel, dd⟩ := dk_rd I.hok (rd_mono sub g1)
          obtain ⟨ep, hat⟩ := dd.dictAt
          have hlen : vs.length = ts.length := by rw [← rel.length]; exact g2.length
          have hk := keys_strs g2.keys e1
          rw [KV.keys rel] at hk
          exact sortedSrc (PySem.W.kdl_dict (knd := mixKind X.prog X.w) (kvs := vs) (ep := ep) hd) hc I sub hat (by rw [hlen]; exact h64) (fun us hl hp => ⟨l, strs_of_keys hk hl hp, .refl _⟩) q
        · cases hf
      | _ => simp only [sortedT, reduceCtorEq] at hf
end
end C
end
noncomputable section
set_option linter.all false
set_option maxRecDepth 100000
set_option maxHeartbeats 4000002
set_option autoImplicit false
namespace C
open PySem PySem.Spec PyProof.Rows L2
noncomputable section
variable {prog : Program} {w : World} {A : Around} {E : Value → Shared → Prop} {s : Shared}
end
end C
end
noncomputable section
set_option linter.all false
set_option maxRecDepth 100000
set_option maxHeartbeats 4000002
set_option autoImplicit false
namespace C
open PySem PySem.Spec PyProof.Rows L2
noncomputable section
variable {prog : Program} {w : World} {A : Around} {R : Result → Shared → Prop} {I : Addr} {fp wr : List Addr} {G : Array GenState → Array GenState → Prop} {n : Nat} {P : Nat → Value → Prop} {St : Nat → Shared → Prop} {κ : Type} [DecidableEq κ] {knd : PySem.KeyKind prog w κ}
end
end C
end
noncomputable section
set_option linter.all false
set_option maxRecDepth 100000
set_option maxHeartbeats 4000002
set_option autoImplicit false
namespace C
open PySem PySem.Spec PyProof.Rows L2
noncomputable section
variable {prog : Program} {w : World} {A : Around} {E : Value → Shared → Prop} {s : Shared} {κ : Type} [DecidableEq κ] {knd : PySem.KeyKind prog w κ}
end
end C
end
noncomputable section
set_option linter.all false
set_option maxRecDepth 100000
set_option maxHeartbeats 4000002
set_option autoImplicit false
namespace C
open PySem PySem.Spec PyProof.Rows L2
noncomputable section
variable {X : Cx} {pins : List (Addr × Obj)} {σ : L2.St} {H S : Hp} {s : Shared} {as : List Addr}
inductive PairsAt (h : Heap) (prog : Program) (w : World) : List Value → List L2.Key → List Value → Prop where
  | nil : PairsAt h prog w [] [] []
  | cons {t : Addr} {kx wv : Value} {o : Obj} {n : Nat} {q : L2.Key} {us : List Value} {qs : List L2.Key} {ws : List Value} : h.get? t = some o → o.cls = .type "tuple" → o.data = .seq #[kx, wv] n → (mixKind prog w).is q kx = true →
      PairsAt h prog w us qs ws → PairsAt h prog w (.ref t :: us) (q :: qs) (wv :: ws)
theorem PairsAt.len {h : Heap} {prog : Program} {w : World} : ∀ {us : List Value} {qs : List L2.Key} {ws : List Value}, PairsAt h prog w us qs ws → us.length = qs.length ∧ us.length = ws.length
  | _, _, _, .nil => ⟨rfl, rfl⟩
  | _, _, _, .cons _ _ _ _ r => ⟨congrArg (· + 1) r.len.1, congrArg (· + 1) r.len.2⟩
end
noncomputable section
variable {X : Cx} {B : Bas} {a : Expr} {m : M T} {pos p : Pos}
end
end C
end
noncomputable section
set_option linter.all false
set_option autoImplicit false
namespace C
open PySem PySem.Spec PyProof.Rows L2
theorem DefOk.zero {P : Program} {w : World} {K : PySem.W.Frag} {mg : Str → Option Value} {base : Heap} {x qual : Str} {st : Stmt} {f : Addr} {fd : FuncData} {ps : List Str} {k : Nat} (F : Fun K x qual st f fd) (h : mg x = some (.ref f)) (b : Binds K fd ps []) : DefOk P w K mg base x k ps (fun _ _ => none) := by
  have no : ∀ vs H Q E, ¬ spF K ps.length (fun _ _ => none) vs H Q E := fun vs H Q E z => by
    obtain ⟨S, as, sto, ts, t, sto', _, _, _, _, e, _⟩ := z
    cases e
  exact ⟨f, fd, ⟨fun vs H Q E z => absurd z (no vs H Q E), fun A outer s H args us vs Q E _ _ _ _ z => absurd z (no vs H Q E)⟩, b, F.kp, h⟩
end C
end
noncomputable section
set_option linter.all false
set_option maxRecDepth 100000
set_option maxHeartbeats 4000002
set_option autoImplicit false
namespace C
open PySem PySem.Spec PyProof.Rows L2
theorem whileN_inv {n : Nat} {c : M Bool} {b : S} {s s' : Sta} {fl : Flow} (h : whileN (n + 1) c b s = some (fl, s')) : (∃ s1, c s = some (false, s1) ∧ fl = .next ∧ s' = s1) ∨
    ∃ s1 fb s2, c s = some (true, s1) ∧ b s1 = some (fb, s2) ∧ (match fb with | .next => whileN n c b s2 = some (fl, s') | .cont => whileN n c b s2 = some (fl, s') | .brk => fl = .next ∧ s' = s2 | .ret v => fl = .ret v ∧ s' = s2) := by
  rw [whileN] at h
  dsimp only at h
  split at h
  · rename_i s1 e1; cases h; exact .inl ⟨_, e1, rfl, rfl⟩
  · rename_i s1 e1
    split at h
    · rename_i s2 e2; exact .inr ⟨s1, .next, s2, e1, e2, h⟩
    · rename_i s2 e2; exact .inr ⟨s1, .cont, s2, e1, e2, h⟩
    · rename_i s2 e2; cases h; exact .inr ⟨s1, .brk, _, e1, e2, rfl, rfl⟩
    · rename_i v s2 e2; cases h; exact .inr ⟨s1, .ret v, _, e1, e2, rfl, rfl⟩
    · cases h
  · cases h
theorem sPop_inv {i j : Nat} {s s' : Sta} {fl : Flow} (h : sPop i j s = some (fl, s')) : ∃ xs t, s.env[i]? = some (some (.lst xs, true)) ∧ xs[xs.length - 1]? = some t ∧ fl = .next ∧ s' = putSlot j t false (putSlot i (.lst xs.dropLast) true s) := by
  unfold sPop at h
  split at h
  · rename_i xs e
    split at h
    · rename_i t e2; cases h; exact ⟨xs, t, e, e2, rfl, rfl⟩
    · cases h
  · cases h
theorem Reps.dropLast {K : PySem.W.Frag} {S : Hp} {as : List Addr} : ∀ {vs : List V} {ts : List T}, Reps K S as vs ts → Reps K S as vs.dropLast ts.dropLast
  | _, _, .nil => .nil
  | _, _, .cons h .nil => .nil
  | _, _, .cons h (.cons h2 r) => .cons h (Reps.dropLast (.cons h2 r))
noncomputable section
variable {X : Cx} {B : Bas} {c e : Expr} {m : M T} {pos p : Pos} {u : S} {body : List Stmt}
theorem ts_while (n : Nat) {mc : M Bool} (hp : PassesOwn (model X.prog X.w) X.A X.env X.xe) (hc : PT X c (cOf X.K B mc)) (hb : PSs X body (sOf X.K B u)) : PS X (.While c body [] pos) (sOf X.K B (whileN n mc u)) := (ps_while hp hc hb).imp fun D σ H ⟨st, ps, S, as, R, fl, st', e, q⟩ => by
  refine ⟨fun k σ H => ∃ sti Si asi, Rel X.K B sti σ H ps Si asi ∧ whileN k mc u sti = some (fl, st'), ⟨n, st, S, as, R, e⟩, ?_⟩
  rintro k σ2 H2 ⟨sti, Si, asi, Ri, ei⟩
  cases k with
  | zero => rw [whileN] at ei; cases ei
  | succ k =>
    rcases whileN_inv ei with ⟨s1, e1, rfl, rfl⟩ | ⟨s1, fb, s2, e1, e2, er⟩
    · exact ⟨sti, ps, Si, asi, Ri, false, _, e1, fun H3 S3 as3 R3 => iteF (q σ2 H3 S3 as3 R3)⟩
    · refine ⟨sti, ps, Si, asi, Ri, true, s1, e1, fun H3 S3 as3 R3 => iteT ⟨fun σ' H' => ∃ sti Si asi, Rel X.K B sti σ' H' ps Si asi ∧ whileN k mc u sti = some (fl, st'), fun σ' H' h => ⟨k, Nat.lt_succ_self _, h⟩, s1, ps, S3, as3, R3, fb, s2, e2, ?_⟩⟩
      cases fb with
      | next => exact fun σ' H' S' as' R' => ⟨s2, S', as', R', er⟩
      | cont => exact fun σ' H' S' as' R' => ⟨s2, S', as', R', er⟩
      | brk =>
        obtain ⟨rfl, rfl⟩ := er
        exact fun σ' H' S' as' R' => q σ' H' S' as' R'
      | ret v =>
        obtain ⟨rfl, rfl⟩ := er
        exact fun v σ' H' S' as' R' => q v σ' H' S' as' R'
theorem ts_pop (i j : Nat) {st : Stmt} (h : PS X st (tAsg (tBM0 X.K "list" rPop (tVar i)) (gName j))) : PS X st (sOf X.K B (sPop i j)) := h.imp fun D σ H ⟨st, ps, S, as, R, fl, st', e, q⟩ => by
  obtain ⟨xs, t, e2, e3, rfl, rfl⟩ := sPop_inv e
  obtain ⟨w, h1, _, h3⟩ := R.slots i _ true e2
  obtain ⟨p0, rfl, ow⟩ := h3 rfl
  obtain ⟨vs, hH, h4⟩ := ow.own
  obtain ⟨y, hy, ry⟩ := h4.get e3
  have hy' : vs[vs.length - 1]? = some y := by rw [h4.length]; exact hy
  have R2 := R.turn (ob := .lst vs.dropLast) (t' := .lst xs.dropLast) e2 h1 ⟨_, upd_same, h4.dropLast⟩
  exact ⟨_, h1, .inl ⟨rfl, _, SqL.of hH⟩, p0, vs, y, rfl, rfl, hH, hy', q _ _ S as (R2.put (i := j) ry)⟩
end
end C
end
noncomputable section
set_option linter.all false
set_option maxRecDepth 100000
set_option maxHeartbeats 4000002
set_option autoImplicit false
namespace C
open PySem PySem.Spec PyProof.Rows L2
noncomputable section
variable {X : Cx} {B : Bas} {e st : Expr} {te : TE} {m : M T} {pos p2 p3 p4 : Pos} {j : Nat}
end
end C
end
noncomputable section
set_option linter.all false
set_option maxRecDepth 100000
set_option maxHeartbeats 4000002
set_option autoImplicit false
namespace C
open PySem PySem.Spec PyProof.Rows L2
noncomputable section
variable {X : Cx} {B : Bas} {a : Expr} {m : M T} {pos p : Pos}
end
end C
end
noncomputable section
set_option linter.all false
set_option autoImplicit false
namespace C
open PySem PySem.Sem
noncomputable def ItAt : Bool → Heap → Addr → Addr → Nat → Prop
  | true, h, it, a, i => h.IsListIter it a i
  | false, h, it, a, i => h.IsTupleIter it a i
theorem ItAt.obj {k : Bool} {h : Heap} {it a : Addr} {i : Nat} (x : ItAt k h it a i) : ∃ o, h.get? it = some o ∧ ∀ v, o.data ≠ .cell v := by
  cases k <;> obtain ⟨o, ho, _, d⟩ := x <;> exact ⟨o, ho, fun v z => by rw [d] at z; cases z⟩
noncomputable section
variable {prog : Program} {w : World} {A : Around} {E : Value → Shared → Prop} {s : Shared}
end
structure ZipAt (h : Heap) (z ti to' i1 i2 : Addr) (f : Value) : Prop where
  zip : IsZip h z ti to' f
  its : IsPair h ti (.ref i1) (.ref i2)
  kept : ∃ a b, IsPair h to' a b
structure Far (z ti to' i1 i2 : Addr) : Prop where
  nd : [z, ti, to', i1, i2].Nodup
theorem Far.all {z ti to' i1 i2 : Addr} (f : Far z ti to' i1 i2) : ti ≠ z ∧ to' ≠ z ∧ i1 ≠ z ∧ i2 ≠ z ∧ ti ≠ to' ∧ ti ≠ i1 ∧ ti ≠ i2 ∧ to' ≠ i1 ∧ to' ≠ i2 ∧ i1 ≠ i2 := by
  have := f.nd
  simp only [List.nodup_cons, List.mem_cons, List.not_mem_nil, or_false, not_or] at this
  obtain ⟨⟨a, b, c, d⟩, ⟨e, f, g⟩, ⟨h, i⟩, j, _⟩ := this
  exact ⟨Ne.symm a, Ne.symm b, Ne.symm c, Ne.symm d, e, f, g, h, i, j⟩
noncomputable section
variable {prog : Program} {w : World} {A : Around} {E : Value → Shared → Prop} {s : Shared}
end
noncomputable section
variable {prog : Program} {w : World} {A : Around} {E : Value → Shared → Prop} {s : Shared}
end
end C
end
noncomputable section
set_option linter.all false
set_option maxRecDepth 100000
set_option maxHeartbeats 4000002
set_option autoImplicit false
namespace C
open PySem PySem.Spec PyProof.Rows L2
noncomputable def Sq : Bool → PySem.W.Frag → Hp → Addr → List V → Prop
  | true, K, H, a, xs => SqL K H a xs
  | false, K, H, a, xs => SqT K H a xs
noncomputable section
variable {X : Cx} {pins : List (Addr × Obj)} {σ : L2.St} {H : Hp} {s : Shared} {a : Addr} {xs ys : List V} {k : Bool}
end
noncomputable section
variable {X : Cx} {B : Bas} {a b : Expr} {m m1 m2 : M T} {pos p : Pos} {elts : List Expr} {x1 : Nat} {tpos : Pos}
theorem Sq.mono {k : Bool} {K : PySem.W.Frag} {S H : Hp} {a : Addr} {vs : List V} (e : Same S H) (h : Sq k K S a vs) : Sq k K H a vs := by
  cases k with
  | true => exact sqL_mono e h
  | false => exact sqT_mono e h
end
end C
end
noncomputable section
set_option linter.all false
set_option maxRecDepth 100000
set_option maxHeartbeats 4000002
set_option autoImplicit false
namespace C
open PySem PySem.Spec PyProof.Rows L2
noncomputable section
variable {X : Cx}
variable {B : Bas} {o e : Expr} {m1 m2 : M T} {apos cpos : Pos}
end
end C
end
noncomputable section
set_option linter.all false
set_option maxRecDepth 100000
set_option maxHeartbeats 4000002
set_option autoImplicit false
namespace C
open PySem PySem.Spec PyProof.Rows L2
theorem sIx_eq (n d : Nat) (o : Option Int) : sIx n d o = HT.sIx n d o := by cases o <;> rfl
noncomputable def oOf (K : PySem.W.Frag) (B : Bas) (m : M (Option Int)) : TO := fun σ H Q => ∃ st ps S as, Rel K B st σ H ps S as ∧ ∃ o st', m st = some (o, st') ∧ ∀ H' S' as', Rel K B st' σ H' ps S' as' → Q o H'
noncomputable section
variable {X : Cx} {B : Bas} {a e : Expr} {m : M T} {ml mh : M (Option Int)} {lo hi : Option Expr} {pos p2 : Pos}
theorem to_some (h : PE X e (tOf X.K B m)) : PO X (some e) (oOf X.K B (oSome m)) := fun pins s σ H Q I ⟨st, ps, S, as, R, o, st', eo, q⟩ => po_some h pins s σ H Q I (by
  unfold oSome at eo
  split at eo
  · rename_i i s1 e1
    cases eo
    refine ⟨st, ps, S, as, R, .int i, _, e1, fun v H1 S1 as1 R1 => ?_⟩
    cases R1.top
    exact ⟨i, rfl, q H1 S1 as1 R1.drop⟩
  · cases eo)
theorem mSlice_inv {s s' : Sta} {v : T} (h : mSlice m ml mh s = some (v, s')) : ∃ t s1 l s2 u, m s = some (t, s1) ∧ ml s1 = some (l, s2) ∧ mh s2 = some (u, s') ∧ cutX l u t = some v := by
  unfold mSlice at h
  split at h
  · rename_i t s1 e1
    split at h
    · rename_i l s2 e2
      split at h
      · rename_i u s3 e3
        split at h
        · rename_i w e4; cases h; exact ⟨t, s1, l, s2, u, e1, e2, e3, e4⟩
        · cases h
      · cases h
    · cases h
  · cases h
theorem Reps.takes {K : PySem.W.Frag} {S : Hp} {as : List Addr} : ∀ (n : Nat) {vs : List V} {ts : List T}, Reps K S as vs ts → Reps K S as (vs.take n) (ts.take n)
  | 0, _, _, _ => .nil
  | _ + 1, _, _, .nil => .nil
  | n + 1, _, _, .cons h r => .cons h (Reps.takes n r)
theorem reps_cut {K : PySem.W.Frag} {S : Hp} {as : List Addr} {vs : List V} {ts : List T} (r : Reps K S as vs ts) (lo hi : Option Int) : Reps K S as (cutV vs lo hi) (cutl ts lo hi) := by
  unfold cutV cutl
  rw [sIx_eq, sIx_eq, r.length]
  exact Reps.takes _ (r.drop _)
theorem te_slice (ha : PE X a (tOf X.K B m)) (hl : PO X lo (oOf X.K B ml)) (hh : PO X hi (oOf X.K B mh)) : PE X (.Subscript a (.Slice lo hi none p2) pos) (tOf X.K B (mSlice m ml mh)) :=
  (pe_slice (sl_list.or sl_tup) ha hl hh).imp fun σ H Q ⟨st, ps, S, as, R, t, st', e, q⟩ => by
    obtain ⟨t1, s1, l, s2, u, e1, e2, e3, e4⟩ := mSlice_inv e
    refine ⟨st, ps, S, as, R, t1, s1, e1, fun v H1 S1 as1 R1 => ⟨s1, _, S1, as1, R1, l, s2, e2, fun H2 S2 as2 R2 => ⟨s2, _, S2, as2, R2, u, st', e3, fun H3 S3 as3 R3 => ?_⟩⟩⟩
    have top := R3.top
    cases top with
    | @lst b vs ts g1 g2 =>
      simp only [cutX] at e4; cases e4
      refine .inl ⟨b, vs, rfl, sqL_mono R3.sub g1, fun p hp => ?_⟩
      have x := Ext.laid R3.sub hp (.lst (cutV vs l u))
      exact q _ _ _ _ ((R3.drop.ext x).push (.lst (SqL.of upd_same) ((reps_cut g2 l u).mono x.s nol)))
    | @tup b vs ts g1 g2 =>
      simp only [cutX] at e4
      split at e4
      · cases e4
      · rename_i hw
        cases e4
        refine .inr ⟨b, vs, rfl, sqT_mono R3.sub g1, ?_, fun p hp => ?_⟩
        · rw [sIx_eq, sIx_eq, ← g2.length] at hw; exact hw
        · have x := Ext.laid R3.sub hp (.tup (cutV vs l u))
          exact q _ _ _ _ ((R3.drop.ext x).push (.tup (SqT.of upd_same) ((reps_cut g2 l u).mono x.s nol)))
    | _ => simp only [cutX, reduceCtorEq] at e4
end
noncomputable section
variable {prog : Program} {w : World} {A : Around} {E : Value → Shared → Prop} {s : Shared}
theorem applied_back {sl : Addr} {t : Tok} {n : Nat} {Q : Int × Int × Nat → Shared → Prop} (hs : s.heap.IsSliceOf sl .none .none (.int (-1) t)) (h : Q ((n : Int) - 1, -1, n) s) : wpAny (model prog w) A (Builtin.Slice.sliceApplied (.ref sl) (pure (n : Int))) Q E s := by
  obtain ⟨os, g1, g2, g3⟩ := id hs
  have ea : Builtin.Slice.sliceAdjust none none (-1) (n : Int) = ((n : Int) - 1, -1) := by
    unfold Builtin.Slice.sliceAdjust
    simp
  have en : Builtin.Slice.slicePlaces ((n : Int) - 1) (-1) (-1) = n := by
    unfold Builtin.Slice.slicePlaces
    have h1 : ¬ ((-1 : Int) > 0) := by decide -- here
    rw [if_neg h1]
    split
    · first
      | (simp; done)
      | (simp; omega)
    · omega
  unfold Builtin.Slice.sliceApplied Builtin.Slice.sliceFields
  refine wpAny_bind (wpAny_bind (wpAny_field g1 g3 (x := .none) rfl (wpAny_bind (wpAny_field g1 g3 (x := .none) rfl (wpAny_bind (wpAny_field g1 g3 (x := .int (-1) t) rfl (wpAny_pure ?_)))))))
  refine wpAny_bind (HT.slicePart_ (.int (-1) t) ?_)
  refine (show wpAny _ _ (if ((-1 : Int) == 0) = true then _ else _) _ _ s from ?_)
  rw [if_neg (by decide)]
  refine wpAny_bind (HT.slicePart_ .none (wpAny_bind (HT.slicePart_ .none (wpAny_bind (wpAny_pure ?_)))))
  refine (show wpAny _ _ (match Builtin.Slice.sliceAdjust none none (-1) (n : Int) with | (lo, hi) => pure (lo, (-1 : Int), Builtin.Slice.slicePlaces lo hi (-1))) _ _ s from ?_)
  rw [ea]
  refine (show wpAny _ _ (pure ((n : Int) - 1, (-1 : Int), Builtin.Slice.slicePlaces ((n : Int) - 1) (-1) (-1))) _ _ s from ?_)
  rw [en]
  exact wpAny_pure h
theorem fm_eq {α β : Type} {f g : α → Option β} : ∀ {l : List α}, (∀ a ∈ l, f a = g a) → l.filterMap f = l.filterMap g
  | [], _ => rfl
  | a :: l, h => by rw [List.filterMap_cons, List.filterMap_cons, h a List.mem_cons_self, fm_eq fun b hb => h b (List.mem_cons_of_mem _ hb)]
theorem pick_back (xs : Array Value) : ((List.range xs.size).filterMap fun (m : Nat) => xs[(((xs.size : Nat) : Int) - 1 + (m : Int) * (-1)).toNat]?) = xs.toList.reverse := by
  have e : ∀ m ∈ List.range xs.size, xs[(((xs.size : Nat) : Int) - 1 + (m : Int) * (-1)).toNat]? = some (xs.toList.reverse.getD m .none) := fun m hm => by
    have hm := List.mem_range.mp hm
    have e1 : (((xs.size : Nat) : Int) - 1 + (m : Int) * (-1)).toNat = xs.size - 1 - m := by omega
    rw [e1, List.getD_eq_getElem?_getD, List.getElem?_reverse (by rw [Array.length_toList]; exact hm), Array.getElem?_toList, Array.length_toList, Array.getElem?_eq_getElem (by omega)]
    rfl
  rw [fm_eq e]
  rw [show (fun (x : Nat) => some (xs.toList.reverse.getD x Value.none)) = some ∘ fun x => xs.toList.reverse.getD x .none from rfl, List.filterMap_eq_map]
  apply List.ext_getElem
  · simp
  · intro i h1 h2
    simp [List.getD_eq_getElem?_getD, List.getElem?_eq_getElem h2]
theorem tuple_back {t sl : Addr} {k : Tok} {items : Array Value} {Q : Value → Shared → Prop} (ht : IsTup s.heap t items) (hs : s.heap.IsSliceOf sl .none .none (.int (-1) k))
    (h : Q (.ref s.heap.objs.size) { s with heap := s.heap.push { cls := .type "tuple", data := .seq items.toList.reverse.toArray } }) (hsz : items.size ≤ sizeLine) : wpAny (model prog w) A (getItem (.ref t) (.ref sl)) Q E s := by
  have hz : sizeOk (.seq items.toList.reverse.toArray) := by
    show items.toList.reverse.toArray.size ≤ sizeLine
    rw [List.size_toArray, List.length_reverse, Array.length_toList]; exact hsz
  obtain ⟨os, g1, g2, g3⟩ := id hs
  have ty : s.TypeIs (.ref sl) "slice" := ⟨os, g1, g2⟩
  unfold getItem
  try with_reducible refine wpAny_holding ?_
  first | refine wpAny_bind (wpAny_pure ?_) | skip
  refine wpAny_bind (wpAny_sequenceKey ht.typeIs (by decide) (wpAny_bind (wpAny_callSpecial?_slot (name := Str.ofString "__getitem__") ht.typeIs PyProof.Rows.slot_tuple_getitem
    (wpAny_call_entry PyProof.Rows.slot_tuple_getitem ht.typeIs entry_tuple_getitem ?_ (args_tuple_getitem _ _)))))
  refine (show wpAny _ _ (Builtin.Tuple.tupleItemsOf (.ref t) >>= _) _ _ s from wpAny_bind (tupleItemsOf_ ht (wpAny_bind (wpAny_typeOf ty ?_))))
  rw [if_pos (by decide)]
  refine wpAny_bind (applied_back hs ?_)
  refine (show wpAny _ _ (if ((((items.size : Nat) : Int) - 1) == 0 && (-1 : Int) == 1 && items.size == items.size) = true then _ else _) _ _ s from ?_)
  rw [if_neg (by rw [show ((-1 : Int) == 1) = false from rfl, Bool.and_false, Bool.false_and]; exact Bool.false_ne_true), pick_back]
  first
    | exact wpAny_bind (m := Builtin.Tuple.tupleExact _) (wpAny_newObj_type (wpAny_pure ⟨_, rfl, wpAny_pure h⟩) hz)
    | exact wpAny_bind (m := Builtin.Tuple.tupleExact _) (wpAny_newObj_type (wpAny_bind (wpAny_pure (wpAny_pure ⟨_, rfl, wpAny_pure h⟩))) hz)
    | exact wpAny_bind (wpAny_bind (m := Builtin.Tuple.tupleExact _) (wpAny_newObj_type (wpAny_pure (wpAny_pure ⟨_, rfl, wpAny_pure h⟩)) hz))
    | exact wpAny_bind (wpAny_bind (m := Builtin.Tuple.tupleExact _) (wpAny_newObj_type (wpAny_pure ⟨_, rfl, wpAny_pure h⟩) hz))
end
noncomputable section
variable {X : Cx} {B : Bas} {e : Expr} {te : TE} {m m1 m2 : M T} {pos p p2 p3 p4 : Pos} {j : Nat}
noncomputable def rRevX (K : PySem.W.Frag) : V → Hp → VK → Prop := fun x H Q => ∃ a xs, x = .ref a ∧ ((SqL K H a xs ∧ ∀ p, H p = none → Q (.ref p) (upd H p (.lst xs.reverse))) ∨ (SqT K H a xs ∧ ∀ p, H p = none → Q (.ref p) (upd H p (.tup xs.reverse))))
theorem pe_one' : PE X (.UnaryOp .USub (.Constant (.int 1) j p4) p3) (tC (.int (-1))) := (pe_un un_neg pe_int).imp fun σ H Q q => ⟨1, rfl, q⟩
theorem pe_revX (he : PE X e te) : PE X (.Subscript e (.Slice none none (some (.UnaryOp .USub (.Constant (.int 1) j p4) p3)) p2) pos) (fun σ H Q => te σ H fun x H1 => rRevX X.K x H1 Q) := by
  intro pins s σ H Q I h
  refine Subscript_ (thn (he pins s σ H _ I h) fun v s1 ⟨x, H1, I1, r1, q1⟩ => ?_)
  refine wpAny_Slice ?_
  rw [evalPart_none]
  refine wpAny_pure (wpAny_pure ?_) -- here
  rw [evalPart_some]
  refine thn (pe_one' pins s1 σ H1 (fun v H2 => v = .int (-1) ∧ H2 = H1) I1 ⟨rfl, rfl⟩) fun vk s2 ⟨y, H2, I2, r2, ey, eH⟩ => ?_
  subst ey eH
  obtain ⟨t, rfl⟩ := r2
  obtain ⟨a, xs, rfl, hx⟩ := q1
  cases r1
  have I4 : L2.Inv X pins σ H2 { s2 with heap := s2.heap.push { cls := .type "slice", data := .fields #[.none, .none, .int (-1) t] } } := I2.kept (t' := s2.toks) fun b ob q => Heap.get?_push_of_some _ q
  rcases hx with ⟨hx, q⟩ | ⟨hx, q⟩
  · obtain ⟨its, r, ht, hz⟩ := I4.list hx
    have hlen := r.length
    refine tail_any (ops := [.ref a, .ref s2.heap.objs.size]) (T := "list") ht.isList.typeIs slot_list_getitem.lookup ?_ (by with_unfolding_all rfl)
    refine wpAny_getItem_list_slice ht.isList (Heap.IsSliceOf.new ..) .none .none (.int (-1) t) (by decide) ?_ (by rw [List.size_toArray] <;> omega)
    rw [PySem.W.krv_pick]
    refine ⟨.ref _, _, I4.laid (t' := s2.toks) (o := .lst xs.reverse) (fun b ob q => Heap.get?_push_of_some _ q) (Nat.le_refl _) ?_, rfl, q _ (I4.hok.fresh (Nat.le_refl _))⟩
    exact ⟨by rw [List.length_reverse]; exact hz, _, 0, by simpa using r.reverse, Heap.get?_push_size _ rfl⟩
  · obtain ⟨its, r, ht, hz⟩ := I4.tuple hx
    have hlen := r.length
    refine tail_any (ops := [.ref a, .ref s2.heap.objs.size]) (T := "tuple") ht.typeIs PyProof.Rows.slot_tuple_getitem.lookup ?_ (by with_unfolding_all rfl)
    refine tuple_back ht (Heap.IsSliceOf.new ..) ?_ (by rw [List.size_toArray] <;> omega)
    refine ⟨.ref _, _, I4.laid (t' := s2.toks) (o := .tup xs.reverse) (fun b ob q => Heap.get?_push_of_some _ q) (Nat.le_refl _) ?_, rfl, q _ (I4.hok.fresh (Nat.le_refl _))⟩
    exact ⟨by rw [List.length_reverse]; exact hz, its.reverse, r.reverse, TupD.new _ its.reverse.toArray⟩
theorem te_revT (ha : PE X e (tOf X.K B m)) : PE X (.Subscript e (.Slice none none (some (.UnaryOp .USub (.Constant (.int 1) j p4) p3)) p2) pos) (tOf X.K B (mUn revT m)) :=
  (pe_revX ha).imp fun σ H Q ⟨st, ps, S, as, R, t, st', e, q⟩ => by
    obtain ⟨t1, e1, e3⟩ := mUn_inv e
    refine ⟨st, ps, S, as, R, t1, st', e1, fun v H1 S1 as1 R1 => ?_⟩
    have top := R1.top
    cases top with
    | @lst a vs ts g1 g2 =>
      simp only [revT] at e3; cases e3
      refine ⟨a, vs, rfl, .inl ⟨sqL_mono R1.sub g1, fun p hp => ?_⟩⟩
      have x := Ext.laid R1.sub hp (.lst vs.reverse)
      exact q _ _ _ _ ((R1.drop.ext x).push (.lst (SqL.of upd_same) (g2.reverse.mono x.s nol)))
    | @tup a vs ts g1 g2 =>
      simp only [revT] at e3; cases e3
      refine ⟨a, vs, rfl, .inr ⟨sqT_mono R1.sub g1, fun p hp => ?_⟩⟩
      have x := Ext.laid R1.sub hp (.tup vs.reverse)
      exact q _ _ _ _ ((R1.drop.ext x).push (.tup (SqT.of upd_same) (g2.reverse.mono x.s nol)))
    | _ => simp only [revT, reduceCtorEq] at e3
end
end C
end
noncomputable section
set_option linter.all false
set_option autoImplicit false
namespace C
open PySem PySem.Spec L2
noncomputable def Held (K : PySem.W.Frag) (u : Value) (t : T) : Prop := ∃ v, RelV v u ∧ ∀ S as, Rep K S as v t
noncomputable def Helds (K : PySem.W.Frag) (us : List Value) (ts : List T) : Prop := ∃ vs, Vals vs us ∧ ∀ S as, Reps K S as vs ts
noncomputable section
variable {K : PySem.W.Frag}
theorem Held.int {i : Int} {tk : Tok} : Held K (.int i tk) (.int i) := ⟨.int i, ⟨tk, rfl⟩, fun _ _ => .int i⟩
theorem Held.str {x : Str} {tk : Tok} : Held K (.str x tk) (.str x) := ⟨.str x, ⟨tk, rfl⟩, fun _ _ => .str x⟩
theorem Held.bl {b : Bool} : Held K (.bool b) (.bl b) := ⟨.bl b, rfl, fun _ _ => .bl b⟩
theorem Helds.nil : Helds K [] [] := ⟨[], .nil, fun _ _ => .nil⟩
theorem Helds.cons {u : Value} {t : T} {us : List Value} {ts : List T} (h : Held K u t) (hs : Helds K us ts) : Helds K (u :: us) (t :: ts) := by
  obtain ⟨v, r, e⟩ := h
  obtain ⟨vs, rs, es⟩ := hs
  exact ⟨v :: vs, .cons r rs, fun S as => .cons (e S as) (es S as)⟩
theorem Held.tup {a : Addr} {us : List Value} {n : Nat} {sl : Array (Option Value)} {ts : List T} (h : K.lookup a = some ⟨.type "tuple", none, .seq us.toArray n, sl⟩) (hz : us.length ≤ 1000) (hs : Helds K us ts) : Held K (.ref a) (.tup ts) := by
  obtain ⟨vs, rs, es⟩ := hs
  refine ⟨.ref a, rfl, fun S as => .tup (.inr ⟨_, us.toArray, n, h, rfl, rfl, rfl, ?_, ?_⟩) (es S as)⟩
  · rw [List.size_toArray, sizeLine_eq]; omega
  · exact rs
theorem Held.lst {a : Addr} {us : List Value} {n : Nat} {sl : Array (Option Value)} {ts : List T} (h : K.lookup a = some ⟨.type "list", none, .seq us.toArray n, sl⟩) (hz : us.length ≤ 1000) (hs : Helds K us ts) : Held K (.ref a) (.lst ts) := by
  obtain ⟨vs, rs, es⟩ := hs
  refine ⟨.ref a, rfl, fun S as => .lst (.inr ⟨_, us.toArray, n, h, rfl, rfl, rfl, ?_, ?_⟩) (es S as)⟩
  · rw [List.size_toArray, sizeLine_eq]; omega
  · exact rs
end
noncomputable section
variable {X : Cx} {B : Bas} {pos : Pos}
end
end C
end
noncomputable section
set_option linter.all false
set_option maxRecDepth 100000
set_option autoImplicit false
namespace C
open PySem PySem.Spec PyProof.Rows
theorem or_led (t : SetTable) (n : Nat) : (t.orStandIn n).led = t.led ∧ (t.plain = false → (t.orStandIn n).plain = false) := by
  unfold SetTable.orStandIn
  cases t.fits n
  · exact ⟨rfl, fun _ => rfl⟩
  · exact ⟨rfl, id⟩
theorem lay_led (t : SetTable) (es : Array (Int × Value)) (h : Int) (x : Value) : (layNew t es h x).2.1.led = t.led ∧ (t.plain = false → (layNew t es h x).2.1.plain = false) := by
  unfold layNew
  cases t.freeSlot h with
  | none => exact ⟨rfl, fun _ => rfl⟩
  | some p => exact or_led _ _
theorem relaid_led {t t' : SetTable} {hs : Array Int} {n : Nat} {ord : Array Nat} (h : t.relaid hs n = some (t', ord)) : t'.led = t.led ∧ t'.plain = t.plain := by
  unfold SetTable.relaid SetTable.laid at h
  cases hl : SetTable.layClean (SetTable.sizeAbove n - 1) hs with
  | none => rw [hl] at h; cases h -- here
  | some ow => rw [hl] at h; cases h; exact ⟨rfl, rfl⟩
theorem relay_led (t : SetTable) (es : Array (Int × Value)) (n : Nat) : (relayAll t es n).2.1.led = t.led ∧ (t.plain = false → (relayAll t es n).2.1.plain = false) := by
  unfold relayAll
  cases hr : t.relaid (es.map (·.1)) n with
  | none => exact ⟨rfl, fun _ => rfl⟩
  | some p =>
    obtain ⟨t', ord⟩ := p
    have h := relaid_led hr
    dsimp only
    split
    · exact ⟨h.1, fun hp => h.2.trans hp⟩
    · exact ⟨rfl, fun _ => rfl⟩
noncomputable def byTx (w : World) : Bool := w.params.followText "set-order"
noncomputable def TxSet (P : Program) (w : World) (o : Obj) (l : List Str) : Prop :=
  ∃ es ep t, o.ExactSet ∧ o.data = .set es ep t ∧ ElemsOf (strKind P w) es.toList ∧ l = es.toList.map (fun e => strOf e.2) ∧ l.Nodup ∧ es.size < scanBound ∧ t.fits es.size = true ∧ t.led = !byTx w ∧ (l ≠ [] → t.plain = false)
theorem el_str {P : Program} {w : World} {es : List (Int × Value)} (h : ElemsOf (strKind P w) es) {e : Int × Value} (he : e ∈ es) : ∃ tk, e.2 = .str (strOf e.2) tk := by
  obtain ⟨⟨k, hk, _⟩, _⟩ := h e he
  obtain ⟨tk, e'⟩ := Value.isStrOf_shape hk
  exact ⟨tk, by rw [e']; rfl⟩
theorem el_is {P : Program} {w : World} {es : List (Int × Value)} (h : ElemsOf (strKind P w) es) {x : Str} : x ∈ es.map (fun e => strOf e.2) ↔ ∃ e ∈ es, (strKind P w).is x e.2 = true := by
  constructor
  · intro hx
    obtain ⟨e, he, rfl⟩ := List.mem_map.mp hx
    obtain ⟨tk, e'⟩ := el_str h he
    refine ⟨e, he, ?_⟩
    rw [e']
    exact strKind_is _ _ _ _
  · rintro ⟨e, he, hk⟩
    obtain ⟨tk, e'⟩ := Value.isStrOf_shape hk
    exact List.mem_map.mpr ⟨e, he, by rw [e']; rfl⟩
noncomputable section
variable {prog : Program} {w : World} {A : Around} {E : Value → Shared → Prop} {s : Shared}
theorem put_at {a : Addr} {o : Obj} {es es' : Array (Int × Value)} {ep : Nat} {t t' : SetTable} (ho : s.heap.get? a = some o) (hd : o.data = .set es ep t) :
    (s.heap.update a (Obj.putSet es' t')).get? a = some { o with data := .set es' (ep + 1) t' } := by
  have g := Heap.get?_update_self (Obj.putSet es' t') ho (by rw [putSet_of es' t' hd]; rfl)
  rwa [putSet_of es' t' hd] at g
theorem tx_tail {g : Bool → Sem Unit} (hg : ∀ (b : Bool) (s1 : Shared) (Q1 : Unit → Shared → Prop), Q1 () s1 → wpAny (model prog w) A (g b) Q1 E s1)
    {a : Addr} {o : Obj} {es e1 : Array (Int × Value)} {ep : Nat} {t t2 : SetTable} (ho : s.heap.get? a = some o) (hd : o.data = .set es ep t) (hb : e1.size < scanBound) (hf : t2.fits e1.size = true) {dm : Bool} {R : Option Bool → Shared → Prop}
    (k : ∀ h' e' ep' t', Heap.SameBut a s.heap h' → h'.get? a = some { o with data := .set e' ep' t' } → e'.toList.Perm e1.toList → t'.fits e'.size = true → t'.led = t2.led → (t2.plain = false → t'.plain = false) → R (some true) { s with heap := h' }) :
    wpAny (model prog w) A (do
        storeSet a e1 t2
        if (!dm && t2.tooFull) = true then do
            g (relayAll t2 e1 (SetTable.grown e1.size)).2.2
            storeSet a (relayAll t2 e1 (SetTable.grown e1.size)).1 (relayAll t2 e1 (SetTable.grown e1.size)).2.1
            pure (some true)
          else pure (some true)) R E s := by -- here
  have at1 := put_at (es' := e1) (t' := t2) ho hd
  have sb := Heap.SameBut.update s.heap a (Obj.putSet e1 t2)
  refine wpAny_bind (wpAny_storeSet_of ho hd ?_ (fits_of_scanBound hb))
  by_cases hc : (!dm && t2.tooFull) = true
  · rw [if_pos hc]
    have pm := relayAll_perm t2 e1 (SetTable.grown e1.size)
    have ft := relayAll_fits t2 e1 (SetTable.grown e1.size)
    have ld := relay_led t2 e1 (SetTable.grown e1.size)
    generalize relayAll t2 e1 (SetTable.grown e1.size) = Rl at pm ft ld ⊢
    obtain ⟨e2, t3, gv⟩ := Rl
    dsimp only at pm ft ld ⊢
    have sz : e2.size = e1.size := by rw [← Array.length_toList, pm.length_eq, Array.length_toList]
    have hb2 : e2.size < scanBound := by omega
    refine wpAny_bind (hg _ _ _ (wpAny_bind (wpAny_storeSet_of (es := e1) (ep := ep + 1) (t := t2) at1 rfl (wpAny_pure ?_) (fits_of_scanBound hb2))))
    exact k _ e2 (ep + 1 + 1) t3 (sb.trans (Heap.SameBut.update _ a _)) (put_at (s := { s with heap := s.heap.update a (Obj.putSet e1 t2) }) (o := { o with data := .set e1 (ep + 1) t2 }) (es := e1) (ep := ep + 1) (t := t2) at1 rfl) pm ft ld.1 ld.2
  · rw [if_neg hc]
    exact wpAny_pure (k _ _ _ _ sb at1 (.refl _) hf rfl id)
theorem tx_add {a : Addr} {o : Obj} {l : List Str} {x : Str} {tk : Tok} {Q : Bool → Shared → Prop} (ho : s.heap.get? a = some o) (hS : TxSet prog w o l) (hr : l.length + 1 < scanBound)
    (k : ∀ b h' o' l', Heap.SameBut a s.heap h' → h'.get? a = some o' → TxSet prog w o' l' → l'.Perm (if x ∈ l then l else l ++ [x]) → Q b { s with heap := h' }) :
    wpAny (model prog w) A (setAddHashed a (.str x tk) ((strKind prog w).hash x)) Q E s := by
  obtain ⟨es, ep, t, hex, hd, hel, rfl, hnd, hb, hf, hled, hpl⟩ := hS
  have hkey : (strKind prog w).is x (.str x tk) = true := strKind_is _ _ _ _
  have hsc : (Value.str x tk).scannable = true := rfl
  rw [List.length_map, Array.length_toList] at hr
  have hmem := el_is hel (x := x)
  unfold setAddHashed setAddHashedIn -- here
  refine wpAny_holding (wpAny_bind (wpAny_setState_of ho hd hf ?_)) -- here
  dsimp only
  rw [byScan_of hsc hb hel]
  simp only [↓reduceIte]
  unfold setAddByScan
  refine wpAny_bind (wpAny_bind (wpAny_rule (wpAny_bind (wpAny_setScan_of hkey ho hd hf hel ?_))))
  cases hfi : List.findIdx? (fun e => (strKind prog w).is x e.2) es.toList with
  | some j =>
    dsimp only
    obtain ⟨hj, hpj, _⟩ := List.findIdx?_eq_some_iff_getElem.mp hfi
    have hx := hmem.mpr ⟨es.toList[j], List.getElem_mem hj, hpj⟩
    refine wpAny_pure (wpAny_pure ?_) -- here
    have e : s = { s with heap := s.heap } := by cases s; rfl -- here
    rw [e]
    exact k _ s.heap o _ (Heap.SameBut.refl a s.heap) ho ⟨es, ep, t, hex, hd, hel, rfl, hnd, hb, hf, hled, hpl⟩ (by rw [if_pos hx])
  | none =>
    dsimp only
    have hx : x ∉ es.toList.map (fun e => strOf e.2) := fun hx => by
      obtain ⟨e, he, hp⟩ := hmem.mp hx
      have := List.findIdx?_eq_none_iff.mp hfi e he
      rw [hp] at this; cases this
    have pm := layNew_perm t es ((strKind prog w).hash x) (.str x tk)
    have ft := layNew_fits t es ((strKind prog w).hash x) (.str x tk)
    have ld := lay_led t es ((strKind prog w).hash x) (.str x tk)
    generalize hL : layNew t es ((strKind prog w).hash x) (.str x tk) = L at pm ft ld ⊢
    obtain ⟨e1, t1, dm, gave⟩ := L
    dsimp only at pm ft ld ⊢
    rw [Array.toList_push] at pm
    have hb1 : e1.size < scanBound := by rw [← Array.length_toList, pm.length_eq, List.length_append, Array.length_toList]; simpa using hr
    have gw : ∀ (b : Bool) (s1 : Shared) (Q1 : Unit → Shared → Prop), Q1 () s1 → wpAny (model prog w) A (match b with | true => rule "set.scan.the-table-gave-way" | false => pure ()) Q1 E s1 :=
      fun b s1 Q1 q => by cases b <;> first | exact wpAny_pure q | exact wpAny_rule q
    have fin : ∀ (t2 : SetTable), t2.led = t1.led → t2.plain = false → ∀ h' e' ep' t', Heap.SameBut a s.heap h' → h'.get? a = some { o with data := .set e' ep' t' } → e'.toList.Perm e1.toList → t'.fits e'.size = true → t'.led = t2.led → (t2.plain = false → t'.plain = false) → Q true { s with heap := h' } := by
      intro t2 l2 p2 h' e' ep' t' sb ge pe fe le pl
      have pe' : (e'.toList.map fun e => strOf e.2).Perm (es.toList.map (fun e => strOf e.2) ++ [x]) := by
        have := (pe.trans pm).map (fun e : Int × Value => strOf e.2)
        rwa [List.map_append] at this
      have sz : e'.size = e1.size := by rw [← Array.length_toList, pe.length_eq, Array.length_toList]
      refine k true h' _ (e'.toList.map fun e => strOf e.2) sb ge ⟨e', ep', t', hex, rfl, ((hel.push hkey hsc).perm pm).perm pe, rfl, ?_, by omega, fe, by rw [le, l2, ld.1, hled], fun _ => pl p2⟩ (by rw [if_neg hx]; exact pe')
      refine (pe'.nodup_iff).mpr ?_
      rw [List.nodup_append]
      refine ⟨hnd, by simp, fun a ha b hb e => ?_⟩
      rw [List.mem_singleton] at hb
      subst hb e
      exact hx ha
    refine wpAny_bind (gw _ _ _ ?_)
    by_cases hp : t1.plain = true
    · rw [if_pos hp]
      refine wpAny_bind ?_
      rw [hashByValue_scannable 8 hsc] -- here
      refine wpAny_pure ?_
      refine tx_tail gw ho hd hb1 (t2 := { t1 with plain := false }) (SetTable.fits_plain_off ft) fun h' e' ep' t' c1 c2 c3 c4 c5 c6 => ?_
      exact wpAny_pure (fin { t1 with plain := false } rfl rfl h' e' ep' t' c1 c2 c3 c4 c5 c6)
    · rw [if_neg hp]
      refine wpAny_bind (wpAny_pure ?_)
      simp only [↓reduceIte]
      refine tx_tail gw ho hd hb1 ft fun h' e' ep' t' c1 c2 c3 c4 c5 c6 => ?_
      exact wpAny_pure (fin _ rfl (by simpa using hp) h' e' ep' t' c1 c2 c3 c4 c5 c6)
end
end C
end
noncomputable section
set_option linter.all false
set_option maxRecDepth 100000
set_option maxHeartbeats 4000002
set_option autoImplicit false
namespace C
open PySem PySem.Spec PyProof.Rows
noncomputable section
variable {prog : Program} {w : World} {A : Around} {R : Result → Shared → Prop} {I : Addr} {fp wr : List Addr} {G : Array GenState → Array GenState → Prop} {n : Nat} {P : Nat → Value → Prop} {St : Nat → Shared → Prop} -- here
theorem tx_loop (W : WalksS prog w A.in1 I fp wr G n P St) (S : Addr) (hSf : S ∉ fp) (val : Nat → Str) (hval : ∀ i v, P i v → ∃ t, v = .str (val i) t)
    (room : ∀ l : List Str, l.Nodup → (∀ x ∈ l, ∃ j, j < n ∧ val j = x) → l.length + 1 < scanBound) :
    ∀ (k i : Nat) (s : Shared) (o : Obj) (l : List Str), n - i = k → i ≤ n → St i s → s.heap.get? S = some o → TxSet prog w o l → (∀ x, x ∈ l ↔ ∃ j, j < i ∧ val j = x) →
      (∀ s' o' l', Moved (S :: wr) G s s' → s'.heap.get? S = some o' → TxSet prog w o' l' → (∀ x, x ∈ l' ↔ ∃ j, j < n ∧ val j = x) → R (.ok (.ret .none)) s') →
      codeAny (model prog w) A (.builtin "set.update.loop" ⟨[.ref S, .ref I], []⟩) R s := by -- here
  have notin : S ∉ wr := fun h => hSf (W.sub _ h)
  have more : ∀ b ∈ wr, b ∈ S :: wr := fun b hb => List.mem_cons_of_mem _ hb
  intro k
  induction k with
  | zero =>
    intro i s o l hk hi hst ho hS hl hR
    obtain rfl : i = n := by omega
    refine codeAny_builtin PyProof.Rows.F.entry_set_update_loop ?_
    rw [Around.under_plainId PyProof.Rows.F.plain_set_update_loop _]
    show wpAny _ A.in1 (pyNext (.ref I) >>= _) _ _ s -- here
    refine wpAny_bind (W.done s _ _ hst fun s1 mv => ?_)
    show wpAny _ A.in1 (ret Value.none) _ _ s1
    exact wpAny_pure (hR s1 o l (mv.mono more) (mv.heap S _ notin ho) hS hl)
  | succ k ih =>
    intro i s o l hk hi hst ho hS hl hR
    have lt : i < n := by omega
    refine codeAny_builtin PyProof.Rows.F.entry_set_update_loop ?_
    rw [Around.under_plainId PyProof.Rows.F.plain_set_update_loop _]
    show wpAny _ A.in1 (pyNext (.ref I) >>= _) _ _ s -- here
    refine wpAny_bind (W.item i s _ _ lt hst fun v s1 hP st1 mv => ?_)
    obtain ⟨t, rfl⟩ := hval i v hP -- here
    have ho1 := mv.heap S _ notin ho
    show wpAny _ A.in1 (holding [Value.str (val i) t] (setAdd S (.str (val i) t)) >>= _) _ _ s1
    refine wpAny_bind (wpAny_holding ?_) -- here
    unfold setAdd
    refine wpAny_holding (wpAny_bind ((strKind prog w).pyHash (k := val i) (strKind_is _ _ _ _) ?_))
    have hnd : l.Nodup := let ⟨_, _, _, _, _, _, e, n, _⟩ := hS; n
    refine tx_add (s := { s1 with toks := s1.toks + 1 }) ho1 hS (room l hnd fun x hx => ?_) fun b h' o' l' sb ge hS' pe => ?_
    · obtain ⟨j, hj, e⟩ := (hl x).mp hx
      exact ⟨j, by omega, e⟩
    · have hl' : ∀ x, x ∈ l' ↔ ∃ j, j < i + 1 ∧ val j = x := fun x => by
        rw [pe.mem_iff]
        constructor
        · intro hx
          have : x ∈ l ∨ x = val i := by
            split at hx
            · exact .inl hx
            · rcases List.mem_append.mp hx with h | h
              · exact .inl h
              · exact .inr (List.mem_singleton.mp h) -- here
          rcases this with h | h
          · obtain ⟨j, hj, e⟩ := (hl x).mp h
            exact ⟨j, by omega, e⟩
          · exact ⟨i, by omega, h.symm⟩
        · rintro ⟨j, hj, e⟩
          by_cases hji : j = i
          · subst hji
            split
            · rename_i h; rw [← e]; exact h
            · exact List.mem_append_right _ (List.mem_singleton.mpr e.symm)
          · have := (hl x).mpr ⟨j, by omega, e⟩
            split
            · exact this
            · exact List.mem_append_left _ this
      refine wpAny_pure ⟨plainId_quiet PyProof.Rows.F.plain_set_update_loop _, ih (i + 1) _ o' l' (by omega) lt (W.frame _ s1 _ _ st1 (Nat.le_succ _) fun b hb ob e => ?_) ge hS' hl' fun s2 o2 l2 mv2 g2 hS2 hl2 => ?_⟩
      · rw [sb.2 b (fun h : b = S => hSf (by rw [← h]; exact hb))]; exact e
      · refine hR s2 o2 l2 (Moved.trans W.gtrans ((mv.mono more).then_heap (Nat.le_succ _) fun b ob hb e => ?_) mv2) g2 hS2 hl2
        rw [sb.2 b (fun h : b = S => hb (by rw [h]; exact List.mem_cons_self))]; exact e
end
noncomputable section
variable {prog : Program} {w : World} {A : Around} {E : Value → Shared → Prop} {s : Shared}
noncomputable abbrev newS (w : World) : Obj := { cls := .type "set", dict := none, data := .set #[] 0 (.fresh 0 0 (!byTx w)) }
theorem new_tx : TxSet prog w (newS w) [] := ⟨#[], 0, .fresh 0 0 (!byTx w), ⟨rfl, rfl, rfl⟩, rfl, fun e he => by simp at he, rfl, List.nodup_nil, by decide, rfl, rfl, fun h => absurd rfl h⟩
theorem set_made (a : Value) {Q1 : Value → Shared → Prop} (h : Q1 (.ref s.heap.objs.size) { s with heap := s.heap.push (newS w) }) :
    codeAny (model prog w) A (.call (.builtin "set.__new__") ⟨[.type "set", a], []⟩) (wants Q1 E) s := by
  refine codeAny_of_tree ?_
  show wpAny _ A.in1 (do checkBuiltinCall "set.__new__" ⟨[.type "set", a], []⟩; again (.builtin "set.__new__" ⟨[.type "set", a], []⟩)) _ _ s -- here
  refine wpAny_bind (wpAny_of_eq (PySem.F.newCall_set_1 a) (wpAny_pure ⟨plainId_quiet PySem.F.plain_set_new _, codeAny_builtin PySem.F.entry_set_new ?_⟩))
  rw [Around.under_plainId PySem.F.plain_set_new _]
  unfold Builtin.«set.__new__» Builtin.Frozenset.newClass -- here
  have sub := sub_set_self
  obtain ⟨hp, g, d, tk, os⟩ := s -- here
  dsimp only
  wp_walk
  refine wpAny_askSetting (wpAny_pure ?_) -- here
  dsimp only
  simp only [newObj]
  refine wpAny_bind (wpAny_alloc (wpAny_pure ?_)) -- here
  exact wpAny_pure h
end
end C
end
noncomputable section
set_option linter.all false
set_option maxRecDepth 100000
set_option maxHeartbeats 4000002
set_option autoImplicit false
namespace C
open PySem PySem.Spec PyProof.Rows
noncomputable section
variable {prog : Program} {w : World} {A : Around} {E : Value → Shared → Prop} {s : Shared}
theorem set_of_list {l : Addr} {items : Array Value} {ss : List Str} {Q : Value → Shared → Prop} (hh : A.handled = none) (hl : s.heap.IsList l items) (hi : StrsAre items.toList ss)
    (room : ∀ m : List Str, m.Nodup → (∀ x ∈ m, x ∈ ss) → m.length + 1 < scanBound)
    (h : ∀ (h' : Heap) (tk : Nat) (o : Obj) (m : List Str), h'.get? s.heap.objs.size = some o → TxSet prog w o m → (∀ x, x ∈ m ↔ x ∈ ss) → (∀ b u, s.heap.get? b = some u → h'.get? b = some u) → Q (.ref s.heap.objs.size) { s with heap := h', toks := tk }) :
    wpAny (model prog w) A (call (.type "set") [.ref l]) Q E s := by -- here
  have lens : items.size = ss.length := by rw [← Array.length_toList]; exact hi.length
  have vals : ∀ (i : Nat) (v : Value), items[i]? = some v → ∃ t, v = .str (ss.getD i ⟨#[]⟩) t := fun i v hv => by
    have go : ∀ {vs : List Value} {ss : List Str}, StrsAre vs ss → ∀ (i : Nat) (v : Value), vs[i]? = some v → ∃ t, v = .str (ss.getD i ⟨#[]⟩) t := by
      intro vs ss hs
      induction hs with
      | nil => intro i v h; simp at h
      | cons x t h ih =>
        intro i v h
        cases i with
        | zero => simp at h; exact ⟨t, by rw [← h]; rfl⟩
        | succ i => simp only [List.getElem?_cons_succ] at h; obtain ⟨u, e⟩ := ih i v h; exact ⟨u, by rw [e]; rfl⟩
    exact go hi i v (by rw [Array.getElem?_toList]; exact hv)
  have mems : ∀ x, (∃ j, j < items.size ∧ ss.getD j ⟨#[]⟩ = x) ↔ x ∈ ss := fun x => by
    rw [lens]
    constructor
    · rintro ⟨j, hj, rfl⟩
      rw [List.getD_eq_getElem?_getD, List.getElem?_eq_getElem hj]
      exact List.getElem_mem hj
    · intro hx
      obtain ⟨j, hj, e⟩ := List.getElem_of_mem hx
      exact ⟨j, hj, by rw [List.getD_eq_getElem?_getD, List.getElem?_eq_getElem hj]; exact e⟩
  have nil0 : ∀ x : Str, x ∈ ([] : List Str) ↔ ∃ j, j < 0 ∧ ss.getD j ⟨#[]⟩ = x := fun x => by
    constructor
    · intro z; cases z
    · rintro ⟨j, hj, _⟩; exact absurd hj (Nat.not_lt_zero _)
  obtain ⟨c, tl, hmro⟩ := PySem.F.called_set.mro
  have hmade := PySem.F.called_set.made
  have hsub := PySem.F.called_set.sub
  refine wpAny_call (codeAny_of_tree ?_) -- here
  show wpAny _ _ (callAny (.type "set") _) _ _ _ -- here
  refine wpAny_pure ⟨Code.quiet_builtin _ (by decide +kernel), codeAny_builtin PySem.F.entry_type_call ?_⟩
  rw [Around.under_plain (weight_type_call_type "set" [.ref l] []) rfl] -- here
  have h1 := PySem.F.called_set.notType
  have h2 := PySem.F.called_set.canCreate
  have hct := PySem.F.typeCall_set_1 (.ref l)
  repeat (any_goals (first | assumption | wp_step)) -- here
  refine codeAny_mono (set_made (.ref l) (E := E) (Q1 := fun obj s1 => obj = .ref s.heap.objs.size ∧ s1 = { s with heap := s.heap.push (newS w) }) ⟨rfl, rfl⟩) fun r s1 hr => ?_
  cases r with
  | error e => exact hr
  | ok fl =>
    cases fl with
    | ret obj =>
      obtain ⟨rfl, rfl⟩ := hr
      have hS : (s.heap.push (newS w)).get? s.heap.objs.size = some (newS w) := Heap.get?_push_size _ rfl
      have hT : Shared.TypeIs { s with heap := s.heap.push (newS w) } (.ref s.heap.objs.size) "set" := ⟨_, hS, rfl⟩
      have hli := PySem.F.called_set.init.lookup
      have hbi := PySem.F.called_set.init.bind (.ref s.heap.objs.size)
      repeat (any_goals (first | assumption | wp_step)) -- here
      refine codeAny_mono (codeAny_call_builtin (R := wants (fun r s2 => r = .none ∧ ∃ h' tk o m, s2 = { s with heap := h', toks := tk } ∧ h'.get? s.heap.objs.size = some o ∧ TxSet prog w o m ∧ (∀ x, x ∈ m ↔ x ∈ ss) ∧ (∀ b u, s.heap.get? b = some u → h'.get? b = some u)) E) PySem.F.called_set.init.plain PySem.F.entry_set_init (check_set_init_1 hT ?_)) fun r2 s2 hr2 => ?_
      · obtain ⟨ol, hol, hcl, nl, hdl⟩ := hl -- here
        obtain ⟨ocls, odict, odata, oslots⟩ := ol -- here
        simp only at hcl hdl
        subst hcl hdl
        have hol' : (s.heap.push (newS w)).get? l = some { cls := .type "list", dict := odict, data := .seq items nl, slots := oslots } := Heap.get?_push_of_some _ hol
        have hsls := PySem.F.sub_list_set
        have hslf := PySem.F.sub_list_frozenset
        have hne : (Value.type "list" == Value.type "dict") = false := by decide -- here
        have hl1 : (s.heap.push (newS w)).IsList l items := ⟨_, hol', rfl, nl, rfl⟩
        unfold Builtin.«set.__init__» noKeywords Builtin.Frozenset.updateFrom -- here
        generalize hPI : pyIter = PI
        wp_walk
        subst hPI
        refine wpAny_pyIter_list hl1 (wpAny_bind (wpAny_runValue ?_))
        have hlS : l < s.heap.objs.size := Heap.lt_size hol -- here
        have hh3 : A.in1.in1.in1.handled = none := by simp [hh] -- here
        have size1 : (s.heap.push (newS w)).objs.size = s.heap.objs.size + 1 := Heap.size_push _ _
        have hneI : l ≠ (s.heap.push (newS w)).objs.size := Nat.ne_of_lt (by rw [size1]; exact Nat.lt_succ_of_lt hlS)
        have hSf : s.heap.objs.size ∉ [(s.heap.push (newS w)).objs.size, l] := by
          simp only [List.mem_cons, List.mem_singleton, List.not_mem_nil, or_false, not_or]
          exact ⟨Nat.ne_of_lt (by rw [size1]; exact Nat.lt_succ_self _), Nat.ne_of_gt hlS⟩
        refine tx_loop ((Walks.list hh3 _ l hneI items).toS) s.heap.objs.size hSf (fun i => ss.getD i ⟨#[]⟩) vals (fun m hm hx => room m hm fun x hxm => (mems x).mp (hx x hxm)) (items.size - 0) 0 _ (newS w) [] (by omega) (Nat.zero_le _)
          ⟨⟨_, Heap.get?_push_size _ rfl, rfl, rfl⟩, (hl1.push _)⟩ (Heap.get?_push_of_some _ hS) new_tx nil0 ?_
        intro s' o' m mv go hm hx
        obtain ⟨h', g', d', tk', os'⟩ := s' -- here
        have eg : g' = s.gens := mv.gens
        have ed : d' = s.drawn := mv.drawn
        have eo : os' = s.os := mv.os
        subst eg ed eo
        show wpAny _ _ _ _ _ _
        refine wpAny_pure ?_
        show wpAny _ _ (ret Value.none) _ _ _ -- here
        refine wpAny_pure ⟨rfl, h', tk', o', m, rfl, go, hm, fun x => (hx x).trans (mems x), fun b u e => ?_⟩
        have hb := Heap.lt_size e
        refine mv.heap b u (fun hmem => ?_) (Heap.get?_push_of_some _ (Heap.get?_push_of_some _ e))
        rcases List.mem_cons.mp hmem with e' | hmem -- here
        · exact Nat.ne_of_lt hb e'
        · have e' := List.mem_singleton.mp hmem
          rw [size1] at e'
          exact Nat.ne_of_lt (Nat.lt_succ_of_lt hb) e'
      · cases r2 with
        | error e => exact hr2
        | ok fl2 =>
          cases fl2 with
          | ret r =>
            obtain ⟨rfl, h', tk, o, m, rfl, go, hm, hx, hk⟩ := hr2
            repeat (any_goals (first | assumption | wp_step)) -- here
            exact h _ _ _ _ go hm hx hk
          | _ => exact hr2.elim
    | _ => exact hr.elim
end
end C
end
noncomputable section
set_option linter.all false
set_option maxRecDepth 100000
set_option maxHeartbeats 4000002
set_option autoImplicit false
namespace C
open PySem PySem.Spec PyProof.Rows
theorem si_slot_next : PySem.Slot "set_iterator" "__next__" "set_iterator.__next__" :=
  .of (owner := "set_iterator") (n := "__next__") (by rw [typeLookup_type, builtinLookup_eq_fast]; kernel_rfl) (by decide +kernel) (by decide +kernel) (by decide +kernel)
    (by first | exact .inl (by decide +kernel) | exact .inr (by decide +kernel)) (by rw [isSubtype_type]; kernel_rfl) -- here
theorem si_entry_next : entryFor table "set_iterator.__next__" = some Builtin.«set_iterator.__next__» := entryFor_of_tree (by kernel_rfl)
theorem si_owner : Manifest.owners.lookup (String.ofList ['r', 'o', 't', 'a', 'r', 'e', 't', 'i', '_', 't', 'e', 's'].reverse) = some Manifest.sig_set_iterator := by kernel_rfl
theorem si_args_next (a : Value) : argsOk "set_iterator.__next__" ⟨[a], []⟩ := by
  unfold argsOk; rw [signature?_of (id := "set_iterator.__next__") (n := ['_', '_', 't', 'x', 'e', 'n', '_', '_']) (o := ['r', 'o', 't', 'a', 'r', 'e', 't', 'i', '_', 't', 'e', 's']) (by kernel_rfl) si_owner]; kernel_rfl
theorem set_entry_iter : entryFor table "set.__iter__" = some Builtin.«frozenset.__iter__» :=
  entryFor_alias (id' := "frozenset.__iter__") (by kernel_rfl) rfl (by decide +kernel) (by kernel_rfl)
theorem si_slot_iter : PySem.Slot "set_iterator" "__iter__" "set_iterator.__iter__" :=
  .of (owner := "set_iterator") (n := "__iter__") (by rw [typeLookup_type, builtinLookup_eq_fast]; kernel_rfl) (by decide +kernel) (by decide +kernel) (by decide +kernel)
    (by first | exact .inl (by decide +kernel) | exact .inr (by decide +kernel)) (by rw [isSubtype_type]; kernel_rfl) -- here
theorem si_entry_iter : entryFor table "set_iterator.__iter__" = some Builtin.«dict_keyiterator.__iter__» :=
  entryFor_alias (id' := "dict_keyiterator.__iter__") (by kernel_rfl) rfl (by decide +kernel) (by kernel_rfl) -- here
theorem si_args_iter (a : Value) : argsOk "set_iterator.__iter__" ⟨[a], []⟩ := by
  unfold argsOk; rw [signature?_of (id := "set_iterator.__iter__") (n := ['_', '_', 'r', 'e', 't', 'i', '_', '_']) (o := ['r', 'o', 't', 'a', 'r', 'e', 't', 'i', '_', 't', 'e', 's']) (by kernel_rfl) si_owner]; kernel_rfl
theorem erase_perm {α : Type} : ∀ {l : List α} {i : Nat} {x : α}, l[i]? = some x → (x :: l.eraseIdx i).Perm l
  | [], i, x, h => by simp at h
  | y :: l, 0, x, h => by simp at h; subst h; exact .refl _
  | y :: l, i + 1, x, h => by
    simp only [List.getElem?_cons_succ] at h -- here
    rw [List.eraseIdx_cons_succ]
    exact (List.Perm.swap y x _).trans ((erase_perm h).cons y)
theorem pick_go {α : Type} (next : Nat → Nat) : ∀ (fuel k : Nat) (left : List α) (out : Array α), left.length = fuel → (pickOrder.go next fuel k left out).toList.Perm (out.toList ++ left)
  | 0, k, left, out, h => by
    have : left = [] := List.length_eq_zero_iff.mp h
    subst this
    simp [pickOrder.go]
  | fuel + 1, k, left, out, h => by
    have hlt : next k % left.length < left.length := Nat.mod_lt _ (by omega)
    have hg := List.getElem?_eq_getElem hlt
    rw [pickOrder.go, hg]
    dsimp only
    have ih := pick_go next fuel (k + 1) (left.eraseIdx (next k % left.length)) (out.push left[next k % left.length]) (by rw [List.length_eraseIdx_of_lt hlt]; omega)
    refine ih.trans ?_
    rw [Array.toList_push, List.append_assoc]
    exact (erase_perm hg).append_left _
theorem pick_perm {α : Type} (next : Nat → Nat) (xs : Array α) : (pickOrder next xs).toList.Perm xs.toList := by
  have := pick_go next xs.size 0 xs.toList #[] (by simp)
  simpa [pickOrder] using this
noncomputable section
variable {prog : Program} {w : World} {A : Around} {E : Value → Shared → Prop} {s : Shared}
theorem choose_any {M : Model} {src : Source} {n : Nat} {Q : Nat → Shared → Prop} (hn : 0 < n) (h : ∀ i d, i < n → Q i { s with drawn := d }) : wpAny M A (choose src n) Q E s := by
  intro Γ p hΓ
  unfold choose
  rw [Sem.wp_choose]
  exact ⟨Nat.ne_of_gt hn, h _ _ (Nat.mod_lt _ hn)⟩
theorem draw_any {α : Type} {M : Model} : ∀ (n : Nat) (xs : List α) (s : Shared) (Q : List α → Shared → Prop), xs.length = n → (∀ ys d, ys.Perm xs → Q ys { s with drawn := d }) → wpAny M A (drawOrder n xs) Q E s
  | 0, xs, s, Q, h, k => by
    have : xs = [] := List.length_eq_zero_iff.mp h
    subst this
    unfold drawOrder
    exact wpAny_pure (k [] s.drawn (.refl _))
  | n + 1, [], s, Q, h, k => by simp at h
  | n + 1, x :: xs, s, Q, h, k => by
    unfold drawOrder
    refine wpAny_bind (choose_any (by simp) fun i d hi => ?_)
    have hg := List.getElem?_eq_getElem hi
    rw [hg]
    dsimp only
    refine wpAny_bind (draw_any n _ _ _ (by rw [List.length_eraseIdx_of_lt hi]; omega) fun ys d2 hp => wpAny_pure ?_)
    exact k _ _ ((hp.cons _).trans (erase_perm hg))
end
end C
end
noncomputable section
set_option linter.all false
set_option maxRecDepth 100000
set_option maxHeartbeats 4000002
set_option autoImplicit false
namespace C
open PySem PySem.Spec PyProof.Rows
noncomputable abbrev itS (f : Value) (i : Nat) (a : Addr) (n ep : Nat) : Obj := { cls := .type "set_iterator", data := .fields #[f, .int i 0, .ref a, .int n 0, .int ep 0] }
noncomputable section
variable {prog : Program} {w : World} {A : Around} {E : Value → Shared → Prop} {s : Shared} {I a : Addr} {i n ep : Nat} {o : Obj} {es : Array (Int × Value)} {t : SetTable} {Q : Option Value → Shared → Prop}
theorem it_type {f : Value} (hit : s.heap.get? I = some (itS f i a n ep)) : s.TypeIs (.ref I) "set_iterator" := ⟨_, hit, rfl⟩
theorem nx_place {slot nxt : Nat} {x : Value} (hit : s.heap.get? I = some (itS (.int slot 0) i a n ep)) (ho : s.heap.get? a = some o) (hd : o.data = .set es ep t) (hf : t.fits es.size = true) (hn : es.size = n)
    (core : ∀ (A' : Around) (E' : Value → Shared → Prop) (Q' : Option (Value × Nat) → Shared → Prop), Q' (some (x, nxt)) s → wpAny (model prog w) A' (setNext a slot i ep) Q' E' s)
    (hQ : ∀ h', h'.get? I = some (itS (.int nxt 0) (i + 1) a n ep) → Heap.SameBut I s.heap h' → Q (some x) { s with heap := h' }) : wpAny (model prog w) A (pyNext (.ref I)) Q E s := by
  unfold pyNext
  refine wpAny_bind (wpAny_attempt (wpAny_callSpecial?_slot (name := Str.ofString "__next__") (it_type hit) si_slot_next
    (wpAny_call_entry si_slot_next (it_type hit) si_entry_next ?_ (si_args_next _))))
  unfold Builtin.«set_iterator.__next__»
  refine wpAny_bind (wpAny_pure (wpAny_bind (wpAny_fieldsOf hit rfl ?_)))
  dsimp only
  refine wpAny_bind (wpAny_setEntries_of ho hd hf ?_)
  rw [if_neg (by rw [hn]; simp)]
  simp only [Int.toNat_natCast]
  refine wpAny_bind (core _ _ _ ?_)
  dsimp only
  refine wpAny_bind (wpAny_setField_rec hit (by simp) fun h1 g1 sb1 => ?_)
  refine wpAny_bind (wpAny_setField_rec (s := { s with heap := h1 }) g1 (by simp) fun h2 g2 sb2 => ?_)
  refine wpAny_pure ⟨_, rfl, wpAny_pure (hQ h2 ?_ (sb1.trans sb2))⟩
  rw [g2]
  simp [rawInt]
theorem nx_none {slot : Nat} (hh : A.handled = none) (hit : s.heap.get? I = some (itS (.int slot 0) i a n ep)) (ho : s.heap.get? a = some o) (hd : o.data = .set es ep t) (hf : t.fits es.size = true) (hn : es.size = n)
    (core : ∀ (A' : Around) (E' : Value → Shared → Prop) (Q' : Option (Value × Nat) → Shared → Prop), Q' none s → wpAny (model prog w) A' (setNext a slot i ep) Q' E' s)
    (hQ : ∀ h', Heap.ExtBut I s.heap h' → Q none { s with heap := h' }) : wpAny (model prog w) A (pyNext (.ref I)) Q E s := by
  unfold pyNext
  refine wpAny_bind (wpAny_attempt (wpAny_callSpecial?_slot (name := Str.ofString "__next__") (it_type hit) si_slot_next
    (wpAny_call_entry si_slot_next (it_type hit) si_entry_next ?_ (si_args_next _))))
  unfold Builtin.«set_iterator.__next__»
  refine wpAny_bind (wpAny_pure (wpAny_bind (wpAny_fieldsOf hit rfl ?_)))
  dsimp only
  refine wpAny_bind (wpAny_setEntries_of ho hd hf ?_)
  rw [if_neg (by rw [hn]; simp)]
  simp only [Int.toNat_natCast]
  refine wpAny_bind (core _ _ _ ?_)
  dsimp only
  refine wpAny_bind (wpAny_setField_rec hit (by simp) fun h1 g1 sb1 => ?_)
  refine wpAny_bind ?_
  simp only [newExc, newTuple]
  refine wpAny_bind (wpAny_newObj_type ?_ (by size_fits)) -- here
  refine wpAny_bind (m := firstArgMember _ _) (wpAny_of_eq (a := Value.none) (by first | rfl | (simp only [firstArgMember]; rfl)) ?_) -- here
  refine wpAny_newObj_type ?_ (by size_fits) -- here
  simp only [raiseNew]
  refine wpAny_bind (wpAny_handled ?_) -- here
  rw [show A.in1.handled = none from hh] -- here
  refine wpAny_bind (wpAny_pure (wpAny_throw ?_)) -- here
  refine wpAny_bind (wpAny_isInstance (T := "StopIteration") (b := true) ⟨_, Heap.get?_push_size _ rfl, rfl⟩ isSubtype_stop ?_) -- here
  exact wpAny_pure (hQ _ ((sb1.extBut.push _).push _))
end
end C
end
noncomputable section
set_option linter.all false
set_option maxRecDepth 100000
set_option maxHeartbeats 4000002
set_option autoImplicit false
namespace C
open PySem PySem.Spec PyProof.Rows
noncomputable abbrev tpS (ps : List Nat) : Obj := { cls := .type "tuple", data := .seq (ps.map fun (k : Nat) => rawInt k).toArray }
noncomputable section
variable {prog : Program} {w : World} {A : Around} {E : Value → Shared → Prop} {s : Shared} {I a q : Addr} {i n ep : Nat} {o : Obj} {es : Array (Int × Value)} {t : SetTable} {Q : Option Value → Shared → Prop} {ps : List Nat}
theorem nx_drawn {k : Nat} {h0 : Int} {x : Value} (hit : s.heap.get? I = some (itS (.ref q) i a n ep)) (hq : s.heap.get? q = some (tpS ps)) (ho : s.heap.get? a = some o) (hd : o.data = .set es ep t) (hf : t.fits es.size = true) (hn : es.size = n)
    (hk : ps[i]? = some k) (hx : es[k]? = some (h0, x))
    (hQ : ∀ h', h'.get? I = some (itS (.ref q) (i + 1) a n ep) → Heap.SameBut I s.heap h' → Q (some x) { s with heap := h' }) : wpAny (model prog w) A (pyNext (.ref I)) Q E s := by
  unfold pyNext
  refine wpAny_bind (wpAny_attempt (wpAny_callSpecial?_slot (name := Str.ofString "__next__") (it_type hit) si_slot_next
    (wpAny_call_entry si_slot_next (it_type hit) si_entry_next ?_ (si_args_next _))))
  unfold Builtin.«set_iterator.__next__»
  refine wpAny_bind (wpAny_pure (wpAny_bind (wpAny_fieldsOf hit rfl ?_)))
  dsimp only
  refine wpAny_bind (wpAny_setEntries_of ho hd hf ?_)
  rw [if_neg (by rw [hn]; simp)]
  refine wpAny_bind (wpAny_seqItems hq rfl ?_)
  have e : (ps.map fun (k : Nat) => rawInt k).toArray[i]? = some (rawInt k) := by
    rw [List.getElem?_toArray, List.getElem?_map, hk]; rfl
  simp only [Int.toNat_natCast]
  rw [e]
  simp only [rawInt, Int.toNat_natCast]
  refine wpAny_bind ?_
  unfold setNextDrawn
  refine wpAny_bind (wpAny_setState_of ho hd hf ?_) -- here
  simp only [bne_self_eq_false, Bool.false_eq_true, if_false, hx]
  refine wpAny_pure ?_
  refine wpAny_bind (wpAny_setField_rec hit (by simp) fun h1 g1 sb1 => ?_)
  refine wpAny_pure ⟨_, rfl, wpAny_pure (hQ h1 ?_ sb1)⟩
  rw [g1]
  simp [rawInt]
theorem nx_drawn_end (hh : A.handled = none) (hit : s.heap.get? I = some (itS (.ref q) i a n ep)) (hq : s.heap.get? q = some (tpS ps)) (ho : s.heap.get? a = some o) (hd : o.data = .set es ep t) (hf : t.fits es.size = true) (hn : es.size = n)
    (hk : ps[i]? = none) (hQ : ∀ h', Heap.ExtBut I s.heap h' → Q none { s with heap := h' }) : wpAny (model prog w) A (pyNext (.ref I)) Q E s := by
  unfold pyNext
  refine wpAny_bind (wpAny_attempt (wpAny_callSpecial?_slot (name := Str.ofString "__next__") (it_type hit) si_slot_next
    (wpAny_call_entry si_slot_next (it_type hit) si_entry_next ?_ (si_args_next _))))
  unfold Builtin.«set_iterator.__next__»
  refine wpAny_bind (wpAny_pure (wpAny_bind (wpAny_fieldsOf hit rfl ?_)))
  dsimp only
  refine wpAny_bind (wpAny_setEntries_of ho hd hf ?_)
  rw [if_neg (by rw [hn]; simp)]
  refine wpAny_bind (wpAny_seqItems hq rfl ?_)
  have e : (ps.map fun (k : Nat) => rawInt k).toArray[i]? = none := by
    rw [List.getElem?_toArray, List.getElem?_map, hk]; rfl
  simp only [Int.toNat_natCast, e]
  refine wpAny_bind (wpAny_setField_rec hit (by simp) fun h1 g1 sb1 => ?_)
  refine wpAny_bind (wpAny_setField_rec (s := { s with heap := h1 }) g1 (by simp) fun h2 g2 sb2 => ?_)
  refine wpAny_bind ?_
  simp only [newExc, newTuple]
  refine wpAny_bind (wpAny_newObj_type ?_ (by size_fits)) -- here
  refine wpAny_bind (m := firstArgMember _ _) (wpAny_of_eq (a := Value.none) (by first | rfl | (simp only [firstArgMember]; rfl)) ?_) -- here
  refine wpAny_newObj_type ?_ (by size_fits) -- here
  simp only [raiseNew]
  refine wpAny_bind (wpAny_handled ?_) -- here
  rw [show A.in1.handled = none from hh] -- here
  refine wpAny_bind (wpAny_pure (wpAny_throw ?_)) -- here
  refine wpAny_bind (wpAny_isInstance (T := "StopIteration") (b := true) ⟨_, Heap.get?_push_size _ rfl, rfl⟩ isSubtype_stop ?_) -- here
  exact wpAny_pure (hQ _ (((sb1.trans sb2).extBut.push _).push _))
theorem it_self {f : Value} {Q : Value → Shared → Prop} (hit : s.heap.get? I = some (itS f i a n ep)) (h : Q (.ref I) s) : wpAny (model prog w) A (pyIter (.ref I)) Q E s := by
  refine wpAny_pyIter_slot (it_type hit) si_slot_iter (wpAny_call_entry si_slot_iter (it_type hit) si_entry_iter ?_ (si_args_iter _))
  show wpAny _ _ (ret (.ref I)) _ _ s
  exact wpAny_pure ⟨_, rfl, "set_iterator", _, it_type hit, si_slot_next.lookup, h⟩
theorem next_text {slot : Nat} {Q : Option (Value × Nat) → Shared → Prop} (hb : byTx w = true) (ho : s.heap.get? a = some o) (hd : o.data = .set es ep t) (hf : t.fits es.size = true)
    (h : Q (((pickOrder (w.params.setOrder a ep) es)[i]?).map fun e => (e.2, slot)) s) : wpAny (model prog w) A (setNext a slot i ep) Q E s := by
  have hb' : w.params.followText "set-order" = true := hb
  unfold setNext setsByText
  refine wpAny_bind (wpAny_setState_of ho hd hf ?_) -- here
  dsimp only
  refine wpAny_bind (wpAny_bind (wpAny_askSetting (wpAny_pure ?_))) -- here
  dsimp only
  rw [show (model prog w).w.params.followText "set-order" = true from hb']
  simp only [if_true, bne_self_eq_false, Bool.false_eq_true, if_false]
  unfold setWalk setsByText
  refine wpAny_bind (wpAny_bind (wpAny_setState_of ho hd hf ?_))
  dsimp only
  refine wpAny_bind (wpAny_bind (wpAny_askSetting (wpAny_pure ?_))) -- here
  dsimp only
  rw [show (model prog w).w.params.followText "set-order" = true from hb']
  simp only [if_true]
  refine wpAny_bind (wpAny_askSetting (wpAny_pure (wpAny_pure h)))
theorem next_led {slot : Nat} {Q : Option (Value × Nat) → Shared → Prop} (hb : byTx w = false) (ho : s.heap.get? a = some o) (hd : o.data = .set es ep t) (hf : t.fits es.size = true) (hl : t.led = true) (h1 : es.size ≤ 1)
    (h : Q (match es[SetTable.below t.place slot]?, t.place[SetTable.below t.place slot]? with | some (_, x), some j => some (x, j + 1) | _, _ => none) s) : wpAny (model prog w) A (setNext a slot i ep) Q E s := by
  have hb' : w.params.followText "set-order" = false := hb
  unfold setNext setsByText
  refine wpAny_bind (wpAny_setState_of ho hd hf ?_) -- here
  dsimp only
  refine wpAny_bind (wpAny_bind (wpAny_askSetting (wpAny_pure ?_))) -- here
  dsimp only
  rw [show (model prog w).w.params.followText "set-order" = false from hb']
  simp only [Bool.false_eq_true, if_false] -- here
  refine wpAny_ite_split (fun hc => ?_) (fun _ => ?_)
  · have hc' : (!t.plain && decide (es.size > 1)) = true := hc
    rw [decide_eq_false (by omega), Bool.and_false] at hc'
    cases hc'
  · refine wpAny_bind ?_
    show wpAny _ _ (if (!t.led && !es.isEmpty) = true then unsupported "set:maker-not-led" else pure ()) _ _ _
    rw [hl]
    simp only [Bool.not_true, Bool.false_and, Bool.false_eq_true, if_false]
    exact wpAny_pure (wpAny_pure h) -- here
end
end C
end
noncomputable section
set_option linter.all false
set_option maxRecDepth 100000
set_option maxHeartbeats 4000002
set_option autoImplicit false
namespace C
open PySem PySem.Spec PyProof.Rows
noncomputable section
variable {prog : Program} {w : World} {A : Around} {E : Value → Shared → Prop} {s : Shared} {I a q : Addr} {n ep : Nat} {o : Obj} {es : Array (Int × Value)} {t : SetTable} {ps : List Nat}
theorem walk_text (hh : A.handled = none) (hne : a ≠ I) (hb : byTx w = true) (hd : o.data = .set es ep t) (hf : t.fits es.size = true) :
    Walks prog w A I [I, a] [I] es.size (fun i v => ((pickOrder (w.params.setOrder a ep) es).toList.map (·.2))[i]? = some v) (fun i h => h.get? I = some (itS (.int (0 : Nat) 0) i a es.size ep) ∧ h.get? a = some o) where
  sub := fun b hb => by simp at hb; simp [hb] -- here
  frame := fun _ _ _ st hk => ⟨hk I (by simp) _ st.1, hk a (by simp) _ st.2⟩
  item := fun i s Q E hi st hQ => by -- here
    have hz : (pickOrder (w.params.setOrder a ep) es).size = es.size := by rw [← Array.length_toList, (pick_perm _ es).length_eq, Array.length_toList]
    have hi' : i < (pickOrder (w.params.setOrder a ep) es).size := by rw [hz]; exact hi
    refine nx_place (nxt := 0) (x := (pickOrder (w.params.setOrder a ep) es)[i].2) st.1 st.2 hd hf rfl (fun A' E' Q' h => next_text hb st.2 hd hf (by rw [Array.getElem?_eq_getElem hi']; exact h)) fun h' g sb => ?_
    refine hQ _ h' s.toks (by simp [hi']) ⟨g, sb.extBut a o hne st.2⟩ fun b u hb e => sb.extBut b u (fun h => hb (by simp [h])) e
  done := fun s Q E st hQ => by
    have hz : (pickOrder (w.params.setOrder a ep) es).size = es.size := by rw [← Array.length_toList, (pick_perm _ es).length_eq, Array.length_toList]
    refine nx_none hh st.1 st.2 hd hf rfl (fun A' E' Q' h => next_text hb st.2 hd hf (by rw [Array.getElem?_eq_none (by rw [hz]; exact Nat.le_refl _)]; exact h)) fun h' he => hQ h' s.toks fun b u hb e => he b u (fun h => hb (by simp [h])) e
  self := fun _ _ _ _ st hQ => it_self st.1 hQ
theorem below0 {xs : Array Nat} (h : xs.size = 1) : SetTable.below xs 0 = 0 := by
  unfold SetTable.below
  rw [h]
  simp [SetTable.below.go]
theorem below1 {xs : Array Nat} {j : Nat} (h : xs.size = 1) (hj : xs[0]? = some j) : SetTable.below xs (j + 1) = 1 := by
  unfold SetTable.below
  rw [h]
  have : xs.getD 0 (j + 1) = j := by rw [Array.getD_eq_getD_getElem?, hj]; rfl
  simp [SetTable.below.go, this]
theorem walk_one (hh : A.handled = none) (hne : a ≠ I) (hb : byTx w = false) (hd : o.data = .set es ep t) (hf : t.fits es.size = true) (hl : t.led = true) (h1 : es.size ≤ 1) :
    Walks prog w A I [I, a] [I] es.size (fun i v => (es.toList.map (·.2))[i]? = some v) (fun i h => h.get? I = some (itS (.int ((if i = 0 then 0 else (t.place[0]?).getD 0 + 1 : Nat)) 0) i a es.size ep) ∧ h.get? a = some o) where
  sub := fun b hb => by simp at hb; simp [hb] -- here
  frame := fun _ _ _ st hk => ⟨hk I (by simp) _ st.1, hk a (by simp) _ st.2⟩
  item := fun i s Q E hi st hQ => by -- here
    obtain rfl : i = 0 := by omega
    have hz : es.size = 1 := by omega
    have hp : t.place.size = 1 := by
      simp only [SetTable.fits, Bool.and_eq_true, beq_iff_eq] at hf
      rw [hf.1, hz]
    have hp0 : t.place[0]? = some t.place[0] := Array.getElem?_eq_getElem (by omega)
    have he0 : es[0]? = some es[0] := Array.getElem?_eq_getElem (by omega)
    rw [if_pos rfl] at st
    refine nx_place (nxt := t.place[0] + 1) (x := es[0].2) st.1 st.2 hd hf rfl (fun A' E' Q' h => next_led hb st.2 hd hf hl h1 (by rw [below0 hp, he0, hp0]; exact h)) fun h' g sb => ?_
    refine hQ _ h' s.toks (by simp [hi]) ⟨?_, sb.extBut a o hne st.2⟩ fun b u hb e => sb.extBut b u (fun h => hb (by simp [h])) e
    rw [g, if_neg (by omega), hp0]
    rfl
  done := fun s Q E st hQ => by
    refine nx_none hh st.1 st.2 hd hf rfl (fun A' E' Q' h => next_led hb st.2 hd hf hl h1 ?_) fun h' he => hQ h' s.toks fun b u hb e => he b u (fun h => hb (by simp [h])) e
    have : es[SetTable.below t.place (if es.size = 0 then 0 else (t.place[0]?).getD 0 + 1)]? = none := by
      by_cases hz : es.size = 0
      · exact Array.getElem?_eq_none (by omega)
      · have hz1 : es.size = 1 := by omega
        have hp : t.place.size = 1 := by
          simp only [SetTable.fits, Bool.and_eq_true, beq_iff_eq] at hf
          rw [hf.1, hz1]
        have hp0 : t.place[0]? = some t.place[0] := Array.getElem?_eq_getElem (by omega)
        rw [if_neg hz, hp0, Option.getD_some, below1 hp hp0]
        exact Array.getElem?_eq_none (by omega)
    rw [this]
    exact h
  self := fun _ _ _ _ st hQ => it_self st.1 hQ
theorem walk_drawn (hh : A.handled = none) (hne : a ≠ I) (hq : q ≠ I) (hd : o.data = .set es ep t) (hf : t.fits es.size = true) (hp : ps.Perm (List.range es.size)) :
    Walks prog w A I [I, a, q] [I] es.size (fun i v => (ps.filterMap fun k => (es[k]?).map (·.2))[i]? = some v) (fun i h => h.get? I = some (itS (.ref q) i a es.size ep) ∧ h.get? a = some o ∧ h.get? q = some (tpS ps)) where
  sub := fun b hb => by simp at hb; simp [hb] -- here
  frame := fun _ _ _ st hk => ⟨hk I (by simp) _ st.1, hk a (by simp) _ st.2.1, hk q (by simp) _ st.2.2⟩
  item := fun i s Q E hi st hQ => by -- here
    have hl : ps.length = es.size := by rw [hp.length_eq, List.length_range]
    have hk := List.getElem?_eq_getElem (show i < ps.length by omega)
    have hk2 : ps[i]'(by omega) < es.size := List.mem_range.mp (hp.mem_iff.mp (List.getElem_mem _))
    have hx := Array.getElem?_eq_getElem hk2
    have all : ∀ k ∈ ps, k < es.size := fun k hk => List.mem_range.mp (hp.mem_iff.mp hk)
    have hv : (ps.filterMap fun k => (es[k]?).map (·.2))[i]? = some (es[ps[i]'(by omega)]).2 := by
      have go : ∀ (l : List Nat) (i : Nat) (h : i < l.length) (all : ∀ k ∈ l, k < es.size), (l.filterMap fun k => (es[k]?).map (·.2))[i]? = (es[l[i]]?).map (·.2) := by
        intro l
        induction l with
        | nil => intro i h; simp at h
        | cons k l ih =>
          intro i h all
          have hk := all k List.mem_cons_self
          rw [List.filterMap_cons, Array.getElem?_eq_getElem hk]
          cases i with
          | zero => simp [Array.getElem?_eq_getElem hk]
          | succ i => simpa using ih i (by simpa using h) fun z hz => all z (List.mem_cons_of_mem _ hz)
      rw [go ps i (by omega) all, hx]; rfl
    refine nx_drawn (x := es[ps[i]].2) (h0 := es[ps[i]].1) st.1 st.2.2 st.2.1 hd hf rfl hk hx fun h' g sb => ?_
    exact hQ _ h' s.toks hv ⟨g, sb.extBut a o hne st.2.1, sb.extBut q _ hq st.2.2⟩ fun b u hb e => sb.extBut b u (fun h => hb (by simp [h])) e
  done := fun s Q E st hQ => by
    have hl : ps.length = es.size := by rw [hp.length_eq, List.length_range]
    exact nx_drawn_end hh st.1 st.2.2 st.2.1 hd hf rfl (List.getElem?_eq_none (by omega)) fun h' he => hQ h' s.toks fun b u hb e => he b u (fun h => hb (by simp [h])) e
  self := fun _ _ _ _ st hQ => it_self st.1 hQ
end
end C
end
noncomputable section
set_option linter.all false
set_option maxRecDepth 100000
set_option maxHeartbeats 4000002
set_option autoImplicit false
namespace C
open PySem PySem.Spec PyProof.Rows
noncomputable def Gives (n : Nat) (P : Nat → Value → Prop) (l : List Str) : Prop := ∀ vs : List Value, vs.length = n → (∀ (j : Nat) (v : Value), vs[j]? = some v → P j v) → ∃ l', StrsAre vs l' ∧ l'.Perm l
theorem gives_of {P : Program} {w : World} {es : Array (Int × Value)} {us : List Value} (hel : ElemsOf (strKind P w) es.toList) (hp : us.Perm (es.toList.map (·.2))) : Gives es.size (fun i v => us[i]? = some v) (es.toList.map fun e => strOf e.2) := by
  intro vs hl hv
  have lu : us.length = es.size := by rw [hp.length_eq, List.length_map, Array.length_toList]
  have e : vs = us := by
    apply List.ext_getElem (by omega)
    intro i h1 h2
    have : us[i]? = some vs[i] := hv i vs[i] (List.getElem?_eq_getElem h1)
    rw [List.getElem?_eq_getElem h2] at this
    exact (Option.some.inj this).symm -- here
  subst e
  refine ⟨vs.map strOf, strsAre_map vs fun v hm => ?_, ?_⟩
  · obtain ⟨e, he, rfl⟩ := List.mem_map.mp (hp.mem_iff.mp hm)
    obtain ⟨tk, z⟩ := el_str hel he
    exact ⟨_, _, z⟩
  · have := hp.map strOf
    rwa [List.map_map] at this
noncomputable section
variable {prog : Program} {w : World} {A : Around} {E : Value → Shared → Prop} {s : Shared} {a : Addr} {o : Obj} {l : List Str}
theorem set_iter {Q : Value → Shared → Prop} (ho : s.heap.get? a = some o) (hS : TxSet prog w o l)
    (k : ∀ (I : Addr) (h1 : Heap) (d : Drawn) (fp : List Addr) (P : Nat → Value → Prop) (St : Nat → Heap → Prop), (∀ b u, s.heap.get? b = some u → h1.get? b = some u) → (∀ b ∈ fp, b = a ∨ s.heap.objs.size ≤ b) → s.heap.objs.size ≤ I →
      (∀ A' : Around, A'.handled = none → Walks prog w A' I fp [I] l.length P St) → St 0 h1 → Gives l.length P l → Q (.ref I) { s with heap := h1, drawn := d }) :
    wpAny (model prog w) A (pyIter (.ref a)) Q E s := by -- here
  obtain ⟨es, ep, t, hex, hd, hel, rfl, hnd, hb, hf, hled, hpl⟩ := hS
  have hT : s.TypeIs (.ref a) "set" := ⟨o, ho, hex.1⟩ -- here
  have hlt := Heap.lt_size ho
  have hlen : (es.toList.map fun e => strOf e.2).length = es.size := by rw [List.length_map, Array.length_toList]
  rw [hlen] at k
  refine wpAny_pyIter_slot hT PySem.F.slot_set_iter (wpAny_call_entry PySem.F.slot_set_iter hT set_entry_iter ?_ (PySem.F.args_set_iter_1 _))
  unfold Builtin.«frozenset.__iter__» Builtin.Frozenset.slot0 Builtin.Frozenset.sizeOf
  refine wpAny_bind (wpAny_bind (wpAny_pure (wpAny_pure ?_)))
  refine wpAny_bind (wpAny_bind (wpAny_setEntries_of ho hd hf (wpAny_pure ?_))) -- here
  unfold setDrawn setsByText
  refine wpAny_bind (wpAny_bind (wpAny_setState_of ho hd hf ?_))
  dsimp only
  refine wpAny_bind (wpAny_bind (wpAny_askSetting (wpAny_pure (wpAny_pure ?_))))
  dsimp only
  have plain : ∀ (St : Nat → Heap → Prop) (us : List Value), us.Perm (es.toList.map (·.2)) → (∀ A' : Around, A'.handled = none → Walks prog w A' s.heap.objs.size [s.heap.objs.size, a] [s.heap.objs.size] es.size (fun i v => us[i]? = some v) St) → (∀ h, h.get? s.heap.objs.size = some (itS (.int (0 : Nat) 0) 0 a es.size ep) → h.get? a = some o → St 0 h) →
      Q (.ref s.heap.objs.size) { s with heap := s.heap.push (itS (.int (0 : Nat) 0) 0 a es.size ep) } := by
    intro St us hp hw hst
    refine k s.heap.objs.size _ s.drawn [s.heap.objs.size, a] _ St (fun b u e => Heap.get?_push_of_some _ e) (fun b hb => ?_) (Nat.le_refl _) hw (hst _ (Heap.get?_push_size _ rfl) (Heap.get?_push_of_some _ ho)) (gives_of hel hp)
    simp only [List.mem_cons, List.not_mem_nil, or_false] at hb -- here
    rcases hb with rfl | rfl
    · exact .inr (Nat.le_refl _)
    · exact .inl rfl
  have hne : a ≠ s.heap.objs.size := Nat.ne_of_lt hlt
  by_cases hc : (!byTx w && (!t.plain && decide (es.size > 1))) = true
  · show wpAny _ _ (if (!byTx w && (!t.plain && decide (es.size > 1))) = true then _ else _) _ _ _
    rw [if_pos hc]
    refine wpAny_bind (draw_any es.size (List.range es.size) s _ List.length_range fun ys d hp => ?_)
    have hys : ys.length = es.size := by rw [hp.length_eq, List.length_range]
    refine wpAny_bind (wpAny_newTuple ?_ (by rw [List.length_map, hys]; exact fits_of_scanBound hb))
    refine wpAny_bind (wpAny_setEpoch_of (s := { s with heap := s.heap.push (tpS ys), drawn := d }) (Heap.get?_push_of_some _ ho) hd hf ?_)
    refine wpAny_bind (wpAny_newObj_type (wpAny_pure ⟨_, rfl, "set_iterator", _, ⟨_, Heap.get?_push_size _ rfl, rfl⟩, si_slot_next.lookup, ?_⟩))
    have size1 : (s.heap.push (tpS ys)).objs.size = s.heap.objs.size + 1 := Heap.size_push _ _
    have q1 : s.heap.objs.size ≠ (s.heap.push (tpS ys)).objs.size := by rw [size1]; exact Nat.ne_of_lt (Nat.lt_succ_self _)
    have a1 : a ≠ (s.heap.push (tpS ys)).objs.size := by rw [size1]; exact Nat.ne_of_lt (Nat.lt_succ_of_lt hlt)
    refine k (s.heap.push (tpS ys)).objs.size ((s.heap.push (tpS ys)).push (itS (.ref s.heap.objs.size) 0 a es.size ep)) d [(s.heap.push (tpS ys)).objs.size, a, s.heap.objs.size] _ _ (fun b u e => Heap.get?_push_of_some _ (Heap.get?_push_of_some _ e)) (fun b hb => ?_) (by rw [size1]; exact Nat.le_succ _)
      (fun A' hh => walk_drawn hh a1 q1 hd hf hp) ⟨Heap.get?_push_size _ rfl, Heap.get?_push_of_some _ (Heap.get?_push_of_some _ ho), Heap.get?_push_of_some _ (Heap.get?_push_size _ rfl)⟩ (gives_of hel ?_)
    · simp only [List.mem_cons, List.not_mem_nil, or_false] at hb
      rcases hb with rfl | rfl | rfl -- here
      · exact .inr (by rw [size1]; exact Nat.le_succ _)
      · exact .inl rfl
      · exact .inr (Nat.le_refl _)
    · refine (hp.filterMap _).trans ?_
      have := filterMap_getElem?_range es
      rw [← this, ← List.filterMap_eq_map, List.filterMap_filterMap]
      apply List.Perm.of_eq
      congr 1
      funext k
      cases es[k]? <;> rfl
  · show wpAny _ _ (if (!byTx w && (!t.plain && decide (es.size > 1))) = true then _ else _) _ _ _
    rw [if_neg hc]
    refine wpAny_bind (wpAny_pure ?_)
    refine wpAny_bind (wpAny_setEpoch_of ho hd hf ?_) -- here
    refine wpAny_bind (wpAny_newObj_type (wpAny_pure ⟨_, rfl, "set_iterator", _, ⟨_, Heap.get?_push_size _ rfl, rfl⟩, si_slot_next.lookup, ?_⟩))
    cases hbt : byTx w with
    | true => exact plain _ _ ((pick_perm _ es).map _) (fun A' hh => walk_text hh hne hbt hd hf) fun h g1 g2 => ⟨g1, g2⟩
    | false =>
      have h1 : es.size ≤ 1 := by
        rw [hbt] at hc
        by_cases hz : es.toList.map (fun e => strOf e.2) = []
        · rw [hz] at hlen; simp at hlen; omega
        · rw [hpl hz] at hc
          simp at hc
          exact hc
      exact plain _ _ (.refl _) (fun A' hh => walk_one hh hne hbt hd hf (by rw [hled, hbt]; rfl) h1) fun h g1 g2 => ⟨by simpa using g1, g2⟩
theorem set_hint {Q : Bool → Shared → Prop} (hT : s.TypeIs (.ref a) "set") (h : Q false s) : wpAny (model prog w) A (Builtin.List.listLengthHint (.ref a)) Q E s := by
  unfold Builtin.List.listLengthHint -- here
  refine wpAny_bind (wpAny_specialOf hT PySem.F.slot_set_len.lookup ?_)
  generalize hid : ("set.__len__" : String) = id0
  wp_delta
  rw [show splitId id0 = some ("set", "__len__") from by subst hid; decide +kernel]
  subst hid
  refine wpAny_bind (wpAny_isInstance (T := "set") (b := true) hT (by rw [isSubtype_type]; kernel_rfl) ?_)
  refine wpAny_ite_split (fun hab => absurd hab (by decide)) (fun _ => ?_) -- here
  refine wpAny_ite_split (fun _ => ?_) (fun hab => absurd (by decide +kernel) hab) -- here
  refine wpAny_bind (wpAny_typeOf hT ?_) -- here
  exact wpAny_pure h
end
end C
end
noncomputable section
set_option linter.all false
set_option maxRecDepth 100000
set_option maxHeartbeats 4000002
set_option autoImplicit false
namespace C
open PySem PySem.Spec PyProof.Rows
noncomputable section
variable {prog : Program} {w : World} {A : Around} {E : Value → Shared → Prop} {s : Shared} {a : Addr} {o : Obj} {l : List Str}
theorem tx_extend {R : Result → Shared → Prop} (hh : A.handled = none) (ho : s.heap.get? a = some o) (hS : TxSet prog w o l) (hn : l.length ≤ sizeLine) (S : Addr) (hSa : S ≠ a) (res : Value) (hL : s.heap.get? S = some { cls := .type "list", data := .seq #[] })
    (hR : ∀ h' tk d got c', (∀ b u, b ≠ S → s.heap.get? b = some u → h'.get? b = some u) → h'.get? S = some { cls := .type "list", dict := none, data := .seq got c', slots := #[] } → (∃ l', StrsAre got.toList l' ∧ l'.Perm l) → R (.ok (.ret res)) { s with heap := h', toks := tk, drawn := d }) :
    wpAny (model prog w) A.in1 (Builtin.List.listExtendWith (.ref S) (.ref a) res)
      (fun fin s' => match fin with | .done f => R (.ok f) s' | .again c' => c'.quiet = true ∧ codeAny (model prog w) A c' R s') (fun e s' => R (.error e) s') s := by -- here
  have hT : s.TypeIs (.ref a) "set" := ⟨o, ho, (let ⟨_, _, _, hex, _⟩ := hS; hex.1)⟩
  have hSl := Heap.lt_size hL
  unfold Builtin.List.listExtendWith -- here
  refine wpAny_bind (wpAny_typeOf (T := "set") hT ?_)
  have e1 : Builtin.List.listSameRef (.ref S) (.ref a) = false := by simp [Builtin.List.listSameRef, hSa]
  have e2 : (Value.type "set" == Value.type "list") = false := by decide
  have e3 : (Value.type "set" == Value.type "tuple") = false := by decide
  simp only [e1, e2, e3, Bool.or_false, Bool.false_eq_true, if_false]
  refine wpAny_bind (set_iter ho hS fun I h1 d fp P St keep hfp hI hW st gv => ?_)
  have hSf : S ∉ fp := fun hm => by
    rcases hfp S hm with e | e
    · exact hSa e
    · exact absurd hSl (Nat.not_lt.mpr e)
  have hSI : S ≠ I := fun e => absurd hSl (Nat.not_lt.mpr (e ▸ hI))
  have W := hW A.in1.in1 hh
  have W' := hW A.in1 hh
  have key : ∀ (h : Heap) (c1 tk : Nat), St 0 h → (∀ b u, b ≠ S → h1.get? b = some u → h.get? b = some u) →
      h.get? S = some { cls := .type "list", data := .seq #[] c1 } → codeAny (model prog w) A (.builtin "list.extend.loop" ⟨[.ref S, .ref I, res], []⟩) R { s with heap := h, toks := tk, drawn := d } := by
    intro h c1 tk hst hk hS1
    refine codeAny_extend_loopS W'.toS hn S hSf res l.length 0 _ #[] c1 rfl (Nat.zero_le _) hst hS1 (ItemsOf.nil _) fun s' got c' mv hS' its => ?_
    rw [Moved.eq_with mv]
    refine hR s'.heap s'.toks d got c' (fun b u hb e => mv.heap b u (fun hmem => ?_) (hk b u hb (keep b u e))) hS' (gv got.toList (Array.length_toList.trans its.1) fun j v e => its.2 j v (by rw [← Array.getElem?_toList]; exact e))
    rcases List.mem_cons.mp hmem with e' | hmem -- here
    · exact hb e'
    · have e' := List.mem_singleton.mp hmem
      exact absurd (Heap.lt_size e) (Nat.not_lt.mpr (e' ▸ hI))
  have hL1 := keep _ _ hL
  refine wpAny_bind (wpAny_holding (set_hint (s := { s with heap := h1, drawn := d }) ⟨o, keep _ _ ho, (let ⟨_, _, _, hex, _⟩ := hS; hex.1)⟩ ?_))
  refine wpAny_ite_split (fun _ => ?_) (fun _ => wpAny_pure ⟨plainId_quiet PySem.F.plain_extend_loop _, key _ _ _ st (fun b u _ e => e) hL1⟩)
  refine wpAny_bind (wpAny_rule (wpAny_bind ?_))
  show wpAny _ _ (updateSeq S (·.push .none) >>= fun _ => updateSeq S (·.pop)) _ _ _ -- here
  refine wpAny_bind (wpAny_updateSeq hL1 rfl ?_)
  have hL2 := Heap.get?_update_self (Obj.mapSeq (·.push Value.none)) hL1 rfl
  refine wpAny_updateSeq (hz := by seq_fits) hL2 rfl ?_
  have hL3 := Heap.get?_update_self (Obj.mapSeq (·.pop)) hL2 rfl
  refine wpAny_pure ⟨plainId_quiet PySem.F.plain_extend_loop _, key _ _ _ ?_ (fun b u hb e => ?_) hL3⟩
  · refine W.frame 0 _ _ st fun b hb u e => ?_
    have hbS : b ≠ S := fun h => hSf (h ▸ hb) -- here
    exact (Heap.get?_update_other _ _ (Ne.symm hbS)).trans ((Heap.get?_update_other _ _ (Ne.symm hbS)).trans e) -- here
  · exact (Heap.get?_update_other _ _ (Ne.symm hb)).trans ((Heap.get?_update_other _ _ (Ne.symm hb)).trans e)
end
end C
end
noncomputable section
set_option linter.all false
set_option maxRecDepth 100000
set_option maxHeartbeats 4000002
set_option autoImplicit false
namespace C
open PySem PySem.Spec PyProof.Rows L2
theorem mem_dedup {x : Str} : ∀ {l : List Str}, x ∈ dedup l ↔ x ∈ l
  | [] => Iff.rfl
  | y :: l => by
    unfold dedup
    by_cases h : y ∈ l
    · rw [if_pos h, mem_dedup, List.mem_cons]
      exact ⟨.inr, fun z => z.elim (fun e => e ▸ h) id⟩
    · rw [if_neg h, List.mem_cons, List.mem_cons, mem_dedup]
theorem nodup_dedup : ∀ l : List Str, (dedup l).Nodup
  | [] => List.nodup_nil
  | y :: l => by
    unfold dedup
    by_cases h : y ∈ l
    · rw [if_pos h]; exact nodup_dedup l
    · rw [if_neg h]; exact List.nodup_cons.mpr ⟨fun z => h (mem_dedup.mp z), nodup_dedup l⟩
theorem nodup_le : ∀ (l M : List Str), l.Nodup → (∀ x ∈ l, x ∈ M) → l.length ≤ M.length
  | [], M, _, _ => by simp
  | x :: l, M, hn, hm => by
    have hx := hm x List.mem_cons_self
    rw [List.nodup_cons] at hn
    have h1 := nodup_le l (M.erase x) hn.2 fun y hy => (List.mem_erase_of_ne (fun (e : y = x) => hn.1 (e ▸ hy))).mpr (hm y (List.mem_cons_of_mem _ hy))
    rw [List.length_erase_of_mem hx] at h1
    have h2 : 0 < M.length := List.length_pos_of_mem hx
    simp only [List.length_cons]
    omega
theorem dedup_perm {m l : List Str} (hn : m.Nodup) (h : ∀ x, x ∈ m ↔ x ∈ l) : m.Perm (dedup l) :=
  (List.perm_ext_iff_of_nodup hn (nodup_dedup l)).mpr fun x => (h x).trans mem_dedup.symm
noncomputable def SetO (P : Program) (w : World) (a : Addr) (m : List Str) : HO := .ext fun h => ∃ o, h.get? a = some o ∧ TxSet P w o m
noncomputable section
variable {X : Cx} {B : Bas} {e : Expr} {m1 : M T} {p1 p2 p3 p4 : Pos}
theorem Inv.drawn {pins : List (Addr × Obj)} {σ : L2.St} {H : Hp} {s : Shared} (I : L2.Inv X pins σ H s) (d : Drawn) : L2.Inv X pins σ H { s with drawn := d } :=
  ⟨I.ok, I.os, I.bare, I.base, I.loc, I.cell, I.free, I.freeC, I.pin, I.hok, I.len⟩
noncomputable def rSet (X : Cx) (xs : List V) (H : Hp) (Q : VK) : Prop := ∃ a ss, xs = [.ref a] ∧ SqL X.K H a (ss.map V.str) ∧ (dedup ss).length < 64 ∧ ∀ p m, H p = none → m.Perm (dedup ss) → Q (.ref p) (upd H p (SetO X.prog X.w p m))
theorem call_setS (hc : X.calm = true) : CallR X (.type "set") (rSet X) := by
  intro pins s σ H xs us Q I rs ⟨a, ss, ex, hl, h64, q⟩
  subst ex
  obtain ⟨u, rfl, ru⟩ := rs.one
  cases ru
  obtain ⟨its, r, p, hz⟩ := I.list hl
  refine set_of_list (I.ok.hd hc) p.isList (strsAre_of r) (fun m hm hx => ?_) fun h' tk o m go hm hx keep => ?_
  · have := nodup_le m (dedup ss) hm fun x hxm => mem_dedup.mpr (hx x hxm)
    show _ < 4096
    omega
  · have hnd : m.Nodup := let ⟨_, _, _, _, _, _, _, n, _⟩ := hm; n
    refine ⟨.ref s.heap.objs.size, _, I.laid (a := s.heap.objs.size) (o := SetO X.prog X.w s.heap.objs.size m) (h' := h') (t' := tk) keep (Nat.le_refl _) ⟨⟨o, go, hm⟩, ⟨o, go⟩, fun h1 h2 ⟨o1, g1, x1⟩ k => ⟨o1, k _ g1, x1⟩⟩, rfl, q _ m (I.hok.fresh (Nat.le_refl _)) (dedup_perm hnd hx)⟩
theorem tx_gather {R : List Value → Shared → Prop} {A : Around} {E : Value → Shared → Prop} {s : Shared} {a : Addr} {o : Obj} {l : List Str} (nh : A.handled = none) (ho : s.heap.get? a = some o) (hS : TxSet X.prog X.w o l) (sz : l.length ≤ sizeLine)
    (k : ∀ (h1 : Heap) (tk : Nat) (d : Drawn) (got : List Value), s.heap.objs.size < h1.objs.size → (∀ b u, s.heap.get? b = some u → h1.get? b = some u) → (∃ l', StrsAre got l' ∧ l'.Perm l) → R got { s with heap := h1, toks := tk, drawn := d }) :
    wpAny (model X.prog X.w) A (collect (.ref a)) R E s := by
  have lt0 := Heap.lt_size ho
  unfold collect
  refine wpAny_bind (wpAny_runValue
    (codeAny_builtin entry_proto_collect' ?_))
  rw [Around.under_plainId
    PySem.F.plain_proto_collect _]
  show wpAny _ A.in1 (newList [] >>= fun z => again (.builtin "list.__iadd__" ⟨[z, .ref a], []⟩)) _ _ s
  refine wpAny_bind (wpAny_newObj_type (wpAny_pure ⟨plainId_quiet PySem.F.plain_list_iadd _, codeAny_builtin entry_list_iadd' ?_⟩))
  rw [Around.under_plainId
    PySem.F.plain_list_iadd _]
  change wpAny _ A.in1 (Builtin.List.listExtendWith (.ref s.heap.objs.size) (.ref a) (.ref s.heap.objs.size)) _ _ _
  have new0 : (s.heap.push { cls := .type "list", data := .seq ([] : List Value).toArray }).get? s.heap.objs.size = some { cls := .type "list", data := .seq #[] } := Heap.get?_push_size _ rfl
  have walk := tx_extend (A := A) (s := { s with heap := s.heap.push { cls := .type "list", data := .seq ([] : List Value).toArray } })
    (R := fun (f : Result) (s1 : Shared) => ∃ (h1 : Heap) (tk : Nat) (d : Drawn) (got : Array Value) (c1 : Nat), f = .ok (.ret (.ref s.heap.objs.size)) ∧ s1 = { s with heap := h1, toks := tk, drawn := d } ∧ (∀ b u, s.heap.get? b = some u → h1.get? b = some u) ∧
      h1.get? s.heap.objs.size = some { cls := .type "list", dict := none, data := .seq got c1, slots := #[] } ∧ ∃ l', StrsAre got.toList l' ∧ l'.Perm l)
    nh (Heap.get?_push_of_some _ ho) hS sz s.heap.objs.size (Nat.ne_of_gt lt0) (.ref s.heap.objs.size) new0
    (fun h1 tk d got c1 old at1 its => ⟨h1, tk, d, got, c1, rfl, rfl, fun b u e => old b u (Nat.ne_of_lt (Heap.lt_size e)) (Heap.get?_push_of_some _ e), at1, its⟩)
  have last : ∀ (h1 : Heap) (tk : Nat) (d : Drawn) (got : Array Value) (c1 : Nat), (∀ b u, s.heap.get? b = some u → h1.get? b = some u) → h1.get? s.heap.objs.size = some { cls := .type "list", dict := none, data := .seq got c1, slots := #[] } → (∃ l', StrsAre got.toList l' ∧ l'.Perm l) →
      wpAny (model X.prog X.w) A (load s.heap.objs.size >>= fun o => match o.data with | .seq xs _ => pure xs.toList | _ => unsupported "internal:collect") R E { s with heap := h1, toks := tk, drawn := d } :=
    fun h1 tk d got c1 old at1 its => wpAny_bind (wpAny_load at1 (wpAny_pure (k h1 tk d got.toList (Heap.lt_size at1) old its)))
  refine wpAny_mono walk (fun fin s1 x => ?_) fun e s1 x => ?_
  · cases fin with
    | done f =>
      obtain ⟨h1, tk, d, got, c1, ef, rfl, old, at1, its⟩ := x
      cases ef
      exact last h1 tk d got c1 old at1 its
    | again c =>
      refine ⟨x.1, codeAny_mono x.2 fun f s2 y => ?_⟩
      obtain ⟨h1, tk, d, got, c1, rfl, rfl, old, at1, its⟩ := y
      exact last h1 tk d got c1 old at1 its
  · obtain ⟨_, _, _, _, _, ef, _⟩ := x
    cases ef
noncomputable def rSrt (X : Cx) (xs : List V) (H : Hp) (Q : VK) : Prop := ∃ p m l, xs = [.ref p] ∧ H p = some (SetO X.prog X.w p m) ∧ m.Perm l ∧ m.length < 64 ∧ ∀ p', H p' = none → Q (.ref p') (upd H p' (.lst ((isort l).map V.str)))
theorem call_sortedS (hc : X.calm = true) : CallR X (.builtin "sorted") (rSrt X) := by
  intro pins s σ H xs us Q I rs ⟨a, m, l, ex, ha, pm, h64, q⟩
  subst ex
  obtain ⟨u, rfl, ru⟩ := rs.one
  cases ru
  obtain ⟨⟨o, ho, hS⟩, _, _⟩ := I.hok a _ ha
  have hn : m.length ≤ sizeLine := Nat.le_trans (Nat.le_of_lt h64) (by rw [sizeLine_eq]; decide)
  have hh : X.A.in1.handled = none := I.ok.hd hc
  refine Calls.call_function_entry kind_sorted plain_sorted entry_sorted (args_sorted1 _) ?_ -- here
  unfold Builtin.«sorted»
  refine wpAny_bind (m := checkCount "sorted" 1 1 _) (wpAny_pure (wpAny_bind ?_))
  refine tx_gather (A := X.A.in1) hh ho hS hn fun h' tk d got hlt keep hg => ?_
  obtain ⟨l', hs, hp⟩ := hg
  have hl : got.length = m.length := hs.length.trans hp.length_eq
  refine wpAny_bind (wpAny_newList ?_ (hl ▸ hn))
  have hoL : (h'.push (seqObj "list" got.toArray 0)).get? h'.objs.size = some (seqObj "list" got.toArray 0) := Heap.get?_push_size _ rfl
  refine wpAny_bind (wpAny_holding (wpAny_call_entry slot_list_sort ⟨_, hoL, rfl⟩ entry_list_sort (list_sort_treeK strKind_oneLt hoL hs.keysOf (fun v₁ v₂ rest e => keyKind_strs (by rw [← e]; exact hs)) (by rw [hl]; exact h64) fun st' a1 a2 => ⟨_, rfl, ?_⟩) (args_list_sort _)))
  refine wpAny_pure ⟨_, rfl, (?_ : EP X pins σ Q _ _)⟩
  obtain ⟨ss', b1, b2, b3⟩ := sorted_out_str hs a1 a2
  have es := isort_eq b3 ((b2.trans hp).trans pm)
  subst es
  have hle := Nat.le_of_lt hlt
  obtain ⟨e, he⟩ := sortedHeap_at (out := (arrOf st').map (·.2)) hoL
  have hsz : (List.map V.str (isort l)).length ≤ sizeLine := by
    rw [List.length_map, (isort_perm l).length_eq, ← pm.length_eq]
    exact hn
  have hnn : H h'.objs.size = none := I.hok.fresh hle
  refine ⟨.ref h'.objs.size, _, (Inv.drawn I d).laid (a := h'.objs.size) (o := .lst ((isort l).map V.str)) (t' := tk) (fun b u eb => ?_) hle ⟨hsz, _, e, vals_strs b1, he⟩, rfl, q _ hnn⟩
  have hb := Heap.lt_size (keep _ _ eb)
  rw [sortedHeap_old (Nat.ne_of_lt hb) (by rw [Heap.size_push]; exact Nat.lt_succ_of_lt hb)]
  exact Heap.get?_push_of_some _ (keep _ _ eb)
theorem tf_sortedSet (hc : X.calm = true) (hg : Gl X "sorted") (hm : X.mg "sorted" = none) (hg2 : Gl X "set") (hm2 : X.mg "set" = none) (ha : PE X e (tOf X.K B m1))
    (hs : starEach [e] X.env = [(false, eval e X.env)] := by rfl) (he : starEach [.Call (.Name "set" p2) [e] [] p3] X.env = (false, eval (.Call (.Name "set" p2) [e] [] p3) X.env) :: starEach [] X.env := by rfl)
    (hpl : (backTo p4 (starEach [] X.env)).any (·.1) = false := by rfl) (hpl3 : (backTo p3 (starEach [] X.env)).any (·.1) = false := by rfl) :
    PE X (.Call (.Name "sorted" p1) [.Call (.Name "set" p2) [e] [] p3] [] p4) (fOf X.K B (mMap sortedSetT (mCons m1 mNil))) := by
  have inner := pe_callTy (p := p2) (pos := p3) (call_setS hc) hg2 hm2 PyProof.Rows.boot_set (pa_cons ha pa_nil hs) (by decide) (by decide) hs hpl3
  refine (pe_callB (call_sortedS hc) hg hm PyProof.Rows.boot_sorted (pa_cons inner pa_nil he) (by decide) (by decide) he hpl).imp fun σ H Q ⟨st, ps, S, as, R, t, st', ev, q⟩ => ?_
  obtain ⟨ts, e1, e2⟩ := mMap_inv ev
  obtain ⟨t1, s1, us, ea, en, rfl⟩ := mCons_inv e1
  cases en
  cases t1 <;> simp only [sortedSetT, reduceCtorEq] at e2
  rename_i xs
  obtain ⟨l, f1, f2⟩ := Option.bind_eq_some_iff.mp e2
  split at f2
  · rename_i hz
    cases f2
    refine ⟨st, ps, S, as, R, _, _, ea, fun v H1 S1 as1 R1 => ?_⟩
    have top := R1.top
    cases top with
    | @lst a vs _ g1 g2 =>
      have evs := strs_vals g2 f1
      subst evs
      refine ⟨a, l, rfl, sqL_mono R1.sub g1, hz.2, fun p m hp pm => ⟨p, m, dedup l, rfl, upd_same, pm, by rw [pm.length_eq]; exact hz.2, fun p2 hp2 => ?_⟩⟩
      have R2 := R1.drop.ext (Ext.junk R1.sub hp (SetO X.prog X.w p m))
      obtain ⟨z1, z2, z3, z4⟩ := R2.fresh hp2
      exact q _ _ _ _ (R2.poke z1 z2 z3 z4) ⟨⟨_, upd_same, reps_strs _⟩, z2, z3, z1⟩ z4
  · cases f2
theorem te_sortedSet (hc : X.calm = true) (hg : Gl X "sorted") (hm : X.mg "sorted" = none) (hg2 : Gl X "set") (hm2 : X.mg "set" = none) (ha : PE X e (tOf X.K B m1))
    (hs : starEach [e] X.env = [(false, eval e X.env)] := by rfl) (he : starEach [.Call (.Name "set" p2) [e] [] p3] X.env = (false, eval (.Call (.Name "set" p2) [e] [] p3) X.env) :: starEach [] X.env := by rfl)
    (hpl : (backTo p4 (starEach [] X.env)).any (·.1) = false := by rfl) (hpl3 : (backTo p3 (starEach [] X.env)).any (·.1) = false := by rfl) :
    PE X (.Call (.Name "sorted" p1) [.Call (.Name "set" p2) [e] [] p3] [] p4) (tOf X.K B (mMap sortedSetT (mCons m1 mNil))) := te_fresh (tf_sortedSet hc hg hm hg2 hm2 ha hs he hpl hpl3)
end
end C
end
noncomputable section
set_option linter.all false
set_option maxRecDepth 100000
set_option maxHeartbeats 4000002
set_option autoImplicit false
namespace C
open PySem PySem.Spec PyProof.Rows L2
open AutoSeq1 (wpAny_loadPart') -- here
open MeetsSeq MeetsSeq2 MeetsSeq3 -- here
noncomputable section
variable {prog : Program} {w : World} -- here
end
noncomputable section
variable {X : Cx} {pins : List (Addr × Obj)} {σ : L2.St} {H S : Hp} {s : Shared} {as : List Addr}
end
end C
end
noncomputable section
set_option linter.all false
set_option maxRecDepth 100000
set_option maxHeartbeats 4000002
set_option autoImplicit false
namespace C
open PySem PySem.Spec PyProof.Rows L2
theorem law_spE {K : PySem.W.Frag} {F : Fn} {H : Hp} {a : Addr} {ns : List Int} (hS : SqL K H a (ns.map V.int)) (hE : ∃ st, F [.lst (ns.map T.int)] [] = some (.bl true, st)) : spF K 1 F [.ref a] H (fun v _ => v = .bl true) fun _ _ _ => False := by
  obtain ⟨st, hF⟩ := hE
  have reps : ∀ (S : Hp) (l : List Int), Reps K S [] (l.map V.int) (l.map T.int) := fun S l => by
    induction l with
    | nil => exact .nil
    | cons x l ih => exact .cons (.int x) ih
  let S : Hp := fun p => if p = a then H p else none
  have sa : S a = H a := if_pos rfl
  have sub : Same S H := fun p u h => by
    by_cases e : p = a
    · subst e; rw [← sa]; exact h
    · have : S p = none := if_neg e
      rw [this] at h; cases h
  have sq : SqL K S a (ns.map V.int) := by
    rcases hS with h | h
    · refine .inl ?_
      unfold Rd at h ⊢
      rw [sa]; exact h
    · exact .inr h
  refine ⟨S, [], [], [.lst (ns.map T.int)], .bl true, st, sub, ⟨rfl, .nil, fun n so e => by simp at e⟩, .cons (.lst sq (reps S ns)) .nil, rfl, hF, fun v H' S' as' _ _ _ r => ?_⟩
  cases r
  rfl
end C
end
noncomputable section
set_option linter.all false
set_option maxRecDepth 100000
set_option autoImplicit false
namespace C
open PySem
theorem compL_map {α : Type} {h f : α → T} {g : G} {c : M Bool} {e : M T} {nv : Nat} {cap : List Slot} {sto : List SO} (hcap : cap.map thaw = cap) :
    ∀ (l : List α) (acc : List T) (pre : List Slot), pre.length = nv → acc.length + l.length ≤ lim →
      (∀ a ∈ l, ∀ pre : List Slot, pre.length = nv → ∃ pre', pre'.length = nv ∧ g (h a) ⟨pre ++ cap, sto⟩ = some ⟨pre' ++ cap, sto⟩ ∧ c ⟨pre' ++ cap, sto⟩ = some (true, ⟨pre' ++ cap, sto⟩) ∧ e ⟨pre' ++ cap, sto⟩ = some (f a, ⟨pre' ++ cap, sto⟩)) →
      ∃ s', compL g c e (l.map h) ⟨pre ++ cap, sto⟩ acc = some (acc ++ l.map f, s') ∧ s'.sto = sto
  | [], acc, pre, hp, hl, H => ⟨⟨pre ++ cap, sto⟩, by simp [compL], rfl⟩
  | a :: l, acc, pre, hp, hl, H => by
    obtain ⟨pre', p1, p2, p3, p4⟩ := H a List.mem_cons_self pre hp
    have hlen : acc.length < lim := by simp at hl ⊢; omega
    obtain ⟨s', q1, q2⟩ := compL_map hcap l (acc ++ [f a]) (pre'.map thaw) (by simpa using p1) (by simp at hl ⊢; omega) fun b hb => H b (List.mem_cons_of_mem _ hb)
    refine ⟨s', ?_, q2⟩
    rw [List.map_cons, compL, p2]
    dsimp only
    rw [p3]
    dsimp only
    rw [p4]
    dsimp only
    rw [if_pos hlen, freezeAll]
    dsimp only
    rw [List.map_append, hcap, q1]
    simp
theorem mComp_map {α : Type} (h f : α → T) (l : List α) {g : G} {c : M Bool} {e : M T} {nv : Nat} {ci : List Nat} {it : M (List T)} {s s1 : Sta} (env : List Slot) (cap : List Slot) (hit : it s = some (l.map h, s1)) (henv : freezeAt ci s1.env = env) (hci : ci.map (fun i => (env[i]?).getD none) = cap) (hcap : cap.map thaw = cap) (hl : l.length ≤ lim)
    (H : ∀ a ∈ l, ∀ pre : List Slot, pre.length = nv → ∃ pre', pre'.length = nv ∧ g (h a) ⟨pre ++ cap, s1.sto⟩ = some ⟨pre' ++ cap, s1.sto⟩ ∧ c ⟨pre' ++ cap, s1.sto⟩ = some (true, ⟨pre' ++ cap, s1.sto⟩) ∧ e ⟨pre' ++ cap, s1.sto⟩ = some (f a, ⟨pre' ++ cap, s1.sto⟩)) :
    mComp nv ci g it c e s = some (.lst (l.map f), ⟨env, s1.sto⟩) := by
  obtain ⟨s', q1, q2⟩ := compL_map hcap l [] (List.replicate nv none) (by simp) (by simpa using hl) H
  unfold mComp
  rw [hit]
  dsimp only
  rw [henv, hci, q1]
  dsimp only
  rw [q2]; rfl
noncomputable def okS (x : Str) : Prop := PyData.canLay0 (.str x) = true
theorem dat_str {x : Str} (h : okS x) : dat (.str x) = some (.str x) := by
  unfold okS at h
  simp [dat, h]
theorem neO_str {a b : Str} (ha : okS a) (hb : okS b) : neO (.str a) (.str b) = some (.bl (!(a == b))) := by
  simp [neO, eqT, eqD, dat_str ha, dat_str hb, PyData.depth, PyData.eqv]
noncomputable def Pl (n : Nat) (t : T) : Prop := ∃ d, dat t = some d ∧ d.depth ≤ n
theorem pl_int (n : Nat) (i : Int) : Pl n (.int i) := ⟨.int i, by simp [dat], by simp [PyData.depth]⟩
theorem pl_str (n : Nat) {x : Str} (h : okS x) : Pl n (.str x) := ⟨.str x, dat_str h, by simp [PyData.depth]⟩
theorem pls {n : Nat} : ∀ ts : List T, (∀ t ∈ ts, Pl n t) → ∃ ds, dats ts = some ds ∧ PyData.depthAll ds ≤ n
  | [], _ => ⟨[], by simp [dats], by simp [PyData.depthAll]⟩
  | t :: r, h => by
    obtain ⟨d, d1, d2⟩ := h t List.mem_cons_self
    obtain ⟨ds, e1, e2⟩ := pls r fun x hx => h x (List.mem_cons_of_mem _ hx)
    exact ⟨d :: ds, by simp [dats, d1, e1], by simp only [PyData.depthAll]; omega⟩
theorem pl_tup {n : Nat} {ts : List T} (h : ∀ t ∈ ts, Pl n t) : Pl (n + 1) (.tup ts) := by
  obtain ⟨ds, e1, e2⟩ := pls ts h
  exact ⟨.tuple ds, by simp [dat, e1], by simp only [PyData.depth]; omega⟩
theorem pl_lst {n : Nat} {ts : List T} (h : ∀ t ∈ ts, Pl n t) : Pl (n + 1) (.lst ts) := by
  obtain ⟨ds, e1, e2⟩ := pls ts h
  exact ⟨.list ds, by simp [dat, e1], by simp only [PyData.depth]; omega⟩
mutual
theorem eqv_self : ∀ d : PyData, d.canLay0 = true → PyData.eqv d d = true
  | .none, _ => by simp [PyData.eqv]
  | .bool b, _ => by simp [PyData.eqv] -- here
  | .int i, _ => by simp [PyData.eqv] -- here
  | .str x, _ => by simp [PyData.eqv] -- here
  | .list xs, h => by simp only [PyData.eqv]; exact eqvs_self xs (by simpa [PyData.canLay0] using h)
  | .tuple xs, h => by simp only [PyData.eqv]; exact eqvs_self xs (by simpa [PyData.canLay0] using h)
  | .dict _, h => by simp [PyData.canLay0] at h
theorem eqvs_self : ∀ xs : List PyData, PyData.canLayAll0 xs = true → PyData.eqvAll xs xs = true
  | [], _ => by simp [PyData.eqvAll]
  | x :: xs, h => by
    simp only [PyData.canLayAll0, Bool.and_eq_true] at h
    simp only [PyData.eqvAll, eqv_self x h.1, eqvs_self xs h.2, Bool.and_self]
end
end C
namespace C
open PySem
theorem forL_go {g : G} {b : S} (P : List T → Sta → Prop) (H : ∀ t r s, P (t :: r) s → ∃ s1 s2, g t s = some s1 ∧ b s1 = some (.next, s2) ∧ P r s2) : ∀ (ts : List T) (s : Sta), P ts s → ∃ s', forL g b ts s = some (.next, s') ∧ P [] s'
  | [], s, h => ⟨s, by simp [forL], h⟩
  | t :: r, s, h => by
    obtain ⟨s1, s2, h1, h2, h3⟩ := H t r s h
    obtain ⟨s', e, p⟩ := forL_go P H r s2 h3
    refine ⟨s', ?_, p⟩
    rw [forL]; dsimp only; rw [h1]; dsimp only; rw [h2]; dsimp only; exact e
theorem forL_at {g : G} {b : S} {ts : List T} {s : Sta} {r : Option (Flow × Sta)} (hF : forL g b ts s = r) (P : List T → Sta → Prop) (hP : P ts s) (H : ∀ t r s, P (t :: r) s → ∃ s1 s2, g t s = some s1 ∧ b s1 = some (.next, s2) ∧ P r s2) : ∃ s', r = some (.next, s') ∧ P [] s' := by
  obtain ⟨s', e, p⟩ := forL_go P H ts s hP
  exact ⟨s', hF.symm.trans e, p⟩
end C
namespace C
open PySem
theorem mComp_at {α : Type} {g : G} {c : M Bool} {e : M T} {nv : Nat} {ci : List Nat} {it : M (List T)} {s : Sta} {r : Option (T × Sta)} (hF : mComp nv ci g it c e s = r) (h f : α → T) (l : List α) (s1 : Sta) (env cap : List Slot) (hit : it s = some (l.map h, s1)) (henv : freezeAt ci s1.env = env) (hci : ci.map (fun i => (env[i]?).getD none) = cap) (hcap : cap.map thaw = cap) (hl : l.length ≤ lim)
    (H : ∀ a ∈ l, ∀ pre : List Slot, pre.length = nv → ∃ pre', pre'.length = nv ∧ g (h a) ⟨pre ++ cap, s1.sto⟩ = some ⟨pre' ++ cap, s1.sto⟩ ∧ c ⟨pre' ++ cap, s1.sto⟩ = some (true, ⟨pre' ++ cap, s1.sto⟩) ∧ e ⟨pre' ++ cap, s1.sto⟩ = some (f a, ⟨pre' ++ cap, s1.sto⟩)) :
    r = some (.lst (l.map f), ⟨env, s1.sto⟩) := hF.symm.trans (mComp_map h f l env cap hit henv hci hcap hl H)
theorem itemT_lst {α : Type} (h : α → T) (l : List α) {i : Int} (h0 : 0 ≤ i) (h1 : i < l.length) : ∃ a ∈ l, itemT (.lst (l.map h)) (.int i) = some (h a) := by
  have hi : i.toNat < l.length := by omega
  refine ⟨l[i.toNat], List.getElem_mem hi, ?_⟩
  simp [itemT, ixI, h0, h1, List.getElem?_eq_getElem hi]
theorem itemT_at {α : Type} (h : α → T) (l : List α) {k : Nat} (hk : k < l.length) : itemT (.lst (l.map h)) (.int (k : Int)) = some (h l[k]) := by
  have h1 : (k : Int) < (l.length : Int) := by omega
  simp [itemT, ixI, h1, List.getElem?_eq_getElem hk]
end C
end
noncomputable section
set_option linter.all false
set_option maxRecDepth 100000
set_option autoImplicit false
namespace C
open PySem
theorem compL_filter {α : Type} {h f : α → T} {q : α → Bool} {g : G} {c : M Bool} {e : M T} {nv : Nat} {cap : List Slot} {sto : List SO} (hcap : cap.map thaw = cap) :
    ∀ (l : List α) (acc : List T) (pre : List Slot), pre.length = nv → acc.length + l.length ≤ lim →
      (∀ a ∈ l, ∀ pre : List Slot, pre.length = nv → ∃ pre', pre'.length = nv ∧ g (h a) ⟨pre ++ cap, sto⟩ = some ⟨pre' ++ cap, sto⟩ ∧ c ⟨pre' ++ cap, sto⟩ = some (q a, ⟨pre' ++ cap, sto⟩) ∧ (q a = true → e ⟨pre' ++ cap, sto⟩ = some (f a, ⟨pre' ++ cap, sto⟩))) →
      ∃ s', compL g c e (l.map h) ⟨pre ++ cap, sto⟩ acc = some (acc ++ (l.filter q).map f, s') ∧ s'.sto = sto
  | [], acc, pre, hp, hl, H => ⟨⟨pre ++ cap, sto⟩, by simp [compL], rfl⟩
  | a :: l, acc, pre, hp, hl, H => by
    obtain ⟨pre', p1, p2, p3, p4⟩ := H a List.mem_cons_self pre hp
    have hlen : acc.length < lim := by simp at hl ⊢; omega
    rw [List.map_cons, compL, p2]
    dsimp only
    rw [p3]
    cases hq : q a with
    | true =>
      obtain ⟨s', q1, q2⟩ := compL_filter hcap l (acc ++ [f a]) (pre'.map thaw) (by simpa using p1) (by simp at hl ⊢; omega) fun b hb => H b (List.mem_cons_of_mem _ hb)
      refine ⟨s', ?_, q2⟩
      dsimp only
      rw [p4 hq]
      dsimp only
      rw [if_pos hlen, freezeAll]
      dsimp only
      rw [List.map_append, hcap, q1]
      simp [hq]
    | false =>
      obtain ⟨s', q1, q2⟩ := compL_filter hcap l acc (pre'.map thaw) (by simpa using p1) (by simp at hl ⊢; omega) fun b hb => H b (List.mem_cons_of_mem _ hb)
      refine ⟨s', ?_, q2⟩
      dsimp only
      rw [freezeAll]
      dsimp only
      rw [List.map_append, hcap, q1]
      simp [hq]
theorem mComp_met {α : Type} {g : G} {c : M Bool} {e : M T} {nv : Nat} {ci : List Nat} {it : M (List T)} {s : Sta} {r : Option (T × Sta)} (hF : mComp nv ci g it c e s = r) (h f : α → T) (q : α → Bool) (l : List α) (s1 : Sta) (env cap : List Slot) (hit : it s = some (l.map h, s1)) (henv : freezeAt ci s1.env = env) (hci : ci.map (fun i => (env[i]?).getD none) = cap) (hcap : cap.map thaw = cap) (hl : l.length ≤ lim)
    (H : ∀ a ∈ l, ∀ pre : List Slot, pre.length = nv → ∃ pre', pre'.length = nv ∧ g (h a) ⟨pre ++ cap, s1.sto⟩ = some ⟨pre' ++ cap, s1.sto⟩ ∧ c ⟨pre' ++ cap, s1.sto⟩ = some (q a, ⟨pre' ++ cap, s1.sto⟩) ∧ (q a = true → e ⟨pre' ++ cap, s1.sto⟩ = some (f a, ⟨pre' ++ cap, s1.sto⟩))) :
    r = some (.lst ((l.filter q).map f), ⟨env, s1.sto⟩) := by
  obtain ⟨s', q1, q2⟩ := compL_filter hcap l [] (List.replicate nv none) (by simp) (by simpa using hl) H
  rw [← hF]
  unfold mComp
  rw [hit]
  dsimp only
  rw [henv, hci, q1]
  dsimp only
  rw [q2]; rfl
theorem eqD_self {n : Nat} {t : T} (h : Pl n t) (hn : n ≤ 40) : eqD t t = some true := by
  obtain ⟨d, e1, e2⟩ := h
  have : d.depth ≤ 40 := Nat.le_trans e2 hn
  simp [eqD, e1, this, eqv_self d (dat_lay _ e1)]
theorem eqT_same {n : Nat} {t : T} (h : Pl n t) (hn : n ≤ 40) : eqT t t = some true := by
  cases t with
  | dic k => obtain ⟨d, e1, _⟩ := h; simp [dat] at e1
  | _ => exact eqD_self h hn
theorem neO_same {n : Nat} {t : T} (h : Pl n t) (hn : n ≤ 40) : neO t t = some (.bl false) := by simp [neO, eqT_same h hn]
theorem eqO_int {a b : Int} : eqO (.int a) (.int b) = some (.bl (a == b)) := by simp [eqO, eqT, eqD, dat, PyData.depth, PyData.eqv]
theorem neO_int {a b : Int} : neO (.int a) (.int b) = some (.bl (!(a == b))) := by simp [neO, eqT, eqD, dat, PyData.depth, PyData.eqv]
theorem eqD_str {a b : Str} (ha : okS a) (hb : okS b) : eqD (.str a) (.str b) = some (a == b) := by
  simp [eqD, dat_str ha, dat_str hb, PyData.depth, PyData.eqv]
theorem eqO_str {a b : Str} (ha : okS a) (hb : okS b) : eqO (.str a) (.str b) = some (.bl (a == b)) := by
  simp [eqO, eqT, eqD, dat_str ha, dat_str hb, PyData.depth, PyData.eqv]
theorem itemU_n {xs : List T} {k : Nat} {t : T} (h : xs[k]? = some t) : itemT (.tup xs) (.int (k : Int)) = some t := by
  have hk : k < xs.length := (List.getElem?_eq_some_iff.mp h).1
  have h1 : (k : Int) < (xs.length : Int) := by omega
  simp [itemT, ixI, h1, h]
theorem item0t {a : T} {r : List T} : itemT (.tup (a :: r)) (.int 0) = some a := itemU_n (k := 0) rfl
theorem item1t {a b : T} {r : List T} : itemT (.tup (a :: b :: r)) (.int 1) = some b := itemU_n (k := 1) rfl
theorem item2t {a b c : T} {r : List T} : itemT (.tup (a :: b :: c :: r)) (.int 2) = some c := itemU_n (k := 2) rfl
theorem item3t {a b c d : T} {r : List T} : itemT (.tup (a :: b :: c :: d :: r)) (.int 3) = some d := itemU_n (k := 3) rfl
theorem flatMap_eq {α β : Type} {f g : α → List β} : ∀ {l : List α}, (∀ a ∈ l, f a = g a) → l.flatMap f = l.flatMap g
  | [], _ => rfl
  | a :: l, h => by rw [List.flatMap_cons, List.flatMap_cons, h a List.mem_cons_self, flatMap_eq fun b hb => h b (List.mem_cons_of_mem _ hb)]
theorem hTup2 {i j : Nat} {x y : T} {s : Sta} : hTup [i, j] (.tup [x, y]) s = some (putSlot j y false (putSlot i x false s)) := by simp [hTup]
theorem seq_next {a b c : S} {s s' : Sta} (h : sSeq a b s = some (.next, s')) : sSeq a (sSeq b c) s = c s' := by
  unfold sSeq at h ⊢
  cases ha : a s with
  | none => rw [ha] at h; cases h
  | some p =>
    obtain ⟨fl, s1⟩ := p
    rw [ha] at h
    cases fl with
    | next => dsimp only at h ⊢; rw [h]
    | _ => cases h
theorem seq_step {a b : S} {s s' : Sta} (h : a s = some (.next, s')) : sSeq a b s = b s' := by unfold sSeq; rw [h]
noncomputable def Out (r : Option (T × List SO)) (P : T → List SO → Prop) : Prop := ∃ t s, r = some (t, s) ∧ P t s
theorem Out.of {t : T} {s : List SO} {P : T → List SO → Prop} (h : P t s) : Out (some (t, s)) P := ⟨t, s, rfl, h⟩
theorem while_next {n : Nat} {c : M Bool} {b : S} {s s1 s2 : Sta} (hc : c s = some (true, s1)) (hb : b s1 = some (.next, s2)) : whileN (n + 1) c b s = whileN n c b s2 := by
  rw [whileN]; dsimp only; rw [hc]; dsimp only; rw [hb]
theorem while_stop {n : Nat} {c : M Bool} {b : S} {s s1 : Sta} (hc : c s = some (false, s1)) : whileN (n + 1) c b s = some (.next, s1) := by
  rw [whileN]; dsimp only; rw [hc]
end C
end
noncomputable section
set_option linter.all false
namespace K
open C PySem
noncomputable def m_boxes_of : Fn := runFn 1
  (sRet (mComp 2 [] (hTup [0, 1]) (iSeq (mOp itemT (mVar 0) (mPure (.int 1)))) mTrue (mVar 0)))
noncomputable def m_members_of : Fn := runFn 1
  (sSeq (sIf (mTest (mOp eqO (mOp itemT (mVar 0) (mPure (.int 0))) (mPure (.str "not"))))
  (sRet (mMap (fun l => some (.tup l)) (mCons (mOp itemT (mVar 0) (mPure (.int 1))) mNil)))
  sNil)
  (sRet (mIf (mTest (mOp inT (mOp itemT (mVar 0) (mPure (.int 0))) (mMap (fun l => some (.tup l)) (mCons (mPure (.str "and")) (mCons (mPure (.str "or")) mNil))))) (mOp itemT (mVar 0) (mPure (.int 1))) (mMap (fun l => some (.tup l)) mNil))))
noncomputable def m_parts_of : Fn := runFn 4
  (sSeq (sNew 1 (mMap (fun l => some (.lst l)) mNil))
  (sSeq (sNew 2 (mMap (fun l => some (.lst l)) (mCons (mVar 0) mNil)))
  (sSeq (whileN 1000 (mTest (mOp gtT (mOwnLen 2) (mPure (.int 0))))
  (sSeq (sPop 2 3)
  (sSeq (sAppend 1 (mVar 3))
  (sExtend 2 (mUn revT (mCall m_members_of (mCons (mVar 3) mNil)))))))
  (sRet (mVar 1)))))
noncomputable def m_boxes_from_left : Fn := runFn 3
  (sSeq (sNew 1 (mMap (fun l => some (.lst l)) mNil))
  (sSeq (sFor (hName 2) (iSeq (mCall m_parts_of (mCons (mVar 0) mNil)))
  (sIf (mTest (mOp inT (mOp itemT (mVar 2) (mPure (.int 0))) (mMap (fun l => some (.tup l)) (mCons (mPure (.str "most")) (mCons (mPure (.str "rest")) mNil)))))
  (sExtend 1 (mCall m_boxes_of (mCons (mOp itemT (mVar 2) (mPure (.int 1))) mNil)))
  sNil))
  (sRet (mVar 1))))
noncomputable def m_ats_from_left : Fn := runFn 1
  (sRet (mComp 1 [] (hName 0) (iSeq (mCall m_parts_of (mCons (mVar 0) mNil))) (mTest (mOp eqO (mOp itemT (mVar 0) (mPure (.int 0))) (mPure (.str "at")))) (mVar 0)))
noncomputable def m_boxes_in : Fn := runFn 1
  (sRet (mMap sortedSetT (mCons (mCall m_boxes_from_left (mCons (mVar 0) mNil)) mNil)))
noncomputable def m_hands_in : Fn := runFn 1
  (sRet (mMap sortedSetT (mCons (mComp 1 [] (hName 0) (iSeq (mCall m_ats_from_left (mCons (mVar 0) mNil))) mTrue (mOp itemT (mVar 0) (mPure (.int 1)))) mNil)))
noncomputable def m_meets : Fn := runFn 2
  (sRet (mMap anyT (mCons (mComp 1 [1] (hName 0) (iSeq (mVar 0)) mTrue (mOp inT (mVar 0) (mVar 1))) mNil)))
noncomputable def m_changed_by : Fn := runFn 1
  (sRet (mOp addT (mMap (fun l => some (.lst l)) (mCons (mMap (fun l => some (.tup l)) (mCons (mPure (.str "hand")) (mCons (mOp itemT (mVar 0) (mPure (.int 0))) mNil))) mNil)) (mComp 2 [] (hTup [0, 1]) (iSeq (mOp itemT (mVar 0) (mPure (.int 3)))) mTrue (mMap (fun l => some (.tup l)) (mCons (mPure (.str "box")) (mCons (mVar 0) mNil))))))
noncomputable def m_named_by : Fn := runFn 5
  (sSeq (sSet 1 (mCall m_hands_in (mCons (mOp itemT (mVar 0) (mPure (.int 2))) mNil)))
  (sSeq (sNew 2 (mCall m_boxes_in (mCons (mOp itemT (mVar 0) (mPure (.int 2))) mNil)))
  (sSeq (sFor (hTup [3, 4]) (iSeq (mOp itemT (mVar 0) (mPure (.int 3))))
  (sExtend 2 (mCall m_boxes_of (mCons (mVar 4) mNil))))
  (sRet (mOp addT (mOp addT (mCall m_changed_by (mCons (mVar 0) mNil)) (mComp 1 [] (hName 0) (iSeq (mVar 1)) mTrue (mMap (fun l => some (.tup l)) (mCons (mPure (.str "hand")) (mCons (mVar 0) mNil))))) (mComp 1 [] (hName 0) (iSeq (mVar 2)) mTrue (mMap (fun l => some (.tup l)) (mCons (mPure (.str "box")) (mCons (mVar 0) mNil)))))))))
noncomputable def m_parted : Fn := runFn 5
  (sSeq (sSet 3 (mOp itemT (mOp itemT (mVar 0) (mPure (.int 2))) (mVar 1)))
  (sSeq (sSet 4 (mOp itemT (mOp itemT (mVar 0) (mPure (.int 2))) (mVar 2)))
  (sRet (mBool (mNot (mTest (mBool (mOr (mTest (mCall m_meets (mCons (mCall m_changed_by (mCons (mVar 3) mNil)) (mCons (mCall m_named_by (mCons (mVar 4) mNil)) mNil)))) (mTest (mCall m_meets (mCons (mCall m_changed_by (mCons (mVar 4) mNil)) (mCons (mCall m_named_by (mCons (mVar 3) mNil)) mNil))))))))))))
noncomputable def m_law_cell_at : Fn := runFn 2
  (sSeq (sIf (mTest (mOp ltT (mVar 1) (mMap lenT (mCons (mVar 0) mNil))))
  (sRet (mOp itemT (mVar 0) (mVar 1)))
  sNil)
  (sRet (mPure (.int 0))))
noncomputable def m_law_pick : Fn := runFn 3
  (sSeq (sIf (mTest (mOp eqO (mObjLen (mVar 0)) (mPure (.int 2))))
  (sObjApp 0 (mObjIx (mVar 0) (mPure (.int 0))))
  sNil)
  (sSeq (sIf (mAnd (mTest (mOp eqO (mObjIx (mVar 0) (mPure (.int 1))) (mPure (.int 0)))) (mTest (mOp inT (mObjIx (mVar 0) (mPure (.int 0))) (mMap (fun l => some (.lst l)) (mCons (mPure (.int 0)) (mCons (mUn negT (mPure (.int 1))) mNil))))))
  (sSeq (sObjIx (mVar 0) (mPure (.int 0)) (mOp addT (mObjIx (mVar 0) (mPure (.int 2))) (mPure (.int 1013))))
  (sObjIx (mVar 0) (mPure (.int 1)) (mPure (.int 1))))
  sNil)
  (sSeq (sIf (mTest (mOp eqO (mObjIx (mVar 0) (mPure (.int 1))) (mPure (.int 0))))
  (sSeq (sSet 2 (mOp modT (mObjIx (mVar 0) (mPure (.int 0))) (mVar 1)))
  (sSeq (sObjIx (mVar 0) (mPure (.int 0)) (mOp fdivT (mObjIx (mVar 0) (mPure (.int 0))) (mVar 1)))
  (sRet (mVar 2))))
  sNil)
  (sSeq (sObjIx (mVar 0) (mPure (.int 0)) (mOp modT (mOp addT (mOp mulT (mOp modT (mObjIx (mVar 0) (mPure (.int 0))) (mPure (.int 2147483647))) (mPure (.int 48271))) (mPure (.int 1013))) (mPure (.int 2147483629))))
  (sRet (mOp modT (mOp fdivT (mOp modT (mOp mulT (mObjIx (mVar 0) (mPure (.int 0))) (mPure (.int 69621))) (mPure (.int 2147483587))) (mPure (.int 11))) (mVar 1)))))))
noncomputable def m_law_name : Fn := runFn 4
  (sSeq (sIf (mTest (mOp eqO (mOp modT (mOp fdivT (mVar 0) (mPure (.int 640))) (mPure (.int 4))) (mPure (.int 1))))
  (sRet (mOp itemT (mMap (fun l => some (.lst l)) (mStrs ["b", "ab", "abc", "abcd", "a", "ba", "aab", "b1", "bab", "ab1"])) (mOp modT (mVar 1) (mPure (.int 10)))))
  sNil)
  (sSeq (sSet 2 (mOp addT (mPure (.int 1)) (mOp modT (mVar 0) (mPure (.int 8)))))
  (sSeq (sSet 3 (mOp modT (mOp fdivT (mVar 0) (mPure (.int 8))) (mVar 2)))
  (sRet (mOp addT (mOp addT (mOp mulT (mPure (.str "q")) (mVar 3)) (mOp itemT (mPure (.str "abcdefghij")) (mOp modT (mOp addT (mOp mulT (mPure (.int 3)) (mVar 1)) (mOp fdivT (mVar 0) (mPure (.int 64)))) (mPure (.int 10))))) (mOp mulT (mPure (.str "q")) (mOp subT (mOp subT (mVar 2) (mPure (.int 1))) (mVar 3))))))))
noncomputable def m_law_sum : Fn := runFn 6
  (sSeq (sSet 2 (mOp subT (mCall m_law_pick (mCons (mVar 0) (mCons (mPure (.int 5)) mNil))) (mPure (.int 2))))
  (sSeq (sIf (mTest (mOp eqO (mCall m_law_pick (mCons (mVar 0) (mCons (mPure (.int 9)) mNil))) (mPure (.int 8))))
  (sSet 2 (mOp subT (mCall m_law_pick (mCons (mVar 0) (mCons (mOp subT (mOp mulT (mPure (.int 2)) (mOp powT (mPure (.int 10)) (mPure (.int 9)))) (mPure (.int 1))) mNil))) (mOp subT (mOp powT (mPure (.int 10)) (mPure (.int 9))) (mPure (.int 1)))))
  sNil)
  (sSeq (sNew 3 (mMap (fun l => some (.lst l)) mNil))
  (sSeq (sFor (hName 4) (iSeq (mMap sortedT (mCons (mVar 1) mNil)))
  (sSeq (sSet 5 (mOp itemT (mMap (fun l => some (.lst l)) (mCons (mPure (.int 0)) (mCons (mPure (.int 0)) (mCons (mPure (.int 1)) (mCons (mPure (.int 1)) (mCons (mUn negT (mPure (.int 1))) (mCons (mPure (.int 2)) (mCons (mOp subT (mCall m_law_pick (mCons (mVar 0) (mCons (mPure (.int 7)) mNil))) (mPure (.int 3))) mNil)))))))) (mCall m_law_pick (mCons (mVar 0) (mCons (mPure (.int 7)) mNil)))))
  (sIf (mTest (mOp neO (mVar 5) (mPure (.int 0))))
  (sAppend 3 (mMap (fun l => some (.tup l)) (mCons (mVar 4) (mCons (mVar 5) mNil))))
  sNil)))
  (sRet (mMap (fun l => some (.tup l)) (mCons (mVar 2) (mCons (mMap tupleT (mCons (mVar 3) mNil)) mNil))))))))
noncomputable def m_law_simple : Fn := runFn 7
  (sSeq (sSet 3 (mCall m_law_pick (mCons (mVar 0) (mCons (mPure (.int 4)) mNil))))
  (sSeq (sIf (mTest (mOp eqO (mVar 3) (mPure (.int 0))))
  (sSeq (sGo (hTup [4, 5]) (mOp itemT (mVar 2) (mCall m_law_pick (mCons (mVar 0) (mCons (mMap lenT (mCons (mVar 2) mNil)) mNil)))))
  (sRet (mMap (fun l => some (.tup l)) (mCons (mPure (.str "at")) (mCons (mVar 4) (mCons (mCall m_law_pick (mCons (mVar 0) (mCons (mVar 5) mNil))) mNil))))))
  sNil)
  (sSeq (sSet 6 (mCall m_law_sum (mCons (mVar 0) (mCons (mVar 1) mNil))))
  (sSeq (sIf (mTest (mOp eqO (mVar 3) (mPure (.int 1))))
  (sRet (mMap (fun l => some (.tup l)) (mCons (mPure (.str "rest")) (mCons (mVar 6) (mCons (mOp addT (mPure (.int 2)) (mCall m_law_pick (mCons (mVar 0) (mCons (mPure (.int 11)) mNil)))) mNil)))))
  sNil)
  (sRet (mMap (fun l => some (.tup l)) (mCons (mPure (.str "most")) (mCons (mVar 6) mNil))))))))
noncomputable def m_law_remark : Fn := runFn 7
  (sSeq (sSet 3 (mCall m_law_pick (mCons (mVar 0) (mCons (mPure (.int 11)) mNil))))
  (sSeq (sIf (mTest (mOp ltT (mVar 3) (mPure (.int 2))))
  (sRet (mMap (fun l => some (.tup l)) (mCons (mPure (.str "and")) (mCons (mMap (fun l => some (.tup l)) mNil) mNil))))
  sNil)
  (sSeq (sSet 4 (mCall m_law_simple (mCons (mVar 0) (mCons (mVar 1) (mCons (mVar 2) mNil)))))
  (sSeq (sIf (mTest (mOp ltT (mVar 3) (mPure (.int 5))))
  (sRet (mVar 4))
  sNil)
  (sSeq (sIf (mTest (mOp eqO (mVar 3) (mPure (.int 5))))
  (sRet (mMap (fun l => some (.tup l)) (mCons (mPure (.str "not")) (mCons (mVar 4) mNil))))
  sNil)
  (sSeq (sSet 5 (mMap (fun l => some (.tup l)) (mCons (mOp itemT (mMap (fun l => some (.lst l)) (mCons (mPure (.str "and")) (mCons (mPure (.str "or")) mNil))) (mOp modT (mVar 3) (mPure (.int 2)))) (mCons (mMap (fun l => some (.tup l)) (mCons (mVar 4) (mCons (mCall m_law_simple (mCons (mVar 0) (mCons (mVar 1) (mCons (mVar 2) mNil)))) mNil))) mNil))))
  (sSeq (sIf (mTest (mOp ltT (mVar 3) (mPure (.int 8))))
  (sRet (mVar 5))
  sNil)
  (sSeq (sIf (mTest (mOp eqO (mVar 3) (mPure (.int 8))))
  (sRet (mMap (fun l => some (.tup l)) (mCons (mPure (.str "not")) (mCons (mMap (fun l => some (.tup l)) (mCons (mOp itemT (mMap (fun l => some (.lst l)) (mCons (mPure (.str "and")) (mCons (mPure (.str "or")) mNil))) (mCall m_law_pick (mCons (mVar 0) (mCons (mPure (.int 2)) mNil)))) (mCons (mOp itemT (mVar 5) (mPure (.int 1))) mNil))) mNil))))
  sNil)
  (sSeq (sIf (mTest (mOp eqO (mVar 3) (mPure (.int 9))))
  (sRet (mMap (fun l => some (.tup l)) (mCons (mOp itemT (mMap (fun l => some (.lst l)) (mCons (mPure (.str "and")) (mCons (mPure (.str "or")) mNil))) (mCall m_law_pick (mCons (mVar 0) (mCons (mPure (.int 2)) mNil)))) (mCons (mMap (fun l => some (.tup l)) (mCons (mMap (fun l => some (.tup l)) (mCons (mPure (.str "not")) (mCons (mVar 5) mNil))) (mCons (mCall m_law_simple (mCons (mVar 0) (mCons (mVar 1) (mCons (mVar 2) mNil)))) mNil))) mNil))))
  sNil)
  (sSeq (sSet 6 (mMap tupleT (mCons (mComp 1 [0, 1, 2] (hName 0) (iRange (mOp addT (mPure (.int 1)) (mCall m_law_pick (mCons (mVar 0) (mCons (mPure (.int 3)) mNil))))) mTrue (mCall m_law_simple (mCons (mVar 1) (mCons (mVar 2) (mCons (mVar 3) mNil))))) mNil)))
  (sRet (mMap (fun l => some (.tup l)) (mCons (mOp itemT (mMap (fun l => some (.lst l)) (mCons (mPure (.str "and")) (mCons (mPure (.str "or")) mNil))) (mCall m_law_pick (mCons (mVar 0) (mCons (mPure (.int 2)) mNil)))) (mCons (mOp addT (mOp itemT (mVar 5) (mPure (.int 1))) (mVar 6)) mNil))))))))))))))
noncomputable def m_law_boxes : Fn := runFn 7
  (sSeq (sNew 3 (mMap (fun l => some (.lst l)) mNil))
  (sSeq (sFor (hName 4) (iRange (mVar 2))
  (sSeq (sSet 5 (mOp subT (mCall m_law_pick (mCons (mVar 0) (mCons (mPure (.int 4)) mNil))) (mPure (.int 2))))
  (sSeq (sIf (mTest (mOp eqO (mCall m_law_pick (mCons (mVar 0) (mCons (mPure (.int 9)) mNil))) (mPure (.int 8))))
  (sSet 5 (mOp subT (mCall m_law_pick (mCons (mVar 0) (mCons (mOp subT (mOp mulT (mPure (.int 2)) (mOp powT (mPure (.int 10)) (mPure (.int 30)))) (mPure (.int 9))) mNil))) (mOp powT (mPure (.int 10)) (mPure (.int 30)))))
  sNil)
  (sSeq (sSet 6 (mOp addT (mVar 5) (mCall m_law_pick (mCons (mVar 0) (mCons (mPure (.int 3)) mNil)))))
  (sAppend 3 (mMap (fun l => some (.tup l)) (mCons (mCall m_law_name (mCons (mVar 1) (mCons (mVar 4) mNil))) (mCons (mPure (.str "")) (mCons (mVar 5) (mCons (mVar 6) (mCons (mOp addT (mVar 5) (mCall m_law_pick (mCons (mVar 0) (mCons (mOp addT (mOp subT (mVar 6) (mVar 5)) (mPure (.int 1))) mNil)))) mNil)))))))))))
  (sRet (mVar 3))))
noncomputable def m_law_step : Fn := runFn 11
  (sSeq (sGo (hTup [3, 4]) (mOp itemT (mVar 2) (mCall m_law_pick (mCons (mVar 0) (mCons (mMap lenT (mCons (mVar 2) mNil)) mNil)))))
  (sSeq (sSet 5 (mCall m_law_pick (mCons (mVar 0) (mCons (mVar 4) mNil))))
  (sSeq (sSet 6 (mCall m_law_pick (mCons (mVar 0) (mCons (mVar 4) mNil))))
  (sSeq (sSet 7 (mCall m_law_remark (mCons (mVar 0) (mCons (mVar 1) (mCons (mVar 2) mNil)))))
  (sSeq (sNew 8 (mMap (fun l => some (.lst l)) mNil))
  (sSeq (sFor (hName 9) (iSeq (mMap sortedT (mCons (mVar 1) mNil)))
  (sSeq (sSet 10 (mCall m_law_pick (mCons (mVar 0) (mCons (mPure (.int 5)) mNil))))
  (sSeq (sIf (mTest (mOp eqO (mVar 10) (mPure (.int 0))))
  (sAppend 8 (mMap (fun l => some (.tup l)) (mCons (mVar 9) (mCons (mCall m_law_sum (mCons (mVar 0) (mCons (mVar 1) mNil))) mNil))))
  sNil)
  (sIf (mTest (mOp eqO (mVar 10) (mPure (.int 1))))
  (sAppend 8 (mMap (fun l => some (.tup l)) (mCons (mVar 9) (mCons (mMap (fun l => some (.tup l)) (mCons (mOp subT (mCall m_law_pick (mCons (mVar 0) (mCons (mPure (.int 3)) mNil))) (mPure (.int 1))) (mCons (mMap (fun l => some (.tup l)) (mCons (mMap (fun l => some (.tup l)) (mCons (mVar 9) (mCons (mPure (.int 1)) mNil))) mNil)) mNil))) mNil))))
  sNil))))
  (sRet (mMap (fun l => some (.tup l)) (mCons (mVar 3) (mCons (mVar 5) (mCons (mVar 7) (mCons (mMap tupleT (mCons (mVar 8) mNil)) (mCons (mVar 6) mNil)))))))))))))
noncomputable def m_law_program : Fn := runFn 11
  (sSeq (sSet 2 (mOp modT (mOp fdivT (mCall m_law_cell_at (mCons (mVar 0) (mCons (mPure (.int 0)) mNil))) (mPure (.int 5))) (mPure (.int 2))))
  (sSeq (sSet 3 (mCall m_law_cell_at (mCons (mVar 0) (mCons (mPure (.int 1)) mNil))))
  (sSeq (sSet 4 (mNewLst (mCons (mCall m_law_cell_at (mCons (mVar 0) (mCons (mPure (.int 2)) mNil))) (mCons (mVar 2) mNil))))
  (sSeq (sSet 5 (mOp addT (mPure (.int 1)) (mCall m_law_pick (mCons (mVar 4) (mCons (mPure (.int 3)) mNil)))))
  (sSeq (sNew 6 (mMap (fun l => some (.lst l)) mNil))
  (sSeq (sFor (hName 7) (iRange (mVar 5))
  (sAppend 6 (mMap (fun l => some (.tup l)) (mCons (mCall m_law_name (mCons (mVar 3) (mCons (mOp addT (mPure (.int 5)) (mVar 7)) mNil))) (mCons (mOp addT (mPure (.int 1)) (mCall m_law_pick (mCons (mVar 4) (mCons (mOp itemT (mMap (fun l => some (.lst l)) (mCons (mPure (.int 4)) (mCons (mPure (.int 4)) (mCons (mPure (.int 2)) mNil)))) (mOp subT (mVar 5) (mPure (.int 1)))) mNil)))) mNil)))))
  (sSeq (sSet 8 (mCall m_law_boxes (mCons (mVar 4) (mCons (mVar 3) (mCons (mCall m_law_pick (mCons (mVar 4) (mCons (mPure (.int 3)) mNil))) mNil)))))
  (sSeq (sSet 9 (mComp 1 [] (hName 0) (iSeq (mVar 8)) mTrue (mOp itemT (mVar 0) (mPure (.int 0)))))
  (sSeq (sSet 10 (mComp 1 [9, 6, 2] (hName 0) (iSeq (mSlice (mVar 0) (oSome (mPure (.int 3))) (oSome (mOp addT (mPure (.int 3)) (mVar 1))))) mTrue (mCall m_law_step (mCons (mNewLst (mCons (mVar 0) (mCons (mVar 3) mNil))) (mCons (mVar 1) (mCons (mVar 2) mNil))))))
  (sRet (mMap (fun l => some (.tup l)) (mCons (mVar 8) (mCons (mVar 6) (mCons (mVar 10) (mCons (mMap (fun l => some (.tup l)) mNil) mNil)))))))))))))))
mutual
noncomputable def m_law_boxes_of : Nat → Fn
  | 0 => fun _ _ => none
  | n + 1 => runFn 3
      (sSeq (sIf (mOr (mTest (mOp eqO (mOp itemT (mVar 0) (mPure (.int 0))) (mPure (.str "most")))) (mTest (mOp eqO (mOp itemT (mVar 0) (mPure (.int 0))) (mPure (.str "rest")))))
      (sRet (mComp 2 [] (hTup [0, 1]) (iSeq (mOp itemT (mOp itemT (mVar 0) (mPure (.int 1))) (mPure (.int 1)))) mTrue (mVar 0)))
      sNil)
      (sSeq (sNew 1 (mMap (fun l => some (.lst l)) mNil))
      (sSeq (sIf (mTest (mOp eqO (mOp itemT (mVar 0) (mPure (.int 0))) (mPure (.str "not"))))
      (sRet (mCall (m_law_boxes_of n) (mCons (mOp itemT (mVar 0) (mPure (.int 1))) mNil)))
      sNil)
      (sSeq (sIf (mOr (mTest (mOp eqO (mOp itemT (mVar 0) (mPure (.int 0))) (mPure (.str "and")))) (mTest (mOp eqO (mOp itemT (mVar 0) (mPure (.int 0))) (mPure (.str "or")))))
      (sFor (hName 2) (iSeq (mOp itemT (mVar 0) (mPure (.int 1))))
      (sExtend 1 (mCall (m_law_boxes_of n) (mCons (mVar 2) mNil))))
      sNil)
      (sRet (mVar 1))))))
end
mutual
noncomputable def m_law_ats_of : Nat → Fn
  | 0 => fun _ _ => none
  | n + 1 => runFn 3
      (sSeq (sIf (mTest (mOp eqO (mOp itemT (mVar 0) (mPure (.int 0))) (mPure (.str "at"))))
      (sRet (mMap (fun l => some (.lst l)) (mCons (mOp itemT (mVar 0) (mPure (.int 1))) mNil)))
      sNil)
      (sSeq (sNew 1 (mMap (fun l => some (.lst l)) mNil))
      (sSeq (sIf (mTest (mOp eqO (mOp itemT (mVar 0) (mPure (.int 0))) (mPure (.str "not"))))
      (sRet (mCall (m_law_ats_of n) (mCons (mOp itemT (mVar 0) (mPure (.int 1))) mNil)))
      sNil)
      (sSeq (sIf (mOr (mTest (mOp eqO (mOp itemT (mVar 0) (mPure (.int 0))) (mPure (.str "and")))) (mTest (mOp eqO (mOp itemT (mVar 0) (mPure (.int 0))) (mPure (.str "or")))))
      (sFor (hName 2) (iSeq (mOp itemT (mVar 0) (mPure (.int 1))))
      (sExtend 1 (mCall (m_law_ats_of n) (mCons (mVar 2) mNil))))
      sNil)
      (sRet (mVar 1))))))
end
noncomputable def m_law_meddles : Fn := runFn 5
  (sSeq (sIf (mOr (mTest (mOp eqO (mOp itemT (mVar 0) (mPure (.int 0))) (mOp itemT (mVar 1) (mPure (.int 0))))) (mTest (mOp inT (mOp itemT (mVar 0) (mPure (.int 0))) (mCall (m_law_ats_of 40) (mCons (mOp itemT (mVar 1) (mPure (.int 2))) mNil)))))
  (sRet (mPure (.bl true)))
  sNil)
  (sSeq (sSet 2 (mCall (m_law_boxes_of 40) (mCons (mOp itemT (mVar 1) (mPure (.int 2))) mNil)))
  (sSeq (sFor (hTup [3, 4]) (iSeq (mOp itemT (mVar 1) (mPure (.int 3))))
  (sSet 2 (mOp addT (mOp addT (mVar 2) (mMap (fun l => some (.lst l)) (mCons (mVar 3) mNil))) (mComp 2 [] (hTup [0, 1]) (iSeq (mOp itemT (mVar 4) (mPure (.int 1)))) mTrue (mVar 0)))))
  (sRet (mOp neO (mComp 2 [2] (hTup [0, 1]) (iSeq (mOp itemT (mVar 0) (mPure (.int 3)))) (mTest (mOp inT (mVar 0) (mVar 2))) (mVar 0)) (mMap (fun l => some (.lst l)) mNil))))))
noncomputable def m_law_parted : Fn := runFn 5
  (sSeq (sSet 3 (mOp itemT (mOp itemT (mVar 0) (mPure (.int 2))) (mVar 1)))
  (sSeq (sSet 4 (mOp itemT (mOp itemT (mVar 0) (mPure (.int 2))) (mVar 2)))
  (sRet (mBool (mAnd (mTest (mBool (mNot (mTest (mCall m_law_meddles (mCons (mVar 3) (mCons (mVar 4) mNil))))))) (mTest (mBool (mNot (mTest (mCall m_law_meddles (mCons (mVar 4) (mCons (mVar 3) mNil))))))))))))
noncomputable def m_law : Fn := runFn 6
  (sSeq (sSet 1 (mCall m_law_program (mCons (mVar 0) (mCons (mPure (.int 40)) mNil))))
  (sSeq (sSet 2 (mMap (fun l => some (.tup l)) (mCons (mMap listT (mCons (mOp itemT (mVar 1) (mPure (.int 0))) mNil)) (mCons (mMap listT (mCons (mOp itemT (mVar 1) (mPure (.int 1))) mNil)) (mCons (mMap listT (mCons (mOp itemT (mVar 1) (mPure (.int 2))) mNil)) (mCons (mMap (fun l => some (.tup l)) mNil) mNil))))))
  (sSeq (sFor (hName 3) (iRange (mMap lenT (mCons (mOp itemT (mVar 1) (mPure (.int 2))) mNil)))
  (sFor (hName 4) (iSeq (mMap (fun l => some (.lst l)) (mCons (mVar 3) (mCons (mPure (.int 0)) (mCons (mOp subT (mOp subT (mMap lenT (mCons (mOp itemT (mVar 1) (mPure (.int 2))) mNil)) (mPure (.int 1))) (mVar 3)) (mCons (mOp modT (mOp addT (mOp mulT (mPure (.int 7)) (mVar 3)) (mPure (.int 3))) (mMap lenT (mCons (mOp itemT (mVar 1) (mPure (.int 2))) mNil))) mNil))))))
  (sSeq (sSet 5 (mCall m_parted (mCons (mVar 2) (mCons (mVar 3) (mCons (mVar 4) mNil)))))
  (sSeq (sIf (mOr (mNot (mTest (mMap isBl (mCons (mVar 5) mNil)))) (mOr (mTest (mOp neO (mVar 5) (mCall m_law_parted (mCons (mVar 1) (mCons (mVar 3) (mCons (mVar 4) mNil)))))) (mTest (mOp neO (mVar 2) (mVar 1)))))
  (sRet (mPure (.bl false)))
  sNil)
  (sIf (mTest (mOp neO (mCall m_parted (mCons (mVar 2) (mCons (mVar 4) (mCons (mVar 3) mNil)))) (mVar 5)))
  (sRet (mPure (.bl false)))
  sNil)))))
  (sRet (mPure (.bl true))))))
end K
end
noncomputable section
set_option linter.all false
set_option maxRecDepth 100000
set_option autoImplicit false
namespace K
open C PySem
noncomputable abbrev scr (cs : List Int) : T := .lst (cs.map .int)
noncomputable def cell (cs : List Int) (k : Nat) : Int := cs.getD k 0
theorem cell_at {cs : List Int} {k : Nat} {sto : List SO} : m_law_cell_at [scr cs, .int (k : Int)] sto = some (.int (cell cs k), sto) := by
  by_cases h : k < cs.length
  · have h1 : ((k : Int) < (cs.length : Int)) := by omega
    have h2 : cs[k]? = some cs[k] := List.getElem?_eq_getElem h
    simp [runFn, sSeq, sIf, sSet, sNew, sRet, sNil, sNx, sRetOwn, sGo, sReverse, sFor, sAppend, sExtend, lstAt, mTest, mNot, mAnd, mOr, mBool, mIf, mOp, mUn, mVar, mMap, mCons, mNil, mPure, mStrs, mCall, putSlot, hName, hTup, iRange, iSeq, ltT, leT, lenT, addT, subT, modT, fdivT, negT, absT, seqOf, mTrue, freezeAt, thaw, m_law_cell_at, itemT, ixI, h1, h2, cell, List.getD]
  · have h1 : ¬ ((k : Int) < (cs.length : Int)) := by omega
    have h2 : cs[k]? = none := List.getElem?_eq_none_iff.mpr (by omega)
    simp [runFn, sSeq, sIf, sSet, sNew, sRet, sNil, sNx, sRetOwn, sGo, sReverse, sFor, sAppend, sExtend, lstAt, mTest, mNot, mAnd, mOr, mBool, mIf, mOp, mUn, mVar, mMap, mCons, mNil, mPure, mStrs, mCall, putSlot, hName, hTup, iRange, iSeq, ltT, leT, lenT, addT, subT, modT, fdivT, negT, absT, seqOf, mTrue, freezeAt, thaw, m_law_cell_at, itemT, ixI, h1, h2, cell, List.getD]
theorem cell_n {cs : List Int} {k : Nat} {i : Int} {sto : List SO} (h : i = (k : Int)) : m_law_cell_at [scr cs, .int i] sto = some (.int (cell cs k), sto) := by
  rw [h]; exact cell_at
noncomputable def Strm (so : SO) : Prop := (∃ a w, so = .lst [.int a, .int w]) ∨ ∃ a w c, so = .lst [.int a, .int w, .int c]
noncomputable def StO (sto : List SO) : Prop := ∀ so ∈ sto, Strm so
theorem StO.set {sto : List SO} (h : StO sto) (n : Nat) {so : SO} (hs : Strm so) : StO (sto.set n so) := fun x hx => by
  rcases List.mem_or_eq_of_mem_set hx with z | z
  · exact h x z
  · subst z; exact hs
theorem in01 (a : Int) : inT (.int a) (.lst [.int 0, .int (-1)]) = some (.bl (a == 0 || a == -1)) := by
  simp [inT, inL, eqD, dat, PyData.depth, PyData.eqv]
  rw [show ((0 : Int) == a) = (a == 0) from Bool.beq_comm, show ((-1 : Int) == a) = (a == -1) from Bool.beq_comm]
noncomputable def mixed (a : Int) : Int := (a % 2147483647 * 48271 + 1013) % 2147483629
theorem pick3 {n : Nat} {many a w c : Int} {sto : List SO} (hn : n < sto.length) (hs : StO sto) (hm : 0 < many) (hb : many.natAbs < fdl) (e : sto[n]? = some (.lst [.int a, .int w, .int c])) :
    ∃ r sto', m_law_pick [.obj n, .int many] sto = some (.int r, sto') ∧ 0 ≤ r ∧ r < many ∧ StO sto' ∧ sto'.length = sto.length := by
  have lt : ∀ x : Int, 0 ≤ x % many ∧ x % many < many := fun x => ⟨Int.emod_nonneg _ (by omega), Int.emod_lt_of_pos _ hm⟩
  have S3 : ∀ a w c : Int, Strm (.lst [.int a, .int w, .int c]) := fun a w c => .inr ⟨a, w, c, rfl⟩
  have b1 : ∀ x : Int, bnd64 (x % 2147483647) = true := fun x => by
    have := Int.emod_nonneg x (show (2147483647 : Int) ≠ 0 by decide)
    have := Int.emod_lt_of_pos x (show (0 : Int) < 2147483647 by decide)
    simp only [bnd64, decide_eq_true_eq]; omega
  have b2 : bnd64 69621 = true := by decide
  unfold m_law_pick
  by_cases hw : w = 0
  · subst hw
    by_cases ha : (a == 0 || a == -1) = true
    · refine ⟨(mixed (c + 1013) * 69621 % 2147483587) / 11 % many, sto.set n (.lst [.int (mixed (c + 1013)), .int 1, .int c]), ?_, (lt _).1, (lt _).2, hs.set n (S3 _ _ _), List.length_set⟩
      simp [runFn, sSeq, sIf, sSet, sNew, sRet, sNil, sNx, sRetOwn, sGo, sReverse, sFor, sAppend, sExtend, lstAt, mTest, mNot, mAnd, mOr, mBool, mIf, mOp, mUn, mVar, mMap, mCons, mNil, mPure, mStrs, mCall, putSlot, hName, hTup, iRange, iSeq, ltT, leT, lenT, addT, subT, modT, fdivT, negT, absT, seqOf, mTrue, freezeAt, thaw, mObjLen, e, eqO_int, mObjIx, ixI, in01, ha, sObjIx, List.getElem?_set_self hn, mulT, b1, b2, hm, mixed]
    · refine ⟨a % many, sto.set n (.lst [.int (a / many), .int 0, .int c]), ?_, (lt _).1, (lt _).2, hs.set n (S3 _ _ _), List.length_set⟩
      simp [runFn, sSeq, sIf, sSet, sNew, sRet, sNil, sNx, sRetOwn, sGo, sReverse, sFor, sAppend, sExtend, lstAt, mTest, mNot, mAnd, mOr, mBool, mIf, mOp, mUn, mVar, mMap, mCons, mNil, mPure, mStrs, mCall, putSlot, hName, hTup, iRange, iSeq, ltT, leT, lenT, addT, subT, modT, fdivT, negT, absT, seqOf, mTrue, freezeAt, thaw, mObjLen, e, eqO_int, mObjIx, ixI, in01, ha, sObjIx, List.getElem?_set_self hn, hm, hb]
  · have hw' : (w == 0) = false := beq_eq_false_iff_ne.mpr hw
    refine ⟨(mixed a * 69621 % 2147483587) / 11 % many, sto.set n (.lst [.int (mixed a), .int w, .int c]), ?_, (lt _).1, (lt _).2, hs.set n (S3 _ _ _), List.length_set⟩
    simp [runFn, sSeq, sIf, sSet, sNew, sRet, sNil, sNx, sRetOwn, sGo, sReverse, sFor, sAppend, sExtend, lstAt, mTest, mNot, mAnd, mOr, mBool, mIf, mOp, mUn, mVar, mMap, mCons, mNil, mPure, mStrs, mCall, putSlot, hName, hTup, iRange, iSeq, ltT, leT, lenT, addT, subT, modT, fdivT, negT, absT, seqOf, mTrue, freezeAt, thaw, mObjLen, e, eqO_int, mObjIx, ixI, hw', sObjIx, List.getElem?_set_self hn, mulT, b1, b2, hm, mixed]
theorem pick2 {n : Nat} {many a w : Int} {sto : List SO} (hn : n < sto.length) (e : sto[n]? = some (.lst [.int a, .int w])) : m_law_pick [.obj n, .int many] sto = m_law_pick [.obj n, .int many] (sto.set n (.lst [.int a, .int w, .int a])) := by
  have l2 : (2 : Nat) < lim := by decide
  simp [runFn, sSeq, sIf, sSet, sNew, sRet, sNil, sNx, sRetOwn, sGo, sReverse, sFor, sAppend, sExtend, lstAt, mTest, mNot, mAnd, mOr, mBool, mIf, mOp, mUn, mVar, mMap, mCons, mNil, mPure, mStrs, mCall, putSlot, hName, hTup, iRange, iSeq, ltT, leT, lenT, addT, subT, modT, fdivT, negT, absT, seqOf, mTrue, freezeAt, thaw, m_law_pick, mObjLen, e, eqO_int, mObjIx, ixI, sObjApp, List.getElem?_set_self hn, l2]
theorem pick {n : Nat} {many : Int} {sto : List SO} (hn : n < sto.length) (hs : StO sto) (hm : 0 < many) (hb : many.natAbs < fdl) :
    ∃ r sto', m_law_pick [.obj n, .int many] sto = some (.int r, sto') ∧ 0 ≤ r ∧ r < many ∧ StO sto' ∧ sto'.length = sto.length := by
  have e := List.getElem?_eq_getElem hn
  rcases hs _ (List.getElem_mem hn) with ⟨a, w, h⟩ | ⟨a, w, c, h⟩
  · rw [h] at e
    rw [pick2 hn e]
    obtain ⟨r, sto', q1, q2, q3, q4, q5⟩ := pick3 (many := many) (by rw [List.length_set]; exact hn) (hs.set n (.inr ⟨a, w, a, rfl⟩)) hm hb (List.getElem?_set_self hn)
    exact ⟨r, sto', q1, q2, q3, q4, by rw [q5, List.length_set]⟩
  · rw [h] at e
    exact pick3 hn hs hm hb e
end K
end
noncomputable section
set_option linter.all false
set_option maxRecDepth 100000
set_option autoImplicit false
namespace C
open PySem
theorem compL_draw {g : G} {e : M T} {nv : Nat} {cap : List Slot} (hcap : cap.map thaw = cap) (P : List T → List T → List SO → Prop)
    (H : ∀ t r acc sto, P (t :: r) acc sto → ∀ pre : List Slot, pre.length = nv → ∃ pre' u sto', pre'.length = nv ∧ g t ⟨pre ++ cap, sto⟩ = some ⟨pre' ++ cap, sto⟩ ∧ e ⟨pre' ++ cap, sto⟩ = some (u, ⟨pre' ++ cap, sto'⟩) ∧ P r (acc ++ [u]) sto') :
    ∀ (ts acc : List T) (pre : List Slot) (sto : List SO), pre.length = nv → acc.length + ts.length ≤ lim → P ts acc sto →
      ∃ us s', compL g mTrue e ts ⟨pre ++ cap, sto⟩ acc = some (us, s') ∧ P [] us s'.sto
  | [], acc, pre, sto, hp, hl, p => ⟨acc, ⟨pre ++ cap, sto⟩, by simp [compL], p⟩
  | t :: r, acc, pre, sto, hp, hl, p => by
    obtain ⟨pre', u, sto', p1, p2, p3, p4⟩ := H t r acc sto p pre hp
    have hlen : acc.length < lim := by simp only [List.length_cons] at hl; omega
    obtain ⟨us, s', q1, q2⟩ := compL_draw hcap P H r (acc ++ [u]) (pre'.map thaw) sto' (by simpa using p1) (by simp only [List.length_cons, List.length_append, List.length_nil] at hl ⊢; omega) p4
    refine ⟨us, s', ?_, q2⟩
    rw [compL, p2]
    dsimp only [mTrue]
    rw [p3]
    dsimp only
    rw [if_pos hlen, freezeAll]
    dsimp only
    rw [List.map_append, hcap, q1]
theorem mComp_draw {g : G} {e : M T} {nv : Nat} {ci : List Nat} {it : M (List T)} {s : Sta} {r : Option (T × Sta)} (hF : mComp nv ci g it mTrue e s = r) (ts : List T) (s1 : Sta) (env cap : List Slot) (P : List T → List T → List SO → Prop) (hit : it s = some (ts, s1)) (henv : freezeAt ci s1.env = env) (hci : ci.map (fun i => (env[i]?).getD none) = cap) (hcap : cap.map thaw = cap) (hl : ts.length ≤ lim) (p : P ts [] s1.sto)
    (H : ∀ t r acc sto, P (t :: r) acc sto → ∀ pre : List Slot, pre.length = nv → ∃ pre' u sto', pre'.length = nv ∧ g t ⟨pre ++ cap, sto⟩ = some ⟨pre' ++ cap, sto⟩ ∧ e ⟨pre' ++ cap, sto⟩ = some (u, ⟨pre' ++ cap, sto'⟩) ∧ P r (acc ++ [u]) sto') :
    ∃ us sto', r = some (.lst us, ⟨env, sto'⟩) ∧ P [] us sto' := by
  obtain ⟨us, s', q1, q2⟩ := compL_draw hcap P H ts [] (List.replicate nv none) s1.sto (by simp) (by simpa using hl) p
  refine ⟨us, s'.sto, ?_, q2⟩
  rw [← hF]
  unfold mComp
  rw [hit]
  dsimp only
  rw [henv, hci, q1]
end C
namespace K
open C PySem
noncomputable def qs (n : Nat) : Str := ⟨((List.replicate n ("q" : Str).cps.toList).flatten).toArray⟩
theorem mul_q {j : Int} (h0 : 0 ≤ j) (h1 : j ≤ 1000) : mulT (.str "q") (.int j) = some (.str (qs j.toNat)) := by
  have hl : Str.length ("q" : Str) ≤ 100 := by decide +kernel
  simp only [mulT]
  rw [if_pos ⟨h0, h1, hl⟩]; rfl
noncomputable def lt1 (i : Nat) : Str := ⟨#[("abcdefghij" : Str).cps.toList.getD i 0]⟩
theorem item_l {i : Nat} (h : i < 10) : itemT (.str "abcdefghij") (.int (i : Int)) = some (.str (lt1 i)) := by
  match i, h with
  | 0, _ => rfl
  | 1, _ => rfl
  | 2, _ => rfl
  | 3, _ => rfl
  | 4, _ => rfl
  | 5, _ => rfl
  | 6, _ => rfl
  | 7, _ => rfl
  | 8, _ => rfl
  | 9, _ => rfl
noncomputable def nm (p i q : Nat) : Str := qs p ++ lt1 i ++ qs q
noncomputable def okN (x : Str) : Prop := okS x ∧ x.length < 40
theorem nm_ok : ∀ p, p < 8 → ∀ i, i < 10 → ∀ q, q < 8 → okN (nm p i q) ∧ (qs p).length + (lt1 i).length < 20 ∧ (qs p ++ lt1 i).length + (qs q).length < 40 := by
  unfold okN okS
  decide +kernel
noncomputable def wd (i : Nat) : Str := (["b", "ab", "abc", "abcd", "a", "ba", "aab", "b1", "bab", "ab1"] : List Str).getD i "b"
theorem wd_ok : ∀ i, i < 10 → okN (wd i) := by
  unfold okN okS
  decide +kernel
theorem wd_at {i : Nat} (h : i < 10) : itemT (.lst [.str "b", .str "ab", .str "abc", .str "abcd", .str "a", .str "ba", .str "aab", .str "b1", .str "bab", .str "ab1"]) (.int (i : Int)) = some (.str (wd i)) := by
  match i, h with
  | 0, _ => rfl
  | 1, _ => rfl
  | 2, _ => rfl
  | 3, _ => rfl
  | 4, _ => rfl
  | 5, _ => rfl
  | 6, _ => rfl
  | 7, _ => rfl
  | 8, _ => rfl
  | 9, _ => rfl
theorem name {c k : Int} {sto : List SO} : ∃ x : Str, m_law_name [.int c, .int k] sto = some (.str x, sto) ∧ okN x := by
  by_cases h4 : c / 640 % 4 = 1
  · obtain ⟨i, hi, ei⟩ : ∃ i : Nat, i < 10 ∧ k % 10 = (i : Int) := ⟨(k % 10).toNat, by omega, by omega⟩
    refine ⟨wd i, ?_, wd_ok i hi⟩
    simp [runFn, sSeq, sIf, sSet, sNew, sRet, sNil, sNx, sRetOwn, sGo, sReverse, sFor, sAppend, sExtend, lstAt, mTest, mNot, mAnd, mOr, mBool, mIf, mOp, mUn, mVar, mMap, mCons, mNil, mPure, mStrs, mCall, putSlot, hName, hTup, iRange, iSeq, ltT, leT, lenT, addT, subT, modT, fdivT, negT, absT, seqOf, mTrue, freezeAt, thaw, m_law_name, eqO_int, h4, ei, wd_at hi]
  · obtain ⟨z, hz, ez⟩ : ∃ z : Nat, z < 8 ∧ c % 8 = (z : Int) := ⟨(c % 8).toNat, by omega, by omega⟩
    have hs : (0 : Int) < 1 + (z : Int) := by omega
    have p0 := Int.emod_nonneg (c / 8) (show (1 + (z : Int)) ≠ 0 by omega)
    have p1 := Int.emod_lt_of_pos (c / 8) hs
    obtain ⟨p, ep⟩ : ∃ p : Nat, c / 8 % (1 + (z : Int)) = (p : Int) := ⟨(c / 8 % (1 + (z : Int))).toNat, by omega⟩
    have hp : p ≤ z := by omega
    obtain ⟨i, hi, ei⟩ : ∃ i : Nat, i < 10 ∧ (3 * k + c / 64) % 10 = (i : Int) := ⟨((3 * k + c / 64) % 10).toNat, by omega, by omega⟩
    obtain ⟨o1, o2, o3⟩ := nm_ok p (by omega) i hi (z - p) (by omega)
    refine ⟨nm p i (z - p), ?_, o1⟩
    have hb : (c / 640 % 4 == 1) = false := beq_eq_false_iff_ne.mpr h4
    have m1 := mul_q (j := (p : Int)) (by omega) (by omega)
    have m2 := mul_q (j := (z : Int) - (p : Int)) (by omega) (by omega)
    rw [Int.toNat_natCast] at m1
    rw [show ((z : Int) - (p : Int)).toNat = z - p by omega] at m2
    have b3 : bnd64 3 = true := by decide
    have mi : mulT (.int 3) (.int k) = some (.int (3 * k)) := by simp [mulT, b3]
    have l1 : (qs p).length + (lt1 i).length < lim := by show _ < 1000000; omega
    have l2 : (qs p ++ lt1 i).length + (qs (z - p)).length < lim := by show _ < 1000000; omega
    simp [runFn, sSeq, sIf, sSet, sNew, sRet, sNil, sNx, sRetOwn, sGo, sReverse, sFor, sAppend, sExtend, lstAt, mTest, mNot, mAnd, mOr, mBool, mIf, mOp, mUn, mVar, mMap, mCons, mNil, mPure, mStrs, mCall, putSlot, hName, hTup, iRange, iSeq, ltT, leT, lenT, addT, subT, modT, fdivT, negT, absT, seqOf, mTrue, freezeAt, thaw, m_law_name, eqO_int, hb, ez, hs, ep, m1, mi, ei, item_l hi, l1, show 1 + (z : Int) - 1 - (p : Int) = (z : Int) - (p : Int) by omega, m2, l2, nm]
noncomputable abbrev Sm := Int × List (Str × Int)
noncomputable def pT (p : Str × Int) : T := .tup [.str p.1, .int p.2]
noncomputable def smT (s : Sm) : T := .tup [.int s.1, .tup (s.2.map pT)]
noncomputable def okSm (N : List Str) (s : Sm) : Prop := s.2.length ≤ N.length ∧ ∀ p ∈ s.2, p.1 ∈ N ∧ -4 < p.2 ∧ p.2 < 4
noncomputable def okNs (N : List Str) : Prop := N.length ≤ 2 ∧ ∀ x ∈ N, okN x
theorem mem_ins1 {x y : Str} : ∀ {l : List Str}, y ∈ ins1 x l → y = x ∨ y ∈ l
  | [], h => by simp [ins1] at h; exact .inl h
  | z :: l, h => by
    unfold ins1 at h
    split at h
    · rcases List.mem_cons.mp h with rfl | h -- here
      · exact .inl rfl
      · exact .inr h
    · rcases List.mem_cons.mp h with rfl | h -- here
      · exact .inr List.mem_cons_self
      · rcases mem_ins1 h with h | h
        · exact .inl h
        · exact .inr (List.mem_cons_of_mem _ h)
theorem len_ins1 {x : Str} : ∀ {l : List Str}, (ins1 x l).length = l.length + 1
  | [] => rfl
  | z :: l => by unfold ins1; split <;> simp [len_ins1]
theorem isort_fold (l : List Str) : ∀ acc : List Str, (∀ y ∈ l.foldl (fun acc x => ins1 x acc) acc, y ∈ l ∨ y ∈ acc) ∧ (l.foldl (fun acc x => ins1 x acc) acc).length = l.length + acc.length := by
  induction l with
  | nil => intro acc; exact ⟨fun y h => .inr h, by simp⟩
  | cons x l ih =>
    intro acc
    obtain ⟨h1, h2⟩ := ih (ins1 x acc)
    refine ⟨fun y hy => ?_, by rw [List.foldl_cons, h2, len_ins1, List.length_cons]; omega⟩
    rcases h1 y hy with h | h
    · exact .inl (List.mem_cons_of_mem _ h)
    · rcases mem_ins1 h with rfl | h
      · exact .inl List.mem_cons_self
      · exact .inr h
theorem isort_mem {l : List Str} {y : Str} (h : y ∈ isort l) : y ∈ l := by
  rcases (isort_fold l []).1 y h with h | h
  · exact h
  · cases h
theorem isort_len {l : List Str} : (isort l).length = l.length := by have := (isort_fold l []).2; unfold isort; simpa using this
theorem strs_map : ∀ l : List Str, strsT (l.map T.str) = some l
  | [] => rfl
  | x :: l => by simp [strsT, strs_map l]
theorem sorted_strs {l : List Str} (h : l.length < 64) : sortedT [.lst (l.map T.str)] = some (.lst ((isort l).map T.str)) := by
  simp [sortedT, h, strs_map]
theorem times_at {n : Nat} {v : Int} (hn : n < 7) (h0 : 0 ≤ v) (h1 : v < 7) : ∃ t : Int, itemT (.lst [.int 0, .int 0, .int 1, .int 1, .int (-1), .int 2, .int (v - 3)]) (.int (n : Int)) = some (.int t) ∧ -4 < t ∧ t < 4 := by
  match n, hn with
  | 0, _ => exact ⟨0, rfl, by omega, by omega⟩
  | 1, _ => exact ⟨0, rfl, by omega, by omega⟩
  | 2, _ => exact ⟨1, rfl, by omega, by omega⟩
  | 3, _ => exact ⟨1, rfl, by omega, by omega⟩
  | 4, _ => exact ⟨-1, rfl, by omega, by omega⟩
  | 5, _ => exact ⟨2, rfl, by omega, by omega⟩
  | 6, _ => exact ⟨v - 3, rfl, by omega, by omega⟩
theorem small_fdl {j : Int} (h0 : 0 ≤ j) (h1 : j < 1000000000000000000000000000000000) : j.natAbs < fdl := Nat.lt_trans (show j.natAbs < 1000000000000000000000000000000000 by omega) (by decide)
structure Dn (sto : List SO) (sto' : List SO) : Prop where
  ok : StO sto'
  len : sto.length ≤ sto'.length
theorem pickN {n : Nat} {many : Int} {sto : List SO} (hn : n < sto.length) (hs : StO sto) (hm : 0 < many) (hb : many < 1000000000000000000000000000000000) :
    ∃ (r : Int) (sto' : List SO), m_law_pick [.obj n, .int many] sto = some (.int r, sto') ∧ 0 ≤ r ∧ r < many ∧ StO sto' ∧ sto'.length = sto.length := pick hn hs hm (small_fdl (by omega) hb)
noncomputable def SmO (N : List Str) (L : Nat) (t : T) (st : List SO) : Prop := ∃ s, t = smT s ∧ okSm N s ∧ StO st ∧ st.length = L
theorem sum {n : Nat} {N : List Str} {sto : List SO} (hn : n < sto.length) (hs : StO sto) (okN : okNs N) :
    Out (m_law_sum [.obj n, .lst (N.map T.str)] sto) (SmO N sto.length) := by
  obtain ⟨r1, s1, p1, a1, b1, o1, l1⟩ := pickN (many := 5) hn hs (by decide) (by decide)
  obtain ⟨r2, s2, p2, a2, b2, o2, l2⟩ := pickN (many := 9) (by omega : n < s1.length) o1 (by decide) (by decide)
  have num : ∃ (k : Int) (s3 : List SO), StO s3 ∧ s3.length = sto.length ∧ ((sSeq (sSet 2 (mOp subT (mCall m_law_pick (mCons (mVar 0) (mCons (mPure (.int 5)) mNil))) (mPure (.int 2))))
      (sIf (mTest (mOp eqO (mCall m_law_pick (mCons (mVar 0) (mCons (mPure (.int 9)) mNil))) (mPure (.int 8))))
      (sSet 2 (mOp subT (mCall m_law_pick (mCons (mVar 0) (mCons (mOp subT (mOp mulT (mPure (.int 2)) (mOp powT (mPure (.int 10)) (mPure (.int 9)))) (mPure (.int 1))) mNil))) (mOp subT (mOp powT (mPure (.int 10)) (mPure (.int 9))) (mPure (.int 1)))))
      sNil)) : S) ⟨[some (.obj n, false), some (.lst (N.map T.str), false), none, none, none, none], sto⟩ = some (.next, ⟨[some (.obj n, false), some (.lst (N.map T.str), false), some (.int k, false), none, none, none], s3⟩) := by
    by_cases h8 : r2 = 8
    · obtain ⟨r3, s3, p3, a3, b3, o3, l3⟩ := pickN (n := n) (many := 1999999999) (by omega : n < s2.length) o2 (by decide) (by decide)
      refine ⟨r3 - 999999999, s3, o3, by omega, ?_⟩
      have bb : bnd64 2 = true := by decide
      subst h8
      simp [runFn, sSeq, sIf, sSet, sNew, sRet, sNil, sNx, sRetOwn, sGo, sReverse, sFor, sAppend, sExtend, lstAt, mTest, mNot, mAnd, mOr, mBool, mIf, mOp, mUn, mVar, mMap, mCons, mNil, mPure, mStrs, mCall, putSlot, hName, hTup, iRange, iSeq, ltT, leT, lenT, addT, subT, modT, fdivT, negT, absT, seqOf, mTrue, freezeAt, thaw, p1, p2, eqO_int, powT, mulT, bb, p3]
    · have hb : (r2 == 8) = false := beq_eq_false_iff_ne.mpr h8
      refine ⟨r1 - 2, s2, o2, by omega, ?_⟩
      simp [runFn, sSeq, sIf, sSet, sNew, sRet, sNil, sNx, sRetOwn, sGo, sReverse, sFor, sAppend, sExtend, lstAt, mTest, mNot, mAnd, mOr, mBool, mIf, mOp, mUn, mVar, mMap, mCons, mNil, mPure, mStrs, mCall, putSlot, hName, hTup, iRange, iSeq, ltT, leT, lenT, addT, subT, modT, fdivT, negT, absT, seqOf, mTrue, freezeAt, thaw, p1, p2, eqO_int, hb]
  obtain ⟨k, s3, o3, l3, num⟩ := num
  have hN : (isort N).length = N.length := isort_len
  have h2 := okN.1
  have nn : (isort N).length < lim := by show _ < 1000000; omega
  have so := sorted_strs (l := N) (by omega)
  unfold m_law_sum runFn
  rw [show ([T.obj n, .lst (N.map T.str)].map (fun t => some (t, false)) ++ List.replicate (6 - [T.obj n, .lst (N.map T.str)].length) none : List Slot) = [some (.obj n, false), some (.lst (N.map T.str), false), none, none, none, none] from rfl, seq_next num]
  simp [runFn, sSeq, sIf, sSet, sNew, sRet, sNil, sNx, sRetOwn, sGo, sReverse, sFor, sAppend, sExtend, lstAt, mTest, mNot, mAnd, mOr, mBool, mIf, mOp, mUn, mVar, mMap, mCons, mNil, mPure, mStrs, mCall, putSlot, hName, hTup, iRange, iSeq, ltT, leT, lenT, addT, subT, modT, fdivT, negT, absT, seqOf, mTrue, freezeAt, thaw, so, nn]
  generalize hF : forL _ _ _ _ = r
  obtain ⟨s', rfl, P⟩ := forL_at hF (fun ts s => ∃ (l : List Str) (acc : List (Str × Int)) (o4 o5 : Slot) (st : List SO), ts = l.map T.str ∧ (∀ x ∈ l, x ∈ N) ∧ s = ⟨[some (.obj n, false), some (.lst (N.map T.str), false), some (.int k, false), some (.lst (acc.map pT), true), o4, o5], st⟩ ∧ StO st ∧ st.length = sto.length ∧ acc.length + l.length ≤ N.length ∧ ∀ p ∈ acc, p.1 ∈ N ∧ -4 < p.2 ∧ p.2 < 4)
    ⟨isort N, [], none, none, s3, rfl, fun x hx => isort_mem hx, rfl, o3, l3, by simp [hN], fun p hp => by cases hp⟩ (by
      rintro t r s ⟨l, acc, o4, o5, st, e1, e2, rfl, e3, e4, e5, e6⟩
      cases l with
      | nil => cases e1
      | cons x l =>
        cases e1
        have xN := e2 x List.mem_cons_self
        obtain ⟨v, t1, q1, c1, d1, w1, m1⟩ := pickN (n := n) (many := 7) (by omega : n < st.length) e3 (by decide) (by decide)
        obtain ⟨i, t2, q2, c2, d2, w2, m2⟩ := pickN (n := n) (many := 7) (by omega : n < t1.length) w1 (by decide) (by decide)
        obtain ⟨ii, hi, ei⟩ : ∃ j : Nat, j < 7 ∧ i = (j : Int) := ⟨i.toNat, by omega, by omega⟩
        obtain ⟨tm, ht, g1, g2⟩ := times_at hi c1 d1
        rw [← ei] at ht
        simp only [List.length_cons] at e5
        have hl : acc.length < lim := by show _ < 1000000; omega
        by_cases h0 : tm = 0
        · refine ⟨_, ⟨[some (.obj n, false), some (.lst (N.map T.str), false), some (.int k, false), some (.lst (acc.map pT), true), some (.str x, false), some (.int tm, false)], t2⟩, rfl, ?_, l, acc, some (.str x, false), some (.int tm, false), t2, rfl, fun y hy => e2 y (List.mem_cons_of_mem _ hy), rfl, w2, by omega, by omega, e6⟩
          subst h0
          simp [runFn, sSeq, sIf, sSet, sNew, sRet, sNil, sNx, sRetOwn, sGo, sReverse, sFor, sAppend, sExtend, lstAt, mTest, mNot, mAnd, mOr, mBool, mIf, mOp, mUn, mVar, mMap, mCons, mNil, mPure, mStrs, mCall, putSlot, hName, hTup, iRange, iSeq, ltT, leT, lenT, addT, subT, modT, fdivT, negT, absT, seqOf, mTrue, freezeAt, thaw, q1, q2, ht, neO_int]
        · have hb : (tm == 0) = false := beq_eq_false_iff_ne.mpr h0
          refine ⟨_, ⟨[some (.obj n, false), some (.lst (N.map T.str), false), some (.int k, false), some (.lst ((acc ++ [(x, tm)]).map pT), true), some (.str x, false), some (.int tm, false)], t2⟩, rfl, ?_, l, acc ++ [(x, tm)], some (.str x, false), some (.int tm, false), t2, rfl, fun y hy => e2 y (List.mem_cons_of_mem _ hy), rfl, w2, by omega, by rw [List.length_append, List.length_singleton]; omega, ?_⟩
          · simp [runFn, sSeq, sIf, sSet, sNew, sRet, sNil, sNx, sRetOwn, sGo, sReverse, sFor, sAppend, sExtend, lstAt, mTest, mNot, mAnd, mOr, mBool, mIf, mOp, mUn, mVar, mMap, mCons, mNil, mPure, mStrs, mCall, putSlot, hName, hTup, iRange, iSeq, ltT, leT, lenT, addT, subT, modT, fdivT, negT, absT, seqOf, mTrue, freezeAt, thaw, q1, q2, ht, neO_int, hb, hl, pT]
          · intro p hp
            rcases List.mem_append.mp hp with z | z -- here
            · exact e6 p z
            · rw [List.mem_singleton] at z; subst z; exact ⟨xN, g1, g2⟩)
  obtain ⟨l, acc, o4, o5, st, e1, e2, rfl, e3, e4, e5, e6⟩ := P
  cases l with
  | cons _ _ => cases e1
  | nil =>
    simp [runFn, sSeq, sIf, sSet, sNew, sRet, sNil, sNx, sRetOwn, sGo, sReverse, sFor, sAppend, sExtend, lstAt, mTest, mNot, mAnd, mOr, mBool, mIf, mOp, mUn, mVar, mMap, mCons, mNil, mPure, mStrs, mCall, putSlot, hName, hTup, iRange, iSeq, ltT, leT, lenT, addT, subT, modT, fdivT, negT, absT, seqOf, mTrue, freezeAt, thaw, tupleT]
    exact .of ⟨(k, acc), rfl, ⟨by simpa using e5, e6⟩, e3, e4⟩
end K
end
noncomputable section
set_option linter.all false
set_option maxRecDepth 100000
set_option autoImplicit false
namespace K
open C PySem
noncomputable abbrev Hd := Str × Int
noncomputable def hT (h : Hd) : T := .tup [.str h.1, .int h.2]
noncomputable def okHs (H : List Hd) : Prop := 1 ≤ H.length ∧ H.length ≤ 3 ∧ ∀ h ∈ H, okN h.1 ∧ 1 ≤ h.2 ∧ h.2 ≤ 4
inductive Rem where
  | most (s : Sm) | rest (s : Sm) (m : Int) | pl (h : Str) (p : Int) | all (l : List Rem) | any (l : List Rem) | no (r : Rem)
mutual
noncomputable def remT : Rem → T
  | .most s => .tup [.str "most", smT s]
  | .rest s m => .tup [.str "rest", smT s, .int m]
  | .pl h p => .tup [.str "at", .str h, .int p]
  | .all l => .tup [.str "and", .tup (remsT l)]
  | .any l => .tup [.str "or", .tup (remsT l)]
  | .no r => .tup [.str "not", remT r]
noncomputable def remsT : List Rem → List T
  | [] => []
  | r :: l => remT r :: remsT l
end
theorem remsT_map : ∀ l : List Rem, remsT l = l.map remT
  | [] => rfl
  | r :: l => by rw [remsT, remsT_map l]; rfl
inductive OkR (N : List Str) (H : List Hd) : Nat → Rem → Prop where
  | most {d : Nat} {s : Sm} : okSm N s → OkR N H d (.most s)
  | rest {d : Nat} {s : Sm} {m : Int} : okSm N s → 2 ≤ m → m ≤ 12 → OkR N H d (.rest s m)
  | pl {d : Nat} {h : Hd} {p : Int} : h ∈ H → 0 ≤ p → p < h.2 → OkR N H d (.pl h.1 p)
  | all {d : Nat} {l : List Rem} : l.length ≤ 5 → (∀ r ∈ l, OkR N H d r) → OkR N H (d + 1) (.all l)
  | any {d : Nat} {l : List Rem} : l.length ≤ 5 → (∀ r ∈ l, OkR N H d r) → OkR N H (d + 1) (.any l)
  | no {d : Nat} {r : Rem} : OkR N H d r → OkR N H (d + 1) (.no r)
theorem OkR.up {N : List Str} {H : List Hd} {d : Nat} {r : Rem} (h : OkR N H d r) : OkR N H (d + 1) r := by
  induction h with
  | most h => exact .most h
  | rest h a b => exact .rest h a b
  | pl h a b => exact .pl h a b
  | all h _ ih => exact .all h ih
  | any h _ ih => exact .any h ih
  | no _ ih => exact .no ih
noncomputable def RmO (N : List Str) (H : List Hd) (d L : Nat) (t : T) (st : List SO) : Prop := ∃ r, t = remT r ∧ OkR N H d r ∧ StO st ∧ st.length = L
theorem itemT_mem {α : Type} (h : α → T) (l : List α) {i : Int} (h0 : 0 ≤ i) (h1 : i < l.length) : ∃ a ∈ l, itemT (.lst (l.map h)) (.int i) = some (h a) := itemT_lst h l h0 h1
noncomputable section
variable {n : Nat} {N : List Str} {H : List Hd} {sto : List SO}
theorem simple (hn : n < sto.length) (hs : StO sto) (okn : okNs N) (okh : okHs H) : Out (m_law_simple [.obj n, .lst (N.map T.str), .lst (H.map hT)] sto) (RmO N H 0 sto.length) := by
  obtain ⟨r1, s1, p1, a1, b1, o1, l1⟩ := pickN (many := 4) hn hs (by decide) (by decide)
  unfold m_law_simple
  by_cases h0 : r1 = 0
  · subst h0
    obtain ⟨hl1, hl2, hok⟩ := okh
    obtain ⟨r2, s2, p2, a2, b2, o2, l2⟩ := pickN (n := n) (many := (H.length : Int)) (by omega : n < s1.length) o1 (by omega) (by omega)
    obtain ⟨h, hm, hi⟩ := itemT_mem hT H a2 b2
    obtain ⟨k1, k2, k3⟩ := hok h hm
    obtain ⟨r3, s3, p3, a3, b3, o3, l3⟩ := pickN (n := n) (many := h.2) (by omega : n < s2.length) o2 (by omega) (by omega)
    simp [runFn, sSeq, sIf, sSet, sNew, sRet, sNil, sNx, sRetOwn, sGo, sReverse, sFor, sAppend, sExtend, lstAt, mTest, mNot, mAnd, mOr, mBool, mIf, mOp, mUn, mVar, mMap, mCons, mNil, mPure, mStrs, mCall, putSlot, hName, hTup, iRange, iSeq, ltT, leT, lenT, addT, subT, modT, fdivT, negT, absT, seqOf, mTrue, freezeAt, thaw, p1, eqO_int, p2, hi, hT, p3]
    exact .of ⟨.pl h.1 r3, rfl, .pl hm a3 b3, o3, by omega⟩
  · have hb : (r1 == 0) = false := beq_eq_false_iff_ne.mpr h0
    obtain ⟨t, s2, p2, s, rfl, ok, o2, l2⟩ := sum (n := n) (by omega : n < s1.length) o1 okn
    by_cases h1 : r1 = 1
    · subst h1
      obtain ⟨r3, s3, p3, a3, b3, o3, l3⟩ := pickN (n := n) (many := 11) (by omega : n < s2.length) o2 (by omega) (by omega)
      simp [runFn, sSeq, sIf, sSet, sNew, sRet, sNil, sNx, sRetOwn, sGo, sReverse, sFor, sAppend, sExtend, lstAt, mTest, mNot, mAnd, mOr, mBool, mIf, mOp, mUn, mVar, mMap, mCons, mNil, mPure, mStrs, mCall, putSlot, hName, hTup, iRange, iSeq, ltT, leT, lenT, addT, subT, modT, fdivT, negT, absT, seqOf, mTrue, freezeAt, thaw, p1, eqO_int, p2, p3]
      exact .of ⟨.rest s (2 + r3), rfl, .rest ok (by omega) (by omega), o3, by omega⟩
    · have hb1 : (r1 == 1) = false := beq_eq_false_iff_ne.mpr h1
      simp [runFn, sSeq, sIf, sSet, sNew, sRet, sNil, sNx, sRetOwn, sGo, sReverse, sFor, sAppend, sExtend, lstAt, mTest, mNot, mAnd, mOr, mBool, mIf, mOp, mUn, mVar, mMap, mCons, mNil, mPure, mStrs, mCall, putSlot, hName, hTup, iRange, iSeq, ltT, leT, lenT, addT, subT, modT, fdivT, negT, absT, seqOf, mTrue, freezeAt, thaw, p1, eqO_int, hb, hb1, p2]
      exact .of ⟨.most s, rfl, .most ok, o2, by omega⟩
theorem word_at {v : Int} (h0 : 0 ≤ v) (h1 : v < 2) : (v = 0 ∧ itemT (.lst [.str "and", .str "or"]) (.int v) = some (.str "and")) ∨ (v = 1 ∧ itemT (.lst [.str "and", .str "or"]) (.int v) = some (.str "or")) := by
  have : v = 0 ∨ v = 1 := by omega
  rcases this with rfl | rfl
  · exact .inl ⟨rfl, rfl⟩
  · exact .inr ⟨rfl, rfl⟩
noncomputable def either (v : Int) (l : List Rem) : Rem := if v = 0 then .all l else .any l
noncomputable def wordE (v : Int) : Str := if v = 0 then "and" else "or"
theorem word_e {v : Int} (h0 : 0 ≤ v) (h1 : v < 2) : itemT (.lst [.str "and", .str "or"]) (.int v) = some (.str (wordE v)) := by
  rcases word_at h0 h1 with ⟨rfl, h⟩ | ⟨rfl, h⟩ <;> exact h
theorem either_T {v : Int} {l : List Rem} : remT (either v l) = .tup [.str (wordE v), .tup (remsT l)] := by
  unfold either wordE
  split <;> simp [remT]
theorem either_ok {v : Int} {d : Nat} {l : List Rem} (h : l.length ≤ 5) (h2 : ∀ r ∈ l, OkR N H d r) : OkR N H (d + 1) (either v l) := by
  unfold either
  split
  · exact .all h h2
  · exact .any h h2
theorem remark (hn : n < sto.length) (hs : StO sto) (okn : okNs N) (okh : okHs H) : Out (m_law_remark [.obj n, .lst (N.map T.str), .lst (H.map hT)] sto) (RmO N H 3 sto.length) := by
  obtain ⟨w, s1, p1, a1, b1, o1, l1⟩ := pickN (many := 11) hn hs (by decide) (by decide)
  unfold m_law_remark
  by_cases h2 : w < 2
  · simp [runFn, sSeq, sIf, sSet, sNew, sRet, sNil, sNx, sRetOwn, sGo, sReverse, sFor, sAppend, sExtend, lstAt, mTest, mNot, mAnd, mOr, mBool, mIf, mOp, mUn, mVar, mMap, mCons, mNil, mPure, mStrs, mCall, putSlot, hName, hTup, iRange, iSeq, ltT, leT, lenT, addT, subT, modT, fdivT, negT, absT, seqOf, mTrue, freezeAt, thaw, p1, h2]
    exact .of ⟨.all [], by simp [remT, remsT], .all (by simp) (fun r hr => by cases hr), o1, by omega⟩
  obtain ⟨t1, s2, p2, x1, rfl, k1, o2, l2⟩ := simple (n := n) (by omega : n < s1.length) o1 okn okh
  by_cases h5 : w < 5
  · simp [runFn, sSeq, sIf, sSet, sNew, sRet, sNil, sNx, sRetOwn, sGo, sReverse, sFor, sAppend, sExtend, lstAt, mTest, mNot, mAnd, mOr, mBool, mIf, mOp, mUn, mVar, mMap, mCons, mNil, mPure, mStrs, mCall, putSlot, hName, hTup, iRange, iSeq, ltT, leT, lenT, addT, subT, modT, fdivT, negT, absT, seqOf, mTrue, freezeAt, thaw, p1, h2, p2, h5]
    exact .of ⟨x1, rfl, k1.up.up.up, o2, by omega⟩
  by_cases e5 : w = 5
  · subst e5
    simp [runFn, sSeq, sIf, sSet, sNew, sRet, sNil, sNx, sRetOwn, sGo, sReverse, sFor, sAppend, sExtend, lstAt, mTest, mNot, mAnd, mOr, mBool, mIf, mOp, mUn, mVar, mMap, mCons, mNil, mPure, mStrs, mCall, putSlot, hName, hTup, iRange, iSeq, ltT, leT, lenT, addT, subT, modT, fdivT, negT, absT, seqOf, mTrue, freezeAt, thaw, p1, p2, eqO_int]
    exact .of ⟨.no x1, by simp [remT], .no k1.up.up, o2, by omega⟩
  have n5 : (w == 5) = false := beq_eq_false_iff_ne.mpr e5
  obtain ⟨t3, s3, p3, x2, rfl, k2, o3, l3⟩ := simple (n := n) (by omega : n < s2.length) o2 okn okh
  have m2 : 0 ≤ w % 2 ∧ w % 2 < 2 := by omega
  have we := word_e m2.1 m2.2
  by_cases h8 : w < 8
  · simp [runFn, sSeq, sIf, sSet, sNew, sRet, sNil, sNx, sRetOwn, sGo, sReverse, sFor, sAppend, sExtend, lstAt, mTest, mNot, mAnd, mOr, mBool, mIf, mOp, mUn, mVar, mMap, mCons, mNil, mPure, mStrs, mCall, putSlot, hName, hTup, iRange, iSeq, ltT, leT, lenT, addT, subT, modT, fdivT, negT, absT, seqOf, mTrue, freezeAt, thaw, p1, h2, p2, h5, eqO_int, n5, we, p3, h8]
    refine .of ⟨either (w % 2) [x1, x2], by rw [either_T]; simp [remsT], (either_ok (d := 0) (by simp) ?_).up.up, o3, by omega⟩
    intro r hr
    simp only [List.mem_cons, List.not_mem_nil, or_false] at hr
    rcases hr with rfl | rfl
    · exact k1
    · exact k2
  by_cases e8 : w = 8
  · subst e8
    obtain ⟨v, s4, p4, a4, b4, o4, l4⟩ := pickN (n := n) (many := 2) (by omega : n < s3.length) o3 (by omega) (by omega)
    have wv := word_e a4 b4
    simp [runFn, sSeq, sIf, sSet, sNew, sRet, sNil, sNx, sRetOwn, sGo, sReverse, sFor, sAppend, sExtend, lstAt, mTest, mNot, mAnd, mOr, mBool, mIf, mOp, mUn, mVar, mMap, mCons, mNil, mPure, mStrs, mCall, putSlot, hName, hTup, iRange, iSeq, ltT, leT, lenT, addT, subT, modT, fdivT, negT, absT, seqOf, mTrue, freezeAt, thaw, p1, p2, eqO_int, word_e (v := 0) (by decide) (by decide), p3, p4, wv, item1t]
    refine .of ⟨.no (either v [x1, x2]), by simp [remT, either_T, remsT], .no (either_ok (d := 0) (by simp) ?_).up, o4, by omega⟩
    intro r hr
    simp only [List.mem_cons, List.not_mem_nil, or_false] at hr
    rcases hr with rfl | rfl
    · exact k1
    · exact k2
  have n8 : (w == 8) = false := beq_eq_false_iff_ne.mpr e8
  by_cases e9 : w = 9
  · subst e9
    obtain ⟨v, s4, p4, a4, b4, o4, l4⟩ := pickN (n := n) (many := 2) (by omega : n < s3.length) o3 (by omega) (by omega)
    obtain ⟨t5, s5, p5, x3, rfl, k3, o5, l5⟩ := simple (n := n) (by omega : n < s4.length) o4 okn okh
    have wv := word_e a4 b4
    simp [runFn, sSeq, sIf, sSet, sNew, sRet, sNil, sNx, sRetOwn, sGo, sReverse, sFor, sAppend, sExtend, lstAt, mTest, mNot, mAnd, mOr, mBool, mIf, mOp, mUn, mVar, mMap, mCons, mNil, mPure, mStrs, mCall, putSlot, hName, hTup, iRange, iSeq, ltT, leT, lenT, addT, subT, modT, fdivT, negT, absT, seqOf, mTrue, freezeAt, thaw, p1, p2, eqO_int, word_e (v := 1) (by decide) (by decide), p3, p4, wv, p5]
    refine .of ⟨either v [.no (either 1 [x1, x2]), x3], by simp [remT, either_T, remsT], either_ok (d := 2) (by simp) ?_, o5, by omega⟩
    intro r hr
    simp only [List.mem_cons, List.not_mem_nil, or_false] at hr
    rcases hr with rfl | rfl
    · refine .no (either_ok (d := 0) (by simp) ?_)
      intro r hr
      simp only [List.mem_cons, List.not_mem_nil, or_false] at hr
      rcases hr with rfl | rfl
      · exact k1
      · exact k2
    · exact k3.up.up
  have n9 : (w == 9) = false := beq_eq_false_iff_ne.mpr e9
  have e10 : w = 10 := by omega
  subst e10
  obtain ⟨m, s4, p4, a4, b4, o4, l4⟩ := pickN (n := n) (many := 3) (by omega : n < s3.length) o3 (by omega) (by omega)
  have ml : (1 + m).natAbs < lim := by show _ < 1000000; omega
  obtain ⟨us, s5, ec, l, e1, e2, o5, l5, k5⟩ := mComp_draw (g := hName 0) (nv := 1) (ci := [0, 1, 2]) (it := iRange (mOp addT (mPure (.int 1)) (mCall m_law_pick (mCons (mVar 0) (mCons (mPure (.int 3)) mNil))))) (e := mCall m_law_simple (mCons (mVar 1) (mCons (mVar 2) (mCons (mVar 3) mNil))))
    (s := ⟨[some (.obj n, false), some (.lst (N.map T.str), false), some (.lst (H.map hT), false), some (.int 10, false), some (remT x1, false), some (.tup [.str (wordE 0), .tup [remT x1, remT x2]], false), none], s3⟩) rfl (rangeT (1 + m).toNat) ⟨[some (.obj n, false), some (.lst (N.map T.str), false), some (.lst (H.map hT), false), some (.int 10, false), some (remT x1, false), some (.tup [.str (wordE 0), .tup [remT x1, remT x2]], false), none], s4⟩
    [some (.obj n, false), some (.lst (N.map T.str), false), some (.lst (H.map hT), false), some (.int 10, false), some (remT x1, false), some (.tup [.str (wordE 0), .tup [remT x1, remT x2]], false), none] [some (.obj n, false), some (.lst (N.map T.str), false), some (.lst (H.map hT), false)]
    (fun ts acc st => ∃ l : List Rem, acc = l.map remT ∧ ts.length + l.length ≤ 3 ∧ StO st ∧ st.length = sto.length ∧ ∀ r ∈ l, OkR N H 0 r)
    (by simp [runFn, sSeq, sIf, sSet, sNew, sRet, sNil, sNx, sRetOwn, sGo, sReverse, sFor, sAppend, sExtend, lstAt, mTest, mNot, mAnd, mOr, mBool, mIf, mOp, mUn, mVar, mMap, mCons, mNil, mPure, mStrs, mCall, putSlot, hName, hTup, iRange, iSeq, ltT, leT, lenT, addT, subT, modT, fdivT, negT, absT, seqOf, mTrue, freezeAt, thaw, p4, ml]) rfl rfl rfl (by unfold rangeT; rw [List.length_map, List.length_range]; show _ ≤ 1000000; omega) ⟨[], rfl, by unfold rangeT; rw [List.length_map, List.length_range]; simp only [List.length_nil]; omega, o4, (by show s4.length = sto.length; omega), fun r hr => by cases hr⟩ (by
      rintro t q acc st ⟨l, e1, e2, e3, e4, e5⟩ pre hp
      obtain ⟨a, rfl⟩ : ∃ a, pre = [a] := by
        match pre, hp with
        | [a], _ => exact ⟨a, rfl⟩
      simp only [List.length_cons] at e2
      obtain ⟨t5, s6, p6, x3, rfl, k3, o6, l6⟩ := simple (n := n) (by omega : n < st.length) e3 okn okh
      refine ⟨[some (t, false)], remT x3, s6, rfl, rfl, ?_, l ++ [x3], by rw [e1]; simp, by rw [List.length_append, List.length_singleton]; omega, o6, by omega, fun r hr => ?_⟩
      · simp [runFn, sSeq, sIf, sSet, sNew, sRet, sNil, sNx, sRetOwn, sGo, sReverse, sFor, sAppend, sExtend, lstAt, mTest, mNot, mAnd, mOr, mBool, mIf, mOp, mUn, mVar, mMap, mCons, mNil, mPure, mStrs, mCall, putSlot, hName, hTup, iRange, iSeq, ltT, leT, lenT, addT, subT, modT, fdivT, negT, absT, seqOf, mTrue, freezeAt, thaw, p6]
      · rcases List.mem_append.mp hr with z | z
        · exact e5 r z
        · rw [List.mem_singleton] at z; subst z; exact k3)
  simp only [List.length_nil, Nat.zero_add] at e2
  subst e1
  obtain ⟨v, s7, p7, a7, b7, o7, l7⟩ := pickN (n := n) (many := 2) (by omega : n < s5.length) o5 (by omega) (by omega)
  have wv := word_e a7 b7
  have l2l : l.length + 2 < lim := by show _ < 1000000; omega
  simp [runFn, sSeq, sIf, sSet, sNew, sRet, sNil, sNx, sRetOwn, sGo, sReverse, sFor, sAppend, sExtend, lstAt, mTest, mNot, mAnd, mOr, mBool, mIf, mOp, mUn, mVar, mMap, mCons, mNil, mPure, mStrs, mCall, putSlot, hName, hTup, iRange, iSeq, ltT, leT, lenT, addT, subT, modT, fdivT, negT, absT, seqOf, mTrue, freezeAt, thaw, p1, p2, eqO_int, word_e (v := 0) (by decide) (by decide), p3, ec, tupleT, p7, wv, item1t, l2l, Nat.add_comm]
  refine .of ⟨either v (x1 :: x2 :: l), by simp [either_T, remsT, remsT_map], (either_ok (d := 0) (by simp; omega) ?_).up.up, o7, by omega⟩
  intro r hr
  simp only [List.mem_cons] at hr
  rcases hr with rfl | rfl | hr
  · exact k1
  · exact k2
  · exact k5 r hr
end
end K
end
noncomputable section
set_option linter.all false
set_option maxRecDepth 100000
set_option autoImplicit false
namespace C
open PySem
theorem set_at {i : Nat} {e : M T} {s s1 : Sta} {t : T} (h : e s = some (t, s1)) : sSet i e s = some (.next, putSlot i t false s1) := by unfold sSet; rw [h]
theorem no_if {c : M Bool} {a : S} {s s1 : Sta} (h : c s = some (false, s1)) : sIf c a sNil s = some (.next, s1) := by unfold sIf; rw [h]; rfl
theorem for_at {g : G} {it : M (List T)} {b : S} {s s1 s2 : Sta} {ts : List T} (h : it s = some (ts, s1)) (hf : forL g b ts s1 = some (.next, s2)) : sFor g it b s = some (.next, s2) := by unfold sFor; rw [h]; exact hf
theorem p1 (pre : List Slot) (h : pre.length = 1) : ∃ a, pre = [a] := by
  match pre, h with
  | [a], _ => exact ⟨a, rfl⟩
theorem p2 (pre : List Slot) (h : pre.length = 2) : ∃ a b, pre = [a, b] := by
  match pre, h with
  | [a, b], _ => exact ⟨a, b, rfl⟩
end C
namespace K
open C PySem
structure Bx where
  nm : Str
  lo : Int
  hi : Int
  st : Int
noncomputable def bxT (b : Bx) : T := .tup [.str b.nm, .str "", .int b.lo, .int b.hi, .int b.st]
noncomputable def okBx (b : Bx) : Prop := okN b.nm ∧ b.lo ≤ b.st ∧ b.st ≤ b.hi ∧ b.hi ≤ b.lo + 2
noncomputable def BxO (L : Nat) (t : T) (st : List SO) : Prop := ∃ l : List Bx, t = .lst (l.map bxT) ∧ l.length ≤ 2 ∧ (∀ b ∈ l, okBx b) ∧ StO st ∧ st.length = L
noncomputable section
variable {n : Nat} {N : List Str} {H : List Hd} {sto : List SO}
theorem boxes {c m : Int} (hn : n < sto.length) (hs : StO sto) (m0 : 0 ≤ m) (m2 : m < 3) : Out (m_law_boxes [.obj n, .int c, .int m] sto) (BxO sto.length) := by
  have ml : m.natAbs < lim := by show _ < 1000000; omega
  have c30 : powT (.int 10) (.int 30) = some (.int 1000000000000000000000000000000) := by simp [powT]
  have bb : bnd64 2 = true := by decide
  unfold m_law_boxes
  simp [runFn, sSeq, sIf, sSet, sNew, sRet, sNil, sNx, sRetOwn, sGo, sReverse, sFor, sAppend, sExtend, lstAt, mTest, mNot, mAnd, mOr, mBool, mIf, mOp, mUn, mVar, mMap, mCons, mNil, mPure, mStrs, mCall, putSlot, hName, hTup, iRange, iSeq, ltT, leT, lenT, addT, subT, modT, fdivT, negT, absT, seqOf, mTrue, freezeAt, thaw, ml]
  generalize hF : forL _ _ _ _ = q
  obtain ⟨s', rfl, P⟩ := forL_at hF (fun ts s => ∃ (l : List Bx) (o4 o5 o6 : Slot) (st : List SO), (∀ t ∈ ts, ∃ k : Int, t = .int k) ∧ ts.length + l.length ≤ 2 ∧ s = ⟨[some (.obj n, false), some (.int c, false), some (.int m, false), some (.lst (l.map bxT), true), o4, o5, o6], st⟩ ∧ StO st ∧ st.length = sto.length ∧ ∀ b ∈ l, okBx b)
    ⟨[], none, none, none, sto, fun t ht => by unfold rangeT at ht; obtain ⟨k, _, rfl⟩ := List.mem_map.mp ht; exact ⟨_, rfl⟩, by unfold rangeT; rw [List.length_map, List.length_range]; simp only [List.length_nil]; omega, rfl, hs, rfl, fun b hb => by cases hb⟩ (by
      rintro t q s ⟨l, o4, o5, o6, st, e0, e1, rfl, e2, e3, e4⟩
      obtain ⟨k, rfl⟩ := e0 t List.mem_cons_self
      simp only [List.length_cons] at e1
      have ll : l.length < lim := by show _ < 1000000; omega
      obtain ⟨r1, s1, q1, a1, b1, w1, l1⟩ := pickN (n := n) (many := 4) (by omega : n < st.length) e2 (by decide) (by decide)
      obtain ⟨r2, s2, q2, a2, b2, w2, l2⟩ := pickN (n := n) (many := 9) (by omega : n < s1.length) w1 (by decide) (by decide)
      obtain ⟨lo, s3, w3, l3, h3⟩ : ∃ (lo : Int) (s3 : List SO), StO s3 ∧ s3.length = sto.length ∧ (sSeq (sSet 5 (mOp subT (mCall m_law_pick (mCons (mVar 0) (mCons (mPure (.int 4)) mNil))) (mPure (.int 2))))
          (sIf (mTest (mOp eqO (mCall m_law_pick (mCons (mVar 0) (mCons (mPure (.int 9)) mNil))) (mPure (.int 8))))
          (sSet 5 (mOp subT (mCall m_law_pick (mCons (mVar 0) (mCons (mOp subT (mOp mulT (mPure (.int 2)) (mOp powT (mPure (.int 10)) (mPure (.int 30)))) (mPure (.int 9))) mNil))) (mOp powT (mPure (.int 10)) (mPure (.int 30)))))
          sNil) : S) ⟨[some (.obj n, false), some (.int c, false), some (.int m, false), some (.lst (l.map bxT), true), some (.int k, false), o5, o6], st⟩ = some (.next, ⟨[some (.obj n, false), some (.int c, false), some (.int m, false), some (.lst (l.map bxT), true), some (.int k, false), some (.int lo, false), o6], s3⟩) := by
        by_cases h8 : r2 = 8
        · obtain ⟨r3, s3, q3, a3, b3, w3, l3⟩ := pickN (n := n) (many := 1999999999999999999999999999991) (by omega : n < s2.length) w2 (by decide) (by decide)
          subst h8
          exact ⟨r3 - 1000000000000000000000000000000, s3, w3, by omega, by simp [runFn, sSeq, sIf, sSet, sNew, sRet, sNil, sNx, sRetOwn, sGo, sReverse, sFor, sAppend, sExtend, lstAt, mTest, mNot, mAnd, mOr, mBool, mIf, mOp, mUn, mVar, mMap, mCons, mNil, mPure, mStrs, mCall, putSlot, hName, hTup, iRange, iSeq, ltT, leT, lenT, addT, subT, modT, fdivT, negT, absT, seqOf, mTrue, freezeAt, thaw, q1, q2, eqO_int, c30, mulT, bb, q3]⟩
        · have hb : (r2 == 8) = false := beq_eq_false_iff_ne.mpr h8
          exact ⟨r1 - 2, s2, w2, by omega, by simp [runFn, sSeq, sIf, sSet, sNew, sRet, sNil, sNx, sRetOwn, sGo, sReverse, sFor, sAppend, sExtend, lstAt, mTest, mNot, mAnd, mOr, mBool, mIf, mOp, mUn, mVar, mMap, mCons, mNil, mPure, mStrs, mCall, putSlot, hName, hTup, iRange, iSeq, ltT, leT, lenT, addT, subT, modT, fdivT, negT, absT, seqOf, mTrue, freezeAt, thaw, q1, q2, eqO_int, hb]⟩
      obtain ⟨r4, s4, q4, a4, b4, w4, l4⟩ := pickN (n := n) (many := 3) (by omega : n < s3.length) w3 (by decide) (by decide)
      obtain ⟨x, q5, ox⟩ := name (c := c) (k := k) (sto := s4)
      obtain ⟨r6, s6, q6, a6, b6, w6, l6⟩ := pickN (n := n) (many := lo + r4 - lo + 1) (by omega : n < s4.length) w4 (by omega) (by omega)
      refine ⟨_, ⟨[some (.obj n, false), some (.int c, false), some (.int m, false), some (.lst ((l ++ [Bx.mk x lo (lo + r4) (lo + r6)]).map bxT), true), some (.int k, false), some (.int lo, false), some (.int (lo + r4), false)], s6⟩, rfl, ?_, l ++ [⟨x, lo, lo + r4, lo + r6⟩], _, _, _, s6, fun t ht => e0 t (List.mem_cons_of_mem _ ht), by rw [List.length_append, List.length_singleton]; omega, rfl, w6, by omega, fun b hb => ?_⟩
      · show (sSeq _ (sSeq _ _) : S) ⟨[some (.obj n, false), some (.int c, false), some (.int m, false), some (.lst (l.map bxT), true), some (.int k, false), o5, o6], st⟩ = _
        rw [seq_next h3]
        simp [runFn, sSeq, sIf, sSet, sNew, sRet, sNil, sNx, sRetOwn, sGo, sReverse, sFor, sAppend, sExtend, lstAt, mTest, mNot, mAnd, mOr, mBool, mIf, mOp, mUn, mVar, mMap, mCons, mNil, mPure, mStrs, mCall, putSlot, hName, hTup, iRange, iSeq, ltT, leT, lenT, addT, subT, modT, fdivT, negT, absT, seqOf, mTrue, freezeAt, thaw, q4, q5, q6, ll, bxT]
      · rcases List.mem_append.mp hb with z | z
        · exact e4 b z
        · rw [List.mem_singleton] at z; subst z; exact ⟨ox, by show lo ≤ lo + r6; omega, by show lo + r6 ≤ lo + r4; omega, by show lo + r4 ≤ lo + 2; omega⟩)
  obtain ⟨l, o4, o5, o6, st, e0, e1, rfl, e2, e3, e4⟩ := P
  exact .of ⟨l, rfl, by simpa using e1, e4, e2, e3⟩
structure Sp where
  hand : Str
  here : Int
  guard : Rem
  sets : List (Str × Sm)
  there : Int
noncomputable def seT (p : Str × Sm) : T := .tup [.str p.1, smT p.2]
noncomputable def spT (s : Sp) : T := .tup [.str s.hand, .int s.here, remT s.guard, .tup (s.sets.map seT), .int s.there]
structure OkP (N : List Str) (H : List Hd) (s : Sp) : Prop where
  hd : okN s.hand
  gd : OkR N H 3 s.guard
  len : s.sets.length ≤ 2
  set : ∀ p ∈ s.sets, p.1 ∈ N ∧ okSm N p.2
noncomputable def SpO (N : List Str) (H : List Hd) (L : Nat) (t : T) (st : List SO) : Prop := ∃ s, t = spT s ∧ OkP N H s ∧ StO st ∧ st.length = L
theorem step (hn : n < sto.length) (hs : StO sto) (okn : okNs N) (okh : okHs H) : Out (m_law_step [.obj n, .lst (N.map T.str), .lst (H.map hT)] sto) (SpO N H sto.length) := by
  obtain ⟨hl1, hl2, hok⟩ := okh
  obtain ⟨r2, s2, q2, a2, b2, o2, l2⟩ := pickN (n := n) (many := (H.length : Int)) hn hs (by omega) (by omega)
  obtain ⟨h, hm, hi⟩ := itemT_mem hT H a2 b2
  obtain ⟨k1, k2, k3⟩ := hok h hm
  obtain ⟨r3, s3, q3, a3, b3, o3, l3⟩ := pickN (n := n) (many := h.2) (by omega : n < s2.length) o2 (by omega) (by omega)
  obtain ⟨r4, s4, q4, a4, b4, o4, l4⟩ := pickN (n := n) (many := h.2) (by omega : n < s3.length) o3 (by omega) (by omega)
  obtain ⟨t5, s5, q5, g, rfl, kg, o5, l5⟩ := remark (n := n) (by omega : n < s4.length) o4 okn ⟨hl1, hl2, hok⟩
  have hN : (isort N).length = N.length := isort_len
  have h2 := okn.1
  have nn : (isort N).length < lim := by show _ < 1000000; omega
  have so := sorted_strs (l := N) (by omega)
  unfold m_law_step
  simp [runFn, sSeq, sIf, sSet, sNew, sRet, sNil, sNx, sRetOwn, sGo, sReverse, sFor, sAppend, sExtend, lstAt, mTest, mNot, mAnd, mOr, mBool, mIf, mOp, mUn, mVar, mMap, mCons, mNil, mPure, mStrs, mCall, putSlot, hName, hTup, iRange, iSeq, ltT, leT, lenT, addT, subT, modT, fdivT, negT, absT, seqOf, mTrue, freezeAt, thaw, q2, hi, hT, q3, q4, q5, so, nn]
  generalize hF : forL _ _ _ _ = q
  obtain ⟨s', rfl, P⟩ := forL_at hF (fun ts s => ∃ (m : List Str) (l : List (Str × Sm)) (o9 o10 : Slot) (st : List SO), ts = m.map T.str ∧ (∀ x ∈ m, x ∈ N) ∧ m.length + l.length ≤ 2 ∧ s = ⟨[some (.obj n, false), some (.lst (N.map T.str), false), some (.lst (H.map hT), false), some (.str h.1, false), some (.int h.2, false), some (.int r3, false), some (.int r4, false), some (remT g, false), some (.lst (l.map seT), true), o9, o10], st⟩ ∧ StO st ∧ st.length = sto.length ∧ ∀ p ∈ l, p.1 ∈ N ∧ okSm N p.2)
    ⟨isort N, [], none, none, s5, rfl, fun x hx => isort_mem hx, by simp only [List.length_nil]; omega, rfl, o5, by omega, fun p hp => by cases hp⟩ (by
      rintro t q s ⟨m, l, o9, o10, st, e1, e2, e3, rfl, e4, e5, e6⟩
      cases m with
      | nil => cases e1
      | cons x m =>
        cases e1
        have xN := e2 x List.mem_cons_self
        simp only [List.length_cons] at e3
        have ll : l.length < lim := by show _ < 1000000; omega
        obtain ⟨w, t1, q1, c1, d1, w1, m1⟩ := pickN (n := n) (many := 5) (by omega : n < st.length) e4 (by decide) (by decide)
        by_cases h0 : w = 0
        · subst h0
          obtain ⟨t2, s2, q2, y, rfl, ok, w2, m2⟩ := sum (n := n) (by omega : n < t1.length) w1 okn
          refine ⟨_, ⟨[some (.obj n, false), some (.lst (N.map T.str), false), some (.lst (H.map hT), false), some (.str h.1, false), some (.int h.2, false), some (.int r3, false), some (.int r4, false), some (remT g, false), some (.lst ((l ++ [(x, y)]).map seT), true), some (.str x, false), some (.int 0, false)], s2⟩, rfl, ?_, m, l ++ [(x, y)], _, _, s2, rfl, fun z hz => e2 z (List.mem_cons_of_mem _ hz), by rw [List.length_append, List.length_singleton]; omega, rfl, w2, by omega, fun p hp => ?_⟩
          · simp [runFn, sSeq, sIf, sSet, sNew, sRet, sNil, sNx, sRetOwn, sGo, sReverse, sFor, sAppend, sExtend, lstAt, mTest, mNot, mAnd, mOr, mBool, mIf, mOp, mUn, mVar, mMap, mCons, mNil, mPure, mStrs, mCall, putSlot, hName, hTup, iRange, iSeq, ltT, leT, lenT, addT, subT, modT, fdivT, negT, absT, seqOf, mTrue, freezeAt, thaw, q1, eqO_int, q2, ll, seT]
          · rcases List.mem_append.mp hp with z | z
            · exact e6 p z
            · rw [List.mem_singleton] at z; subst z; exact ⟨xN, ok⟩
        · have b0 : (w == 0) = false := beq_eq_false_iff_ne.mpr h0
          by_cases h1 : w = 1
          · subst h1
            obtain ⟨v, s2, q2, a2, b2, w2, m2⟩ := pickN (n := n) (many := 3) (by omega : n < t1.length) w1 (by decide) (by decide)
            refine ⟨_, ⟨[some (.obj n, false), some (.lst (N.map T.str), false), some (.lst (H.map hT), false), some (.str h.1, false), some (.int h.2, false), some (.int r3, false), some (.int r4, false), some (remT g, false), some (.lst ((l ++ [(x, (v - 1, [(x, 1)]))]).map seT), true), some (.str x, false), some (.int 1, false)], s2⟩, rfl, ?_, m, l ++ [(x, (v - 1, [(x, 1)]))], _, _, s2, rfl, fun z hz => e2 z (List.mem_cons_of_mem _ hz), by rw [List.length_append, List.length_singleton]; omega, rfl, w2, by omega, fun p hp => ?_⟩
            · simp [runFn, sSeq, sIf, sSet, sNew, sRet, sNil, sNx, sRetOwn, sGo, sReverse, sFor, sAppend, sExtend, lstAt, mTest, mNot, mAnd, mOr, mBool, mIf, mOp, mUn, mVar, mMap, mCons, mNil, mPure, mStrs, mCall, putSlot, hName, hTup, iRange, iSeq, ltT, leT, lenT, addT, subT, modT, fdivT, negT, absT, seqOf, mTrue, freezeAt, thaw, q1, eqO_int, q2, ll, seT, smT, pT]
            · rcases List.mem_append.mp hp with z | z
              · exact e6 p z
              · rw [List.mem_singleton] at z; subst z
                refine ⟨xN, List.length_pos_of_mem xN, fun p hp => ?_⟩
                simp only [List.mem_singleton] at hp
                subst hp
                exact ⟨xN, by show (-4 : Int) < 1; decide, by show (1 : Int) < 4; decide⟩
          · have b1 : (w == 1) = false := beq_eq_false_iff_ne.mpr h1
            refine ⟨_, ⟨[some (.obj n, false), some (.lst (N.map T.str), false), some (.lst (H.map hT), false), some (.str h.1, false), some (.int h.2, false), some (.int r3, false), some (.int r4, false), some (remT g, false), some (.lst (l.map seT), true), some (.str x, false), some (.int w, false)], t1⟩, rfl, ?_, m, l, _, _, t1, rfl, fun z hz => e2 z (List.mem_cons_of_mem _ hz), by omega, rfl, w1, by omega, e6⟩
            simp [runFn, sSeq, sIf, sSet, sNew, sRet, sNil, sNx, sRetOwn, sGo, sReverse, sFor, sAppend, sExtend, lstAt, mTest, mNot, mAnd, mOr, mBool, mIf, mOp, mUn, mVar, mMap, mCons, mNil, mPure, mStrs, mCall, putSlot, hName, hTup, iRange, iSeq, ltT, leT, lenT, addT, subT, modT, fdivT, negT, absT, seqOf, mTrue, freezeAt, thaw, q1, eqO_int, b0, b1])
  obtain ⟨m, l, o9, o10, st, e1, e2, e3, rfl, e4, e5, e6⟩ := P
  simp [runFn, sSeq, sIf, sSet, sNew, sRet, sNil, sNx, sRetOwn, sGo, sReverse, sFor, sAppend, sExtend, lstAt, mTest, mNot, mAnd, mOr, mBool, mIf, mOp, mUn, mVar, mMap, mCons, mNil, mPure, mStrs, mCall, putSlot, hName, hTup, iRange, iSeq, ltT, leT, lenT, addT, subT, modT, fdivT, negT, absT, seqOf, mTrue, freezeAt, thaw, tupleT]
  exact .of ⟨⟨h.1, r3, g, l, r4⟩, rfl, ⟨k1, kg, by show l.length ≤ 2; omega, e6⟩, e4, e5⟩
noncomputable def prT (bs : List Bx) (H : List Hd) (ss : List Sp) : T := .tup [.lst (bs.map bxT), .lst (H.map hT), .lst (ss.map spT), .tup []]
structure OkPr (bs : List Bx) (H : List Hd) (ss : List Sp) : Prop where
  ns : okNs (bs.map (·.nm))
  bx : ∀ b ∈ bs, okBx b
  hs : okHs H
  ss : ∀ s ∈ ss, OkP (bs.map (·.nm)) H s
noncomputable def PrO (k : Nat) (t : T) (st : List SO) : Prop := ∃ bs H ss, t = prT bs H ss ∧ OkPr bs H ss ∧ ss.length ≤ k
theorem StO.add {sto : List SO} (h : StO sto) {so : SO} (hs : Strm so) : StO (sto ++ [so]) := fun x hx => by
  rcases List.mem_append.mp hx with z | z
  · exact h x z
  · rw [List.mem_singleton] at z; subst z; exact hs
theorem many_at {m : Int} (h0 : 0 < m) (h1 : m < 4) : ∃ p : Int, itemT (.lst [.int 4, .int 4, .int 2]) (.int (m - 1)) = some (.int p) ∧ 1 ≤ p ∧ p ≤ 4 := by
  have : m = 1 ∨ m = 2 ∨ m = 3 := by omega
  rcases this with rfl | rfl | rfl
  · exact ⟨4, rfl, by decide, by decide⟩
  · exact ⟨4, rfl, by decide, by decide⟩
  · exact ⟨2, rfl, by decide, by decide⟩
theorem program {cs : List Int} {k : Nat} (hc : cs.length ≤ 63) : Out (m_law_program [scr cs, .int (k : Int)] []) (PrO 63) := by
  have c0e := cell_n (cs := cs) (k := 0) (i := 0) (sto := []) rfl
  have c1e := cell_n (cs := cs) (k := 1) (i := 1) (sto := []) rfl
  have c2e := cell_n (cs := cs) (k := 2) (i := 2) (sto := []) rfl
  generalize cell cs 0 = c0 at *
  generalize cell cs 1 = c at *
  generalize cell cs 2 = c2 at *
  obtain ⟨w, ew⟩ : ∃ w : Int, c0 / 5 % 2 = w := ⟨_, rfl⟩
  have s0 : StO [.lst [.int c2, .int w]] := fun x hx => by rw [List.mem_singleton] at hx; subst hx; exact .inl ⟨_, _, rfl⟩
  obtain ⟨r5, s5, q5, a5, b5, o5, l5⟩ := pickN (n := 0) (many := 3) (by simp) s0 (by decide) (by decide)
  have l5' : s5.length = 1 := l5
  have hm : (1 + r5).natAbs < lim := by show _ < 1000000; omega
  unfold m_law_program runFn
  rw [show ([scr cs, T.int (k : Int)].map (fun t => some (t, false)) ++ List.replicate (11 - [scr cs, T.int (k : Int)].length) none : List Slot) = [some (scr cs, false), some (.int (k : Int), false), none, none, none, none, none, none, none, none, none] from rfl]
  rw [seq_step (s' := ⟨[some (scr cs, false), some (.int (k : Int), false), some (.int w, false), none, none, none, none, none, none, none, none], []⟩) (by simp [runFn, sSeq, sIf, sSet, sNew, sRet, sNil, sNx, sRetOwn, sGo, sReverse, sFor, sAppend, sExtend, lstAt, mTest, mNot, mAnd, mOr, mBool, mIf, mOp, mUn, mVar, mMap, mCons, mNil, mPure, mStrs, mCall, putSlot, hName, hTup, iRange, iSeq, ltT, leT, lenT, addT, subT, modT, fdivT, negT, absT, seqOf, mTrue, freezeAt, thaw, c0e, ew])]
  rw [seq_step (s' := ⟨[some (scr cs, false), some (.int (k : Int), false), some (.int w, false), some (.int c, false), none, none, none, none, none, none, none], []⟩) (by simp [runFn, sSeq, sIf, sSet, sNew, sRet, sNil, sNx, sRetOwn, sGo, sReverse, sFor, sAppend, sExtend, lstAt, mTest, mNot, mAnd, mOr, mBool, mIf, mOp, mUn, mVar, mMap, mCons, mNil, mPure, mStrs, mCall, putSlot, hName, hTup, iRange, iSeq, ltT, leT, lenT, addT, subT, modT, fdivT, negT, absT, seqOf, mTrue, freezeAt, thaw, c1e])]
  rw [seq_step (s' := ⟨[some (scr cs, false), some (.int (k : Int), false), some (.int w, false), some (.int c, false), some (.obj 0, false), none, none, none, none, none, none], [.lst [.int c2, .int w]]⟩) (by simp [runFn, sSeq, sIf, sSet, sNew, sRet, sNil, sNx, sRetOwn, sGo, sReverse, sFor, sAppend, sExtend, lstAt, mTest, mNot, mAnd, mOr, mBool, mIf, mOp, mUn, mVar, mMap, mCons, mNil, mPure, mStrs, mCall, putSlot, hName, hTup, iRange, iSeq, ltT, leT, lenT, addT, subT, modT, fdivT, negT, absT, seqOf, mTrue, freezeAt, thaw, c2e, mNewLst])]
  rw [seq_step (s' := ⟨[some (scr cs, false), some (.int (k : Int), false), some (.int w, false), some (.int c, false), some (.obj 0, false), some (.int (1 + r5), false), none, none, none, none, none], s5⟩) (by simp [runFn, sSeq, sIf, sSet, sNew, sRet, sNil, sNx, sRetOwn, sGo, sReverse, sFor, sAppend, sExtend, lstAt, mTest, mNot, mAnd, mOr, mBool, mIf, mOp, mUn, mVar, mMap, mCons, mNil, mPure, mStrs, mCall, putSlot, hName, hTup, iRange, iSeq, ltT, leT, lenT, addT, subT, modT, fdivT, negT, absT, seqOf, mTrue, freezeAt, thaw, q5])]
  rw [seq_step (s' := ⟨[some (scr cs, false), some (.int (k : Int), false), some (.int w, false), some (.int c, false), some (.obj 0, false), some (.int (1 + r5), false), some (.lst [], true), none, none, none, none], s5⟩) rfl]
  obtain ⟨H, o7, s7, okH, o7s, l7, e7⟩ : ∃ (H : List Hd) (o7 : Slot) (s7 : List SO), okHs H ∧ StO s7 ∧ s7.length = 1 ∧ sFor (hName 7) (iRange (mVar 5))
      (sAppend 6 (mMap (fun l => some (.tup l)) (mCons (mCall m_law_name (mCons (mVar 3) (mCons (mOp addT (mPure (.int 5)) (mVar 7)) mNil))) (mCons (mOp addT (mPure (.int 1)) (mCall m_law_pick (mCons (mVar 4) (mCons (mOp itemT (mMap (fun l => some (.lst l)) (mCons (mPure (.int 4)) (mCons (mPure (.int 4)) (mCons (mPure (.int 2)) mNil)))) (mOp subT (mVar 5) (mPure (.int 1)))) mNil)))) mNil))))
      ⟨[some (scr cs, false), some (.int (k : Int), false), some (.int w, false), some (.int c, false), some (.obj 0, false), some (.int (1 + r5), false), some (.lst [], true), none, none, none, none], s5⟩ = some (.next, ⟨[some (scr cs, false), some (.int (k : Int), false), some (.int w, false), some (.int c, false), some (.obj 0, false), some (.int (1 + r5), false), some (.lst (H.map hT), true), o7, none, none, none], s7⟩) := by
    obtain ⟨mx, em, m1, m4⟩ := many_at (m := 1 + r5) (by omega) (by omega)
    have it : iRange (mVar 5) ⟨[some (scr cs, false), some (.int (k : Int), false), some (.int w, false), some (.int c, false), some (.obj 0, false), some (.int (1 + r5), false), some (.lst [], true), none, none, none, none], s5⟩ = some (rangeT (1 + r5).toNat, ⟨[some (scr cs, false), some (.int (k : Int), false), some (.int w, false), some (.int c, false), some (.obj 0, false), some (.int (1 + r5), false), some (.lst [], true), none, none, none, none], s5⟩) := by simp [runFn, sSeq, sIf, sSet, sNew, sRet, sNil, sNx, sRetOwn, sGo, sReverse, sFor, sAppend, sExtend, lstAt, mTest, mNot, mAnd, mOr, mBool, mIf, mOp, mUn, mVar, mMap, mCons, mNil, mPure, mStrs, mCall, putSlot, hName, hTup, iRange, iSeq, ltT, leT, lenT, addT, subT, modT, fdivT, negT, absT, seqOf, mTrue, freezeAt, thaw, hm]
    unfold sFor
    rw [it]
    dsimp only
    generalize hF : forL _ _ _ _ = q
    obtain ⟨s', rfl, P⟩ := forL_at hF (fun ts s => ∃ (H : List Hd) (o7 : Slot) (st : List SO), (∀ t ∈ ts, ∃ k : Int, t = .int k) ∧ ts.length + H.length = (1 + r5).toNat ∧ s = ⟨[some (scr cs, false), some (.int (k : Int), false), some (.int w, false), some (.int c, false), some (.obj 0, false), some (.int (1 + r5), false), some (.lst (H.map hT), true), o7, none, none, none], st⟩ ∧ StO st ∧ st.length = 1 ∧ ∀ h ∈ H, okN h.1 ∧ 1 ≤ h.2 ∧ h.2 ≤ 4)
      ⟨[], none, s5, fun t ht => by unfold rangeT at ht; obtain ⟨k, _, rfl⟩ := List.mem_map.mp ht; exact ⟨_, rfl⟩, by unfold rangeT; rw [List.length_map, List.length_range]; rfl, rfl, o5, l5', fun b hb => by cases hb⟩ (by
        rintro t q s ⟨H, o7, st, e0, e1, rfl, e2, e3, e4⟩
        obtain ⟨kk, rfl⟩ := e0 t List.mem_cons_self
        simp only [List.length_cons] at e1
        have ll : H.length < lim := by show _ < 1000000; omega
        obtain ⟨x, qx, ox⟩ := name (c := c) (k := 5 + kk) (sto := st)
        obtain ⟨r, s1, q1, a1, b1, w1, l1⟩ := pickN (n := 0) (many := mx) (by omega : 0 < st.length) e2 (by omega) (by omega)
        refine ⟨_, ⟨[some (scr cs, false), some (.int (k : Int), false), some (.int w, false), some (.int c, false), some (.obj 0, false), some (.int (1 + r5), false), some (.lst ((H ++ [(x, 1 + r)]).map hT), true), some (.int kk, false), none, none, none], s1⟩, rfl, ?_, H ++ [(x, 1 + r)], _, s1, fun t ht => e0 t (List.mem_cons_of_mem _ ht), by rw [List.length_append, List.length_singleton]; omega, rfl, w1, by omega, fun h hh => ?_⟩
        · simp [runFn, sSeq, sIf, sSet, sNew, sRet, sNil, sNx, sRetOwn, sGo, sReverse, sFor, sAppend, sExtend, lstAt, mTest, mNot, mAnd, mOr, mBool, mIf, mOp, mUn, mVar, mMap, mCons, mNil, mPure, mStrs, mCall, putSlot, hName, hTup, iRange, iSeq, ltT, leT, lenT, addT, subT, modT, fdivT, negT, absT, seqOf, mTrue, freezeAt, thaw, qx, em, q1, ll, hT]
        · rcases List.mem_append.mp hh with z | z
          · exact e4 h z
          · rw [List.mem_singleton] at z; subst z; exact ⟨ox, by show 1 ≤ 1 + r; omega, by show 1 + r ≤ 4; omega⟩)
    obtain ⟨H, o7, st, e0, e1, rfl, e2, e3, e4⟩ := P
    simp only [List.length_nil, Nat.zero_add] at e1
    exact ⟨H, o7, st, ⟨by omega, by omega, e4⟩, e2, e3, rfl⟩
  rw [seq_step e7]
  obtain ⟨r8, s8, q8, a8, b8, w8, l8⟩ := pickN (n := 0) (many := 3) (by omega : 0 < s7.length) o7s (by decide) (by decide)
  obtain ⟨t9, s9, q9, bs, rfl, bl, bok, w9, l9⟩ := boxes (n := 0) (c := c) (m := r8) (by omega : 0 < s8.length) w8 a8 b8
  rw [seq_step (s' := ⟨[some (scr cs, false), some (.int (k : Int), false), some (.int w, false), some (.int c, false), some (.obj 0, false), some (.int (1 + r5), false), some (.lst (H.map hT), true), o7, some (.lst (bs.map bxT), false), none, none], s9⟩) (by simp [runFn, sSeq, sIf, sSet, sNew, sRet, sNil, sNx, sRetOwn, sGo, sReverse, sFor, sAppend, sExtend, lstAt, mTest, mNot, mAnd, mOr, mBool, mIf, mOp, mUn, mVar, mMap, mCons, mNil, mPure, mStrs, mCall, putSlot, hName, hTup, iRange, iSeq, ltT, leT, lenT, addT, subT, modT, fdivT, negT, absT, seqOf, mTrue, freezeAt, thaw, q8, q9])]
  have bll : bs.length < lim := by show _ < 1000000; omega
  have cb := mComp_map bxT (fun b => T.str b.nm) bs (g := hName 0) (nv := 1) (ci := []) (c := mTrue) (it := iSeq (mVar 8)) (e := mOp itemT (mVar 0) (mPure (.int 0))) (s := ⟨[some (scr cs, false), some (.int (k : Int), false), some (.int w, false), some (.int c, false), some (.obj 0, false), some (.int (1 + r5), false), some (.lst (H.map hT), true), o7, some (.lst (bs.map bxT), false), none, none], s9⟩) (s1 := ⟨[some (scr cs, false), some (.int (k : Int), false), some (.int w, false), some (.int c, false), some (.obj 0, false), some (.int (1 + r5), false), some (.lst (H.map hT), true), o7, some (.lst (bs.map bxT), false), none, none], s9⟩) [some (scr cs, false), some (.int (k : Int), false), some (.int w, false), some (.int c, false), some (.obj 0, false), some (.int (1 + r5), false), some (.lst (H.map hT), true), o7, some (.lst (bs.map bxT), false), none, none] []
    (by simp [runFn, sSeq, sIf, sSet, sNew, sRet, sNil, sNx, sRetOwn, sGo, sReverse, sFor, sAppend, sExtend, lstAt, mTest, mNot, mAnd, mOr, mBool, mIf, mOp, mUn, mVar, mMap, mCons, mNil, mPure, mStrs, mCall, putSlot, hName, hTup, iRange, iSeq, ltT, leT, lenT, addT, subT, modT, fdivT, negT, absT, seqOf, mTrue, freezeAt, thaw, bll]) rfl rfl rfl (Nat.le_of_lt bll) (by
      intro b hb pre hp
      obtain ⟨a, rfl⟩ := C.p1 pre hp
      exact ⟨[some (bxT b, false)], rfl, rfl, rfl, by simp [runFn, sSeq, sIf, sSet, sNew, sRet, sNil, sNx, sRetOwn, sGo, sReverse, sFor, sAppend, sExtend, lstAt, mTest, mNot, mAnd, mOr, mBool, mIf, mOp, mUn, mVar, mMap, mCons, mNil, mPure, mStrs, mCall, putSlot, hName, hTup, iRange, iSeq, ltT, leT, lenT, addT, subT, modT, fdivT, negT, absT, seqOf, mTrue, freezeAt, thaw, bxT, item0t]⟩)
  have en : bs.map (fun b => T.str b.nm) = (bs.map (·.nm)).map T.str := by rw [List.map_map]; rfl
  rw [en] at cb
  have okn : okNs (bs.map (·.nm)) := ⟨by simpa using bl, fun x hx => by obtain ⟨b, hb, rfl⟩ := List.mem_map.mp hx; exact (bok b hb).1⟩
  rw [seq_step (s' := ⟨[some (scr cs, false), some (.int (k : Int), false), some (.int w, false), some (.int c, false), some (.obj 0, false), some (.int (1 + r5), false), some (.lst (H.map hT), true), o7, some (.lst (bs.map bxT), false), some (.lst ((bs.map (·.nm)).map T.str), false), none], s9⟩) (set_at cb)]
  obtain ⟨m, hmm, cx⟩ : ∃ m : List Int, m.length ≤ 63 ∧ cutX (some 3) (some (3 + (k : Int))) (scr cs) = some (.lst (m.map T.int)) := by
    refine ⟨(cs.drop (sIx cs.length 0 (some 3))).take (sIx cs.length cs.length (some (3 + (k : Int))) - sIx cs.length 0 (some 3)), ?_, ?_⟩
    · rw [List.length_take, List.length_drop]; omega
    · simp only [cutX, cutl, List.length_map, ← List.map_drop, ← List.map_take]
  have mll : m.length < lim := by show _ < 1000000; omega
  generalize hN : bs.map (·.nm) = N at *
  obtain ⟨us, s10, ec, ss, e1, e2, w10, k10⟩ := mComp_draw (g := hName 0) (nv := 1) (ci := [9, 6, 2]) (it := iSeq (mSlice (mVar 0) (oSome (mPure (.int 3))) (oSome (mOp addT (mPure (.int 3)) (mVar 1))))) (e := mCall m_law_step (mCons (mNewLst (mCons (mVar 0) (mCons (mVar 3) mNil))) (mCons (mVar 1) (mCons (mVar 2) mNil))))
    (s := ⟨[some (scr cs, false), some (.int (k : Int), false), some (.int w, false), some (.int c, false), some (.obj 0, false), some (.int (1 + r5), false), some (.lst (H.map hT), true), o7, some (.lst (bs.map bxT), false), some (.lst (N.map T.str), false), none], s9⟩) rfl (m.map T.int) ⟨[some (scr cs, false), some (.int (k : Int), false), some (.int w, false), some (.int c, false), some (.obj 0, false), some (.int (1 + r5), false), some (.lst (H.map hT), true), o7, some (.lst (bs.map bxT), false), some (.lst (N.map T.str), false), none], s9⟩
    [some (scr cs, false), some (.int (k : Int), false), some (.int w, false), some (.int c, false), some (.obj 0, false), some (.int (1 + r5), false), some (.lst (H.map hT), false), o7, some (.lst (bs.map bxT), false), some (.lst (N.map T.str), false), none] [some (.lst (N.map T.str), false), some (.lst (H.map hT), false), some (.int w, false)]
    (fun ts acc st => ∃ l : List Sp, acc = l.map spT ∧ ts.length + l.length ≤ 63 ∧ (∀ t ∈ ts, ∃ i : Int, t = .int i) ∧ StO st ∧ ∀ s ∈ l, OkP N H s)
    (by simp [runFn, sSeq, sIf, sSet, sNew, sRet, sNil, sNx, sRetOwn, sGo, sReverse, sFor, sAppend, sExtend, lstAt, mTest, mNot, mAnd, mOr, mBool, mIf, mOp, mUn, mVar, mMap, mCons, mNil, mPure, mStrs, mCall, putSlot, hName, hTup, iRange, iSeq, ltT, leT, lenT, addT, subT, modT, fdivT, negT, absT, seqOf, mTrue, freezeAt, thaw, mSlice, oSome, cx, mll]) rfl rfl rfl (by rw [List.length_map]; exact Nat.le_of_lt mll) ⟨[], rfl, by rw [List.length_map]; exact hmm, fun t ht => by obtain ⟨i, _, rfl⟩ := List.mem_map.mp ht; exact ⟨i, rfl⟩, w9, fun s hs => by cases hs⟩ (by
      rintro t q acc st ⟨l, e1, e2, e0, e3, e4⟩ pre hp
      obtain ⟨a, rfl⟩ := C.p1 pre hp
      obtain ⟨i, rfl⟩ := e0 t List.mem_cons_self
      simp only [List.length_cons] at e2
      have hs' : StO (st ++ [.lst [.int i, .int w]]) := e3.add (.inl ⟨_, _, rfl⟩)
      obtain ⟨t5, s6, p6, x, rfl, kx, o6, l6⟩ := step (n := st.length) (by rw [List.length_append]; simp : st.length < (st ++ [SO.lst [.int i, .int w]]).length) hs' okn okH
      refine ⟨[some (.int i, false)], spT x, s6, rfl, rfl, ?_, l ++ [x], by rw [e1]; simp, by rw [List.length_append, List.length_singleton]; omega, fun t ht => e0 t (List.mem_cons_of_mem _ ht), o6, fun r hr => ?_⟩
      · simp [runFn, sSeq, sIf, sSet, sNew, sRet, sNil, sNx, sRetOwn, sGo, sReverse, sFor, sAppend, sExtend, lstAt, mTest, mNot, mAnd, mOr, mBool, mIf, mOp, mUn, mVar, mMap, mCons, mNil, mPure, mStrs, mCall, putSlot, hName, hTup, iRange, iSeq, ltT, leT, lenT, addT, subT, modT, fdivT, negT, absT, seqOf, mTrue, freezeAt, thaw, mNewLst, p6]
      · rcases List.mem_append.mp hr with z | z
        · exact e4 r z
        · rw [List.mem_singleton] at z; subst z; exact kx)
  simp only [List.length_nil, Nat.zero_add] at e2
  subst e1
  rw [seq_step (set_at ec)]
  simp [runFn, sSeq, sIf, sSet, sNew, sRet, sNil, sNx, sRetOwn, sGo, sReverse, sFor, sAppend, sExtend, lstAt, mTest, mNot, mAnd, mOr, mBool, mIf, mOp, mUn, mVar, mMap, mCons, mNil, mPure, mStrs, mCall, putSlot, hName, hTup, iRange, iSeq, ltT, leT, lenT, addT, subT, modT, fdivT, negT, absT, seqOf, mTrue, freezeAt, thaw]
  subst hN
  exact .of ⟨bs, H, ss, rfl, ⟨okn, bok, okH, k10.2⟩, e2⟩
end
end K
end
noncomputable section
set_option linter.all false
set_option maxRecDepth 100000
set_option autoImplicit false
namespace K
open C PySem
theorem eqC {a b : Str} {c : Bool} (h : (PyData.canLay0 (.str a) && PyData.canLay0 (.str b) && ((a == b) == c)) = true) : eqO (.str a) (.str b) = some (.bl c) := by
  simp only [Bool.and_eq_true, beq_iff_eq] at h
  rw [eqO_str h.1.1 h.1.2, h.2]
theorem neC {a b : Str} {c : Bool} (h : (PyData.canLay0 (.str a) && PyData.canLay0 (.str b) && ((a == b) == !c)) = true) : neO (.str a) (.str b) = some (.bl c) := by
  simp only [Bool.and_eq_true, beq_iff_eq] at h
  rw [neO_str h.1.1 h.1.2, h.2, Bool.not_not]
theorem inC {w a b : Str} {c : Bool} (h : (PyData.canLay0 (.str w) && PyData.canLay0 (.str a) && PyData.canLay0 (.str b) && ((a == w || b == w) == c)) = true) : inT (.str w) (.tup [.str a, .str b]) = some (.bl c) := by
  simp only [Bool.and_eq_true, beq_iff_eq] at h
  obtain ⟨⟨⟨h1, h2⟩, h3⟩, h4⟩ := h -- here
  simp [inT, inL, eqD, dat, h1, h2, h3, PyData.depth, PyData.eqv, ← h4]
theorem e_most_most : eqO (.str "most") (.str "most") = some (.bl true) := eqC (by decide +kernel)
theorem e_most_rest : eqO (.str "most") (.str "rest") = some (.bl false) := eqC (by decide +kernel)
theorem e_most_at : eqO (.str "most") (.str "at") = some (.bl false) := eqC (by decide +kernel)
theorem e_most_not : eqO (.str "most") (.str "not") = some (.bl false) := eqC (by decide +kernel)
theorem e_most_and : eqO (.str "most") (.str "and") = some (.bl false) := eqC (by decide +kernel)
theorem e_rest_most : eqO (.str "rest") (.str "most") = some (.bl false) := eqC (by decide +kernel)
theorem e_rest_rest : eqO (.str "rest") (.str "rest") = some (.bl true) := eqC (by decide +kernel)
theorem e_rest_at : eqO (.str "rest") (.str "at") = some (.bl false) := eqC (by decide +kernel)
theorem e_rest_not : eqO (.str "rest") (.str "not") = some (.bl false) := eqC (by decide +kernel)
theorem e_rest_and : eqO (.str "rest") (.str "and") = some (.bl false) := eqC (by decide +kernel)
theorem e_at_most : eqO (.str "at") (.str "most") = some (.bl false) := eqC (by decide +kernel)
theorem e_at_rest : eqO (.str "at") (.str "rest") = some (.bl false) := eqC (by decide +kernel)
theorem e_at_at : eqO (.str "at") (.str "at") = some (.bl true) := eqC (by decide +kernel)
theorem e_at_not : eqO (.str "at") (.str "not") = some (.bl false) := eqC (by decide +kernel)
theorem e_at_and : eqO (.str "at") (.str "and") = some (.bl false) := eqC (by decide +kernel)
theorem e_not_most : eqO (.str "not") (.str "most") = some (.bl false) := eqC (by decide +kernel)
theorem e_not_rest : eqO (.str "not") (.str "rest") = some (.bl false) := eqC (by decide +kernel)
theorem e_not_at : eqO (.str "not") (.str "at") = some (.bl false) := eqC (by decide +kernel)
theorem e_not_not : eqO (.str "not") (.str "not") = some (.bl true) := eqC (by decide +kernel)
theorem e_not_and : eqO (.str "not") (.str "and") = some (.bl false) := eqC (by decide +kernel)
theorem e_and_most : eqO (.str "and") (.str "most") = some (.bl false) := eqC (by decide +kernel)
theorem e_and_rest : eqO (.str "and") (.str "rest") = some (.bl false) := eqC (by decide +kernel)
theorem e_and_at : eqO (.str "and") (.str "at") = some (.bl false) := eqC (by decide +kernel)
theorem e_and_not : eqO (.str "and") (.str "not") = some (.bl false) := eqC (by decide +kernel)
theorem e_and_and : eqO (.str "and") (.str "and") = some (.bl true) := eqC (by decide +kernel)
theorem e_or_most : eqO (.str "or") (.str "most") = some (.bl false) := eqC (by decide +kernel)
theorem e_or_rest : eqO (.str "or") (.str "rest") = some (.bl false) := eqC (by decide +kernel)
theorem e_or_at : eqO (.str "or") (.str "at") = some (.bl false) := eqC (by decide +kernel)
theorem e_or_not : eqO (.str "or") (.str "not") = some (.bl false) := eqC (by decide +kernel)
theorem e_or_and : eqO (.str "or") (.str "and") = some (.bl false) := eqC (by decide +kernel)
theorem i_most : inT (.str "most") (.tup [.str "and", .str "or"]) = some (.bl false) := inC (by decide +kernel)
theorem j_most : inT (.str "most") (.tup [.str "most", .str "rest"]) = some (.bl true) := inC (by decide +kernel)
theorem n_most : neO (.str "most") (.str "at") = some (.bl true) := neC (by decide +kernel)
theorem i_rest : inT (.str "rest") (.tup [.str "and", .str "or"]) = some (.bl false) := inC (by decide +kernel)
theorem j_rest : inT (.str "rest") (.tup [.str "most", .str "rest"]) = some (.bl true) := inC (by decide +kernel)
theorem n_rest : neO (.str "rest") (.str "at") = some (.bl true) := neC (by decide +kernel)
theorem i_at : inT (.str "at") (.tup [.str "and", .str "or"]) = some (.bl false) := inC (by decide +kernel)
theorem j_at : inT (.str "at") (.tup [.str "most", .str "rest"]) = some (.bl false) := inC (by decide +kernel)
theorem n_at : neO (.str "at") (.str "at") = some (.bl false) := neC (by decide +kernel)
theorem i_not : inT (.str "not") (.tup [.str "and", .str "or"]) = some (.bl false) := inC (by decide +kernel)
theorem j_not : inT (.str "not") (.tup [.str "most", .str "rest"]) = some (.bl false) := inC (by decide +kernel)
theorem n_not : neO (.str "not") (.str "at") = some (.bl true) := neC (by decide +kernel)
theorem i_and : inT (.str "and") (.tup [.str "and", .str "or"]) = some (.bl true) := inC (by decide +kernel)
theorem j_and : inT (.str "and") (.tup [.str "most", .str "rest"]) = some (.bl false) := inC (by decide +kernel)
theorem n_and : neO (.str "and") (.str "at") = some (.bl true) := neC (by decide +kernel)
theorem i_or : inT (.str "or") (.tup [.str "and", .str "or"]) = some (.bl true) := inC (by decide +kernel)
theorem j_or : inT (.str "or") (.tup [.str "most", .str "rest"]) = some (.bl false) := inC (by decide +kernel)
theorem n_or : neO (.str "or") (.str "at") = some (.bl true) := neC (by decide +kernel)
noncomputable def kids : Rem → List Rem
  | .no r => [r]
  | .all l => l
  | .any l => l
  | _ => []
noncomputable def isLog : Rem → Bool
  | .no _ => true
  | .all _ => true
  | .any _ => true
  | _ => false
noncomputable def pre : Nat → Rem → List Rem
  | 0, r => [r]
  | n + 1, r => r :: (kids r).flatMap (pre n)
noncomputable section
variable {N : List Str} {H : List Hd} {sto : List SO}
theorem sm_len {s : Sm} (hN : okNs N) (hs : okSm N s) : s.2.length < lim := by
  have := hs.1; have := hN.1; show _ < 1000000; omega
theorem OkR.kid {d : Nat} {r : Rem} (h : OkR N H (d + 1) r) : ∀ u ∈ kids r, OkR N H d u := by
  intro u hu
  cases h with
  | most _ => cases hu
  | rest _ _ _ => cases hu
  | pl _ _ _ => cases hu
  | all _ h => exact h u hu
  | any _ h => exact h u hu
  | no h => simp only [kids, List.mem_singleton] at hu; subst hu; exact h
theorem OkR.kids0 {r : Rem} (h : OkR N H 0 r) : kids r = [] := by cases h <;> rfl
theorem OkR.kids5 {d : Nat} {r : Rem} (h : OkR N H d r) : (kids r).length ≤ 5 := by cases h <;> simp [kids] <;> assumption
theorem pre_fix : ∀ (d : Nat) {r : Rem}, OkR N H d r → pre (d + 1) r = pre d r
  | 0, r, h => by rw [show pre (0 + 1) r = r :: (kids r).flatMap (pre 0) from rfl, h.kids0]; rfl
  | d + 1, r, h => by
    rw [pre, pre]
    congr 1
    exact flatMap_eq fun u hu => pre_fix d (h.kid u hu)
theorem OkR.kid3 {r : Rem} (h : OkR N H 3 r) : ∀ u ∈ kids r, OkR N H 3 u := fun u hu => (h.kid u hu).up
theorem pre3 {r : Rem} (h : OkR N H 3 r) : pre 3 r = r :: (kids r).flatMap (pre 3) := by
  rw [show pre 3 r = r :: (kids r).flatMap (pre 2) from rfl]
  congr 1
  exact flatMap_eq fun u hu => (pre_fix 2 (h.kid u hu)).symm
theorem fm_len {α β : Type} {f : α → List β} {m : Nat} : ∀ {l : List α}, (∀ a ∈ l, (f a).length ≤ m) → (l.flatMap f).length ≤ l.length * m
  | [], _ => by simp
  | a :: l, h => by
    have h1 := h a List.mem_cons_self
    have h2 := fm_len (l := l) fun b hb => h b (List.mem_cons_of_mem _ hb)
    rw [List.flatMap_cons, List.length_append, List.length_cons, Nat.succ_mul]
    omega
noncomputable def top : Nat → Nat
  | 0 => 1
  | n + 1 => 1 + 5 * top n
theorem pre_len : ∀ (d : Nat) {r : Rem}, OkR N H d r → (pre d r).length ≤ top d
  | 0, r, h => by simp [pre, top]
  | d + 1, r, h => by
    have h1 := fm_len (f := pre d) (m := top d) (l := kids r) fun u hu => pre_len d (h.kid u hu)
    have h2 := Nat.mul_le_mul_right (top d) h.kids5
    rw [pre, List.length_cons, top]
    omega
theorem members {d : Nat} {r : Rem} (h : OkR N H d r) : m_members_of [remT r] sto = some (.tup ((kids r).map remT), sto) := by
  unfold m_members_of
  cases h <;> unfold remT kids <;> simp [runFn, sSeq, sIf, sSet, sNew, sRet, sNil, sNx, sRetOwn, sGo, sReverse, sFor, sAppend, sExtend, lstAt, mTest, mNot, mAnd, mOr, mBool, mIf, mOp, mUn, mVar, mMap, mCons, mNil, mPure, mStrs, mCall, putSlot, hName, hTup, iRange, iSeq, ltT, leT, lenT, addT, subT, modT, fdivT, negT, absT, seqOf, mTrue, freezeAt, thaw, item0t, item1t, e_most_most, e_most_rest, e_most_at, e_most_not, e_most_and, e_rest_most, e_rest_rest, e_rest_at, e_rest_not, e_rest_and, e_at_most, e_at_rest, e_at_at, e_at_not, e_at_and, e_not_most, e_not_rest, e_not_at, e_not_not, e_not_and, e_and_most, e_and_rest, e_and_at, e_and_not, e_and_and, e_or_most, e_or_rest, e_or_at, e_or_not, e_or_and, i_most, j_most, n_most, i_rest, j_rest, n_rest, i_at, j_at, n_at, i_not, j_not, n_not, i_and, j_and, n_and, i_or, j_or, n_or, remsT_map]
noncomputable def cnt (W : List Rem) : Nat := (W.flatMap (pre 3)).length
theorem cnt_app (a b : List Rem) : cnt (a ++ b) = cnt a + cnt b := by simp [cnt]
theorem cnt_rev (a : List Rem) : cnt a.reverse = cnt a := by
  induction a with
  | nil => rfl
  | cons x a ih => rw [List.reverse_cons, cnt_app, ih, show x :: a = [x] ++ a from rfl, cnt_app]; omega
theorem len_cnt {W : List Rem} : W.length ≤ cnt W := by
  induction W with
  | nil => simp
  | cons x a ih =>
    rw [show x :: a = [x] ++ a from rfl, cnt_app, List.length_append]
    have : 1 ≤ cnt [x] := by simp [cnt, pre]
    simp only [List.length_singleton]
    omega
theorem parts_loop {r0 : Slot} : ∀ (fuel : Nat) (W P : List Rem) (o : Slot), (∀ w ∈ W, OkR N H 3 w) → cnt W < fuel → P.length + cnt W < 1000 →
    ∃ o', whileN fuel (mTest (mOp gtT (mOwnLen 2) (mPure (.int 0)))) (sSeq (sPop 2 3) (sSeq (sAppend 1 (mVar 3)) (sExtend 2 (mUn revT (mCall m_members_of (mCons (mVar 3) mNil)))))) ⟨[r0, some (.lst (P.map remT), true), some (.lst (W.map remT), true), o], sto⟩
      = some (.next, ⟨[r0, some (.lst ((P ++ W.reverse.flatMap (pre 3)).map remT), true), some (.lst [], true), o'], sto⟩)
  | 0, W, P, o, _, h, _ => by omega
  | fuel + 1, W, P, o, hW, hc, hb => by
    rcases List.eq_nil_or_concat W with rfl | ⟨W, w, rfl⟩
    · refine ⟨o, ?_⟩
      rw [while_stop (s1 := ⟨[r0, some (.lst (P.map remT), true), some (.lst ([].map remT), true), o], sto⟩) (by simp [runFn, sSeq, sIf, sSet, sNew, sRet, sNil, sNx, sRetOwn, sGo, sReverse, sFor, sAppend, sExtend, lstAt, mTest, mNot, mAnd, mOr, mBool, mIf, mOp, mUn, mVar, mMap, mCons, mNil, mPure, mStrs, mCall, putSlot, hName, hTup, iRange, iSeq, ltT, leT, lenT, addT, subT, modT, fdivT, negT, absT, seqOf, mTrue, freezeAt, thaw, mOwnLen, gtT])]
      simp
    · simp only [List.concat_eq_append] at hW hc hb ⊢
      have hw : OkR N H 3 w := hW w (by simp)
      have hk := hw.kids5
      have cw : cnt [w] = 1 + cnt (kids w) := by
        unfold cnt
        rw [show [w].flatMap (pre 3) = pre 3 w by simp, pre3 hw, List.length_cons]; omega
      rw [cnt_app, cw] at hc hb
      have lW := len_cnt (W := W)
      have l1 : P.length < lim := by show _ < 1000000; omega
      have l2 : W.length + (kids w).length < lim := by show _ < 1000000; omega
      obtain ⟨o', e⟩ := parts_loop fuel (W ++ (kids w).reverse) (P ++ [w]) (some (remT w, false))
        (fun u hu => by
          rcases List.mem_append.mp hu with z | z
          · exact hW u (List.mem_append_left _ z)
          · exact hw.kid3 u (List.mem_reverse.mp z))
        (by rw [cnt_app, cnt_rev]; omega) (by rw [cnt_app, cnt_rev, List.length_append, List.length_singleton]; omega)
      refine ⟨o', ?_⟩
      rw [while_next (s1 := ⟨[r0, some (.lst (P.map remT), true), some (.lst ((W ++ [w]).map remT), true), o], sto⟩) (s2 := ⟨[r0, some (.lst ((P ++ [w]).map remT), true), some (.lst ((W ++ (kids w).reverse).map remT), true), some (remT w, false)], sto⟩) ?_ ?_, e]
      · simp [List.flatMap_append, pre3 hw]
      · simp [runFn, sSeq, sIf, sSet, sNew, sRet, sNil, sNx, sRetOwn, sGo, sReverse, sFor, sAppend, sExtend, lstAt, mTest, mNot, mAnd, mOr, mBool, mIf, mOp, mUn, mVar, mMap, mCons, mNil, mPure, mStrs, mCall, putSlot, hName, hTup, iRange, iSeq, ltT, leT, lenT, addT, subT, modT, fdivT, negT, absT, seqOf, mTrue, freezeAt, thaw, mOwnLen, gtT]
      · simp [runFn, sSeq, sIf, sSet, sNew, sRet, sNil, sNx, sRetOwn, sGo, sReverse, sFor, sAppend, sExtend, lstAt, mTest, mNot, mAnd, mOr, mBool, mIf, mOp, mUn, mVar, mMap, mCons, mNil, mPure, mStrs, mCall, putSlot, hName, hTup, iRange, iSeq, ltT, leT, lenT, addT, subT, modT, fdivT, negT, absT, seqOf, mTrue, freezeAt, thaw, sPop, l1, l2, members hw, revT]
theorem parts_of {r : Rem} (h : OkR N H 3 r) : m_parts_of [remT r] sto = some (.lst ((pre 3 r).map remT), sto) := by
  have hl := pre_len 3 h
  have ht : top 3 = 156 := rfl
  have hc : cnt [r] = (pre 3 r).length := by simp [cnt]
  obtain ⟨o', e⟩ := parts_loop (N := N) (H := H) (r0 := some (remT r, false)) (sto := sto) 1000 [r] [] none (fun w hw => by rw [List.mem_singleton] at hw; subst hw; exact h) (by omega) (by simp only [List.length_nil]; omega)
  simp only [List.map_nil, List.map_cons, List.nil_append, List.reverse_cons, List.reverse_nil, List.flatMap_cons, List.flatMap_nil, List.append_nil] at e
  unfold m_parts_of
  simp [runFn, sSeq, sIf, sSet, sNew, sRet, sNil, sNx, sRetOwn, sGo, sReverse, sFor, sAppend, sExtend, lstAt, mTest, mNot, mAnd, mOr, mBool, mIf, mOp, mUn, mVar, mMap, mCons, mNil, mPure, mStrs, mCall, putSlot, hName, hTup, iRange, iSeq, ltT, leT, lenT, addT, subT, modT, fdivT, negT, absT, seqOf, mTrue, freezeAt, thaw, e]
theorem pre_lim {r : Rem} (h : OkR N H 3 r) : (pre 3 r).length ≤ 156 := pre_len 3 h
noncomputable def bx : Rem → List Str
  | .most s => s.2.map (·.1)
  | .rest s _ => s.2.map (·.1)
  | _ => []
noncomputable def isAt : Rem → Bool
  | .pl _ _ => true
  | _ => false
noncomputable def hnd : Rem → Str
  | .pl h _ => h
  | _ => "b"
theorem boxes_of {s : Sm} (hN : okNs N) (hs : okSm N s) : m_boxes_of [smT s] sto = some (.lst ((s.2.map (·.1)).map T.str), sto) := by
  have hl := sm_len hN hs
  unfold m_boxes_of
  simp [runFn, sSeq, sIf, sSet, sNew, sRet, sNil, sNx, sRetOwn, sGo, sReverse, sFor, sAppend, sExtend, lstAt, mTest, mNot, mAnd, mOr, mBool, mIf, mOp, mUn, mVar, mMap, mCons, mNil, mPure, mStrs, mCall, putSlot, hName, hTup, iRange, iSeq, ltT, leT, lenT, addT, subT, modT, fdivT, negT, absT, seqOf, mTrue, freezeAt, thaw]
  generalize hF : mComp _ _ _ _ _ _ _ = r
  obtain rfl := mComp_at hF pT (fun p => .str p.1) s.2 ⟨[some (smT s, false)], sto⟩ [some (smT s, false)] []
    (by unfold smT; simp [runFn, sSeq, sIf, sSet, sNew, sRet, sNil, sNx, sRetOwn, sGo, sReverse, sFor, sAppend, sExtend, lstAt, mTest, mNot, mAnd, mOr, mBool, mIf, mOp, mUn, mVar, mMap, mCons, mNil, mPure, mStrs, mCall, putSlot, hName, hTup, iRange, iSeq, ltT, leT, lenT, addT, subT, modT, fdivT, negT, absT, seqOf, mTrue, freezeAt, thaw, item1t, hl]) rfl rfl rfl (Nat.le_of_lt hl) (by
      intro p hp pre hpre
      obtain ⟨a, b, rfl⟩ : ∃ a b, pre = [a, b] := by
        match pre, hpre with
        | [a, b], _ => exact ⟨a, b, rfl⟩
      exact ⟨[some (.str p.1, false), some (.int p.2, false)], rfl, by unfold pT; rw [hTup2]; rfl, rfl, rfl⟩)
  simp
theorem bx_len {d : Nat} {r : Rem} (hN : okNs N) (h : OkR N H d r) : (bx r).length ≤ 6 := by
  have := hN.1
  cases h with
  | most h => have := h.1; simp only [bx, List.length_map]; omega
  | rest h _ _ => have := h.1; simp only [bx, List.length_map]; omega
  | _ => simp [bx]
theorem bx_mem {d : Nat} {r : Rem} (h : OkR N H d r) : ∀ x ∈ bx r, x ∈ N := by
  intro x hx
  cases h with
  | most h => simp only [bx, List.mem_map] at hx; obtain ⟨p, hp, rfl⟩ := hx; exact (h.2 p hp).1
  | rest h _ _ => simp only [bx, List.mem_map] at hx; obtain ⟨p, hp, rfl⟩ := hx; exact (h.2 p hp).1
  | _ => cases hx
theorem pre_ok : ∀ (d : Nat) {r : Rem}, OkR N H d r → ∀ u ∈ pre d r, OkR N H d u
  | 0, r, h, u, hu => by simp only [pre, List.mem_singleton] at hu; subst hu; exact h
  | d + 1, r, h, u, hu => by
    rw [pre] at hu
    rcases List.mem_cons.mp hu with rfl | hu
    · exact h
    · obtain ⟨v, hv, hu⟩ := List.mem_flatMap.mp hu
      exact (pre_ok d (h.kid v hv) u hu).up
theorem boxes_left {r : Rem} (hN : okNs N) (h : OkR N H 3 r) : m_boxes_from_left [remT r] sto = some (.lst (((pre 3 r).flatMap bx).map T.str), sto) := by
  have hl := pre_lim h
  have l1 : (pre 3 r).length < lim := by show _ < 1000000; omega
  unfold m_boxes_from_left
  simp [runFn, sSeq, sIf, sSet, sNew, sRet, sNil, sNx, sRetOwn, sGo, sReverse, sFor, sAppend, sExtend, lstAt, mTest, mNot, mAnd, mOr, mBool, mIf, mOp, mUn, mVar, mMap, mCons, mNil, mPure, mStrs, mCall, putSlot, hName, hTup, iRange, iSeq, ltT, leT, lenT, addT, subT, modT, fdivT, negT, absT, seqOf, mTrue, freezeAt, thaw, parts_of h, l1]
  generalize hF : forL _ _ _ _ = q
  obtain ⟨s', rfl, P⟩ := forL_at hF (fun ts st => ∃ (l : List Rem) (acc : List Str) (o : Slot), ts = l.map remT ∧ (∀ u ∈ l, OkR N H 3 u) ∧ st = ⟨[some (remT r, false), some (.lst (acc.map T.str), true), o], sto⟩ ∧ acc ++ l.flatMap bx = (pre 3 r).flatMap bx ∧ acc.length + 6 * l.length ≤ 1000)
    ⟨pre 3 r, [], none, rfl, pre_ok 3 h, rfl, rfl, by simp only [List.length_nil]; omega⟩ (by
      rintro t q st ⟨l, acc, o, e1, e2, rfl, e3, e4⟩
      cases l with
      | nil => cases e1
      | cons u l =>
        cases e1
        have hu := e2 u List.mem_cons_self
        have hb := bx_len hN hu
        simp only [List.length_cons] at e4
        refine ⟨_, ⟨[some (remT r, false), some (.lst ((acc ++ bx u).map T.str), true), some (remT u, false)], sto⟩, rfl, ?_, l, acc ++ bx u, _, rfl, fun v hv => e2 v (List.mem_cons_of_mem _ hv), rfl, ?_, ?_⟩
        · have l2 : acc.length + (bx u).length < lim := by show _ < 1000000; omega
          cases hu with
          | most h => simp only [bx, List.length_map] at l2; unfold remT bx; simp [runFn, sSeq, sIf, sSet, sNew, sRet, sNil, sNx, sRetOwn, sGo, sReverse, sFor, sAppend, sExtend, lstAt, mTest, mNot, mAnd, mOr, mBool, mIf, mOp, mUn, mVar, mMap, mCons, mNil, mPure, mStrs, mCall, putSlot, hName, hTup, iRange, iSeq, ltT, leT, lenT, addT, subT, modT, fdivT, negT, absT, seqOf, mTrue, freezeAt, thaw, item0t, item1t, e_most_most, e_most_rest, e_most_at, e_most_not, e_most_and, e_rest_most, e_rest_rest, e_rest_at, e_rest_not, e_rest_and, e_at_most, e_at_rest, e_at_at, e_at_not, e_at_and, e_not_most, e_not_rest, e_not_at, e_not_not, e_not_and, e_and_most, e_and_rest, e_and_at, e_and_not, e_and_and, e_or_most, e_or_rest, e_or_at, e_or_not, e_or_and, i_most, j_most, n_most, i_rest, j_rest, n_rest, i_at, j_at, n_at, i_not, j_not, n_not, i_and, j_and, n_and, i_or, j_or, n_or, boxes_of hN h, l2]
          | rest h _ _ => simp only [bx, List.length_map] at l2; unfold remT bx; simp [runFn, sSeq, sIf, sSet, sNew, sRet, sNil, sNx, sRetOwn, sGo, sReverse, sFor, sAppend, sExtend, lstAt, mTest, mNot, mAnd, mOr, mBool, mIf, mOp, mUn, mVar, mMap, mCons, mNil, mPure, mStrs, mCall, putSlot, hName, hTup, iRange, iSeq, ltT, leT, lenT, addT, subT, modT, fdivT, negT, absT, seqOf, mTrue, freezeAt, thaw, item0t, item1t, e_most_most, e_most_rest, e_most_at, e_most_not, e_most_and, e_rest_most, e_rest_rest, e_rest_at, e_rest_not, e_rest_and, e_at_most, e_at_rest, e_at_at, e_at_not, e_at_and, e_not_most, e_not_rest, e_not_at, e_not_not, e_not_and, e_and_most, e_and_rest, e_and_at, e_and_not, e_and_and, e_or_most, e_or_rest, e_or_at, e_or_not, e_or_and, i_most, j_most, n_most, i_rest, j_rest, n_rest, i_at, j_at, n_at, i_not, j_not, n_not, i_and, j_and, n_and, i_or, j_or, n_or, boxes_of hN h, l2]
          | pl _ _ _ => unfold remT bx; simp [runFn, sSeq, sIf, sSet, sNew, sRet, sNil, sNx, sRetOwn, sGo, sReverse, sFor, sAppend, sExtend, lstAt, mTest, mNot, mAnd, mOr, mBool, mIf, mOp, mUn, mVar, mMap, mCons, mNil, mPure, mStrs, mCall, putSlot, hName, hTup, iRange, iSeq, ltT, leT, lenT, addT, subT, modT, fdivT, negT, absT, seqOf, mTrue, freezeAt, thaw, item0t, e_most_most, e_most_rest, e_most_at, e_most_not, e_most_and, e_rest_most, e_rest_rest, e_rest_at, e_rest_not, e_rest_and, e_at_most, e_at_rest, e_at_at, e_at_not, e_at_and, e_not_most, e_not_rest, e_not_at, e_not_not, e_not_and, e_and_most, e_and_rest, e_and_at, e_and_not, e_and_and, e_or_most, e_or_rest, e_or_at, e_or_not, e_or_and, i_most, j_most, n_most, i_rest, j_rest, n_rest, i_at, j_at, n_at, i_not, j_not, n_not, i_and, j_and, n_and, i_or, j_or, n_or]
          | all _ _ => unfold remT bx; simp [runFn, sSeq, sIf, sSet, sNew, sRet, sNil, sNx, sRetOwn, sGo, sReverse, sFor, sAppend, sExtend, lstAt, mTest, mNot, mAnd, mOr, mBool, mIf, mOp, mUn, mVar, mMap, mCons, mNil, mPure, mStrs, mCall, putSlot, hName, hTup, iRange, iSeq, ltT, leT, lenT, addT, subT, modT, fdivT, negT, absT, seqOf, mTrue, freezeAt, thaw, item0t, e_most_most, e_most_rest, e_most_at, e_most_not, e_most_and, e_rest_most, e_rest_rest, e_rest_at, e_rest_not, e_rest_and, e_at_most, e_at_rest, e_at_at, e_at_not, e_at_and, e_not_most, e_not_rest, e_not_at, e_not_not, e_not_and, e_and_most, e_and_rest, e_and_at, e_and_not, e_and_and, e_or_most, e_or_rest, e_or_at, e_or_not, e_or_and, i_most, j_most, n_most, i_rest, j_rest, n_rest, i_at, j_at, n_at, i_not, j_not, n_not, i_and, j_and, n_and, i_or, j_or, n_or]
          | any _ _ => unfold remT bx; simp [runFn, sSeq, sIf, sSet, sNew, sRet, sNil, sNx, sRetOwn, sGo, sReverse, sFor, sAppend, sExtend, lstAt, mTest, mNot, mAnd, mOr, mBool, mIf, mOp, mUn, mVar, mMap, mCons, mNil, mPure, mStrs, mCall, putSlot, hName, hTup, iRange, iSeq, ltT, leT, lenT, addT, subT, modT, fdivT, negT, absT, seqOf, mTrue, freezeAt, thaw, item0t, e_most_most, e_most_rest, e_most_at, e_most_not, e_most_and, e_rest_most, e_rest_rest, e_rest_at, e_rest_not, e_rest_and, e_at_most, e_at_rest, e_at_at, e_at_not, e_at_and, e_not_most, e_not_rest, e_not_at, e_not_not, e_not_and, e_and_most, e_and_rest, e_and_at, e_and_not, e_and_and, e_or_most, e_or_rest, e_or_at, e_or_not, e_or_and, i_most, j_most, n_most, i_rest, j_rest, n_rest, i_at, j_at, n_at, i_not, j_not, n_not, i_and, j_and, n_and, i_or, j_or, n_or]
          | no _ => unfold remT bx; simp [runFn, sSeq, sIf, sSet, sNew, sRet, sNil, sNx, sRetOwn, sGo, sReverse, sFor, sAppend, sExtend, lstAt, mTest, mNot, mAnd, mOr, mBool, mIf, mOp, mUn, mVar, mMap, mCons, mNil, mPure, mStrs, mCall, putSlot, hName, hTup, iRange, iSeq, ltT, leT, lenT, addT, subT, modT, fdivT, negT, absT, seqOf, mTrue, freezeAt, thaw, item0t, e_most_most, e_most_rest, e_most_at, e_most_not, e_most_and, e_rest_most, e_rest_rest, e_rest_at, e_rest_not, e_rest_and, e_at_most, e_at_rest, e_at_at, e_at_not, e_at_and, e_not_most, e_not_rest, e_not_at, e_not_not, e_not_and, e_and_most, e_and_rest, e_and_at, e_and_not, e_and_and, e_or_most, e_or_rest, e_or_at, e_or_not, e_or_and, i_most, j_most, n_most, i_rest, j_rest, n_rest, i_at, j_at, n_at, i_not, j_not, n_not, i_and, j_and, n_and, i_or, j_or, n_or]
        · rw [List.append_assoc, ← List.flatMap_cons]; exact e3
        · rw [List.length_append]; omega)
  obtain ⟨l, acc, o, e1, e2, rfl, e3, e4⟩ := P
  cases l with
  | cons _ _ => cases e1
  | nil =>
    simp only [List.flatMap_nil, List.append_nil] at e3
    simp [runFn, sSeq, sIf, sSet, sNew, sRet, sNil, sNx, sRetOwn, sGo, sReverse, sFor, sAppend, sExtend, lstAt, mTest, mNot, mAnd, mOr, mBool, mIf, mOp, mUn, mVar, mMap, mCons, mNil, mPure, mStrs, mCall, putSlot, hName, hTup, iRange, iSeq, ltT, leT, lenT, addT, subT, modT, fdivT, negT, absT, seqOf, mTrue, freezeAt, thaw, e3]
theorem ats_left {r : Rem} (h : OkR N H 3 r) : m_ats_from_left [remT r] sto = some (.lst (((pre 3 r).filter isAt).map remT), sto) := by
  have hl := pre_lim h
  have l1 : (pre 3 r).length < lim := by show _ < 1000000; omega
  unfold m_ats_from_left
  simp [runFn, sSeq, sIf, sSet, sNew, sRet, sNil, sNx, sRetOwn, sGo, sReverse, sFor, sAppend, sExtend, lstAt, mTest, mNot, mAnd, mOr, mBool, mIf, mOp, mUn, mVar, mMap, mCons, mNil, mPure, mStrs, mCall, putSlot, hName, hTup, iRange, iSeq, ltT, leT, lenT, addT, subT, modT, fdivT, negT, absT, seqOf, mTrue, freezeAt, thaw]
  generalize hF : mComp _ _ _ _ _ _ _ = q
  obtain rfl := mComp_met hF remT remT isAt (pre 3 r) ⟨[some (remT r, false)], sto⟩ [some (remT r, false)] []
    (by simp [runFn, sSeq, sIf, sSet, sNew, sRet, sNil, sNx, sRetOwn, sGo, sReverse, sFor, sAppend, sExtend, lstAt, mTest, mNot, mAnd, mOr, mBool, mIf, mOp, mUn, mVar, mMap, mCons, mNil, mPure, mStrs, mCall, putSlot, hName, hTup, iRange, iSeq, ltT, leT, lenT, addT, subT, modT, fdivT, negT, absT, seqOf, mTrue, freezeAt, thaw, parts_of h, l1]) rfl rfl rfl (Nat.le_of_lt l1) (by
      intro u hu pre hpre
      obtain ⟨a, rfl⟩ : ∃ a, pre = [a] := by
        match pre, hpre with
        | [a], _ => exact ⟨a, rfl⟩
      refine ⟨[some (remT u, false)], rfl, rfl, ?_, fun _ => rfl⟩
      cases u <;> unfold remT isAt <;> simp [runFn, sSeq, sIf, sSet, sNew, sRet, sNil, sNx, sRetOwn, sGo, sReverse, sFor, sAppend, sExtend, lstAt, mTest, mNot, mAnd, mOr, mBool, mIf, mOp, mUn, mVar, mMap, mCons, mNil, mPure, mStrs, mCall, putSlot, hName, hTup, iRange, iSeq, ltT, leT, lenT, addT, subT, modT, fdivT, negT, absT, seqOf, mTrue, freezeAt, thaw, item0t, e_most_most, e_most_rest, e_most_at, e_most_not, e_most_and, e_rest_most, e_rest_rest, e_rest_at, e_rest_not, e_rest_and, e_at_most, e_at_rest, e_at_at, e_at_not, e_at_and, e_not_most, e_not_rest, e_not_at, e_not_not, e_not_and, e_and_most, e_and_rest, e_and_at, e_and_not, e_and_and, e_or_most, e_or_rest, e_or_at, e_or_not, e_or_and, i_most, j_most, n_most, i_rest, j_rest, n_rest, i_at, j_at, n_at, i_not, j_not, n_not, i_and, j_and, n_and, i_or, j_or, n_or])
  rfl
theorem hands_raw {r : Rem} (h : OkR N H 3 r) {s : Sta} (env : List Slot) (hs : s = ⟨env, sto⟩) (he : env = [some (remT r, false)]) : mComp 1 [] (hName 0) (iSeq (mCall m_ats_from_left (mCons (mVar 0) mNil))) mTrue (mOp itemT (mVar 0) (mPure (.int 1))) s = some (.lst ((((pre 3 r).filter isAt).map hnd).map T.str), s) := by
  have hl := pre_lim h
  have l0 := List.length_filter_le isAt (pre 3 r)
  have l1 : ((pre 3 r).filter isAt).length < lim := by show _ < 1000000; omega
  subst hs he
  have := mComp_map remT (fun u => .str (hnd u)) ((pre 3 r).filter isAt) (g := hName 0) (c := mTrue) (e := mOp itemT (mVar 0) (mPure (.int 1))) (nv := 1) (ci := []) (it := iSeq (mCall m_ats_from_left (mCons (mVar 0) mNil))) (s := ⟨[some (remT r, false)], sto⟩) (s1 := ⟨[some (remT r, false)], sto⟩) [some (remT r, false)] [] (by simp [runFn, sSeq, sIf, sSet, sNew, sRet, sNil, sNx, sRetOwn, sGo, sReverse, sFor, sAppend, sExtend, lstAt, mTest, mNot, mAnd, mOr, mBool, mIf, mOp, mUn, mVar, mMap, mCons, mNil, mPure, mStrs, mCall, putSlot, hName, hTup, iRange, iSeq, ltT, leT, lenT, addT, subT, modT, fdivT, negT, absT, seqOf, mTrue, freezeAt, thaw, ats_left h, l1]) rfl rfl rfl (Nat.le_of_lt l1) (by
      intro u hu pre hpre
      obtain ⟨a, rfl⟩ : ∃ a, pre = [a] := by
        match pre, hpre with
        | [a], _ => exact ⟨a, rfl⟩
      refine ⟨[some (remT u, false)], rfl, rfl, rfl, ?_⟩
      have hq := (List.mem_filter.mp hu).2
      cases u with
      | pl h p => unfold remT hnd; simp [runFn, sSeq, sIf, sSet, sNew, sRet, sNil, sNx, sRetOwn, sGo, sReverse, sFor, sAppend, sExtend, lstAt, mTest, mNot, mAnd, mOr, mBool, mIf, mOp, mUn, mVar, mMap, mCons, mNil, mPure, mStrs, mCall, putSlot, hName, hTup, iRange, iSeq, ltT, leT, lenT, addT, subT, modT, fdivT, negT, absT, seqOf, mTrue, freezeAt, thaw, item1t]
      | _ => cases hq)
  rw [this, List.map_map]; rfl
theorem nd_len : ∀ (l M : List Str), l.Nodup → (∀ x ∈ l, x ∈ M) → l.length ≤ M.length
  | [], M, _, _ => by simp
  | x :: l, M, hn, hm => by
    have hx := hm x List.mem_cons_self
    rw [List.nodup_cons] at hn
    have := nd_len l (M.erase x) hn.2 fun y hy => (List.mem_erase_of_ne (fun (e : y = x) => hn.1 (e ▸ hy))).mpr (hm y (List.mem_cons_of_mem _ hy))
    rw [List.length_erase_of_mem hx] at this
    have : 0 < M.length := List.length_pos_of_mem hx
    simp only [List.length_cons]
    omega
theorem dd_mem {x : Str} : ∀ {l : List Str}, x ∈ dedup l → x ∈ l
  | [], h => h
  | y :: l, h => by
    unfold dedup at h
    split at h
    · exact List.mem_cons_of_mem _ (dd_mem h)
    · rcases List.mem_cons.mp h with rfl | h -- here
      · exact List.mem_cons_self
      · exact List.mem_cons_of_mem _ (dd_mem h)
theorem dd_nd : ∀ l : List Str, (dedup l).Nodup
  | [] => List.nodup_nil
  | y :: l => by
    unfold dedup
    split
    · exact dd_nd l
    · rename_i h
      exact List.nodup_cons.mpr ⟨fun z => h (dd_mem z), dd_nd l⟩
theorem sset {M l : List Str} (hM : M.length ≤ 6) (hl : l.length ≤ 1000) (h : ∀ x ∈ l, x ∈ M) : sortedSetT [.lst (l.map T.str)] = some (.lst ((isort (dedup l)).map T.str)) := by
  have h1 := nd_len (dedup l) M (dd_nd l) fun x hx => h x (dd_mem hx)
  have l1 : l.length < lim := by show _ < 1000000; omega
  have l2 : (dedup l).length < 64 := by omega
  simp [sortedSetT, strs_map, l1, l2]
theorem all_bx {r : Rem} (hN : okNs N) (h : OkR N H 3 r) : ((pre 3 r).flatMap bx).length ≤ 1000 ∧ ∀ x ∈ (pre 3 r).flatMap bx, x ∈ N := by
  have h1 := fm_len (f := bx) (m := 6) (l := pre 3 r) fun u hu => bx_len hN (pre_ok 3 h u hu)
  have h2 := pre_lim h
  refine ⟨by omega, fun x hx => ?_⟩
  obtain ⟨u, hu, hx⟩ := List.mem_flatMap.mp hx
  exact bx_mem (pre_ok 3 h u hu) x hx
theorem all_hnd {r : Rem} (h : OkR N H 3 r) : (((pre 3 r).filter isAt).map hnd).length ≤ 1000 ∧ ∀ x ∈ ((pre 3 r).filter isAt).map hnd, x ∈ H.map (·.1) := by
  have h2 := pre_lim h
  have l0 := List.length_filter_le isAt (pre 3 r)
  refine ⟨by rw [List.length_map]; omega, fun x hx => ?_⟩
  obtain ⟨u, hu, rfl⟩ := List.mem_map.mp hx
  obtain ⟨hu, hq⟩ := List.mem_filter.mp hu
  have := pre_ok 3 h u hu
  cases this with
  | pl h _ _ => exact List.mem_map.mpr ⟨_, h, rfl⟩
  | _ => cases hq
noncomputable def boxesL (r : Rem) : List Str := isort (dedup ((pre 3 r).flatMap bx))
noncomputable def handsL (r : Rem) : List Str := isort (dedup (((pre 3 r).filter isAt).map hnd))
theorem boxes_in {r : Rem} (hN : okNs N) (h : OkR N H 3 r) : m_boxes_in [remT r] sto = some (.lst ((boxesL r).map T.str), sto) := by
  obtain ⟨h1, h2⟩ := all_bx hN h
  unfold m_boxes_in
  simp [runFn, sSeq, sIf, sSet, sNew, sRet, sNil, sNx, sRetOwn, sGo, sReverse, sFor, sAppend, sExtend, lstAt, mTest, mNot, mAnd, mOr, mBool, mIf, mOp, mUn, mVar, mMap, mCons, mNil, mPure, mStrs, mCall, putSlot, hName, hTup, iRange, iSeq, ltT, leT, lenT, addT, subT, modT, fdivT, negT, absT, seqOf, mTrue, freezeAt, thaw, boxes_left hN h, sset (Nat.le_trans hN.1 (by decide)) h1 h2, boxesL]
theorem hands_in {r : Rem} (hH : okHs H) (h : OkR N H 3 r) : m_hands_in [remT r] sto = some (.lst ((handsL r).map T.str), sto) := by
  obtain ⟨h1, h2⟩ := all_hnd h
  have := hH.2.1
  unfold m_hands_in
  have hs := sset (M := H.map (·.1)) (by rw [List.length_map]; omega) h1 h2
  rw [List.map_map] at hs
  simp [runFn, sSeq, sIf, sSet, sNew, sRet, sNil, sNx, sRetOwn, sGo, sReverse, sFor, sAppend, sExtend, lstAt, mTest, mNot, mAnd, mOr, mBool, mIf, mOp, mUn, mVar, mMap, mCons, mNil, mPure, mStrs, mCall, putSlot, hName, hTup, iRange, iSeq, ltT, leT, lenT, addT, subT, modT, fdivT, negT, absT, seqOf, mTrue, freezeAt, thaw, hands_raw h (sto := sto) _ rfl rfl, hs, handsL]
end
end K
end
noncomputable section
set_option linter.all false
set_option maxRecDepth 100000
set_option autoImplicit false
namespace K
open C PySem
theorem e_most_or : eqO (.str "most") (.str "or") = some (.bl false) := eqC (by decide +kernel)
theorem e_rest_or : eqO (.str "rest") (.str "or") = some (.bl false) := eqC (by decide +kernel)
theorem e_at_or : eqO (.str "at") (.str "or") = some (.bl false) := eqC (by decide +kernel)
theorem e_not_or : eqO (.str "not") (.str "or") = some (.bl false) := eqC (by decide +kernel)
theorem e_and_or : eqO (.str "and") (.str "or") = some (.bl false) := eqC (by decide +kernel)
theorem e_or_or : eqO (.str "or") (.str "or") = some (.bl true) := eqC (by decide +kernel)
noncomputable def ah : Rem → List Str
  | .pl h _ => [h]
  | _ => []
theorem ah_len (r : Rem) : (ah r).length ≤ 6 := by cases r <;> simp [ah]
theorem ah_pre : ∀ l : List Rem, (l.filter isAt).map hnd = l.flatMap ah
  | [] => rfl
  | r :: l => by
    rw [List.filter_cons, List.flatMap_cons, ← ah_pre l]
    cases r <;> simp [isAt, ah, hnd]
theorem mem_ins1' {x y : Str} : ∀ {l : List Str}, (y = x ∨ y ∈ l) → y ∈ ins1 x l
  | [], h => by rcases h with h | h; simp [ins1, h]; cases h
  | z :: l, h => by
    unfold ins1
    split
    · rcases h with h | h
      · simp [h]
      · exact List.mem_cons_of_mem _ h
    · rcases h with h | h
      · exact List.mem_cons_of_mem _ (mem_ins1' (.inl h))
      · rcases List.mem_cons.mp h with h | h
        · simp [h]
        · exact List.mem_cons_of_mem _ (mem_ins1' (.inr h))
theorem isort_iff {y : Str} {l : List Str} : y ∈ isort l ↔ y ∈ l := by
  refine ⟨isort_mem, fun h => ?_⟩
  have go : ∀ (l acc : List Str), (y ∈ l ∨ y ∈ acc) → y ∈ l.foldl (fun acc x => ins1 x acc) acc := by
    intro l
    induction l with
    | nil => intro acc h; rcases h with h | h; cases h; exact h
    | cons x l ih =>
      intro acc h
      rw [List.foldl_cons]
      apply ih
      rcases h with h | h
      · rcases List.mem_cons.mp h with h | h
        · exact .inr (mem_ins1' (.inl h))
        · exact .inl h
      · exact .inr (mem_ins1' (.inr h))
  exact go l [] (.inl h)
theorem dedup_iff {y : Str} : ∀ {l : List Str}, y ∈ dedup l ↔ y ∈ l
  | [] => Iff.rfl
  | x :: l => by
    unfold dedup
    split
    · rename_i hx
      rw [dedup_iff, List.mem_cons]
      exact ⟨.inr, fun h => h.elim (fun e => e ▸ hx) id⟩
    · rw [List.mem_cons, List.mem_cons, dedup_iff]
noncomputable section
variable {N : List Str} {H : List Hd} {sto : List SO}
theorem fm_pre {f : Rem → List Str} (hf : ∀ r, isLog r = true → f r = []) {d : Nat} {r : Rem} (hl : isLog r = true) : (pre (d + 1) r).flatMap f = (kids r).flatMap fun u => (pre d u).flatMap f := by
  rw [pre, List.flatMap_cons, hf r hl, List.nil_append, List.flatMap_assoc]
theorem fm_leaf {f : Rem → List Str} {d : Nat} {r : Rem} (hl : kids r = []) : (pre d r).flatMap f = f r := by
  cases d <;> simp [pre, hl]
theorem fm_le {f : Rem → List Str} (hf : ∀ u d, OkR N H d u → (f u).length ≤ 6) {d : Nat} (hd : d ≤ 2) {r : Rem} (h : OkR N H d r) : ((pre d r).flatMap f).length ≤ 186 := by
  have h1 := fm_len (f := f) (m := 6) (l := pre d r) fun u hu => hf u d (pre_ok d h u hu)
  have h2 := pre_len d h
  have ht : top d ≤ 31 := by
    match d, hd with
    | 0, _ => decide
    | 1, _ => decide
    | 2, _ => decide
  omega
theorem names_comp {s : Sm} {r : T} {e1 e2 : Slot} {m : M T} (hl : s.2.length < lim) (hm : m ⟨[some (r, false), e1, e2], sto⟩ = some (.tup (s.2.map pT), ⟨[some (r, false), e1, e2], sto⟩)) : mComp 2 [] (hTup [0, 1]) (iSeq m) mTrue (mVar 0) ⟨[some (r, false), e1, e2], sto⟩ = some (.lst ((s.2.map (·.1)).map T.str), ⟨[some (r, false), e1, e2], sto⟩) := by
  have e := mComp_map pT (fun p => T.str p.1) s.2 (g := hTup [0, 1]) (nv := 2) (ci := []) (c := mTrue) (it := iSeq m) (e := mVar 0) (s := ⟨[some (r, false), e1, e2], sto⟩) (s1 := ⟨[some (r, false), e1, e2], sto⟩) [some (r, false), e1, e2] []
    (by unfold iSeq; rw [hm]; simp [hl]) rfl rfl rfl (Nat.le_of_lt hl) (by
      intro p hp pre hpre
      obtain ⟨a, b, rfl⟩ := C.p2 pre hpre
      exact ⟨[some (.str p.1, false), some (.int p.2, false)], rfl, by unfold pT; rw [hTup2]; rfl, rfl, rfl⟩)
  rw [e, List.map_map]; rfl
theorem law_boxes (hN : okNs N) {d : Nat} {r : Rem} (h : OkR N H d r) (hd : d ≤ 3) : ∀ k, d < k → m_law_boxes_of k [remT r] sto = some (.lst (((pre d r).flatMap bx).map T.str), sto) := by
  have many : ∀ {k d : Nat} {w : Str} {l : List Rem} {o : Slot}, d ≤ 2 → l.length ≤ 5 → (∀ r ∈ l, OkR N H d r) → (∀ r ∈ l, m_law_boxes_of k [remT r] sto = some (.lst (((pre d r).flatMap bx).map T.str), sto)) →
      ∃ o', forL (hName 2) (sExtend 1 (mCall (m_law_boxes_of k) (mCons (mVar 2) mNil))) (l.map remT) ⟨[some (.tup [.str w, .tup (l.map remT)], false), some (.lst [], true), o], sto⟩ = some (.next, ⟨[some (.tup [.str w, .tup (l.map remT)], false), some (.lst ((l.flatMap fun u => (pre d u).flatMap bx).map T.str), true), o'], sto⟩) := by
    intro k d w l o hd hl ho hh
    generalize hF : forL _ _ _ _ = q
    obtain ⟨s', rfl, P⟩ := forL_at hF (fun ts st => ∃ (m : List Rem) (acc : List Str) (o : Slot), ts = m.map remT ∧ (∀ u ∈ m, u ∈ l) ∧ st = ⟨[some (.tup [.str w, .tup (l.map remT)], false), some (.lst (acc.map T.str), true), o], sto⟩ ∧ acc ++ m.flatMap (fun u => (pre d u).flatMap bx) = l.flatMap (fun u => (pre d u).flatMap bx) ∧ acc.length + 186 * m.length ≤ 930)
      ⟨l, [], o, rfl, fun u hu => hu, rfl, rfl, by simp only [List.length_nil]; omega⟩ (by
        rintro t q st ⟨m, acc, o, e1, e2, rfl, e3, e4⟩
        cases m with
        | nil => cases e1
        | cons u m =>
          cases e1
          have hu := e2 u List.mem_cons_self
          have hb := fm_le (f := bx) (fun u d h => bx_len hN h) hd (ho u hu)
          have hx := hh u hu
          generalize hG : (pre d u).flatMap bx = g at *
          simp only [List.length_cons] at e4
          have l2 : acc.length + g.length < lim := by show _ < 1000000; omega
          refine ⟨_, ⟨[some (.tup [.str w, .tup (l.map remT)], false), some (.lst ((acc ++ g).map T.str), true), some (remT u, false)], sto⟩, rfl, ?_, m, acc ++ g, _, rfl, fun v hv => e2 v (List.mem_cons_of_mem _ hv), rfl, ?_, ?_⟩
          · simp [runFn, sSeq, sIf, sSet, sNew, sRet, sNil, sNx, sRetOwn, sGo, sReverse, sFor, sAppend, sExtend, lstAt, mTest, mNot, mAnd, mOr, mBool, mIf, mOp, mUn, mVar, mMap, mCons, mNil, mPure, mStrs, mCall, putSlot, hName, hTup, iRange, iSeq, ltT, leT, lenT, addT, subT, modT, fdivT, negT, absT, seqOf, mTrue, freezeAt, thaw, hx, l2]
          · rw [← e3, List.flatMap_cons, hG, List.append_assoc]
          · rw [List.length_append]; omega)
    obtain ⟨m, acc, o, e1, e2, rfl, e3, e4⟩ := P
    cases m with
    | cons _ _ => cases e1
    | nil =>
      simp only [List.flatMap_nil, List.append_nil] at e3
      exact ⟨o, by rw [e3]⟩
  induction h with
  | most h =>
    intro k hk
    obtain ⟨k, rfl⟩ : ∃ j, k = j + 1 := ⟨k - 1, by omega⟩
    rename_i d s
    rw [fm_leaf rfl]
    unfold m_law_boxes_of remT bx
    have hl := sm_len hN h
    have nc := fun (r : T) (m : M T) hm => names_comp (sto := sto) (r := r) (e1 := none) (e2 := none) (m := m) hl hm
    have n1 := nc (.tup [.str "most", smT s]) (mOp itemT (mOp itemT (mVar 0) (mPure (.int 1))) (mPure (.int 1))) (by unfold smT; simp [runFn, sSeq, sIf, sSet, sNew, sRet, sNil, sNx, sRetOwn, sGo, sReverse, sFor, sAppend, sExtend, lstAt, mTest, mNot, mAnd, mOr, mBool, mIf, mOp, mUn, mVar, mMap, mCons, mNil, mPure, mStrs, mCall, putSlot, hName, hTup, iRange, iSeq, ltT, leT, lenT, addT, subT, modT, fdivT, negT, absT, seqOf, mTrue, freezeAt, thaw, item1t])
    simp [runFn, sSeq, sIf, sSet, sNew, sRet, sNil, sNx, sRetOwn, sGo, sReverse, sFor, sAppend, sExtend, lstAt, mTest, mNot, mAnd, mOr, mBool, mIf, mOp, mUn, mVar, mMap, mCons, mNil, mPure, mStrs, mCall, putSlot, hName, hTup, iRange, iSeq, ltT, leT, lenT, addT, subT, modT, fdivT, negT, absT, seqOf, mTrue, freezeAt, thaw, item0t, e_most_most, e_most_rest, e_most_at, e_most_not, e_most_and, e_rest_most, e_rest_rest, e_rest_at, e_rest_not, e_rest_and, e_at_most, e_at_rest, e_at_at, e_at_not, e_at_and, e_not_most, e_not_rest, e_not_at, e_not_not, e_not_and, e_and_most, e_and_rest, e_and_at, e_and_not, e_and_and, e_or_most, e_or_rest, e_or_at, e_or_not, e_or_and, n1]
  | rest h a b =>
    intro k hk
    obtain ⟨k, rfl⟩ : ∃ j, k = j + 1 := ⟨k - 1, by omega⟩
    rename_i d s m
    rw [fm_leaf rfl]
    unfold m_law_boxes_of remT bx
    have hl := sm_len hN h
    have nc := fun (r : T) (m : M T) hm => names_comp (sto := sto) (r := r) (e1 := none) (e2 := none) (m := m) hl hm
    have n1 := nc (.tup [.str "rest", smT s, .int m]) (mOp itemT (mOp itemT (mVar 0) (mPure (.int 1))) (mPure (.int 1))) (by unfold smT; simp [runFn, sSeq, sIf, sSet, sNew, sRet, sNil, sNx, sRetOwn, sGo, sReverse, sFor, sAppend, sExtend, lstAt, mTest, mNot, mAnd, mOr, mBool, mIf, mOp, mUn, mVar, mMap, mCons, mNil, mPure, mStrs, mCall, putSlot, hName, hTup, iRange, iSeq, ltT, leT, lenT, addT, subT, modT, fdivT, negT, absT, seqOf, mTrue, freezeAt, thaw, item1t])
    simp [runFn, sSeq, sIf, sSet, sNew, sRet, sNil, sNx, sRetOwn, sGo, sReverse, sFor, sAppend, sExtend, lstAt, mTest, mNot, mAnd, mOr, mBool, mIf, mOp, mUn, mVar, mMap, mCons, mNil, mPure, mStrs, mCall, putSlot, hName, hTup, iRange, iSeq, ltT, leT, lenT, addT, subT, modT, fdivT, negT, absT, seqOf, mTrue, freezeAt, thaw, item0t, e_most_most, e_most_rest, e_most_at, e_most_not, e_most_and, e_rest_most, e_rest_rest, e_rest_at, e_rest_not, e_rest_and, e_at_most, e_at_rest, e_at_at, e_at_not, e_at_and, e_not_most, e_not_rest, e_not_at, e_not_not, e_not_and, e_and_most, e_and_rest, e_and_at, e_and_not, e_and_and, e_or_most, e_or_rest, e_or_at, e_or_not, e_or_and, n1]
  | pl h a b =>
    intro k hk
    obtain ⟨k, rfl⟩ : ∃ j, k = j + 1 := ⟨k - 1, by omega⟩
    rename_i d s m
    rw [fm_leaf rfl]
    unfold m_law_boxes_of remT bx
    simp [runFn, sSeq, sIf, sSet, sNew, sRet, sNil, sNx, sRetOwn, sGo, sReverse, sFor, sAppend, sExtend, lstAt, mTest, mNot, mAnd, mOr, mBool, mIf, mOp, mUn, mVar, mMap, mCons, mNil, mPure, mStrs, mCall, putSlot, hName, hTup, iRange, iSeq, ltT, leT, lenT, addT, subT, modT, fdivT, negT, absT, seqOf, mTrue, freezeAt, thaw, item0t, e_most_most, e_most_rest, e_most_at, e_most_not, e_most_and, e_rest_most, e_rest_rest, e_rest_at, e_rest_not, e_rest_and, e_at_most, e_at_rest, e_at_at, e_at_not, e_at_and, e_not_most, e_not_rest, e_not_at, e_not_not, e_not_and, e_and_most, e_and_rest, e_and_at, e_and_not, e_and_and, e_or_most, e_or_rest, e_or_at, e_or_not, e_or_and, e_most_or, e_rest_or, e_at_or, e_not_or, e_and_or, e_or_or]
  | all hl ho ih =>
    intro k hk
    obtain ⟨k, rfl⟩ : ∃ j, k = j + 1 := ⟨k - 1, by omega⟩
    rename_i d l
    obtain ⟨o', e⟩ := many (w := "and") (o := none) (by omega) hl ho fun r hr => ih r hr (by omega) k (by omega)
    have lm : l.length < lim := by show _ < 1000000; omega
    rw [fm_pre (fun r hr => by cases r <;> first | rfl | cases hr) rfl]
    show _ = some (T.lst ((l.flatMap fun u => (pre d u).flatMap bx).map T.str), sto)
    generalize (l.flatMap fun u => (pre d u).flatMap bx) = g at *
    unfold m_law_boxes_of remT
    simp [runFn, sSeq, sIf, sSet, sNew, sRet, sNil, sNx, sRetOwn, sGo, sReverse, sFor, sAppend, sExtend, lstAt, mTest, mNot, mAnd, mOr, mBool, mIf, mOp, mUn, mVar, mMap, mCons, mNil, mPure, mStrs, mCall, putSlot, hName, hTup, iRange, iSeq, ltT, leT, lenT, addT, subT, modT, fdivT, negT, absT, seqOf, mTrue, freezeAt, thaw, item0t, item1t, e_most_most, e_most_rest, e_most_at, e_most_not, e_most_and, e_rest_most, e_rest_rest, e_rest_at, e_rest_not, e_rest_and, e_at_most, e_at_rest, e_at_at, e_at_not, e_at_and, e_not_most, e_not_rest, e_not_at, e_not_not, e_not_and, e_and_most, e_and_rest, e_and_at, e_and_not, e_and_and, e_or_most, e_or_rest, e_or_at, e_or_not, e_or_and, e_most_or, e_rest_or, e_at_or, e_not_or, e_and_or, e_or_or, remsT_map, lm, e]
  | any hl ho ih =>
    intro k hk
    obtain ⟨k, rfl⟩ : ∃ j, k = j + 1 := ⟨k - 1, by omega⟩
    rename_i d l
    obtain ⟨o', e⟩ := many (w := "or") (o := none) (by omega) hl ho fun r hr => ih r hr (by omega) k (by omega)
    have lm : l.length < lim := by show _ < 1000000; omega
    rw [fm_pre (fun r hr => by cases r <;> first | rfl | cases hr) rfl]
    show _ = some (T.lst ((l.flatMap fun u => (pre d u).flatMap bx).map T.str), sto)
    generalize (l.flatMap fun u => (pre d u).flatMap bx) = g at *
    unfold m_law_boxes_of remT
    simp [runFn, sSeq, sIf, sSet, sNew, sRet, sNil, sNx, sRetOwn, sGo, sReverse, sFor, sAppend, sExtend, lstAt, mTest, mNot, mAnd, mOr, mBool, mIf, mOp, mUn, mVar, mMap, mCons, mNil, mPure, mStrs, mCall, putSlot, hName, hTup, iRange, iSeq, ltT, leT, lenT, addT, subT, modT, fdivT, negT, absT, seqOf, mTrue, freezeAt, thaw, item0t, item1t, e_most_most, e_most_rest, e_most_at, e_most_not, e_most_and, e_rest_most, e_rest_rest, e_rest_at, e_rest_not, e_rest_and, e_at_most, e_at_rest, e_at_at, e_at_not, e_at_and, e_not_most, e_not_rest, e_not_at, e_not_not, e_not_and, e_and_most, e_and_rest, e_and_at, e_and_not, e_and_and, e_or_most, e_or_rest, e_or_at, e_or_not, e_or_and, e_most_or, e_rest_or, e_at_or, e_not_or, e_and_or, e_or_or, remsT_map, lm, e]
  | no h ih =>
    intro k hk
    obtain ⟨k, rfl⟩ : ∃ j, k = j + 1 := ⟨k - 1, by omega⟩
    rename_i d r
    have e := ih (by omega) k (by omega)
    rw [fm_pre (fun r hr => by cases r <;> first | rfl | cases hr) rfl]
    show _ = some (T.lst (([r].flatMap fun u => (pre d u).flatMap bx).map T.str), sto)
    rw [List.flatMap_singleton]
    generalize ((pre d r).flatMap bx) = g at *
    unfold m_law_boxes_of remT
    simp [runFn, sSeq, sIf, sSet, sNew, sRet, sNil, sNx, sRetOwn, sGo, sReverse, sFor, sAppend, sExtend, lstAt, mTest, mNot, mAnd, mOr, mBool, mIf, mOp, mUn, mVar, mMap, mCons, mNil, mPure, mStrs, mCall, putSlot, hName, hTup, iRange, iSeq, ltT, leT, lenT, addT, subT, modT, fdivT, negT, absT, seqOf, mTrue, freezeAt, thaw, item0t, item1t, e_most_most, e_most_rest, e_most_at, e_most_not, e_most_and, e_rest_most, e_rest_rest, e_rest_at, e_rest_not, e_rest_and, e_at_most, e_at_rest, e_at_at, e_at_not, e_at_and, e_not_most, e_not_rest, e_not_at, e_not_not, e_not_and, e_and_most, e_and_rest, e_and_at, e_and_not, e_and_and, e_or_most, e_or_rest, e_or_at, e_or_not, e_or_and, e_most_or, e_rest_or, e_at_or, e_not_or, e_and_or, e_or_or, e]
theorem law_ats (hN : okNs N) {d : Nat} {r : Rem} (h : OkR N H d r) (hd : d ≤ 3) : ∀ k, d < k → m_law_ats_of k [remT r] sto = some (.lst (((pre d r).flatMap ah).map T.str), sto) := by
  have many : ∀ {k d : Nat} {w : Str} {l : List Rem} {o : Slot}, d ≤ 2 → l.length ≤ 5 → (∀ r ∈ l, OkR N H d r) → (∀ r ∈ l, m_law_ats_of k [remT r] sto = some (.lst (((pre d r).flatMap ah).map T.str), sto)) →
      ∃ o', forL (hName 2) (sExtend 1 (mCall (m_law_ats_of k) (mCons (mVar 2) mNil))) (l.map remT) ⟨[some (.tup [.str w, .tup (l.map remT)], false), some (.lst [], true), o], sto⟩ = some (.next, ⟨[some (.tup [.str w, .tup (l.map remT)], false), some (.lst ((l.flatMap fun u => (pre d u).flatMap ah).map T.str), true), o'], sto⟩) := by
    intro k d w l o hd hl ho hh
    generalize hF : forL _ _ _ _ = q
    obtain ⟨s', rfl, P⟩ := forL_at hF (fun ts st => ∃ (m : List Rem) (acc : List Str) (o : Slot), ts = m.map remT ∧ (∀ u ∈ m, u ∈ l) ∧ st = ⟨[some (.tup [.str w, .tup (l.map remT)], false), some (.lst (acc.map T.str), true), o], sto⟩ ∧ acc ++ m.flatMap (fun u => (pre d u).flatMap ah) = l.flatMap (fun u => (pre d u).flatMap ah) ∧ acc.length + 186 * m.length ≤ 930)
      ⟨l, [], o, rfl, fun u hu => hu, rfl, rfl, by simp only [List.length_nil]; omega⟩ (by
        rintro t q st ⟨m, acc, o, e1, e2, rfl, e3, e4⟩
        cases m with
        | nil => cases e1
        | cons u m =>
          cases e1
          have hu := e2 u List.mem_cons_self
          have hb := fm_le (f := ah) (fun u d _ => ah_len u) hd (ho u hu)
          have hx := hh u hu
          generalize hG : (pre d u).flatMap ah = g at *
          simp only [List.length_cons] at e4
          have l2 : acc.length + g.length < lim := by show _ < 1000000; omega
          refine ⟨_, ⟨[some (.tup [.str w, .tup (l.map remT)], false), some (.lst ((acc ++ g).map T.str), true), some (remT u, false)], sto⟩, rfl, ?_, m, acc ++ g, _, rfl, fun v hv => e2 v (List.mem_cons_of_mem _ hv), rfl, ?_, ?_⟩
          · simp [runFn, sSeq, sIf, sSet, sNew, sRet, sNil, sNx, sRetOwn, sGo, sReverse, sFor, sAppend, sExtend, lstAt, mTest, mNot, mAnd, mOr, mBool, mIf, mOp, mUn, mVar, mMap, mCons, mNil, mPure, mStrs, mCall, putSlot, hName, hTup, iRange, iSeq, ltT, leT, lenT, addT, subT, modT, fdivT, negT, absT, seqOf, mTrue, freezeAt, thaw, hx, l2]
          · rw [← e3, List.flatMap_cons, hG, List.append_assoc]
          · rw [List.length_append]; omega)
    obtain ⟨m, acc, o, e1, e2, rfl, e3, e4⟩ := P
    cases m with
    | cons _ _ => cases e1
    | nil =>
      simp only [List.flatMap_nil, List.append_nil] at e3
      exact ⟨o, by rw [e3]⟩
  induction h with
  | most h =>
    intro k hk
    obtain ⟨k, rfl⟩ : ∃ j, k = j + 1 := ⟨k - 1, by omega⟩
    rename_i d s
    rw [fm_leaf rfl]
    unfold m_law_ats_of remT ah
    simp [runFn, sSeq, sIf, sSet, sNew, sRet, sNil, sNx, sRetOwn, sGo, sReverse, sFor, sAppend, sExtend, lstAt, mTest, mNot, mAnd, mOr, mBool, mIf, mOp, mUn, mVar, mMap, mCons, mNil, mPure, mStrs, mCall, putSlot, hName, hTup, iRange, iSeq, ltT, leT, lenT, addT, subT, modT, fdivT, negT, absT, seqOf, mTrue, freezeAt, thaw, item0t, e_most_most, e_most_rest, e_most_at, e_most_not, e_most_and, e_rest_most, e_rest_rest, e_rest_at, e_rest_not, e_rest_and, e_at_most, e_at_rest, e_at_at, e_at_not, e_at_and, e_not_most, e_not_rest, e_not_at, e_not_not, e_not_and, e_and_most, e_and_rest, e_and_at, e_and_not, e_and_and, e_or_most, e_or_rest, e_or_at, e_or_not, e_or_and, e_most_or, e_rest_or, e_at_or, e_not_or, e_and_or, e_or_or]
  | rest h a b =>
    intro k hk
    obtain ⟨k, rfl⟩ : ∃ j, k = j + 1 := ⟨k - 1, by omega⟩
    rename_i d s m
    rw [fm_leaf rfl]
    unfold m_law_ats_of remT ah
    simp [runFn, sSeq, sIf, sSet, sNew, sRet, sNil, sNx, sRetOwn, sGo, sReverse, sFor, sAppend, sExtend, lstAt, mTest, mNot, mAnd, mOr, mBool, mIf, mOp, mUn, mVar, mMap, mCons, mNil, mPure, mStrs, mCall, putSlot, hName, hTup, iRange, iSeq, ltT, leT, lenT, addT, subT, modT, fdivT, negT, absT, seqOf, mTrue, freezeAt, thaw, item0t, e_most_most, e_most_rest, e_most_at, e_most_not, e_most_and, e_rest_most, e_rest_rest, e_rest_at, e_rest_not, e_rest_and, e_at_most, e_at_rest, e_at_at, e_at_not, e_at_and, e_not_most, e_not_rest, e_not_at, e_not_not, e_not_and, e_and_most, e_and_rest, e_and_at, e_and_not, e_and_and, e_or_most, e_or_rest, e_or_at, e_or_not, e_or_and, e_most_or, e_rest_or, e_at_or, e_not_or, e_and_or, e_or_or]
  | pl h a b =>
    intro k hk
    obtain ⟨k, rfl⟩ : ∃ j, k = j + 1 := ⟨k - 1, by omega⟩
    rename_i d s m
    rw [fm_leaf rfl]
    unfold m_law_ats_of remT ah
    simp [runFn, sSeq, sIf, sSet, sNew, sRet, sNil, sNx, sRetOwn, sGo, sReverse, sFor, sAppend, sExtend, lstAt, mTest, mNot, mAnd, mOr, mBool, mIf, mOp, mUn, mVar, mMap, mCons, mNil, mPure, mStrs, mCall, putSlot, hName, hTup, iRange, iSeq, ltT, leT, lenT, addT, subT, modT, fdivT, negT, absT, seqOf, mTrue, freezeAt, thaw, item0t, item1t, e_most_most, e_most_rest, e_most_at, e_most_not, e_most_and, e_rest_most, e_rest_rest, e_rest_at, e_rest_not, e_rest_and, e_at_most, e_at_rest, e_at_at, e_at_not, e_at_and, e_not_most, e_not_rest, e_not_at, e_not_not, e_not_and, e_and_most, e_and_rest, e_and_at, e_and_not, e_and_and, e_or_most, e_or_rest, e_or_at, e_or_not, e_or_and, e_most_or, e_rest_or, e_at_or, e_not_or, e_and_or, e_or_or]
  | all hl ho ih =>
    intro k hk
    obtain ⟨k, rfl⟩ : ∃ j, k = j + 1 := ⟨k - 1, by omega⟩
    rename_i d l
    obtain ⟨o', e⟩ := many (w := "and") (o := none) (by omega) hl ho fun r hr => ih r hr (by omega) k (by omega)
    have lm : l.length < lim := by show _ < 1000000; omega
    rw [fm_pre (fun r hr => by cases r <;> first | rfl | cases hr) rfl]
    show _ = some (T.lst ((l.flatMap fun u => (pre d u).flatMap ah).map T.str), sto)
    generalize (l.flatMap fun u => (pre d u).flatMap ah) = g at *
    unfold m_law_ats_of remT
    simp [runFn, sSeq, sIf, sSet, sNew, sRet, sNil, sNx, sRetOwn, sGo, sReverse, sFor, sAppend, sExtend, lstAt, mTest, mNot, mAnd, mOr, mBool, mIf, mOp, mUn, mVar, mMap, mCons, mNil, mPure, mStrs, mCall, putSlot, hName, hTup, iRange, iSeq, ltT, leT, lenT, addT, subT, modT, fdivT, negT, absT, seqOf, mTrue, freezeAt, thaw, item0t, item1t, e_most_most, e_most_rest, e_most_at, e_most_not, e_most_and, e_rest_most, e_rest_rest, e_rest_at, e_rest_not, e_rest_and, e_at_most, e_at_rest, e_at_at, e_at_not, e_at_and, e_not_most, e_not_rest, e_not_at, e_not_not, e_not_and, e_and_most, e_and_rest, e_and_at, e_and_not, e_and_and, e_or_most, e_or_rest, e_or_at, e_or_not, e_or_and, e_most_or, e_rest_or, e_at_or, e_not_or, e_and_or, e_or_or, remsT_map, lm, e]
  | any hl ho ih =>
    intro k hk
    obtain ⟨k, rfl⟩ : ∃ j, k = j + 1 := ⟨k - 1, by omega⟩
    rename_i d l
    obtain ⟨o', e⟩ := many (w := "or") (o := none) (by omega) hl ho fun r hr => ih r hr (by omega) k (by omega)
    have lm : l.length < lim := by show _ < 1000000; omega
    rw [fm_pre (fun r hr => by cases r <;> first | rfl | cases hr) rfl]
    show _ = some (T.lst ((l.flatMap fun u => (pre d u).flatMap ah).map T.str), sto)
    generalize (l.flatMap fun u => (pre d u).flatMap ah) = g at *
    unfold m_law_ats_of remT
    simp [runFn, sSeq, sIf, sSet, sNew, sRet, sNil, sNx, sRetOwn, sGo, sReverse, sFor, sAppend, sExtend, lstAt, mTest, mNot, mAnd, mOr, mBool, mIf, mOp, mUn, mVar, mMap, mCons, mNil, mPure, mStrs, mCall, putSlot, hName, hTup, iRange, iSeq, ltT, leT, lenT, addT, subT, modT, fdivT, negT, absT, seqOf, mTrue, freezeAt, thaw, item0t, item1t, e_most_most, e_most_rest, e_most_at, e_most_not, e_most_and, e_rest_most, e_rest_rest, e_rest_at, e_rest_not, e_rest_and, e_at_most, e_at_rest, e_at_at, e_at_not, e_at_and, e_not_most, e_not_rest, e_not_at, e_not_not, e_not_and, e_and_most, e_and_rest, e_and_at, e_and_not, e_and_and, e_or_most, e_or_rest, e_or_at, e_or_not, e_or_and, e_most_or, e_rest_or, e_at_or, e_not_or, e_and_or, e_or_or, remsT_map, lm, e]
  | no h ih =>
    intro k hk
    obtain ⟨k, rfl⟩ : ∃ j, k = j + 1 := ⟨k - 1, by omega⟩
    rename_i d r
    have e := ih (by omega) k (by omega)
    rw [fm_pre (fun r hr => by cases r <;> first | rfl | cases hr) rfl]
    show _ = some (T.lst (([r].flatMap fun u => (pre d u).flatMap ah).map T.str), sto)
    rw [List.flatMap_singleton]
    generalize ((pre d r).flatMap ah) = g at *
    unfold m_law_ats_of remT
    simp [runFn, sSeq, sIf, sSet, sNew, sRet, sNil, sNx, sRetOwn, sGo, sReverse, sFor, sAppend, sExtend, lstAt, mTest, mNot, mAnd, mOr, mBool, mIf, mOp, mUn, mVar, mMap, mCons, mNil, mPure, mStrs, mCall, putSlot, hName, hTup, iRange, iSeq, ltT, leT, lenT, addT, subT, modT, fdivT, negT, absT, seqOf, mTrue, freezeAt, thaw, item0t, item1t, e_most_most, e_most_rest, e_most_at, e_most_not, e_most_and, e_rest_most, e_rest_rest, e_rest_at, e_rest_not, e_rest_and, e_at_most, e_at_rest, e_at_at, e_at_not, e_at_and, e_not_most, e_not_rest, e_not_at, e_not_not, e_not_and, e_and_most, e_and_rest, e_and_at, e_and_not, e_and_and, e_or_most, e_or_rest, e_or_at, e_or_not, e_or_and, e_most_or, e_rest_or, e_at_or, e_not_or, e_and_or, e_or_or, e]
end
end K
end
noncomputable section
set_option linter.all false
set_option maxRecDepth 100000
set_option autoImplicit false
namespace K
open C PySem
noncomputable def AT (o : Sp) : List Str := (pre 3 o.guard).flatMap ah
noncomputable def NM (o : Sp) : List Str := (pre 3 o.guard).flatMap bx ++ o.sets.flatMap fun p => p.1 :: p.2.2.map (·.1)
noncomputable def meds (s o : Sp) : Bool := s.hand == o.hand || decide (s.hand ∈ AT o) || s.sets.any fun p => decide (p.1 ∈ NM o)
noncomputable abbrev Q2 := Str × Str
noncomputable def qT (q : Q2) : T := .tup [.str q.1, .str q.2]
noncomputable def CH (s : Sp) : List Q2 := ("hand", s.hand) :: s.sets.map fun p => ("box", p.1)
noncomputable def NB (o : Sp) : List Q2 := CH o ++ (handsL o.guard).map (fun h => (("hand", h) : Q2)) ++ (boxesL o.guard ++ o.sets.flatMap fun p => p.2.2.map (·.1)).map fun b => (("box", b) : Q2)
noncomputable def mts (s o : Sp) : Bool := (CH s).any fun q => decide (q ∈ NB o)
theorem hb_ne : ¬ (("hand" : Str) = "box") := by decide +kernel
theorem mts_meds (s o : Sp) : mts s o = meds s o := by
  have h1 : ∀ x : Str, (("hand", x) : Q2) ∈ NB o ↔ x = o.hand ∨ x ∈ AT o := by
    intro x
    unfold NB CH AT
    simp only [List.mem_append, List.mem_cons, List.mem_map, Prod.mk.injEq, hb_ne, Ne.symm hb_ne, false_and, and_false, exists_false, or_false, true_and, exists_eq_right]
    have e : x ∈ handsL o.guard ↔ x ∈ (pre 3 o.guard).flatMap ah := by
      unfold handsL
      rw [isort_iff, dedup_iff, ah_pre]
    rw [e]
  have h2 : ∀ x : Str, (("box", x) : Q2) ∈ NB o ↔ x ∈ NM o := by
    intro x
    unfold NB CH NM
    have e : x ∈ boxesL o.guard ↔ x ∈ (pre 3 o.guard).flatMap bx := by
      unfold boxesL
      rw [isort_iff, dedup_iff]
    simp only [List.mem_append, List.mem_cons, List.mem_map, Prod.mk.injEq, true_and, exists_eq_right, e, List.mem_flatMap]
    constructor
    · rintro (((⟨h, _⟩ | ⟨p, hp, h⟩) | ⟨_, _, h, _⟩) | h)
      · exact absurd h.symm hb_ne
      · exact .inr ⟨p, hp, .inl h.symm⟩
      · exact absurd h hb_ne
      · rcases h with h | ⟨p, hp, h⟩
        · exact .inl h
        · exact .inr ⟨p, hp, .inr h⟩
    · rintro (h | ⟨p, hp, h | h⟩)
      · exact .inr (.inl h)
      · exact .inl (.inl (.inr ⟨p, hp, h.symm⟩))
      · exact .inr (.inr ⟨p, hp, h⟩)
  rw [Bool.eq_iff_iff]
  unfold mts meds
  simp only [List.any_eq_true, decide_eq_true_eq, Bool.or_eq_true, beq_iff_eq]
  constructor
  · rintro ⟨q, hq, hn⟩
    unfold CH at hq
    rcases List.mem_cons.mp hq with rfl | hq -- here
    · exact .inl ((h1 _).mp hn)
    · obtain ⟨p, hp, rfl⟩ := List.mem_map.mp hq
      exact .inr ⟨p, hp, (h2 _).mp hn⟩
  · rintro (h | ⟨p, hp, h⟩)
    · exact ⟨_, List.mem_cons_self, (h1 _).mpr h⟩
    · exact ⟨_, List.mem_cons_of_mem _ (List.mem_map.mpr ⟨p, hp, rfl⟩), (h2 _).mpr h⟩
theorem ok_hand : okS "hand" := by unfold okS; decide +kernel
theorem ok_box : okS "box" := by unfold okS; decide +kernel
theorem eqD_q {a b : Q2} (h1 : okS a.1) (h2 : okS a.2) (h3 : okS b.1) (h4 : okS b.2) : eqD (qT a) (qT b) = some (a == b) := by
  obtain ⟨a1, a2⟩ := a
  obtain ⟨b1, b2⟩ := b
  simp only at h1 h2 h3 h4
  have e : dat (qT (a1, a2)) = some (.tuple [.str a1, .str a2]) := by simp [qT, dat, dats, dat_str h1, dat_str h2, show PyData.canLay0 (.str a1) = true from h1, show PyData.canLay0 (.str a2) = true from h2]
  have f : dat (qT (b1, b2)) = some (.tuple [.str b1, .str b2]) := by simp [qT, dat, dats, show PyData.canLay0 (.str b1) = true from h3, show PyData.canLay0 (.str b2) = true from h4]
  unfold eqD
  rw [e, f]
  dsimp only
  rw [if_pos (by simp [PyData.depth, PyData.depthAll])]
  simp only [PyData.eqv, PyData.eqvAll, Bool.and_true]
  rfl
theorem inL_q {x : Q2} (h1 : okS x.1) (h2 : okS x.2) : ∀ m : List Q2, (∀ y ∈ m, okS y.1 ∧ okS y.2) → inL (qT x) (m.map qT) = some (decide (x ∈ m))
  | [], _ => by simp [inL]
  | y :: m, h => by
    have ih := inL_q h1 h2 m fun z hz => h z (List.mem_cons_of_mem _ hz)
    have hy := h y List.mem_cons_self
    rw [List.map_cons, inL, eqD_q hy.1 hy.2 h1 h2]
    dsimp only
    rw [ih, Option.map_some]
    congr 1
    rw [Bool.eq_iff_iff]
    simp only [Bool.or_eq_true, beq_iff_eq, decide_eq_true_eq, List.mem_cons]
    exact ⟨fun z => z.imp_left Eq.symm, fun z => z.imp_left Eq.symm⟩
theorem in_q {x : Q2} {m : List Q2} (h1 : okS x.1) (h2 : okS x.2) (h : ∀ y ∈ m, okS y.1 ∧ okS y.2) : inT (qT x) (.lst (m.map qT)) = some (.bl (decide (x ∈ m))) := by
  have d : (dat (qT x)).isSome = true := by
    unfold okS at h1 h2
    simp [qT, dat, dats, h1, h2]
  simp [inT, d, inL_q h1 h2 m h]
theorem inL_in {x : Str} (hx : okS x) : ∀ m : List Str, (∀ y ∈ m, okS y) → inL (.str x) (m.map T.str) = some (decide (x ∈ m))
  | [], _ => by simp [inL]
  | y :: m, h => by
    have ih := inL_in hx m fun z hz => h z (List.mem_cons_of_mem _ hz)
    rw [List.map_cons, inL, eqD_str (h y List.mem_cons_self) hx]
    dsimp only
    rw [ih, Option.map_some]
    congr 1
    rw [Bool.eq_iff_iff]
    simp only [Bool.or_eq_true, beq_iff_eq, decide_eq_true_eq, List.mem_cons]
    exact ⟨fun z => z.imp_left Eq.symm, fun z => z.imp_left Eq.symm⟩
theorem in_s {x : Str} {m : List Str} (hx : okS x) (h : ∀ y ∈ m, okS y) : inT (.str x) (.lst (m.map T.str)) = some (.bl (decide (x ∈ m))) := by
  simp [inT, dat_str hx, inL_in hx m h]
theorem ne_nil {l : List Str} (h : ∀ x ∈ l, okS x) : neO (.lst (l.map T.str)) (.lst []) = some (.bl (!l.isEmpty)) := by
  cases l with
  | nil => simp [neO, eqT, eqD, dat, dats, PyData.depth, PyData.depthAll, PyData.eqv, PyData.eqvAll]
  | cons x l =>
    obtain ⟨ds, e1, e2⟩ := pls (n := 0) ((x :: l).map T.str) fun t ht => by
      obtain ⟨y, hy, rfl⟩ := List.mem_map.mp ht
      exact pl_str 0 (h y hy)
    have hd : ∃ d r, ds = d :: r := by
      have hx := dat_str (h x List.mem_cons_self)
      rw [List.map_cons, dats, hx] at e1
      dsimp only at e1
      cases q : dats (l.map T.str) with
      | none => rw [q] at e1; cases e1
      | some r => rw [q] at e1; cases e1; exact ⟨_, _, rfl⟩
    obtain ⟨d, r, rfl⟩ := hd
    have dl : dat (.lst ((x :: l).map T.str)) = some (.list (d :: r)) := by rw [dat, e1]; rfl
    have dn : dat (.lst []) = some (.list []) := by simp [dat, dats]
    have dp : (PyData.list (d :: r)).depth ≤ 40 := by simp only [PyData.depth]; omega
    simp only [neO, eqT, eqD, dl, dn, if_pos dp, PyData.eqv, PyData.eqvAll]
    rfl
noncomputable section
variable {N : List Str} {H : List Hd} {sto : List SO} {s o : Sp}
theorem ok_AT (hH : okHs H) (ho : OkP N H o) : ∀ x ∈ AT o, okS x := fun x hx => by
  have := (all_hnd ho.gd).2 x (by rw [ah_pre]; exact hx)
  obtain ⟨h, hh, rfl⟩ := List.mem_map.mp this
  exact (hH.2.2 h hh).1.1
theorem ok_one (ho : OkP N H o) : ∀ x ∈ o.sets.flatMap (fun p => p.1 :: p.2.2.map (·.1)), x ∈ N := fun x hx => by
  obtain ⟨p, hp, hx⟩ := List.mem_flatMap.mp hx
  obtain ⟨h1, h2⟩ := ho.set p hp
  rcases List.mem_cons.mp hx with rfl | hx -- here
  · exact h1
  · obtain ⟨q, hq, rfl⟩ := List.mem_map.mp hx
    exact (h2.2 q hq).1
theorem ok_NM (hN : okNs N) (ho : OkP N H o) : ∀ x ∈ NM o, okS x := fun x hx => by
  have : x ∈ N := by
    rcases List.mem_append.mp hx with h | h
    · exact (all_bx hN ho.gd).2 x h
    · exact ok_one ho x h
  exact (hN.2 x this).1
theorem len_NM (hN : okNs N) (ho : OkP N H o) : (NM o).length ≤ 1100 := by
  have h1 := (all_bx hN ho.gd).1
  have h2 := fm_len (f := fun p : Str × Sm => p.1 :: p.2.2.map (·.1)) (m := 3) (l := o.sets) fun p hp => by
    have := (ho.set p hp).2.1
    have := hN.1
    simp only [List.length_cons, List.length_map]
    omega
  have := ho.len
  unfold NM
  rw [List.length_append]
  omega
theorem sets_len (ho : OkP N H o) : o.sets.length < lim := by have := ho.len; show _ < 1000000; omega
theorem meddles (hN : okNs N) (hH : okHs H) (hs : OkP N H s) (ho : OkP N H o) : m_law_meddles [spT s, spT o] sto = some (.bl (meds s o), sto) := by
  have la := law_ats (sto := sto) hN ho.gd (by decide) 40 (by decide)
  have lb := law_boxes (sto := sto) hN ho.gd (by decide) 40 (by decide)
  have i0 : ∀ x : Sp, itemT (spT x) (.int 0) = some (.str x.hand) := fun x => item0t
  have i2 : ∀ x : Sp, itemT (spT x) (.int 2) = some (remT x.guard) := fun x => item2t
  have i3 : ∀ x : Sp, itemT (spT x) (.int 3) = some (.tup (x.sets.map seT)) := fun x => item3t
  have e0 := eqO_str hs.hd.1 ho.hd.1
  have e1 := in_s (m := AT o) hs.hd.1 (ok_AT hH ho)
  unfold m_law_meddles runFn
  rw [show ([spT s, spT o].map (fun t => some (t, false)) ++ List.replicate (5 - [spT s, spT o].length) none : List Slot) = [some (spT s, false), some (spT o, false), none, none, none] from rfl]
  by_cases hh : (s.hand == o.hand) = true
  · have : meds s o = true := by unfold meds; rw [hh]; rfl
    rw [this]
    rw [hh] at e0
    simp [runFn, sSeq, sIf, sSet, sNew, sRet, sNil, sNx, sRetOwn, sGo, sReverse, sFor, sAppend, sExtend, lstAt, mTest, mNot, mAnd, mOr, mBool, mIf, mOp, mUn, mVar, mMap, mCons, mNil, mPure, mStrs, mCall, putSlot, hName, hTup, iRange, iSeq, ltT, leT, lenT, addT, subT, modT, fdivT, negT, absT, seqOf, mTrue, freezeAt, thaw, i0, e0]
  have hh' : (s.hand == o.hand) = false := eq_false_of_ne_true hh
  rw [hh'] at e0
  by_cases ha : s.hand ∈ AT o
  · have : meds s o = true := by unfold meds; rw [decide_eq_true ha]; simp
    rw [this]
    rw [decide_eq_true ha] at e1
    unfold AT at e1
    simp [runFn, sSeq, sIf, sSet, sNew, sRet, sNil, sNx, sRetOwn, sGo, sReverse, sFor, sAppend, sExtend, lstAt, mTest, mNot, mAnd, mOr, mBool, mIf, mOp, mUn, mVar, mMap, mCons, mNil, mPure, mStrs, mCall, putSlot, hName, hTup, iRange, iSeq, ltT, leT, lenT, addT, subT, modT, fdivT, negT, absT, seqOf, mTrue, freezeAt, thaw, i0, i2, e0, la, e1]
  have em : meds s o = s.sets.any fun p => decide (p.1 ∈ NM o) := by unfold meds; rw [hh', decide_eq_false ha]; rfl
  rw [em]
  rw [decide_eq_false ha] at e1
  unfold AT at e1
  rw [seq_step (s' := ⟨[some (spT s, false), some (spT o, false), none, none, none], sto⟩) (no_if (by simp [runFn, sSeq, sIf, sSet, sNew, sRet, sNil, sNx, sRetOwn, sGo, sReverse, sFor, sAppend, sExtend, lstAt, mTest, mNot, mAnd, mOr, mBool, mIf, mOp, mUn, mVar, mMap, mCons, mNil, mPure, mStrs, mCall, putSlot, hName, hTup, iRange, iSeq, ltT, leT, lenT, addT, subT, modT, fdivT, negT, absT, seqOf, mTrue, freezeAt, thaw, i0, i2, e0, la, e1]))]
  rw [seq_step (s' := ⟨[some (spT s, false), some (spT o, false), some (.lst (((pre 3 o.guard).flatMap bx).map T.str), false), none, none], sto⟩) (by simp [runFn, sSeq, sIf, sSet, sNew, sRet, sNil, sNx, sRetOwn, sGo, sReverse, sFor, sAppend, sExtend, lstAt, mTest, mNot, mAnd, mOr, mBool, mIf, mOp, mUn, mVar, mMap, mCons, mNil, mPure, mStrs, mCall, putSlot, hName, hTup, iRange, iSeq, ltT, leT, lenT, addT, subT, modT, fdivT, negT, absT, seqOf, mTrue, freezeAt, thaw, i2, lb])]
  obtain ⟨o3, o4, eF⟩ : ∃ o3 o4 : Slot, sFor (hTup [3, 4]) (iSeq (mOp itemT (mVar 1) (mPure (.int 3))))
      (sSet 2 (mOp addT (mOp addT (mVar 2) (mMap (fun l => some (.lst l)) (mCons (mVar 3) mNil))) (mComp 2 [] (hTup [0, 1]) (iSeq (mOp itemT (mVar 4) (mPure (.int 1)))) mTrue (mVar 0))))
      ⟨[some (spT s, false), some (spT o, false), some (.lst (((pre 3 o.guard).flatMap bx).map T.str), false), none, none], sto⟩ = some (.next, ⟨[some (spT s, false), some (spT o, false), some (.lst ((NM o).map T.str), false), o3, o4], sto⟩) := by
    have sl := sets_len ho
    have lN := len_NM hN ho
    have it : iSeq (mOp itemT (mVar 1) (mPure (.int 3))) ⟨[some (spT s, false), some (spT o, false), some (.lst (((pre 3 o.guard).flatMap bx).map T.str), false), none, none], sto⟩ = some (o.sets.map seT, ⟨[some (spT s, false), some (spT o, false), some (.lst (((pre 3 o.guard).flatMap bx).map T.str), false), none, none], sto⟩) := by simp [runFn, sSeq, sIf, sSet, sNew, sRet, sNil, sNx, sRetOwn, sGo, sReverse, sFor, sAppend, sExtend, lstAt, mTest, mNot, mAnd, mOr, mBool, mIf, mOp, mUn, mVar, mMap, mCons, mNil, mPure, mStrs, mCall, putSlot, hName, hTup, iRange, iSeq, ltT, leT, lenT, addT, subT, modT, fdivT, negT, absT, seqOf, mTrue, freezeAt, thaw, i3, sl]
    unfold sFor
    rw [it]
    dsimp only
    generalize hF : forL _ _ _ _ = q
    obtain ⟨s', rfl, P⟩ := forL_at hF (fun ts st => ∃ (m : List (Str × Sm)) (acc : List Str) (o3 o4 : Slot), ts = m.map seT ∧ (∀ p ∈ m, p ∈ o.sets) ∧ st = ⟨[some (spT s, false), some (spT o, false), some (.lst (acc.map T.str), false), o3, o4], sto⟩ ∧ acc ++ m.flatMap (fun p => p.1 :: p.2.2.map (·.1)) = NM o)
      ⟨o.sets, (pre 3 o.guard).flatMap bx, none, none, rfl, fun p hp => hp, rfl, rfl⟩ (by
        rintro t q st ⟨m, acc, o3, o4, e1, e2, rfl, e3⟩
        cases m with
        | nil => cases e1
        | cons p m =>
          cases e1
          have ok := (ho.set p (e2 p List.mem_cons_self)).2
          have pl := sm_len hN ok
          have ll : acc.length + (1 + p.2.2.length) ≤ 1100 := by
            have := congrArg List.length e3
            simp only [List.length_append, List.flatMap_cons, List.length_cons, List.length_map] at this
            omega
          have l1 : acc.length + 1 < lim := by show _ < 1000000; omega
          have l2 : acc.length + 1 + p.2.2.length < lim := by show _ < 1000000; omega
          have c := mComp_map pT (fun p => T.str p.1) p.2.2 (g := hTup [0, 1]) (nv := 2) (ci := []) (c := mTrue) (it := iSeq (mOp itemT (mVar 4) (mPure (.int 1)))) (e := mVar 0) (s := ⟨[some (spT s, false), some (spT o, false), some (.lst (acc.map T.str), false), some (.str p.1, false), some (smT p.2, false)], sto⟩) (s1 := ⟨[some (spT s, false), some (spT o, false), some (.lst (acc.map T.str), false), some (.str p.1, false), some (smT p.2, false)], sto⟩) [some (spT s, false), some (spT o, false), some (.lst (acc.map T.str), false), some (.str p.1, false), some (smT p.2, false)] []
            (by unfold smT; simp [runFn, sSeq, sIf, sSet, sNew, sRet, sNil, sNx, sRetOwn, sGo, sReverse, sFor, sAppend, sExtend, lstAt, mTest, mNot, mAnd, mOr, mBool, mIf, mOp, mUn, mVar, mMap, mCons, mNil, mPure, mStrs, mCall, putSlot, hName, hTup, iRange, iSeq, ltT, leT, lenT, addT, subT, modT, fdivT, negT, absT, seqOf, mTrue, freezeAt, thaw, item1t, pl]) rfl rfl rfl (Nat.le_of_lt pl) (by
              intro p hp pre hpre
              obtain ⟨a, b, rfl⟩ := C.p2 pre hpre
              exact ⟨[some (.str p.1, false), some (.int p.2, false)], rfl, by unfold pT; rw [hTup2]; rfl, rfl, rfl⟩)
          refine ⟨_, ⟨[some (spT s, false), some (spT o, false), some (.lst ((acc ++ (p.1 :: p.2.2.map (·.1))).map T.str), false), some (.str p.1, false), some (smT p.2, false)], sto⟩, by unfold seT; exact hTup2, ?_, m, acc ++ (p.1 :: p.2.2.map (·.1)), _, _, rfl, fun v hv => e2 v (List.mem_cons_of_mem _ hv), rfl, ?_⟩
          · simp [runFn, sSeq, sIf, sSet, sNew, sRet, sNil, sNx, sRetOwn, sGo, sReverse, sFor, sAppend, sExtend, lstAt, mTest, mNot, mAnd, mOr, mBool, mIf, mOp, mUn, mVar, mMap, mCons, mNil, mPure, mStrs, mCall, putSlot, hName, hTup, iRange, iSeq, ltT, leT, lenT, addT, subT, modT, fdivT, negT, absT, seqOf, mTrue, freezeAt, thaw, l1, c, l2]
          · rw [← e3, List.flatMap_cons, List.append_assoc])
    obtain ⟨m, acc, o3, o4, e1, e2, rfl, e3⟩ := P
    cases m with
    | cons _ _ => cases e1
    | nil =>
      simp only [List.flatMap_nil, List.append_nil] at e3
      subst e3
      exact ⟨o3, o4, rfl⟩
  rw [seq_step eF]
  have sl := sets_len hs
  have okb : ∀ p ∈ s.sets, okS p.1 := fun p hp => (hN.2 _ (hs.set p hp).1).1
  simp [runFn, sSeq, sIf, sSet, sNew, sRet, sNil, sNx, sRetOwn, sGo, sReverse, sFor, sAppend, sExtend, lstAt, mTest, mNot, mAnd, mOr, mBool, mIf, mOp, mUn, mVar, mMap, mCons, mNil, mPure, mStrs, mCall, putSlot, hName, hTup, iRange, iSeq, ltT, leT, lenT, addT, subT, modT, fdivT, negT, absT, seqOf, mTrue, freezeAt, thaw]
  generalize hF : mComp _ _ _ _ _ _ _ = r
  obtain rfl := mComp_met hF seT (fun p => .str p.1) (fun p => decide (p.1 ∈ NM o)) s.sets ⟨[some (spT s, false), some (spT o, false), some (.lst ((NM o).map T.str), false), o3, o4], sto⟩ [some (spT s, false), some (spT o, false), some (.lst ((NM o).map T.str), false), o3, o4] [some (.lst ((NM o).map T.str), false)]
    (by simp [runFn, sSeq, sIf, sSet, sNew, sRet, sNil, sNx, sRetOwn, sGo, sReverse, sFor, sAppend, sExtend, lstAt, mTest, mNot, mAnd, mOr, mBool, mIf, mOp, mUn, mVar, mMap, mCons, mNil, mPure, mStrs, mCall, putSlot, hName, hTup, iRange, iSeq, ltT, leT, lenT, addT, subT, modT, fdivT, negT, absT, seqOf, mTrue, freezeAt, thaw, i3, sl]) rfl rfl rfl (Nat.le_of_lt sl) (by
      intro p hp pre hpre
      obtain ⟨a, b, rfl⟩ := C.p2 pre hpre
      have ei := in_s (m := NM o) (okb p hp) (ok_NM hN ho)
      exact ⟨[some (.str p.1, false), some (smT p.2, false)], rfl, by unfold seT; rw [hTup2]; rfl, by simp [runFn, sSeq, sIf, sSet, sNew, sRet, sNil, sNx, sRetOwn, sGo, sReverse, sFor, sAppend, sExtend, lstAt, mTest, mNot, mAnd, mOr, mBool, mIf, mOp, mUn, mVar, mMap, mCons, mNil, mPure, mStrs, mCall, putSlot, hName, hTup, iRange, iSeq, ltT, leT, lenT, addT, subT, modT, fdivT, negT, absT, seqOf, mTrue, freezeAt, thaw, ei], fun _ => rfl⟩)
  have en : (s.sets.filter fun p => decide (p.1 ∈ NM o)).map (fun p => T.str p.1) = ((s.sets.filter fun p => decide (p.1 ∈ NM o)).map (·.1)).map T.str := by rw [List.map_map]; rfl
  have nn := ne_nil (l := (s.sets.filter fun p => decide (p.1 ∈ NM o)).map (·.1)) fun x hx => by
    obtain ⟨p, hp, rfl⟩ := List.mem_map.mp hx
    exact okb p (List.mem_filter.mp hp).1
  have ee : (!((s.sets.filter fun p => decide (p.1 ∈ NM o)).map (·.1)).isEmpty) = s.sets.any fun p => decide (p.1 ∈ NM o) := by
    generalize s.sets = l
    induction l with
    | nil => rfl
    | cons p l ih =>
      rw [List.filter_cons, List.any_cons]
      by_cases h : p.1 ∈ NM o
      · simp [h]
      · simp only [h, decide_false, Bool.false_eq_true, if_false, Bool.false_or]; exact ih
  rw [ee] at nn
  rw [← en] at nn
  dsimp only
  rw [nn]
theorem law_parted (hN : okNs N) (hH : okHs H) {bs : List Bx} {ss : List Sp} (ok : ∀ s ∈ ss, OkP N H s) {i j : Nat} (hi : i < ss.length) (hj : j < ss.length) :
    m_law_parted [prT bs H ss, .int (i : Int), .int (j : Int)] sto = some (.bl (!meds ss[i] ss[j] && !meds ss[j] ss[i]), sto) := by
  have i2 : itemT (prT bs H ss) (.int 2) = some (.lst (ss.map spT)) := item2t
  have a1 := itemT_at spT ss hi
  have a2 := itemT_at spT ss hj
  have m1 := meddles (sto := sto) hN hH (ok _ (List.getElem_mem hi)) (ok _ (List.getElem_mem hj))
  have m2 := meddles (sto := sto) hN hH (ok _ (List.getElem_mem hj)) (ok _ (List.getElem_mem hi))
  generalize ss[i] = a at *
  generalize ss[j] = b at *
  unfold m_law_parted
  cases h1 : meds a b <;> rw [h1] at m1 <;> simp [runFn, sSeq, sIf, sSet, sNew, sRet, sNil, sNx, sRetOwn, sGo, sReverse, sFor, sAppend, sExtend, lstAt, mTest, mNot, mAnd, mOr, mBool, mIf, mOp, mUn, mVar, mMap, mCons, mNil, mPure, mStrs, mCall, putSlot, hName, hTup, iRange, iSeq, ltT, leT, lenT, addT, subT, modT, fdivT, negT, absT, seqOf, mTrue, freezeAt, thaw, i2, a1, a2, m1, m2]
theorem changed : m_changed_by [spT s] sto = some (.lst ((CH s).map qT), sto) ∨ ¬ s.sets.length < 1000 := by
  by_cases hl : s.sets.length < 1000
  · left
    have sl : s.sets.length < lim := by show _ < 1000000; omega
    have i0 : itemT (spT s) (.int 0) = some (.str s.hand) := item0t
    have i3 : itemT (spT s) (.int 3) = some (.tup (s.sets.map seT)) := item3t
    have c := mComp_map seT (fun p => qT ("box", p.1)) s.sets (g := hTup [0, 1]) (nv := 2) (ci := []) (c := mTrue) (it := iSeq (mOp itemT (mVar 0) (mPure (.int 3)))) (e := mMap (fun l => some (.tup l)) (mCons (mPure (.str "box")) (mCons (mVar 0) mNil))) (s := ⟨[some (spT s, false)], sto⟩) (s1 := ⟨[some (spT s, false)], sto⟩) [some (spT s, false)] []
      (by simp [runFn, sSeq, sIf, sSet, sNew, sRet, sNil, sNx, sRetOwn, sGo, sReverse, sFor, sAppend, sExtend, lstAt, mTest, mNot, mAnd, mOr, mBool, mIf, mOp, mUn, mVar, mMap, mCons, mNil, mPure, mStrs, mCall, putSlot, hName, hTup, iRange, iSeq, ltT, leT, lenT, addT, subT, modT, fdivT, negT, absT, seqOf, mTrue, freezeAt, thaw, i3, sl]) rfl rfl rfl (Nat.le_of_lt sl) (by
        intro p hp pre hpre
        obtain ⟨a, b, rfl⟩ := C.p2 pre hpre
        exact ⟨[some (.str p.1, false), some (smT p.2, false)], rfl, by unfold seT; rw [hTup2]; rfl, rfl, rfl⟩)
    have l1 : 1 + s.sets.length < lim := by show _ < 1000000; omega
    unfold m_changed_by
    simp [runFn, sSeq, sIf, sSet, sNew, sRet, sNil, sNx, sRetOwn, sGo, sReverse, sFor, sAppend, sExtend, lstAt, mTest, mNot, mAnd, mOr, mBool, mIf, mOp, mUn, mVar, mMap, mCons, mNil, mPure, mStrs, mCall, putSlot, hName, hTup, iRange, iSeq, ltT, leT, lenT, addT, subT, modT, fdivT, negT, absT, seqOf, mTrue, freezeAt, thaw, i0, c, l1, CH, qT]
  · exact .inr hl
theorem changed_by (hs : OkP N H s) : m_changed_by [spT s] sto = some (.lst ((CH s).map qT), sto) := by
  rcases changed (s := s) (sto := sto) with h | h
  · exact h
  · exact absurd (by have := hs.len; omega) h
end
end K
end
noncomputable section
set_option linter.all false
set_option maxRecDepth 100000
set_option autoImplicit false
namespace K
open C PySem
theorem pl_le {n m : Nat} {t : T} (h : Pl n t) (hm : n ≤ m) : Pl m t := by
  obtain ⟨d, e1, e2⟩ := h
  exact ⟨d, e1, Nat.le_trans e2 hm⟩
noncomputable section
variable {N : List Str} {H : List Hd} {sto : List SO} {s o : Sp}
theorem ok_NB (hN : okNs N) (hH : okHs H) (ho : OkP N H o) : ∀ y ∈ NB o, okS y.1 ∧ okS y.2 := by
  intro y hy
  unfold NB CH at hy
  have okb : ∀ x, x ∈ N → okS x := fun x hx => (hN.2 x hx).1
  rcases List.mem_append.mp hy with hy | hy
  · rcases List.mem_append.mp hy with hy | hy
    · rcases List.mem_cons.mp hy with rfl | hy -- here
      · exact ⟨ok_hand, ho.hd.1⟩
      · obtain ⟨p, hp, rfl⟩ := List.mem_map.mp hy
        exact ⟨ok_box, okb _ (ho.set p hp).1⟩
    · obtain ⟨h, hh, rfl⟩ := List.mem_map.mp hy
      refine ⟨ok_hand, ok_AT hH ho h ?_⟩
      unfold handsL at hh
      rw [isort_iff, dedup_iff, ah_pre] at hh
      exact hh
  · obtain ⟨b, hb, rfl⟩ := List.mem_map.mp hy
    refine ⟨ok_box, okb _ ?_⟩
    rcases List.mem_append.mp hb with hb | hb -- here
    · unfold boxesL at hb
      rw [isort_iff, dedup_iff] at hb
      exact (all_bx hN ho.gd).2 b hb
    · obtain ⟨p, hp, hb⟩ := List.mem_flatMap.mp hb
      exact ok_one ho b (List.mem_flatMap.mpr ⟨p, hp, List.mem_cons_of_mem _ hb⟩)
theorem ok_CH (hN : okNs N) (ho : OkP N H o) : ∀ y ∈ CH o, okS y.1 ∧ okS y.2 := by
  intro y hy
  unfold CH at hy
  rcases List.mem_cons.mp hy with rfl | hy -- here
  · exact ⟨ok_hand, ho.hd.1⟩
  · obtain ⟨p, hp, rfl⟩ := List.mem_map.mp hy
    exact ⟨ok_box, (hN.2 _ (ho.set p hp).1).1⟩
theorem map_comp {α : Type} {s : Sta} {i : Nat} {w : Str} {l : List Str} (hl : l.length < lim) (hi : mVar i s = some (.lst (l.map T.str), s)) :
    mComp 1 [] (hName 0) (iSeq (mVar i)) mTrue (mMap (fun l => some (.tup l)) (mCons (mPure (.str w)) (mCons (mVar 0) mNil))) s = some (.lst ((l.map fun x => ((w, x) : Q2)).map qT), s) := by
  have e := mComp_map T.str (fun x => qT (w, x)) l (g := hName 0) (nv := 1) (ci := []) (c := mTrue) (it := iSeq (mVar i)) (e := mMap (fun l => some (.tup l)) (mCons (mPure (.str w)) (mCons (mVar 0) mNil))) (s := s) (s1 := s) s.env []
    (by unfold iSeq; rw [hi]; simp [hl]) rfl rfl rfl (Nat.le_of_lt hl) (by
      intro p hp pre hpre
      obtain ⟨a, rfl⟩ := C.p1 pre hpre
      exact ⟨[some (.str p, false)], rfl, rfl, rfl, rfl⟩)
  rw [e, List.map_map]; rfl
theorem named_by (hN : okNs N) (hH : okHs H) (ho : OkP N H o) : m_named_by [spT o] sto = some (.lst ((NB o).map qT), sto) := by
  have i2 : itemT (spT o) (.int 2) = some (remT o.guard) := item2t
  have i3 : itemT (spT o) (.int 3) = some (.tup (o.sets.map seT)) := item3t
  have eh := hands_in (sto := sto) hH ho.gd
  have eb := boxes_in (sto := sto) hN ho.gd
  have sl := sets_len ho
  have s2 := ho.len
  have hn := hN.1
  have lb : (boxesL o.guard).length ≤ 1000 := by
    have h1 := nd_len (dedup ((pre 3 o.guard).flatMap bx)) N (dd_nd _) fun x hx => (all_bx hN ho.gd).2 x (dd_mem hx)
    unfold boxesL
    rw [isort_len]; omega
  have lh : (handsL o.guard).length ≤ 1000 := by
    have h1 := nd_len (dedup (((pre 3 o.guard).filter isAt).map hnd)) (H.map (·.1)) (dd_nd _) fun x hx => (all_hnd ho.gd).2 x (dd_mem hx)
    have := hH.2.1
    rw [List.length_map] at h1
    unfold handsL
    rw [isort_len]; omega
  have ch := changed_by (sto := sto) ho
  have ll1 := fm_len (f := fun p : Str × Sm => p.2.2.map (·.1)) (m := 2) (l := o.sets) fun p hp => by
    have := (ho.set p hp).2.1
    rw [List.length_map]; omega
  have eN : NB o = CH o ++ (handsL o.guard).map (fun h => (("hand", h) : Q2)) ++ (boxesL o.guard ++ o.sets.flatMap fun p => p.2.2.map (·.1)).map fun b => (("box", b) : Q2) := rfl
  have lc : (CH o).length ≤ 3 := by unfold CH; rw [List.length_cons, List.length_map]; omega
  generalize hHL : handsL o.guard = hl at *
  generalize hBL : boxesL o.guard = bl at *
  unfold m_named_by runFn
  rw [show ([spT o].map (fun t => some (t, false)) ++ List.replicate (5 - [spT o].length) none : List Slot) = [some (spT o, false), none, none, none, none] from rfl]
  rw [seq_step (s' := ⟨[some (spT o, false), some (.lst (hl.map T.str), false), none, none, none], sto⟩) (by simp [runFn, sSeq, sIf, sSet, sNew, sRet, sNil, sNx, sRetOwn, sGo, sReverse, sFor, sAppend, sExtend, lstAt, mTest, mNot, mAnd, mOr, mBool, mIf, mOp, mUn, mVar, mMap, mCons, mNil, mPure, mStrs, mCall, putSlot, hName, hTup, iRange, iSeq, ltT, leT, lenT, addT, subT, modT, fdivT, negT, absT, seqOf, mTrue, freezeAt, thaw, i2, eh])]
  rw [seq_step (s' := ⟨[some (spT o, false), some (.lst (hl.map T.str), false), some (.lst (bl.map T.str), true), none, none], sto⟩) (by simp [runFn, sSeq, sIf, sSet, sNew, sRet, sNil, sNx, sRetOwn, sGo, sReverse, sFor, sAppend, sExtend, lstAt, mTest, mNot, mAnd, mOr, mBool, mIf, mOp, mUn, mVar, mMap, mCons, mNil, mPure, mStrs, mCall, putSlot, hName, hTup, iRange, iSeq, ltT, leT, lenT, addT, subT, modT, fdivT, negT, absT, seqOf, mTrue, freezeAt, thaw, i2, eb])]
  obtain ⟨o3, o4, eF⟩ : ∃ o3 o4 : Slot, sFor (hTup [3, 4]) (iSeq (mOp itemT (mVar 0) (mPure (.int 3)))) (sExtend 2 (mCall m_boxes_of (mCons (mVar 4) mNil)))
      ⟨[some (spT o, false), some (.lst (hl.map T.str), false), some (.lst (bl.map T.str), true), none, none], sto⟩ = some (.next, ⟨[some (spT o, false), some (.lst (hl.map T.str), false), some (.lst ((bl ++ o.sets.flatMap fun p => p.2.2.map (·.1)).map T.str), true), o3, o4], sto⟩) := by
    have it : iSeq (mOp itemT (mVar 0) (mPure (.int 3))) ⟨[some (spT o, false), some (.lst (hl.map T.str), false), some (.lst (bl.map T.str), true), none, none], sto⟩ = some (o.sets.map seT, ⟨[some (spT o, false), some (.lst (hl.map T.str), false), some (.lst (bl.map T.str), true), none, none], sto⟩) := by simp [runFn, sSeq, sIf, sSet, sNew, sRet, sNil, sNx, sRetOwn, sGo, sReverse, sFor, sAppend, sExtend, lstAt, mTest, mNot, mAnd, mOr, mBool, mIf, mOp, mUn, mVar, mMap, mCons, mNil, mPure, mStrs, mCall, putSlot, hName, hTup, iRange, iSeq, ltT, leT, lenT, addT, subT, modT, fdivT, negT, absT, seqOf, mTrue, freezeAt, thaw, i3, sl]
    unfold sFor
    rw [it]
    dsimp only
    generalize hF : forL _ _ _ _ = q
    obtain ⟨s', rfl, P⟩ := forL_at hF (fun ts st => ∃ (m : List (Str × Sm)) (acc : List Str) (o3 o4 : Slot), ts = m.map seT ∧ (∀ p ∈ m, p ∈ o.sets) ∧ st = ⟨[some (spT o, false), some (.lst (hl.map T.str), false), some (.lst (acc.map T.str), true), o3, o4], sto⟩ ∧ acc ++ m.flatMap (fun p => p.2.2.map (·.1)) = bl ++ o.sets.flatMap fun p => p.2.2.map (·.1))
      ⟨o.sets, bl, none, none, rfl, fun p hp => hp, rfl, rfl⟩ (by
        rintro t q st ⟨m, acc, o3, o4, e1, e2, rfl, e3⟩
        cases m with
        | nil => cases e1
        | cons p m =>
          cases e1
          have ok := (ho.set p (e2 p List.mem_cons_self)).2
          have bo := boxes_of (sto := sto) hN ok
          have l2 : acc.length + p.2.2.length < lim := by
            have := congrArg List.length e3
            simp only [List.length_append, List.flatMap_cons, List.length_map] at this
            show _ < 1000000
            omega
          refine ⟨_, ⟨[some (spT o, false), some (.lst (hl.map T.str), false), some (.lst ((acc ++ p.2.2.map (·.1)).map T.str), true), some (.str p.1, false), some (smT p.2, false)], sto⟩, by unfold seT; exact hTup2, ?_, m, acc ++ p.2.2.map (·.1), _, _, rfl, fun v hv => e2 v (List.mem_cons_of_mem _ hv), rfl, ?_⟩
          · simp [runFn, sSeq, sIf, sSet, sNew, sRet, sNil, sNx, sRetOwn, sGo, sReverse, sFor, sAppend, sExtend, lstAt, mTest, mNot, mAnd, mOr, mBool, mIf, mOp, mUn, mVar, mMap, mCons, mNil, mPure, mStrs, mCall, putSlot, hName, hTup, iRange, iSeq, ltT, leT, lenT, addT, subT, modT, fdivT, negT, absT, seqOf, mTrue, freezeAt, thaw, bo, l2]
          · rw [← e3, List.flatMap_cons, List.append_assoc])
    obtain ⟨m, acc, o3, o4, e1, e2, rfl, e3⟩ := P
    cases m with
    | cons _ _ => cases e1
    | nil =>
      simp only [List.flatMap_nil, List.append_nil] at e3
      subst e3
      exact ⟨o3, o4, rfl⟩
  rw [seq_step eF]
  generalize hB2 : (bl ++ o.sets.flatMap fun p => p.2.2.map (·.1)) = b2 at *
  have l2 : b2.length ≤ 1100 := by rw [← hB2, List.length_append]; omega
  have b2l : b2.length < lim := by show _ < 1000000; omega
  have hll : hl.length < lim := by show _ < 1000000; omega
  have c1 := map_comp (α := Nat) (i := 1) (w := "hand") (l := hl) (s := ⟨[some (spT o, false), some (.lst (hl.map T.str), false), some (.lst (b2.map T.str), true), o3, o4], sto⟩) hll rfl
  have c2 := mComp_map T.str (fun x => qT ("box", x)) b2 (g := hName 0) (nv := 1) (ci := []) (c := mTrue) (it := iSeq (mVar 2)) (e := mMap (fun l => some (.tup l)) (mCons (mPure (.str "box")) (mCons (mVar 0) mNil))) (s := ⟨[some (spT o, false), some (.lst (hl.map T.str), false), some (.lst (b2.map T.str), true), o3, o4], sto⟩) (s1 := ⟨[some (spT o, false), some (.lst (hl.map T.str), false), some (.lst (b2.map T.str), false), o3, o4], sto⟩) [some (spT o, false), some (.lst (hl.map T.str), false), some (.lst (b2.map T.str), false), o3, o4] []
    (by simp [runFn, sSeq, sIf, sSet, sNew, sRet, sNil, sNx, sRetOwn, sGo, sReverse, sFor, sAppend, sExtend, lstAt, mTest, mNot, mAnd, mOr, mBool, mIf, mOp, mUn, mVar, mMap, mCons, mNil, mPure, mStrs, mCall, putSlot, hName, hTup, iRange, iSeq, ltT, leT, lenT, addT, subT, modT, fdivT, negT, absT, seqOf, mTrue, freezeAt, thaw, b2l]) rfl rfl rfl (Nat.le_of_lt b2l) (by
      intro p hp pre hpre
      obtain ⟨a, rfl⟩ := C.p1 pre hpre
      exact ⟨[some (.str p, false)], rfl, rfl, rfl, rfl⟩)
  have ec : b2.map (fun x => qT (("box", x) : Q2)) = (b2.map fun x => (("box", x) : Q2)).map qT := by rw [List.map_map]; rfl
  rw [ec] at c2
  rw [eN, List.map_append, List.map_append]
  generalize hC1 : (hl.map fun x => (("hand", x) : Q2)) = m1 at *
  generalize hC2 : (b2.map fun x => (("box", x) : Q2)) = m2 at *
  have k1 : m1.length ≤ 1000 := by rw [← hC1, List.length_map]; exact lh
  have k2 : m2.length ≤ 1100 := by rw [← hC2, List.length_map]; exact l2
  have x1 : (CH o).length + m1.length < lim := by show _ < 1000000; omega
  have x2 : (CH o).length + m1.length + m2.length < lim := by show _ < 1000000; omega
  simp [runFn, sSeq, sIf, sSet, sNew, sRet, sNil, sNx, sRetOwn, sGo, sReverse, sFor, sAppend, sExtend, lstAt, mTest, mNot, mAnd, mOr, mBool, mIf, mOp, mUn, mVar, mMap, mCons, mNil, mPure, mStrs, mCall, putSlot, hName, hTup, iRange, iSeq, ltT, leT, lenT, addT, subT, modT, fdivT, negT, absT, seqOf, mTrue, freezeAt, thaw, ch, c1, c2, x1, x2]
theorem meets (hN : okNs N) (hH : okHs H) (hs : OkP N H s) (ho : OkP N H o) : m_meets [.lst ((CH s).map qT), .lst ((NB o).map qT)] sto = some (.bl (mts s o), sto) := by
  have lc : (CH s).length < lim := by have := hs.len; unfold CH; rw [List.length_cons, List.length_map]; show _ < 1000000; omega
  have okn := ok_NB hN hH ho
  have okc := ok_CH hN hs
  unfold mts
  generalize NB o = nb at *
  generalize CH s = ch at *
  have c := mComp_map qT (fun q => T.bl (decide (q ∈ nb))) ch (g := hName 0) (nv := 1) (ci := [1]) (c := mTrue) (it := iSeq (mVar 0)) (e := mOp inT (mVar 0) (mVar 1)) (s := ⟨[some (.lst (ch.map qT), false), some (.lst (nb.map qT), false)], sto⟩) (s1 := ⟨[some (.lst (ch.map qT), false), some (.lst (nb.map qT), false)], sto⟩) [some (.lst (ch.map qT), false), some (.lst (nb.map qT), false)] [some (.lst (nb.map qT), false)]
    (by simp [runFn, sSeq, sIf, sSet, sNew, sRet, sNil, sNx, sRetOwn, sGo, sReverse, sFor, sAppend, sExtend, lstAt, mTest, mNot, mAnd, mOr, mBool, mIf, mOp, mUn, mVar, mMap, mCons, mNil, mPure, mStrs, mCall, putSlot, hName, hTup, iRange, iSeq, ltT, leT, lenT, addT, subT, modT, fdivT, negT, absT, seqOf, mTrue, freezeAt, thaw, lc]) rfl rfl rfl (Nat.le_of_lt lc) (by
      intro q hq pre hpre
      obtain ⟨a, rfl⟩ := C.p1 pre hpre
      have e := in_q (okc q hq).1 (okc q hq).2 okn
      exact ⟨[some (qT q, false)], rfl, rfl, rfl, by simp [runFn, sSeq, sIf, sSet, sNew, sRet, sNil, sNx, sRetOwn, sGo, sReverse, sFor, sAppend, sExtend, lstAt, mTest, mNot, mAnd, mOr, mBool, mIf, mOp, mUn, mVar, mMap, mCons, mNil, mPure, mStrs, mCall, putSlot, hName, hTup, iRange, iSeq, ltT, leT, lenT, addT, subT, modT, fdivT, negT, absT, seqOf, mTrue, freezeAt, thaw, e]⟩)
  have bm : ∀ l : List Q2, boolsT (l.map fun q => T.bl (decide (q ∈ nb))) = some (l.map fun q => decide (q ∈ nb)) := by
    intro l
    induction l with
    | nil => rfl
    | cons a l ih => simp [boolsT, ih]
  unfold m_meets
  simp [runFn, sSeq, sIf, sSet, sNew, sRet, sNil, sNx, sRetOwn, sGo, sReverse, sFor, sAppend, sExtend, lstAt, mTest, mNot, mAnd, mOr, mBool, mIf, mOp, mUn, mVar, mMap, mCons, mNil, mPure, mStrs, mCall, putSlot, hName, hTup, iRange, iSeq, ltT, leT, lenT, addT, subT, modT, fdivT, negT, absT, seqOf, mTrue, freezeAt, thaw, c, anyT, bm]
theorem parted (hN : okNs N) (hH : okHs H) {bs : List Bx} {ss : List Sp} (ok : ∀ s ∈ ss, OkP N H s) {i j : Nat} (hi : i < ss.length) (hj : j < ss.length) :
    m_parted [prT bs H ss, .int (i : Int), .int (j : Int)] sto = some (.bl (!meds ss[i] ss[j] && !meds ss[j] ss[i]), sto) := by
  have i2 : itemT (prT bs H ss) (.int 2) = some (.lst (ss.map spT)) := item2t
  have a1 := itemT_at spT ss hi
  have a2 := itemT_at spT ss hj
  have ok1 := ok _ (List.getElem_mem hi)
  have ok2 := ok _ (List.getElem_mem hj)
  have m1 := meets (sto := sto) hN hH ok1 ok2
  have m2 := meets (sto := sto) hN hH ok2 ok1
  have c1 := changed_by (sto := sto) ok1
  have c2 := changed_by (sto := sto) ok2
  have n1 := named_by (sto := sto) hN hH ok1
  have n2 := named_by (sto := sto) hN hH ok2
  rw [mts_meds] at m1 m2
  generalize ss[i] = a at *
  generalize ss[j] = b at *
  unfold m_parted
  cases h1 : meds a b <;> rw [h1] at m1 <;> simp [runFn, sSeq, sIf, sSet, sNew, sRet, sNil, sNx, sRetOwn, sGo, sReverse, sFor, sAppend, sExtend, lstAt, mTest, mNot, mAnd, mOr, mBool, mIf, mOp, mUn, mVar, mMap, mCons, mNil, mPure, mStrs, mCall, putSlot, hName, hTup, iRange, iSeq, ltT, leT, lenT, addT, subT, modT, fdivT, negT, absT, seqOf, mTrue, freezeAt, thaw, i2, a1, a2, c1, c2, n1, n2, m1, m2]
theorem pl_sm (hN : okNs N) {x : Sm} (h : okSm N x) : Pl 3 (smT x) := pl_tup (n := 2) fun t ht => by
  simp only [List.mem_cons, List.not_mem_nil, or_false] at ht
  rcases ht with rfl | rfl
  · exact pl_int 2 _
  · exact pl_tup (n := 1) fun t ht => by
      obtain ⟨p, hp, rfl⟩ := List.mem_map.mp ht
      exact pl_tup (n := 0) fun t ht => by
        simp only [List.mem_cons, List.not_mem_nil, or_false] at ht
        rcases ht with rfl | rfl
        · exact pl_str 0 (hN.2 _ (h.2 p hp).1).1
        · exact pl_int 0 _
theorem ok_w : okS "most" ∧ okS "rest" ∧ okS "at" ∧ okS "and" ∧ okS "or" ∧ okS "not" ∧ okS "" := by unfold okS; decide +kernel
theorem pl_rem (hN : okNs N) (hH : okHs H) {d : Nat} {r : Rem} (h : OkR N H d r) : Pl (2 * d + 4) (remT r) := by
  obtain ⟨w1, w2, w3, w4, w5, w6, _⟩ := ok_w
  induction h with
  | most h =>
    unfold remT
    exact pl_tup fun t ht => by
      simp only [List.mem_cons, List.not_mem_nil, or_false] at ht
      rcases ht with rfl | rfl
      · exact pl_str _ w1
      · exact pl_le (pl_sm hN h) (by omega)
  | rest h _ _ =>
    unfold remT
    exact pl_tup fun t ht => by
      simp only [List.mem_cons, List.not_mem_nil, or_false] at ht
      rcases ht with rfl | rfl | rfl
      · exact pl_str _ w2
      · exact pl_le (pl_sm hN h) (by omega)
      · exact pl_int _ _
  | pl h _ _ =>
    unfold remT
    exact pl_tup fun t ht => by
      simp only [List.mem_cons, List.not_mem_nil, or_false] at ht
      rcases ht with rfl | rfl | rfl
      · exact pl_str _ w3
      · exact pl_str _ (hH.2.2 _ h).1.1
      · exact pl_int _ _
  | all _ _ ih =>
    unfold remT
    rw [remsT_map]
    exact pl_tup fun t ht => by
      simp only [List.mem_cons, List.not_mem_nil, or_false] at ht
      rcases ht with rfl | rfl
      · exact pl_str _ w4
      · exact pl_tup fun t ht => by
          obtain ⟨r, hr, rfl⟩ := List.mem_map.mp ht
          exact ih r hr
  | any _ _ ih =>
    unfold remT
    rw [remsT_map]
    exact pl_tup fun t ht => by
      simp only [List.mem_cons, List.not_mem_nil, or_false] at ht
      rcases ht with rfl | rfl
      · exact pl_str _ w5
      · exact pl_tup fun t ht => by
          obtain ⟨r, hr, rfl⟩ := List.mem_map.mp ht
          exact ih r hr
  | no _ ih =>
    unfold remT
    exact pl_tup fun t ht => by
      simp only [List.mem_cons, List.not_mem_nil, or_false] at ht
      rcases ht with rfl | rfl
      · exact pl_str _ w6
      · exact pl_le ih (by omega)
theorem pl_pr {bs : List Bx} {ss : List Sp} (ok : OkPr bs H ss) : Pl 14 (prT bs H ss) := by
  obtain ⟨w1, w2, w3, w4, w5, w6, w7⟩ := ok_w
  refine pl_tup (n := 13) fun t ht => ?_
  simp only [List.mem_cons, List.not_mem_nil, or_false] at ht
  rcases ht with rfl | rfl | rfl | rfl
  · exact pl_lst (n := 12) fun t ht => by
      obtain ⟨b, hb, rfl⟩ := List.mem_map.mp ht
      exact pl_tup (n := 11) fun t ht => by
        simp only [List.mem_cons, List.not_mem_nil, or_false] at ht
        rcases ht with rfl | rfl | rfl | rfl | rfl
        · exact pl_str _ (ok.bx b hb).1.1
        · exact pl_str _ w7
        · exact pl_int _ _
        · exact pl_int _ _
        · exact pl_int _ _
  · exact pl_lst (n := 12) fun t ht => by
      obtain ⟨h, hh, rfl⟩ := List.mem_map.mp ht
      exact pl_tup (n := 11) fun t ht => by
        simp only [List.mem_cons, List.not_mem_nil, or_false] at ht
        rcases ht with rfl | rfl
        · exact pl_str _ (ok.hs.2.2 h hh).1.1
        · exact pl_int _ _
  · exact pl_lst (n := 12) fun t ht => by
      obtain ⟨s, hs, rfl⟩ := List.mem_map.mp ht
      have o := ok.ss s hs
      exact pl_tup (n := 11) fun t ht => by
        simp only [List.mem_cons, List.not_mem_nil, or_false] at ht
        rcases ht with rfl | rfl | rfl | rfl | rfl
        · exact pl_str _ o.hd.1
        · exact pl_int _ _
        · exact pl_le (pl_rem ok.ns ok.hs o.gd) (by decide)
        · exact pl_tup (n := 10) fun t ht => by
            obtain ⟨p, hp, rfl⟩ := List.mem_map.mp ht
            exact pl_tup (n := 9) fun t ht => by
              simp only [List.mem_cons, List.not_mem_nil, or_false] at ht
              rcases ht with rfl | rfl
              · exact pl_str _ (ok.ns.2 _ (o.set p hp).1).1
              · exact pl_le (pl_sm ok.ns (o.set p hp).2) (by decide)
        · exact pl_int _ _
  · exact pl_tup (n := 12) fun t ht => by cases ht
theorem law_true {cs : List Int} (hc : cs.length ≤ 63) : ∃ st, m_law [scr cs] [] = some (.bl true, st) := by
  obtain ⟨t, st, ep, bs, H, ss, rfl, ok, hl⟩ := program (cs := cs) (k := 40) hc
  refine ⟨st, ?_⟩
  rw [show ((40 : Nat) : Int) = 40 from rfl] at ep
  have i0 : itemT (prT bs H ss) (.int 0) = some (.lst (bs.map bxT)) := item0t
  have i1 : itemT (prT bs H ss) (.int 1) = some (.lst (H.map hT)) := item1t
  have i2 : itemT (prT bs H ss) (.int 2) = some (.lst (ss.map spT)) := item2t
  have ne := neO_same (pl_pr ok) (by decide)
  have nb : ∀ b : Bool, neO (.bl b) (.bl b) = some (.bl false) := fun b => by simp [neO, eqT, eqD, dat, PyData.depth, PyData.eqv]
  have ib : ∀ b : Bool, isBl [.bl b] = some (.bl true) := fun b => by simp [isBl]
  have b7 : bnd64 7 = true := by decide
  have h4 : (mMap (fun l => some (.tup l)) (mCons (mMap listT (mCons (mOp itemT (mVar 1) (mPure (.int 0))) mNil)) (mCons (mMap listT (mCons (mOp itemT (mVar 1) (mPure (.int 1))) mNil)) (mCons (mMap listT (mCons (mOp itemT (mVar 1) (mPure (.int 2))) mNil)) (mCons (mMap (fun l => some (.tup l)) mNil) mNil)))) : M T) ⟨[some (scr cs, false), some (prT bs H ss, false), none, none, none, none], st⟩ = some (prT bs H ss, ⟨[some (scr cs, false), some (prT bs H ss, false), none, none, none, none], st⟩) := by
    simp [runFn, sSeq, sIf, sSet, sNew, sRet, sNil, sNx, sRetOwn, sGo, sReverse, sFor, sAppend, sExtend, lstAt, mTest, mNot, mAnd, mOr, mBool, mIf, mOp, mUn, mVar, mMap, mCons, mNil, mPure, mStrs, mCall, putSlot, hName, hTup, iRange, iSeq, ltT, leT, lenT, addT, subT, modT, fdivT, negT, absT, seqOf, mTrue, freezeAt, thaw, i0, i1, i2, listT]
    rfl
  unfold m_law runFn
  rw [show ([scr cs].map (fun t => some (t, false)) ++ List.replicate (6 - [scr cs].length) none : List Slot) = [some (scr cs, false), none, none, none, none, none] from rfl]
  rw [seq_step (s' := ⟨[some (scr cs, false), some (prT bs H ss, false), none, none, none, none], st⟩) (by simp [runFn, sSeq, sIf, sSet, sNew, sRet, sNil, sNx, sRetOwn, sGo, sReverse, sFor, sAppend, sExtend, lstAt, mTest, mNot, mAnd, mOr, mBool, mIf, mOp, mUn, mVar, mMap, mCons, mNil, mPure, mStrs, mCall, putSlot, hName, hTup, iRange, iSeq, ltT, leT, lenT, addT, subT, modT, fdivT, negT, absT, seqOf, mTrue, freezeAt, thaw, ep])]
  rw [seq_step (s' := ⟨[some (scr cs, false), some (prT bs H ss, false), some (prT bs H ss, false), none, none, none], st⟩) (set_at h4)]
  have it : iRange (mMap lenT (mCons (mOp itemT (mVar 1) (mPure (.int 2))) mNil)) ⟨[some (scr cs, false), some (prT bs H ss, false), some (prT bs H ss, false), none, none, none], st⟩ = some (rangeT ss.length, ⟨[some (scr cs, false), some (prT bs H ss, false), some (prT bs H ss, false), none, none, none], st⟩) := by
    have ll : ss.length < lim := by show _ < 1000000; omega
    simp [runFn, sSeq, sIf, sSet, sNew, sRet, sNil, sNx, sRetOwn, sGo, sReverse, sFor, sAppend, sExtend, lstAt, mTest, mNot, mAnd, mOr, mBool, mIf, mOp, mUn, mVar, mMap, mCons, mNil, mPure, mStrs, mCall, putSlot, hName, hTup, iRange, iSeq, ltT, leT, lenT, addT, subT, modT, fdivT, negT, absT, seqOf, mTrue, freezeAt, thaw, i2, ll]
  generalize hL : sFor (hName 3) _ _ = loop
  obtain ⟨o3, o4, o5, el⟩ : ∃ o3 o4 o5 : Slot, loop ⟨[some (scr cs, false), some (prT bs H ss, false), some (prT bs H ss, false), none, none, none], st⟩ = some (.next, ⟨[some (scr cs, false), some (prT bs H ss, false), some (prT bs H ss, false), o3, o4, o5], st⟩) := by
    rw [← hL]
    unfold sFor
    rw [it]
    dsimp only
    generalize hF : forL _ _ _ _ = q
    obtain ⟨s', rfl, P⟩ := forL_at hF (fun ts s => ∃ o3 o4 o5 : Slot, (∀ t ∈ ts, ∃ k : Nat, k < ss.length ∧ t = .int (k : Int)) ∧ s = ⟨[some (scr cs, false), some (prT bs H ss, false), some (prT bs H ss, false), o3, o4, o5], st⟩)
      ⟨none, none, none, fun t ht => by unfold rangeT at ht; obtain ⟨k, hk, rfl⟩ := List.mem_map.mp ht; exact ⟨k, List.mem_range.mp hk, rfl⟩, rfl⟩ (by
        rintro t q s ⟨o3, o4, o5, e1, rfl⟩
        obtain ⟨k, hk, rfl⟩ := e1 t List.mem_cons_self
        obtain ⟨j2, hj2, ej2⟩ : ∃ j : Nat, j < ss.length ∧ (ss.length : Int) - 1 - (k : Int) = (j : Int) := ⟨ss.length - 1 - k, by omega, by omega⟩
        obtain ⟨j3, hj3, ej3⟩ : ∃ j : Nat, j < ss.length ∧ (7 * (k : Int) + 3) % (ss.length : Int) = (j : Int) := ⟨(7 * k + 3) % ss.length, Nat.mod_lt _ (by omega), by push_cast; rfl⟩
        have hp : (0 : Int) < (ss.length : Int) := by omega
        have hp0 : 0 < ss.length := by omega
        have l4 : (4 : Nat) < lim := by decide
        have it2 : iSeq (mMap (fun l => some (.lst l)) (mCons (mVar 3) (mCons (mPure (.int 0)) (mCons (mOp subT (mOp subT (mMap lenT (mCons (mOp itemT (mVar 1) (mPure (.int 2))) mNil)) (mPure (.int 1))) (mVar 3)) (mCons (mOp modT (mOp addT (mOp mulT (mPure (.int 7)) (mVar 3)) (mPure (.int 3))) (mMap lenT (mCons (mOp itemT (mVar 1) (mPure (.int 2))) mNil))) mNil))))) ⟨[some (scr cs, false), some (prT bs H ss, false), some (prT bs H ss, false), some (.int (k : Int), false), o4, o5], st⟩
            = some ([T.int (k : Int), .int ((0 : Nat) : Int), .int (j2 : Int), .int (j3 : Int)], ⟨[some (scr cs, false), some (prT bs H ss, false), some (prT bs H ss, false), some (.int (k : Int), false), o4, o5], st⟩) := by
          simp [runFn, sSeq, sIf, sSet, sNew, sRet, sNil, sNx, sRetOwn, sGo, sReverse, sFor, sAppend, sExtend, lstAt, mTest, mNot, mAnd, mOr, mBool, mIf, mOp, mUn, mVar, mMap, mCons, mNil, mPure, mStrs, mCall, putSlot, hName, hTup, iRange, iSeq, ltT, leT, lenT, addT, subT, modT, fdivT, negT, absT, seqOf, mTrue, freezeAt, thaw, i2, mulT, b7, hp, hp0, ej2, ej3, l4]
        refine ⟨_, _, rfl, for_at it2 (s2 := ⟨[some (scr cs, false), some (prT bs H ss, false), some (prT bs H ss, false), some (.int (k : Int), false), some (.int (j3 : Int), false), some (.bl (!meds ss[k] ss[j3] && !meds ss[j3] ss[k]), false)], st⟩) ?_, _, _, _, fun t ht => e1 t (List.mem_cons_of_mem _ ht), rfl⟩
        have one : ∀ (j : Nat) (hj : j < ss.length) (o4 o5 : Slot), (sSeq (sSet 5 (mCall m_parted (mCons (mVar 2) (mCons (mVar 3) (mCons (mVar 4) mNil)))))
            (sSeq (sIf (mOr (mNot (mTest (mMap isBl (mCons (mVar 5) mNil)))) (mOr (mTest (mOp neO (mVar 5) (mCall m_law_parted (mCons (mVar 1) (mCons (mVar 3) (mCons (mVar 4) mNil)))))) (mTest (mOp neO (mVar 2) (mVar 1)))))
            (sRet (mPure (.bl false)))
            sNil)
            (sIf (mTest (mOp neO (mCall m_parted (mCons (mVar 2) (mCons (mVar 4) (mCons (mVar 3) mNil)))) (mVar 5)))
            (sRet (mPure (.bl false)))
            sNil)) : S) ⟨[some (scr cs, false), some (prT bs H ss, false), some (prT bs H ss, false), some (.int (k : Int), false), some (.int (j : Int), false), o5], st⟩ = some (.next, ⟨[some (scr cs, false), some (prT bs H ss, false), some (prT bs H ss, false), some (.int (k : Int), false), some (.int (j : Int), false), some (.bl (!meds ss[k] ss[j] && !meds ss[j] ss[k]), false)], st⟩) := by
          intro j hj o4 o5
          have p1 := parted (sto := st) (bs := bs) ok.ns ok.hs ok.ss hk hj
          have p2 := parted (sto := st) (bs := bs) ok.ns ok.hs ok.ss hj hk
          have p3 := law_parted (sto := st) (bs := bs) ok.ns ok.hs ok.ss hk hj
          rw [Bool.and_comm] at p2
          generalize (!meds ss[k] ss[j] && !meds ss[j] ss[k]) = v at *
          simp [runFn, sSeq, sIf, sSet, sNew, sRet, sNil, sNx, sRetOwn, sGo, sReverse, sFor, sAppend, sExtend, lstAt, mTest, mNot, mAnd, mOr, mBool, mIf, mOp, mUn, mVar, mMap, mCons, mNil, mPure, mStrs, mCall, putSlot, hName, hTup, iRange, iSeq, ltT, leT, lenT, addT, subT, modT, fdivT, negT, absT, seqOf, mTrue, freezeAt, thaw, p1, ib, p3, nb, ne, p2]
        have fl : ∀ (js : List Nat) (o4 o5 : Slot), True := fun _ _ _ => trivial
        rw [forL]; dsimp only
        rw [show hName 4 (T.int (k : Int)) ⟨[some (scr cs, false), some (prT bs H ss, false), some (prT bs H ss, false), some (.int (k : Int), false), o4, o5], st⟩ = some ⟨[some (scr cs, false), some (prT bs H ss, false), some (prT bs H ss, false), some (.int (k : Int), false), some (.int (k : Int), false), o5], st⟩ from rfl]
        dsimp only
        rw [one k hk o4 o5]; dsimp only
        rw [forL]; dsimp only
        rw [show ∀ o4 o5, hName 4 (T.int ((0 : Nat) : Int)) ⟨[some (scr cs, false), some (prT bs H ss, false), some (prT bs H ss, false), some (.int (k : Int), false), o4, o5], st⟩ = some ⟨[some (scr cs, false), some (prT bs H ss, false), some (prT bs H ss, false), some (.int (k : Int), false), some (.int ((0 : Nat) : Int), false), o5], st⟩ from fun _ _ => rfl]
        dsimp only
        rw [one 0 hp0 o4]; dsimp only
        rw [forL]; dsimp only
        rw [show ∀ o4 o5, hName 4 (T.int (j2 : Int)) ⟨[some (scr cs, false), some (prT bs H ss, false), some (prT bs H ss, false), some (.int (k : Int), false), o4, o5], st⟩ = some ⟨[some (scr cs, false), some (prT bs H ss, false), some (prT bs H ss, false), some (.int (k : Int), false), some (.int (j2 : Int), false), o5], st⟩ from fun _ _ => rfl]
        dsimp only
        rw [one j2 hj2 o4]; dsimp only
        rw [forL]; dsimp only
        rw [show ∀ o4 o5, hName 4 (T.int (j3 : Int)) ⟨[some (scr cs, false), some (prT bs H ss, false), some (prT bs H ss, false), some (.int (k : Int), false), o4, o5], st⟩ = some ⟨[some (scr cs, false), some (prT bs H ss, false), some (prT bs H ss, false), some (.int (k : Int), false), some (.int (j3 : Int), false), o5], st⟩ from fun _ _ => rfl]
        dsimp only
        rw [one j3 hj3 o4]; dsimp only
        rfl)
    obtain ⟨o3, o4, o5, _, rfl⟩ := P
    exact ⟨o3, o4, o5, rfl⟩
  rw [seq_step el]
  rfl
end
end K
end
noncomputable section
set_option linter.all false
set_option maxRecDepth 100000
set_option maxHeartbeats 1000000
namespace D
open PySem L2 C
noncomputable def top (i : Nat) : Stmt := PySem.Challenge.pw_calm_k30_parted.main.body.getD i (.Pass ⟨0, 0, 0, 0⟩)
noncomputable section
variable {P : Program} {w : World} {K : PySem.W.Frag} {mg : Str → Option Value} {base : Heap} {f : Addr} {fd : FuncData}
noncomputable abbrev s_boxes_of : Stmt := top 1
theorem sc_boxes_of : FnScope ["one"] ["one"] (defScope s_boxes_of) := ⟨rfl, rfl, rfl, by decide +kernel, rfl, by decide +kernel, by decide +kernel⟩
theorem fo_boxes_of (F : Fun K "boxes_of" "boxes_of" s_boxes_of f fd) : FnOk P w K mg base CX0 1 f fd ["one"] (spF K (["one"] : List Str).length _root_.K.m_boxes_of) := by
  refine fn_tree (N := ["one"]) F sc_boxes_of (by decide)  fun cdv A outer s H E B hr => ?_
  have hu := hu_of hr
  have hq := hr.units
  have nd : (["one"] : List Str).Nodup := sc_boxes_of.nd
  exact ts_one (ts_ret (te_fresh (tf_comp (N := ["box", "times"]) ⟨rfl, fun j k h => match j, h with | _ + 0, h => (by cases h)⟩ ⟨rfl, rfl, by decide +kernel, by decide +kernel⟩ rfl (ti_seq (te_ix hu (te_var 0 (pv 0)) te_int (fun _ _ => rfl))) sz_seq (fun C s₀ H₀ ex pn => pgE fun B => (tg_tup (is := [0, 1]) (pg_tup rfl (pgs_cons (pg_name (show (["box", "times"] : List Str).Nodup by decide +kernel) rfl (Or.inl rfl)) (pgs_cons (pg_name (show (["box", "times"] : List Str).Nodup by decide +kernel) rfl (Or.inl rfl)) pgs_nil))))) (fun C s₀ H₀ ex pn => ptsE_nil) (fun C s₀ H₀ ex pn => peE fun B => (te_var 0 (pv 0))))))
theorem ok_boxes_of (F : Fun K "boxes_of" "boxes_of" s_boxes_of f fd) (hmg : mg "boxes_of" = some (.ref f)) : DefOk P w K mg base "boxes_of" 1 ["one"] _root_.K.m_boxes_of :=
  ⟨f, fd, fo_boxes_of F, F.binds (ps := ["one"]) fun _ _ _ _ _ _ us hl => match us, hl with | [_], _ => rfl, F.kp, hmg⟩
noncomputable abbrev s_members_of : Stmt := top 3
theorem sc_members_of : FnScope ["remark"] ["remark"] (defScope s_members_of) := ⟨rfl, rfl, rfl, by decide +kernel, rfl, by decide +kernel, by decide +kernel⟩
theorem fo_members_of (F : Fun K "members_of" "members_of" s_members_of f fd) : FnOk P w K mg base CX0 1 f fd ["remark"] (spF K (["remark"] : List Str).length _root_.K.m_members_of) := by
  refine fn_tree (N := ["remark"]) F sc_members_of (by decide)  fun cdv A outer s H E B hr => ?_
  have hu := hu_of hr
  have hq := hr.units
  have nd : (["remark"] : List Str).Nodup := sc_members_of.nd
  exact ts_cons (ts_if (tc_cmp (opT_eq hq) (te_ix hu (te_var 0 (pv 0)) te_int (fun _ _ => rfl)) te_str (nomark _))   (ts_one (ts_ret (te_tup (ta_cons (te_ix hu (te_var 0 (pv 0)) te_int (fun _ _ => rfl)) ta_nil) (le1000 (len_cons len_nil) (by decide)))))   ts_nil)   (ts_one (ts_ret (te_ifExp (tc_cmp (opT_in hq) (te_ix hu (te_var 0 (pv 0)) te_int (fun _ _ => rfl)) (te_tup (ta_cons te_str (ta_cons te_str ta_nil)) (le1000 (len_cons (len_cons len_nil)) (by decide))) rfl) (te_ix hu (te_var 0 (pv 0)) te_int (fun _ _ => rfl)) (te_tup ta_nil (le1000 len_nil (by decide))))))
theorem ok_members_of (F : Fun K "members_of" "members_of" s_members_of f fd) (hmg : mg "members_of" = some (.ref f)) : DefOk P w K mg base "members_of" 1 ["remark"] _root_.K.m_members_of :=
  ⟨f, fd, fo_members_of F, F.binds (ps := ["remark"]) fun _ _ _ _ _ _ us hl => match us, hl with | [_], _ => rfl, F.kp, hmg⟩
noncomputable abbrev s_parts_of : Stmt := top 4
theorem sc_parts_of : FnScope ["remark", "parts", "waiting", "part"] ["remark"] (defScope s_parts_of) := ⟨rfl, rfl, rfl, by decide +kernel, rfl, by decide +kernel, by decide +kernel⟩
theorem fo_parts_of (F : Fun K "parts_of" "parts_of" s_parts_of f fd) (d_members_of : DefOk P w K mg base "members_of" 1 ["remark"] (_root_.K.m_members_of)) (b_len : mg "len" = none) : FnOk P w K mg base CX0 2 f fd ["remark"] (spF K (["remark"] : List Str).length _root_.K.m_parts_of) := by
  have d_members_of := d_members_of.mono (show 1 ≤ 1 by first | decide | omega)
  refine fn_tree (N := ["remark", "parts", "waiting", "part"]) F sc_parts_of (by decide)  fun cdv A outer s H E B hr => ?_
  have hu := hu_of hr
  have hq := hr.units
  have nd : (["remark", "parts", "waiting", "part"] : List Str).Nodup := sc_parts_of.nd
  refine ts_cons ?_ ?_
  · exact ts_new 1 (ps_set nd rfl (Or.inl rfl) (tf_lst ta_nil (le1000 len_nil (by decide)))) (fun _ _ _ h => h)
  · refine ts_cons ?_ ?_
    · exact ts_new 2 (ps_set nd rfl (Or.inl rfl) (tf_lst (ta_cons (te_var 0 (pv 0)) ta_nil) (le1000 (len_cons len_nil) (by decide)))) (fun _ _ _ h => h)
    · refine ts_cons ?_ ?_
      · exact ts_while 1000 PassesOwn.never (tc_cmp opT_gt (te_ownLen 2 b_len rfl (pv 2)) te_int (nomark _))   (ts_cons (ts_pop 2 3 (ps_asg (pe_bm0 PySem.F.plainAttrs_list PySem.F.slot_list_pop PySem.F.type_list_pop mt_pop (pv 2)) (pg_name nd rfl (Or.inl rfl))))   (ts_cons (ts_append 1 (ps_expr (pe_bm PySem.F.plainAttrs_list PySem.F.slot_list_append PySem.F.type_list_append mt_append (pv 1) (pa_cons (te_var 3 (pv 3)) pa_nil))))   (ts_one (ts_extend 2 (ps_expr (pe_bm PySem.F.plainAttrs_list PySem.F.slot_list_extend PySem.F.type_list_extend mt_extendS (pv 2) (pa_cons (te_revT (te_callD d_members_of hr (by rfl) (ta_cons (te_var 3 (pv 3)) ta_nil) (eq_cons eq_nil))) pa_nil)))))))
      · exact ts_one (ts_ret (te_var 1 (pv 1)))
theorem ok_parts_of (F : Fun K "parts_of" "parts_of" s_parts_of f fd) (hmg : mg "parts_of" = some (.ref f)) (d_members_of : DefOk P w K mg base "members_of" 1 ["remark"] (_root_.K.m_members_of)) (b_len : mg "len" = none) : DefOk P w K mg base "parts_of" 2 ["remark"] _root_.K.m_parts_of :=
  ⟨f, fd, fo_parts_of F d_members_of b_len, F.binds (ps := ["remark"]) fun _ _ _ _ _ _ us hl => match us, hl with | [_], _ => rfl, F.kp, hmg⟩
noncomputable abbrev s_boxes_from_left : Stmt := top 5
theorem sc_boxes_from_left : FnScope ["remark", "boxes", "part"] ["remark"] (defScope s_boxes_from_left) := ⟨rfl, rfl, rfl, by decide +kernel, rfl, by decide +kernel, by decide +kernel⟩
theorem fo_boxes_from_left (F : Fun K "boxes_from_left" "boxes_from_left" s_boxes_from_left f fd) (d_boxes_of : DefOk P w K mg base "boxes_of" 1 ["one"] (_root_.K.m_boxes_of)) (d_parts_of : DefOk P w K mg base "parts_of" 2 ["remark"] (_root_.K.m_parts_of)) : FnOk P w K mg base CX0 3 f fd ["remark"] (spF K (["remark"] : List Str).length _root_.K.m_boxes_from_left) := by
  have d_boxes_of := d_boxes_of.mono (show 1 ≤ 2 by first | decide | omega)
  have d_parts_of := d_parts_of.mono (show 2 ≤ 2 by first | decide | omega)
  refine fn_tree (N := ["remark", "boxes", "part"]) F sc_boxes_from_left (by decide)  fun cdv A outer s H E B hr => ?_
  have hu := hu_of hr
  have hq := hr.units
  have nd : (["remark", "boxes", "part"] : List Str).Nodup := sc_boxes_from_left.nd
  refine ts_cons ?_ ?_
  · exact ts_new 1 (ps_set nd rfl (Or.inl rfl) (tf_lst ta_nil (le1000 len_nil (by decide)))) (fun _ _ _ h => h)
  · exact ts_cons (ts_for PassesOwn.never rfl (ti_seq (te_callD d_parts_of hr (by rfl) (ta_cons (te_var 0 (pv 0)) ta_nil) (eq_cons eq_nil))) (tg_name 2 (pg_name nd rfl (Or.inl rfl)))   (ts_one (ts_if (tc_cmp (opT_in hq) (te_ix hu (te_var 2 (pv 2)) te_int (fun _ _ => rfl)) (te_tup (ta_cons te_str (ta_cons te_str ta_nil)) (le1000 (len_cons (len_cons len_nil)) (by decide))) rfl)   (ts_one (ts_extend 1 (ps_expr (pe_bm PySem.F.plainAttrs_list PySem.F.slot_list_extend PySem.F.type_list_extend mt_extendS (pv 1) (pa_cons (te_callD d_boxes_of hr (by rfl) (ta_cons (te_ix hu (te_var 2 (pv 2)) te_int (fun _ _ => rfl)) ta_nil) (eq_cons eq_nil)) pa_nil)))))   ts_nil)) sz_seq)   (ts_one (ts_ret (te_var 1 (pv 1))))
theorem ok_boxes_from_left (F : Fun K "boxes_from_left" "boxes_from_left" s_boxes_from_left f fd) (hmg : mg "boxes_from_left" = some (.ref f)) (d_boxes_of : DefOk P w K mg base "boxes_of" 1 ["one"] (_root_.K.m_boxes_of)) (d_parts_of : DefOk P w K mg base "parts_of" 2 ["remark"] (_root_.K.m_parts_of)) : DefOk P w K mg base "boxes_from_left" 3 ["remark"] _root_.K.m_boxes_from_left :=
  ⟨f, fd, fo_boxes_from_left F d_boxes_of d_parts_of, F.binds (ps := ["remark"]) fun _ _ _ _ _ _ us hl => match us, hl with | [_], _ => rfl, F.kp, hmg⟩
noncomputable abbrev s_ats_from_left : Stmt := top 6
theorem sc_ats_from_left : FnScope ["remark"] ["remark"] (defScope s_ats_from_left) := ⟨rfl, rfl, rfl, by decide +kernel, rfl, by decide +kernel, by decide +kernel⟩
theorem fo_ats_from_left (F : Fun K "ats_from_left" "ats_from_left" s_ats_from_left f fd) (d_parts_of : DefOk P w K mg base "parts_of" 2 ["remark"] (_root_.K.m_parts_of)) : FnOk P w K mg base CX0 3 f fd ["remark"] (spF K (["remark"] : List Str).length _root_.K.m_ats_from_left) := by
  have d_parts_of := d_parts_of.mono (show 2 ≤ 2 by first | decide | omega)
  refine fn_tree (N := ["remark"]) F sc_ats_from_left (by decide)  fun cdv A outer s H E B hr => ?_
  have hu := hu_of hr
  have hq := hr.units
  have nd : (["remark"] : List Str).Nodup := sc_ats_from_left.nd
  exact ts_one (ts_ret (te_fresh (tf_comp (N := ["part"]) ⟨rfl, fun j k h => match j, h with | _ + 0, h => (by cases h)⟩ ⟨rfl, rfl, by decide +kernel, by decide +kernel⟩ rfl (ti_seq (te_callD d_parts_of hr (by rfl) (ta_cons (te_var 0 (pv 0)) ta_nil) (eq_cons eq_nil))) sz_seq (fun C s₀ H₀ ex pn => pgE fun B => (tg_name 0 (pg_name (show (["part"] : List Str).Nodup by decide +kernel) rfl (Or.inl rfl)))) (fun C s₀ H₀ ex pn => (ptsE_one fun B => (tc_cmp (opT_eq hq) (te_ix hu (te_var 0 (pv 0)) te_int (fun _ _ => rfl)) te_str (nomark _)))) (fun C s₀ H₀ ex pn => peE fun B => (te_var 0 (pv 0))))))
theorem ok_ats_from_left (F : Fun K "ats_from_left" "ats_from_left" s_ats_from_left f fd) (hmg : mg "ats_from_left" = some (.ref f)) (d_parts_of : DefOk P w K mg base "parts_of" 2 ["remark"] (_root_.K.m_parts_of)) : DefOk P w K mg base "ats_from_left" 3 ["remark"] _root_.K.m_ats_from_left :=
  ⟨f, fd, fo_ats_from_left F d_parts_of, F.binds (ps := ["remark"]) fun _ _ _ _ _ _ us hl => match us, hl with | [_], _ => rfl, F.kp, hmg⟩
noncomputable abbrev s_boxes_in : Stmt := top 7
theorem sc_boxes_in : FnScope ["remark"] ["remark"] (defScope s_boxes_in) := ⟨rfl, rfl, rfl, by decide +kernel, rfl, by decide +kernel, by decide +kernel⟩
theorem fo_boxes_in (F : Fun K "boxes_in" "boxes_in" s_boxes_in f fd) (d_boxes_from_left : DefOk P w K mg base "boxes_from_left" 3 ["remark"] (_root_.K.m_boxes_from_left)) (b_set : mg "set" = none) (b_sorted : mg "sorted" = none) : FnOk P w K mg base CX0 4 f fd ["remark"] (spFF K (["remark"] : List Str).length _root_.K.m_boxes_in) := by
  have d_boxes_from_left := d_boxes_from_left.mono (show 3 ≤ 3 by first | decide | omega)
  refine fn_treeF (N := ["remark"]) F sc_boxes_in (by decide) (ends_retE _) fun cdv A outer s H E B hr => ?_
  have hu := hu_of hr
  have hq := hr.units
  have nd : (["remark"] : List Str).Nodup := sc_boxes_in.nd
  exact ts_retFE (tf_sortedSet rfl (by rfl) b_sorted (by rfl) b_set (te_callD d_boxes_from_left hr (by rfl) (ta_cons (te_var 0 (pv 0)) ta_nil) (eq_cons eq_nil)))
theorem ok_boxes_in (F : Fun K "boxes_in" "boxes_in" s_boxes_in f fd) (hmg : mg "boxes_in" = some (.ref f)) (d_boxes_from_left : DefOk P w K mg base "boxes_from_left" 3 ["remark"] (_root_.K.m_boxes_from_left)) (b_set : mg "set" = none) (b_sorted : mg "sorted" = none) : DefOkF P w K mg base "boxes_in" 4 ["remark"] _root_.K.m_boxes_in :=
  ⟨f, fd, fo_boxes_in F d_boxes_from_left b_set b_sorted, F.binds (ps := ["remark"]) fun _ _ _ _ _ _ us hl => match us, hl with | [_], _ => rfl, F.kp, hmg⟩
noncomputable abbrev s_hands_in : Stmt := top 8
theorem sc_hands_in : FnScope ["remark"] ["remark"] (defScope s_hands_in) := ⟨rfl, rfl, rfl, by decide +kernel, rfl, by decide +kernel, by decide +kernel⟩
theorem fo_hands_in (F : Fun K "hands_in" "hands_in" s_hands_in f fd) (d_ats_from_left : DefOk P w K mg base "ats_from_left" 3 ["remark"] (_root_.K.m_ats_from_left)) (b_set : mg "set" = none) (b_sorted : mg "sorted" = none) : FnOk P w K mg base CX0 4 f fd ["remark"] (spF K (["remark"] : List Str).length _root_.K.m_hands_in) := by
  have d_ats_from_left := d_ats_from_left.mono (show 3 ≤ 3 by first | decide | omega)
  refine fn_tree (N := ["remark"]) F sc_hands_in (by decide)  fun cdv A outer s H E B hr => ?_
  have hu := hu_of hr
  have hq := hr.units
  have nd : (["remark"] : List Str).Nodup := sc_hands_in.nd
  exact ts_one (ts_ret (te_sortedSet rfl (by rfl) b_sorted (by rfl) b_set (te_fresh (tf_comp (N := ["at"]) ⟨rfl, fun j k h => match j, h with | _ + 0, h => (by cases h)⟩ ⟨rfl, rfl, by decide +kernel, by decide +kernel⟩ rfl (ti_seq (te_callD d_ats_from_left hr (by rfl) (ta_cons (te_var 0 (pv 0)) ta_nil) (eq_cons eq_nil))) sz_seq (fun C s₀ H₀ ex pn => pgE fun B => (tg_name 0 (pg_name (show (["at"] : List Str).Nodup by decide +kernel) rfl (Or.inl rfl)))) (fun C s₀ H₀ ex pn => ptsE_nil) (fun C s₀ H₀ ex pn => peE fun B => (te_ix hu (te_var 0 (pv 0)) te_int (fun _ _ => rfl)))))))
theorem ok_hands_in (F : Fun K "hands_in" "hands_in" s_hands_in f fd) (hmg : mg "hands_in" = some (.ref f)) (d_ats_from_left : DefOk P w K mg base "ats_from_left" 3 ["remark"] (_root_.K.m_ats_from_left)) (b_set : mg "set" = none) (b_sorted : mg "sorted" = none) : DefOk P w K mg base "hands_in" 4 ["remark"] _root_.K.m_hands_in :=
  ⟨f, fd, fo_hands_in F d_ats_from_left b_set b_sorted, F.binds (ps := ["remark"]) fun _ _ _ _ _ _ us hl => match us, hl with | [_], _ => rfl, F.kp, hmg⟩
noncomputable abbrev s_meets : Stmt := top 11
theorem sc_meets : FnScope ["names", "others"] ["names", "others"] (defScope s_meets) := ⟨rfl, rfl, rfl, by decide +kernel, rfl, by decide +kernel, by decide +kernel⟩
theorem fo_meets (F : Fun K "meets" "meets" s_meets f fd) (b_any : mg "any" = none) : FnOk P w K mg base CX0 1 f fd ["names", "others"] (spF K (["names", "others"] : List Str).length _root_.K.m_meets) := by
  refine fn_tree (N := ["names", "others"]) F sc_meets (by decide)  fun cdv A outer s H E B hr => ?_
  have hu := hu_of hr
  have hq := hr.units
  have nd : (["names", "others"] : List Str).Nodup := sc_meets.nd
  exact ts_one (ts_ret (te_of_cb (pe_callB (callT_any (by rfl)) (by rfl) b_any PyProof.Rows.boot_any (ta_cons (te_fresh (tf_comp (N := ["name", "others"]) ⟨rfl, fun j k h => match j, h with | 0, h => (by cases h; exact ⟨_, rfl, rfl, ⟨.inl rfl, .inr (.inl rfl), .inl rfl⟩⟩) | _ + 1, h => (by cases h)⟩ ⟨rfl, rfl, by decide +kernel, by decide +kernel⟩ rfl (ti_seq (te_var 0 (pv 0))) sz_seq (fun C s₀ H₀ ex pn => pgE fun B => (tg_name 0 (pg_name (show (["name", "others"] : List Str).Nodup by decide +kernel) rfl (Or.inl rfl)))) (fun C s₀ H₀ ex pn => ptsE_nil) (fun C s₀ H₀ ex pn => peE fun B => (te_cmp (opT_in hq) (te_var 0 (pv 0)) (te_var 1 (pv 1)) rfl)))) ta_nil))))
theorem ok_meets (F : Fun K "meets" "meets" s_meets f fd) (hmg : mg "meets" = some (.ref f)) (b_any : mg "any" = none) : DefOk P w K mg base "meets" 1 ["names", "others"] _root_.K.m_meets :=
  ⟨f, fd, fo_meets F b_any, F.binds (ps := ["names", "others"]) fun _ _ _ _ _ _ us hl => match us, hl with | [_, _], _ => rfl, F.kp, hmg⟩
noncomputable abbrev s_changed_by : Stmt := top 12
theorem sc_changed_by : FnScope ["step"] ["step"] (defScope s_changed_by) := ⟨rfl, rfl, rfl, by decide +kernel, rfl, by decide +kernel, by decide +kernel⟩
theorem fo_changed_by (F : Fun K "changed_by" "changed_by" s_changed_by f fd) : FnOk P w K mg base CX0 1 f fd ["step"] (spF K (["step"] : List Str).length _root_.K.m_changed_by) := by
  refine fn_tree (N := ["step"]) F sc_changed_by (by decide)  fun cdv A outer s H E B hr => ?_
  have hu := hu_of hr
  have hq := hr.units
  have nd : (["step"] : List Str).Nodup := sc_changed_by.nd
  refine ts_one ?_
  · refine ts_ret ?_
    · refine te_op ?_ ?_ ?_
      · exact opT_add
      · exact te_lst (ta_cons (te_tup (ta_cons te_str (ta_cons (te_ix hu (te_var 0 (pv 0)) te_int (fun _ _ => rfl)) ta_nil)) (le1000 (len_cons (len_cons len_nil)) (by decide))) ta_nil) (le1000 (len_cons len_nil) (by decide))
      · exact te_fresh (tf_comp (N := ["box", "one"]) ⟨rfl, fun j k h => match j, h with | _ + 0, h => (by cases h)⟩ ⟨rfl, rfl, by decide +kernel, by decide +kernel⟩ rfl (ti_seq (te_ix hu (te_var 0 (pv 0)) te_int (fun _ _ => rfl))) sz_seq (fun C s₀ H₀ ex pn => pgE fun B => (tg_tup (is := [0, 1]) (pg_tup rfl (pgs_cons (pg_name (show (["box", "one"] : List Str).Nodup by decide +kernel) rfl (Or.inl rfl)) (pgs_cons (pg_name (show (["box", "one"] : List Str).Nodup by decide +kernel) rfl (Or.inl rfl)) pgs_nil))))) (fun C s₀ H₀ ex pn => ptsE_nil) (fun C s₀ H₀ ex pn => peE fun B => (te_tup (ta_cons te_str (ta_cons (te_var 0 (pv 0)) ta_nil)) (le1000 (len_cons (len_cons len_nil)) (by decide)))))
theorem ok_changed_by (F : Fun K "changed_by" "changed_by" s_changed_by f fd) (hmg : mg "changed_by" = some (.ref f)) : DefOk P w K mg base "changed_by" 1 ["step"] _root_.K.m_changed_by :=
  ⟨f, fd, fo_changed_by F, F.binds (ps := ["step"]) fun _ _ _ _ _ _ us hl => match us, hl with | [_], _ => rfl, F.kp, hmg⟩
noncomputable abbrev s_named_by : Stmt := top 13
theorem sc_named_by : FnScope ["step", "hands", "boxes", "box", "one"] ["step"] (defScope s_named_by) := ⟨rfl, rfl, rfl, by decide +kernel, rfl, by decide +kernel, by decide +kernel⟩
theorem fo_named_by (F : Fun K "named_by" "named_by" s_named_by f fd) (d_boxes_in : DefOkF P w K mg base "boxes_in" 4 ["remark"] (_root_.K.m_boxes_in)) (d_boxes_of : DefOk P w K mg base "boxes_of" 1 ["one"] (_root_.K.m_boxes_of)) (d_changed_by : DefOk P w K mg base "changed_by" 1 ["step"] (_root_.K.m_changed_by)) (d_hands_in : DefOk P w K mg base "hands_in" 4 ["remark"] (_root_.K.m_hands_in)) : FnOk P w K mg base CX0 5 f fd ["step"] (spF K (["step"] : List Str).length _root_.K.m_named_by) := by
  have d_boxes_in := d_boxes_in.mono (show 4 ≤ 4 by first | decide | omega)
  have d_boxes_of := d_boxes_of.mono (show 1 ≤ 4 by first | decide | omega)
  have d_changed_by := d_changed_by.mono (show 1 ≤ 4 by first | decide | omega)
  have d_hands_in := d_hands_in.mono (show 4 ≤ 4 by first | decide | omega)
  refine fn_tree (N := ["step", "hands", "boxes", "box", "one"]) F sc_named_by (by decide)  fun cdv A outer s H E B hr => ?_
  have hu := hu_of hr
  have hq := hr.units
  have nd : (["step", "hands", "boxes", "box", "one"] : List Str).Nodup := sc_named_by.nd
  refine ts_cons ?_ ?_
  · exact ts_set 1 (ps_set nd rfl (Or.inl rfl) (te_callD d_hands_in hr (by rfl) (ta_cons (te_ix hu (te_var 0 (pv 0)) te_int (fun _ _ => rfl)) ta_nil) (eq_cons eq_nil))) (fun _ _ _ h => h)
  · refine ts_cons ?_ ?_
    · exact ts_new 2 (ps_set nd rfl (Or.inl rfl) (tf_callD d_boxes_in hr (by rfl) (ta_cons (te_ix hu (te_var 0 (pv 0)) te_int (fun _ _ => rfl)) ta_nil) (eq_cons eq_nil))) (fun _ _ _ h => h)
    · refine ts_cons ?_ ?_
      · exact ts_for PassesOwn.never rfl (ti_seq (te_ix hu (te_var 0 (pv 0)) te_int (fun _ _ => rfl))) (tg_tup (is := [3, 4]) (pg_tup rfl (pgs_cons (pg_name nd rfl (Or.inl rfl)) (pgs_cons (pg_name nd rfl (Or.inl rfl)) pgs_nil))))   (ts_one (ts_extend 2 (ps_expr (pe_bm PySem.F.plainAttrs_list PySem.F.slot_list_extend PySem.F.type_list_extend mt_extendS (pv 2) (pa_cons (te_callD d_boxes_of hr (by rfl) (ta_cons (te_var 4 (pv 4)) ta_nil) (eq_cons eq_nil)) pa_nil))))) sz_seq
      · refine ts_one ?_
        · refine ts_ret ?_
          · refine te_op ?_ ?_ ?_
            · exact opT_add
            · exact te_op opT_add (te_callD d_changed_by hr (by rfl) (ta_cons (te_var 0 (pv 0)) ta_nil) (eq_cons eq_nil)) (te_fresh (tf_comp (N := ["hand"]) ⟨rfl, fun j k h => match j, h with | _ + 0, h => (by cases h)⟩ ⟨rfl, rfl, by decide +kernel, by decide +kernel⟩ rfl (ti_seq (te_var 1 (pv 1))) sz_seq (fun C s₀ H₀ ex pn => pgE fun B => (tg_name 0 (pg_name (show (["hand"] : List Str).Nodup by decide +kernel) rfl (Or.inl rfl)))) (fun C s₀ H₀ ex pn => ptsE_nil) (fun C s₀ H₀ ex pn => peE fun B => (te_tup (ta_cons te_str (ta_cons (te_var 0 (pv 0)) ta_nil)) (le1000 (len_cons (len_cons len_nil)) (by decide))))))
            · exact te_fresh (tf_comp (N := ["box"]) ⟨rfl, fun j k h => match j, h with | _ + 0, h => (by cases h)⟩ ⟨rfl, rfl, by decide +kernel, by decide +kernel⟩ rfl (ti_seq (te_var 2 (pv 2))) sz_seq (fun C s₀ H₀ ex pn => pgE fun B => (tg_name 0 (pg_name (show (["box"] : List Str).Nodup by decide +kernel) rfl (Or.inl rfl)))) (fun C s₀ H₀ ex pn => ptsE_nil) (fun C s₀ H₀ ex pn => peE fun B => (te_tup (ta_cons te_str (ta_cons (te_var 0 (pv 0)) ta_nil)) (le1000 (len_cons (len_cons len_nil)) (by decide)))))
theorem ok_named_by (F : Fun K "named_by" "named_by" s_named_by f fd) (hmg : mg "named_by" = some (.ref f)) (d_boxes_in : DefOkF P w K mg base "boxes_in" 4 ["remark"] (_root_.K.m_boxes_in)) (d_boxes_of : DefOk P w K mg base "boxes_of" 1 ["one"] (_root_.K.m_boxes_of)) (d_changed_by : DefOk P w K mg base "changed_by" 1 ["step"] (_root_.K.m_changed_by)) (d_hands_in : DefOk P w K mg base "hands_in" 4 ["remark"] (_root_.K.m_hands_in)) : DefOk P w K mg base "named_by" 5 ["step"] _root_.K.m_named_by :=
  ⟨f, fd, fo_named_by F d_boxes_in d_boxes_of d_changed_by d_hands_in, F.binds (ps := ["step"]) fun _ _ _ _ _ _ us hl => match us, hl with | [_], _ => rfl, F.kp, hmg⟩
noncomputable abbrev s_parted : Stmt := top 10
theorem sc_parted : FnScope ["program", "one", "other", "first", "second"] ["program", "one", "other"] (defScope s_parted) := ⟨rfl, rfl, rfl, by decide +kernel, rfl, by decide +kernel, by decide +kernel⟩
theorem fo_parted (F : Fun K "parted" "parted" s_parted f fd) (d_changed_by : DefOk P w K mg base "changed_by" 1 ["step"] (_root_.K.m_changed_by)) (d_meets : DefOk P w K mg base "meets" 1 ["names", "others"] (_root_.K.m_meets)) (d_named_by : DefOk P w K mg base "named_by" 5 ["step"] (_root_.K.m_named_by)) : FnOk P w K mg base CX0 6 f fd ["program", "one", "other"] (spF K (["program", "one", "other"] : List Str).length _root_.K.m_parted) := by
  have d_changed_by := d_changed_by.mono (show 1 ≤ 5 by first | decide | omega)
  have d_meets := d_meets.mono (show 1 ≤ 5 by first | decide | omega)
  have d_named_by := d_named_by.mono (show 5 ≤ 5 by first | decide | omega)
  refine fn_tree (N := ["program", "one", "other", "first", "second"]) F sc_parted (by decide)  fun cdv A outer s H E B hr => ?_
  have hu := hu_of hr
  have hq := hr.units
  have nd : (["program", "one", "other", "first", "second"] : List Str).Nodup := sc_parted.nd
  refine ts_cons ?_ ?_
  · exact ts_set 3 (ps_set nd rfl (Or.inl rfl) (te_ix hu (te_ix hu (te_var 0 (pv 0)) te_int (fun _ _ => rfl)) (te_var 1 (pv 1)) (fun _ _ => rfl))) (fun _ _ _ h => h)
  · refine ts_cons ?_ ?_
    · exact ts_set 4 (ps_set nd rfl (Or.inl rfl) (te_ix hu (te_ix hu (te_var 0 (pv 0)) te_int (fun _ _ => rfl)) (te_var 2 (pv 2)) (fun _ _ => rfl))) (fun _ _ _ h => h)
    · exact ts_one (ts_ret (te_not (te_or (te_callD d_meets hr (by rfl) (ta_cons (te_callD d_changed_by hr (by rfl) (ta_cons (te_var 3 (pv 3)) ta_nil) (eq_cons eq_nil)) (ta_cons (te_callD d_named_by hr (by rfl) (ta_cons (te_var 4 (pv 4)) ta_nil) (eq_cons eq_nil)) ta_nil)) (eq_cons (eq_cons eq_nil))) (te_one (te_callD d_meets hr (by rfl) (ta_cons (te_callD d_changed_by hr (by rfl) (ta_cons (te_var 4 (pv 4)) ta_nil) (eq_cons eq_nil)) (ta_cons (te_callD d_named_by hr (by rfl) (ta_cons (te_var 3 (pv 3)) ta_nil) (eq_cons eq_nil)) ta_nil)) (eq_cons (eq_cons eq_nil)))))))
theorem ok_parted (F : Fun K "parted" "parted" s_parted f fd) (hmg : mg "parted" = some (.ref f)) (d_changed_by : DefOk P w K mg base "changed_by" 1 ["step"] (_root_.K.m_changed_by)) (d_meets : DefOk P w K mg base "meets" 1 ["names", "others"] (_root_.K.m_meets)) (d_named_by : DefOk P w K mg base "named_by" 5 ["step"] (_root_.K.m_named_by)) : DefOk P w K mg base "parted" 6 ["program", "one", "other"] _root_.K.m_parted :=
  ⟨f, fd, fo_parted F d_changed_by d_meets d_named_by, F.binds (ps := ["program", "one", "other"]) fun _ _ _ _ _ _ us hl => match us, hl with | [_, _, _], _ => rfl, F.kp, hmg⟩
noncomputable abbrev s_law_cell_at : Stmt := top 15
theorem sc_law_cell_at : FnScope ["_law_script", "_law_k"] ["_law_script", "_law_k"] (defScope s_law_cell_at) := ⟨rfl, rfl, rfl, by decide +kernel, rfl, by decide +kernel, by decide +kernel⟩
theorem fo_law_cell_at (F : Fun K "_law_cell_at" "_law_cell_at" s_law_cell_at f fd) (b_len : mg "len" = none) : FnOk P w K mg base CX0 1 f fd ["_law_script", "_law_k"] (spF K (["_law_script", "_law_k"] : List Str).length _root_.K.m_law_cell_at) := by
  refine fn_tree (N := ["_law_script", "_law_k"]) F sc_law_cell_at (by decide)  fun cdv A outer s H E B hr => ?_
  have hu := hu_of hr
  have hq := hr.units
  have nd : (["_law_script", "_law_k"] : List Str).Nodup := sc_law_cell_at.nd
  exact ts_cons (ts_if (tc_cmp opT_lt (te_var 1 (pv 1)) (te_of_cb (pe_callB callT_len (by rfl) b_len PySem.boot_len (ta_cons (te_var 0 (pv 0)) ta_nil))) (nomark _))   (ts_one (ts_ret (te_ix hu (te_var 0 (pv 0)) (te_var 1 (pv 1)) (fun _ _ => rfl))))   ts_nil)   (ts_one (ts_ret te_int))
theorem ok_law_cell_at (F : Fun K "_law_cell_at" "_law_cell_at" s_law_cell_at f fd) (hmg : mg "_law_cell_at" = some (.ref f)) (b_len : mg "len" = none) : DefOk P w K mg base "_law_cell_at" 1 ["_law_script", "_law_k"] _root_.K.m_law_cell_at :=
  ⟨f, fd, fo_law_cell_at F b_len, F.binds (ps := ["_law_script", "_law_k"]) fun _ _ _ _ _ _ us hl => match us, hl with | [_, _], _ => rfl, F.kp, hmg⟩
noncomputable abbrev s_law_pick : Stmt := top 16
theorem sc_law_pick : FnScope ["_law_stream", "_law_many", "_law_found"] ["_law_stream", "_law_many"] (defScope s_law_pick) := ⟨rfl, rfl, rfl, by decide +kernel, rfl, by decide +kernel, by decide +kernel⟩
theorem fo_law_pick (F : Fun K "_law_pick" "_law_pick" s_law_pick f fd) (b_len : mg "len" = none) : FnOk P w K mg base CX0 1 f fd ["_law_stream", "_law_many"] (spF K (["_law_stream", "_law_many"] : List Str).length _root_.K.m_law_pick) := by
  refine fn_tree (N := ["_law_stream", "_law_many", "_law_found"]) F sc_law_pick (by decide)  fun cdv A outer s H E B hr => ?_
  have hu := hu_of hr
  have hq := hr.units
  have nd : (["_law_stream", "_law_many", "_law_found"] : List Str).Nodup := sc_law_pick.nd
  refine ts_cons ?_ ?_
  · exact ts_if (tc_cmp (opT_eq hq) (te_objLen (by rfl) b_len (te_var 0 (pv 0))) te_int (nomark _))   (ts_one (ts_objApp 0 (ps_expr (pe_bm PySem.F.plainAttrs_list PySem.F.slot_list_append PySem.F.type_list_append mt_append (pv 0) (pa_cons (te_objIx (te_var 0 (pv 0)) te_int (fun _ _ => rfl)) pa_nil)))))   ts_nil
  · refine ts_cons ?_ ?_
    · exact ts_if (PW.pt (tc_and (tc_cmp (opT_eq hq) (te_objIx (te_var 0 (pv 0)) te_int (fun _ _ => rfl)) te_int (nomark _)) (tc_and1 (tc_cmp (opT_in hq) (te_objIx (te_var 0 (pv 0)) te_int (fun _ _ => rfl)) (te_lst (ta_cons te_int (ta_cons (te_un unT_neg te_int) ta_nil)) (le1000 (len_cons (len_cons len_nil)) (by decide))) rfl))))   (ts_cons (ts_objIx (ps_asg (te_op opT_add (te_objIx (te_var 0 (pv 0)) te_int (fun _ _ => rfl)) te_int) (pg_sub (te_var 0 (pv 0)) te_int set_list)))   (ts_one (ts_objIx (ps_asg te_int (pg_sub (te_var 0 (pv 0)) te_int set_list)))))   ts_nil
    · refine ts_cons ?_ ?_
      · exact ts_if (tc_cmp (opT_eq hq) (te_objIx (te_var 0 (pv 0)) te_int (fun _ _ => rfl)) te_int (nomark _))   (ts_cons (ts_set 2 (ps_set nd rfl (Or.inl rfl) (te_op opT_mod (te_objIx (te_var 0 (pv 0)) te_int (fun _ _ => rfl)) (te_var 1 (pv 1)))) (fun _ _ _ h => h))   (ts_cons (ts_objIx (ps_asg (te_op opT_fdiv (te_objIx (te_var 0 (pv 0)) te_int (fun _ _ => rfl)) (te_var 1 (pv 1))) (pg_sub (te_var 0 (pv 0)) te_int set_list)))   (ts_one (ts_ret (te_var 2 (pv 2))))))   ts_nil
      · exact ts_cons (ts_objIx (ps_asg (te_op opT_mod (te_op opT_add (te_op opT_mul (te_op opT_mod (te_objIx (te_var 0 (pv 0)) te_int (fun _ _ => rfl)) te_int) te_int) te_int) te_int) (pg_sub (te_var 0 (pv 0)) te_int set_list)))   (ts_one (ts_ret (te_op opT_mod (te_op opT_fdiv (te_op opT_mod (te_op opT_mul (te_objIx (te_var 0 (pv 0)) te_int (fun _ _ => rfl)) te_int) te_int) te_int) (te_var 1 (pv 1)))))
theorem ok_law_pick (F : Fun K "_law_pick" "_law_pick" s_law_pick f fd) (hmg : mg "_law_pick" = some (.ref f)) (b_len : mg "len" = none) : DefOk P w K mg base "_law_pick" 1 ["_law_stream", "_law_many"] _root_.K.m_law_pick :=
  ⟨f, fd, fo_law_pick F b_len, F.binds (ps := ["_law_stream", "_law_many"]) fun _ _ _ _ _ _ us hl => match us, hl with | [_, _], _ => rfl, F.kp, hmg⟩
noncomputable abbrev s_law_name : Stmt := top 17
theorem sc_law_name : FnScope ["_law_cell", "_law_k", "_law_size", "_law_place"] ["_law_cell", "_law_k"] (defScope s_law_name) := ⟨rfl, rfl, rfl, by decide +kernel, rfl, by decide +kernel, by decide +kernel⟩
theorem fo_law_name (F : Fun K "_law_name" "_law_name" s_law_name f fd) : FnOk P w K mg base CX0 1 f fd ["_law_cell", "_law_k"] (spF K (["_law_cell", "_law_k"] : List Str).length _root_.K.m_law_name) := by
  refine fn_tree (N := ["_law_cell", "_law_k", "_law_size", "_law_place"]) F sc_law_name (by decide)  fun cdv A outer s H E B hr => ?_
  have hu := hu_of hr
  have hq := hr.units
  have nd : (["_law_cell", "_law_k", "_law_size", "_law_place"] : List Str).Nodup := sc_law_name.nd
  refine ts_cons ?_ ?_
  · refine ts_if ?_ ?_ ?_
    · exact tc_cmp (opT_eq hq) (te_op opT_mod (te_op opT_fdiv (te_var 0 (pv 0)) te_int) te_int) te_int (nomark _)
    · refine ts_one ?_
      · refine ts_ret ?_
        · refine te_ix ?_ ?_ ?_ ?_
          · exact hu
          · refine te_lst ?_ ?_
            · exact ta_strs (.cons (.cons (.cons (.cons (.cons (.cons (.cons (.cons (.cons (.cons .nil))))))))))
            · exact le1000 (len_strs _) (by decide)
          · exact te_op opT_mod (te_var 1 (pv 1)) te_int
          · exact fun _ _ => rfl
    · exact ts_nil
  · exact ts_cons (ts_set 2 (ps_set nd rfl (Or.inl rfl) (te_op opT_add te_int (te_op opT_mod (te_var 0 (pv 0)) te_int))) (fun _ _ _ h => h))   (ts_cons (ts_set 3 (ps_set nd rfl (Or.inl rfl) (te_op opT_mod (te_op opT_fdiv (te_var 0 (pv 0)) te_int) (te_var 2 (pv 2)))) (fun _ _ _ h => h))   (ts_one (ts_ret (te_op opT_add (te_op opT_add (te_op opT_mul te_str (te_var 3 (pv 3))) (te_ix hu te_str (te_op opT_mod (te_op opT_add (te_op opT_mul te_int (te_var 1 (pv 1))) (te_op opT_fdiv (te_var 0 (pv 0)) te_int)) te_int) (fun _ _ => rfl))) (te_op opT_mul te_str (te_op opT_sub (te_op opT_sub (te_var 2 (pv 2)) te_int) (te_var 3 (pv 3))))))))
theorem ok_law_name (F : Fun K "_law_name" "_law_name" s_law_name f fd) (hmg : mg "_law_name" = some (.ref f)) : DefOk P w K mg base "_law_name" 1 ["_law_cell", "_law_k"] _root_.K.m_law_name :=
  ⟨f, fd, fo_law_name F, F.binds (ps := ["_law_cell", "_law_k"]) fun _ _ _ _ _ _ us hl => match us, hl with | [_, _], _ => rfl, F.kp, hmg⟩
noncomputable abbrev s_law_sum : Stmt := top 18
theorem sc_law_sum : FnScope ["_law_stream", "_law_boxes_here", "_law_number", "_law_parts", "_law_box", "_law_times_of"] ["_law_stream", "_law_boxes_here"] (defScope s_law_sum) := ⟨rfl, rfl, rfl, by decide +kernel, rfl, by decide +kernel, by decide +kernel⟩
theorem fo_law_sum (F : Fun K "_law_sum" "_law_sum" s_law_sum f fd) (d_law_pick : DefOk P w K mg base "_law_pick" 1 ["_law_stream", "_law_many"] (_root_.K.m_law_pick)) (b_sorted : mg "sorted" = none) (b_tuple : mg "tuple" = none) : FnOk P w K mg base CX0 2 f fd ["_law_stream", "_law_boxes_here"] (spF K (["_law_stream", "_law_boxes_here"] : List Str).length _root_.K.m_law_sum) := by
  have d_law_pick := d_law_pick.mono (show 1 ≤ 1 by first | decide | omega)
  refine fn_tree (N := ["_law_stream", "_law_boxes_here", "_law_number", "_law_parts", "_law_box", "_law_times_of"]) F sc_law_sum (by decide)  fun cdv A outer s H E B hr => ?_
  have hu := hu_of hr
  have hq := hr.units
  have nd : (["_law_stream", "_law_boxes_here", "_law_number", "_law_parts", "_law_box", "_law_times_of"] : List Str).Nodup := sc_law_sum.nd
  refine ts_cons ?_ ?_
  · exact ts_set 2 (ps_set nd rfl (Or.inl rfl) (te_op opT_sub (te_callD d_law_pick hr (by rfl) (ta_cons (te_var 0 (pv 0)) (ta_cons te_int ta_nil)) (eq_cons (eq_cons eq_nil))) te_int)) (fun _ _ _ h => h)
  · refine ts_cons ?_ ?_
    · exact ts_if (tc_cmp (opT_eq hq) (te_callD d_law_pick hr (by rfl) (ta_cons (te_var 0 (pv 0)) (ta_cons te_int ta_nil)) (eq_cons (eq_cons eq_nil))) te_int (nomark _))   (ts_one (ts_set 2 (ps_set nd rfl (Or.inl rfl) (te_op opT_sub (te_callD d_law_pick hr (by rfl) (ta_cons (te_var 0 (pv 0)) (ta_cons (te_op opT_sub (te_op opT_mul te_int (te_op opT_pow te_int te_int)) te_int) ta_nil)) (eq_cons (eq_cons eq_nil))) (te_op opT_sub (te_op opT_pow te_int te_int) te_int))) (fun _ _ _ h => h)))   ts_nil
    · refine ts_cons ?_ ?_
      · exact ts_new 3 (ps_set nd rfl (Or.inl rfl) (tf_lst ta_nil (le1000 len_nil (by decide)))) (fun _ _ _ h => h)
      · refine ts_cons ?_ ?_
        · refine ts_for ?_ ?_ ?_ ?_ ?_ ?_
          · exact PassesOwn.never
          · exact rfl
          · exact ti_seq (te_of_cb (pe_callB (callT_sorted (by rfl)) (by rfl) b_sorted PyProof.Rows.boot_sorted (ta_cons (te_var 1 (pv 1)) ta_nil)))
          · exact tg_name 4 (pg_name nd rfl (Or.inl rfl))
          · refine ts_cons ?_ ?_
            · exact ts_set 5 (ps_set nd rfl (Or.inl rfl) (te_ix hu (te_lst (ta_cons te_int (ta_cons te_int (ta_cons te_int (ta_cons te_int (ta_cons (te_un unT_neg te_int) (ta_cons te_int (ta_cons (te_op opT_sub (te_callD d_law_pick hr (by rfl) (ta_cons (te_var 0 (pv 0)) (ta_cons te_int ta_nil)) (eq_cons (eq_cons eq_nil))) te_int) ta_nil))))))) (le1000 (len_cons (len_cons (len_cons (len_cons (len_cons (len_cons (len_cons len_nil))))))) (by decide))) (te_callD d_law_pick hr (by rfl) (ta_cons (te_var 0 (pv 0)) (ta_cons te_int ta_nil)) (eq_cons (eq_cons eq_nil))) (fun _ _ => rfl))) (fun _ _ _ h => h)
            · exact ts_one (ts_if (tc_cmp (opT_ne hq) (te_var 5 (pv 5)) te_int (nomark _))   (ts_one (ts_append 3 (ps_expr (pe_bm PySem.F.plainAttrs_list PySem.F.slot_list_append PySem.F.type_list_append mt_append (pv 3) (pa_cons (te_tup (ta_cons (te_var 4 (pv 4)) (ta_cons (te_var 5 (pv 5)) ta_nil)) (le1000 (len_cons (len_cons len_nil)) (by decide))) pa_nil)))))   ts_nil)
          · exact sz_seq
        · exact ts_one (ts_ret (te_tup (ta_cons (te_var 2 (pv 2)) (ta_cons (te_of_cb (pe_callTy callT_tuple (by rfl) b_tuple PyProof.Rows.boot_tuple (ta_cons (te_var 3 (pv 3)) ta_nil))) ta_nil)) (le1000 (len_cons (len_cons len_nil)) (by decide))))
theorem ok_law_sum (F : Fun K "_law_sum" "_law_sum" s_law_sum f fd) (hmg : mg "_law_sum" = some (.ref f)) (d_law_pick : DefOk P w K mg base "_law_pick" 1 ["_law_stream", "_law_many"] (_root_.K.m_law_pick)) (b_sorted : mg "sorted" = none) (b_tuple : mg "tuple" = none) : DefOk P w K mg base "_law_sum" 2 ["_law_stream", "_law_boxes_here"] _root_.K.m_law_sum :=
  ⟨f, fd, fo_law_sum F d_law_pick b_sorted b_tuple, F.binds (ps := ["_law_stream", "_law_boxes_here"]) fun _ _ _ _ _ _ us hl => match us, hl with | [_, _], _ => rfl, F.kp, hmg⟩
noncomputable abbrev s_law_simple : Stmt := top 19
theorem sc_law_simple : FnScope ["_law_stream", "_law_boxes_here", "_law_hands", "_law_way", "_law_hand", "_law_places", "_law_one"] ["_law_stream", "_law_boxes_here", "_law_hands"] (defScope s_law_simple) := ⟨rfl, rfl, rfl, by decide +kernel, rfl, by decide +kernel, by decide +kernel⟩
theorem fo_law_simple (F : Fun K "_law_simple" "_law_simple" s_law_simple f fd) (d_law_pick : DefOk P w K mg base "_law_pick" 1 ["_law_stream", "_law_many"] (_root_.K.m_law_pick)) (d_law_sum : DefOk P w K mg base "_law_sum" 2 ["_law_stream", "_law_boxes_here"] (_root_.K.m_law_sum)) (b_len : mg "len" = none) : FnOk P w K mg base CX0 3 f fd ["_law_stream", "_law_boxes_here", "_law_hands"] (spF K (["_law_stream", "_law_boxes_here", "_law_hands"] : List Str).length _root_.K.m_law_simple) := by
  have d_law_pick := d_law_pick.mono (show 1 ≤ 2 by first | decide | omega)
  have d_law_sum := d_law_sum.mono (show 2 ≤ 2 by first | decide | omega)
  refine fn_tree (N := ["_law_stream", "_law_boxes_here", "_law_hands", "_law_way", "_law_hand", "_law_places", "_law_one"]) F sc_law_simple (by decide)  fun cdv A outer s H E B hr => ?_
  have hu := hu_of hr
  have hq := hr.units
  have nd : (["_law_stream", "_law_boxes_here", "_law_hands", "_law_way", "_law_hand", "_law_places", "_law_one"] : List Str).Nodup := sc_law_simple.nd
  refine ts_cons ?_ ?_
  · exact ts_set 3 (ps_set nd rfl (Or.inl rfl) (te_callD d_law_pick hr (by rfl) (ta_cons (te_var 0 (pv 0)) (ta_cons te_int ta_nil)) (eq_cons (eq_cons eq_nil)))) (fun _ _ _ h => h)
  · refine ts_cons ?_ ?_
    · refine ts_if ?_ ?_ ?_
      · exact tc_cmp (opT_eq hq) (te_var 3 (pv 3)) te_int (nomark _)
      · exact ts_cons (ts_go (ps_asg (te_ix hu (te_var 2 (pv 2)) (te_callD d_law_pick hr (by rfl) (ta_cons (te_var 0 (pv 0)) (ta_cons (te_of_cb (pe_callB callT_len (by rfl) b_len PySem.boot_len (ta_cons (te_var 2 (pv 2)) ta_nil))) ta_nil)) (eq_cons (eq_cons eq_nil))) (fun _ _ => rfl)) (tg_tup (is := [4, 5]) (pg_tup rfl (pgs_cons (pg_name nd rfl (Or.inl rfl)) (pgs_cons (pg_name nd rfl (Or.inl rfl)) pgs_nil))))))   (ts_one (ts_ret (te_tup (ta_cons te_str (ta_cons (te_var 4 (pv 4)) (ta_cons (te_callD d_law_pick hr (by rfl) (ta_cons (te_var 0 (pv 0)) (ta_cons (te_var 5 (pv 5)) ta_nil)) (eq_cons (eq_cons eq_nil))) ta_nil))) (le1000 (len_cons (len_cons (len_cons len_nil))) (by decide)))))
      · exact ts_nil
    · exact ts_cons (ts_set 6 (ps_set nd rfl (Or.inl rfl) (te_callD d_law_sum hr (by rfl) (ta_cons (te_var 0 (pv 0)) (ta_cons (te_var 1 (pv 1)) ta_nil)) (eq_cons (eq_cons eq_nil)))) (fun _ _ _ h => h))   (ts_cons (ts_if (tc_cmp (opT_eq hq) (te_var 3 (pv 3)) te_int (nomark _))   (ts_one (ts_ret (te_tup (ta_cons te_str (ta_cons (te_var 6 (pv 6)) (ta_cons (te_op opT_add te_int (te_callD d_law_pick hr (by rfl) (ta_cons (te_var 0 (pv 0)) (ta_cons te_int ta_nil)) (eq_cons (eq_cons eq_nil)))) ta_nil))) (le1000 (len_cons (len_cons (len_cons len_nil))) (by decide)))))   ts_nil)   (ts_one (ts_ret (te_tup (ta_cons te_str (ta_cons (te_var 6 (pv 6)) ta_nil)) (le1000 (len_cons (len_cons len_nil)) (by decide))))))
theorem ok_law_simple (F : Fun K "_law_simple" "_law_simple" s_law_simple f fd) (hmg : mg "_law_simple" = some (.ref f)) (d_law_pick : DefOk P w K mg base "_law_pick" 1 ["_law_stream", "_law_many"] (_root_.K.m_law_pick)) (d_law_sum : DefOk P w K mg base "_law_sum" 2 ["_law_stream", "_law_boxes_here"] (_root_.K.m_law_sum)) (b_len : mg "len" = none) : DefOk P w K mg base "_law_simple" 3 ["_law_stream", "_law_boxes_here", "_law_hands"] _root_.K.m_law_simple :=
  ⟨f, fd, fo_law_simple F d_law_pick d_law_sum b_len, F.binds (ps := ["_law_stream", "_law_boxes_here", "_law_hands"]) fun _ _ _ _ _ _ us hl => match us, hl with | [_, _, _], _ => rfl, F.kp, hmg⟩
noncomputable abbrev s_law_remark : Stmt := top 20
theorem sc_law_remark : FnScope ["_law_stream", "_law_boxes_here", "_law_hands", "_law_way", "_law_one", "_law_two", "_law_others"] ["_law_stream", "_law_boxes_here", "_law_hands"] (defScope s_law_remark) := ⟨rfl, rfl, rfl, by decide +kernel, rfl, by decide +kernel, by decide +kernel⟩
theorem fo_law_remark (F : Fun K "_law_remark" "_law_remark" s_law_remark f fd) (d_law_pick : DefOk P w K mg base "_law_pick" 1 ["_law_stream", "_law_many"] (_root_.K.m_law_pick)) (d_law_simple : DefOk P w K mg base "_law_simple" 3 ["_law_stream", "_law_boxes_here", "_law_hands"] (_root_.K.m_law_simple)) (b_range : mg "range" = none) (b_tuple : mg "tuple" = none) : FnOk P w K mg base CX0 4 f fd ["_law_stream", "_law_boxes_here", "_law_hands"] (spF K (["_law_stream", "_law_boxes_here", "_law_hands"] : List Str).length _root_.K.m_law_remark) := by
  have d_law_pick := d_law_pick.mono (show 1 ≤ 3 by first | decide | omega)
  have d_law_simple := d_law_simple.mono (show 3 ≤ 3 by first | decide | omega)
  refine fn_tree (N := ["_law_stream", "_law_boxes_here", "_law_hands", "_law_way", "_law_one", "_law_two", "_law_others"]) F sc_law_remark (by decide)  fun cdv A outer s H E B hr => ?_
  have hu := hu_of hr
  have hq := hr.units
  have nd : (["_law_stream", "_law_boxes_here", "_law_hands", "_law_way", "_law_one", "_law_two", "_law_others"] : List Str).Nodup := sc_law_remark.nd
  refine ts_cons ?_ ?_
  · exact ts_set 3 (ps_set nd rfl (Or.inl rfl) (te_callD d_law_pick hr (by rfl) (ta_cons (te_var 0 (pv 0)) (ta_cons te_int ta_nil)) (eq_cons (eq_cons eq_nil)))) (fun _ _ _ h => h)
  · refine ts_cons ?_ ?_
    · exact ts_if (tc_cmp opT_lt (te_var 3 (pv 3)) te_int (nomark _))   (ts_one (ts_ret (te_tup (ta_cons te_str (ta_cons (te_tup ta_nil (le1000 len_nil (by decide))) ta_nil)) (le1000 (len_cons (len_cons len_nil)) (by decide)))))   ts_nil
    · refine ts_cons ?_ ?_
      · exact ts_set 4 (ps_set nd rfl (Or.inl rfl) (te_callD d_law_simple hr (by rfl) (ta_cons (te_var 0 (pv 0)) (ta_cons (te_var 1 (pv 1)) (ta_cons (te_var 2 (pv 2)) ta_nil))) (eq_cons (eq_cons (eq_cons eq_nil))))) (fun _ _ _ h => h)
      · refine ts_cons ?_ ?_
        · exact ts_if (tc_cmp opT_lt (te_var 3 (pv 3)) te_int (nomark _))   (ts_one (ts_ret (te_var 4 (pv 4))))   ts_nil
        · refine ts_cons ?_ ?_
          · exact ts_if (tc_cmp (opT_eq hq) (te_var 3 (pv 3)) te_int (nomark _))   (ts_one (ts_ret (te_tup (ta_cons te_str (ta_cons (te_var 4 (pv 4)) ta_nil)) (le1000 (len_cons (len_cons len_nil)) (by decide)))))   ts_nil
          · refine ts_cons ?_ ?_
            · exact ts_set 5 (ps_set nd rfl (Or.inl rfl) (te_tup (ta_cons (te_ix hu (te_lst (ta_cons te_str (ta_cons te_str ta_nil)) (le1000 (len_cons (len_cons len_nil)) (by decide))) (te_op opT_mod (te_var 3 (pv 3)) te_int) (fun _ _ => rfl)) (ta_cons (te_tup (ta_cons (te_var 4 (pv 4)) (ta_cons (te_callD d_law_simple hr (by rfl) (ta_cons (te_var 0 (pv 0)) (ta_cons (te_var 1 (pv 1)) (ta_cons (te_var 2 (pv 2)) ta_nil))) (eq_cons (eq_cons (eq_cons eq_nil)))) ta_nil)) (le1000 (len_cons (len_cons len_nil)) (by decide))) ta_nil)) (le1000 (len_cons (len_cons len_nil)) (by decide)))) (fun _ _ _ h => h)
            · refine ts_cons ?_ ?_
              · exact ts_if (tc_cmp opT_lt (te_var 3 (pv 3)) te_int (nomark _))   (ts_one (ts_ret (te_var 5 (pv 5))))   ts_nil
              · refine ts_cons ?_ ?_
                · exact ts_if (tc_cmp (opT_eq hq) (te_var 3 (pv 3)) te_int (nomark _))   (ts_one (ts_ret (te_tup (ta_cons te_str (ta_cons (te_tup (ta_cons (te_ix hu (te_lst (ta_cons te_str (ta_cons te_str ta_nil)) (le1000 (len_cons (len_cons len_nil)) (by decide))) (te_callD d_law_pick hr (by rfl) (ta_cons (te_var 0 (pv 0)) (ta_cons te_int ta_nil)) (eq_cons (eq_cons eq_nil))) (fun _ _ => rfl)) (ta_cons (te_ix hu (te_var 5 (pv 5)) te_int (fun _ _ => rfl)) ta_nil)) (le1000 (len_cons (len_cons len_nil)) (by decide))) ta_nil)) (le1000 (len_cons (len_cons len_nil)) (by decide)))))   ts_nil
                · refine ts_cons ?_ ?_
                  · refine ts_if ?_ ?_ ?_
                    · exact tc_cmp (opT_eq hq) (te_var 3 (pv 3)) te_int (nomark _)
                    · refine ts_one ?_
                      · exact ts_ret (te_tup (ta_cons (te_ix hu (te_lst (ta_cons te_str (ta_cons te_str ta_nil)) (le1000 (len_cons (len_cons len_nil)) (by decide))) (te_callD d_law_pick hr (by rfl) (ta_cons (te_var 0 (pv 0)) (ta_cons te_int ta_nil)) (eq_cons (eq_cons eq_nil))) (fun _ _ => rfl)) (ta_cons (te_tup (ta_cons (te_tup (ta_cons te_str (ta_cons (te_var 5 (pv 5)) ta_nil)) (le1000 (len_cons (len_cons len_nil)) (by decide))) (ta_cons (te_callD d_law_simple hr (by rfl) (ta_cons (te_var 0 (pv 0)) (ta_cons (te_var 1 (pv 1)) (ta_cons (te_var 2 (pv 2)) ta_nil))) (eq_cons (eq_cons (eq_cons eq_nil)))) ta_nil)) (le1000 (len_cons (len_cons len_nil)) (by decide))) ta_nil)) (le1000 (len_cons (len_cons len_nil)) (by decide)))
                    · exact ts_nil
                  · refine ts_cons ?_ ?_
                    · refine ts_set (te := tOf _ _ _) _ ?_ (fun _ _ _ h => h)
                      · refine ps_set ?_ ?_ ?_ ?_
                        · exact nd
                        · exact rfl
                        · exact Or.inl rfl
                        · refine te_of_cb ?_
                          · refine pe_callTy callT_tuple ?_ ?_ PyProof.Rows.boot_tuple ?_
                            · exact by rfl
                            · exact b_tuple
                            · refine ta_cons ?_ ?_
                              · refine te_fresh ?_
                                · refine tf_comp (N := ["_law_k", "_law_stream", "_law_boxes_here", "_law_hands"]) ?_ ?_ ?_ ?_ ?_ ?_ ?_ ?_
                                  · exact ⟨rfl, fun j k h => match j, h with | 0, h => (by cases h; exact ⟨_, rfl, rfl, ⟨.inl rfl, .inr (.inl rfl), .inl rfl⟩⟩) | 1, h => (by cases h; exact ⟨_, rfl, rfl, ⟨.inl rfl, .inr (.inl rfl), .inl rfl⟩⟩) | 2, h => (by cases h; exact ⟨_, rfl, rfl, ⟨.inl rfl, .inr (.inl rfl), .inl rfl⟩⟩) | _ + 3, h => (by cases h)⟩
                                  · exact ⟨rfl, rfl, by decide +kernel, by decide +kernel⟩
                                  · exact rfl
                                  · exact ti_range (by rfl) b_range (te_op opT_add te_int (te_callD d_law_pick hr (by rfl) (ta_cons (te_var 0 (pv 0)) (ta_cons te_int ta_nil)) (eq_cons (eq_cons eq_nil))))
                                  · exact sz_range
                                  · exact fun C s₀ H₀ ex pn => pgE fun B => (tg_name 0 (pg_name (show (["_law_k", "_law_stream", "_law_boxes_here", "_law_hands"] : List Str).Nodup by decide +kernel) rfl (Or.inl rfl)))
                                  · exact fun C s₀ H₀ ex pn => ptsE_nil
                                  · exact fun C s₀ H₀ ex pn => peE fun B => (te_callD d_law_simple hr (by rfl) (ta_cons (te_var 1 (pv 1)) (ta_cons (te_var 2 (pv 2)) (ta_cons (te_var 3 (pv 3)) ta_nil))) (eq_cons (eq_cons (eq_cons eq_nil))))
                              · exact ta_nil
                    · exact ts_one (ts_ret (te_tup (ta_cons (te_ix hu (te_lst (ta_cons te_str (ta_cons te_str ta_nil)) (le1000 (len_cons (len_cons len_nil)) (by decide))) (te_callD d_law_pick hr (by rfl) (ta_cons (te_var 0 (pv 0)) (ta_cons te_int ta_nil)) (eq_cons (eq_cons eq_nil))) (fun _ _ => rfl)) (ta_cons (te_op opT_add (te_ix hu (te_var 5 (pv 5)) te_int (fun _ _ => rfl)) (te_var 6 (pv 6))) ta_nil)) (le1000 (len_cons (len_cons len_nil)) (by decide))))
theorem ok_law_remark (F : Fun K "_law_remark" "_law_remark" s_law_remark f fd) (hmg : mg "_law_remark" = some (.ref f)) (d_law_pick : DefOk P w K mg base "_law_pick" 1 ["_law_stream", "_law_many"] (_root_.K.m_law_pick)) (d_law_simple : DefOk P w K mg base "_law_simple" 3 ["_law_stream", "_law_boxes_here", "_law_hands"] (_root_.K.m_law_simple)) (b_range : mg "range" = none) (b_tuple : mg "tuple" = none) : DefOk P w K mg base "_law_remark" 4 ["_law_stream", "_law_boxes_here", "_law_hands"] _root_.K.m_law_remark :=
  ⟨f, fd, fo_law_remark F d_law_pick d_law_simple b_range b_tuple, F.binds (ps := ["_law_stream", "_law_boxes_here", "_law_hands"]) fun _ _ _ _ _ _ us hl => match us, hl with | [_, _, _], _ => rfl, F.kp, hmg⟩
noncomputable abbrev s_law_boxes : Stmt := top 21
theorem sc_law_boxes : FnScope ["_law_stream", "_law_cell", "_law_many", "_law_boxes_here", "_law_k", "_law_low", "_law_high"] ["_law_stream", "_law_cell", "_law_many"] (defScope s_law_boxes) := ⟨rfl, rfl, rfl, by decide +kernel, rfl, by decide +kernel, by decide +kernel⟩
theorem fo_law_boxes (F : Fun K "_law_boxes" "_law_boxes" s_law_boxes f fd) (d_law_name : DefOk P w K mg base "_law_name" 1 ["_law_cell", "_law_k"] (_root_.K.m_law_name)) (d_law_pick : DefOk P w K mg base "_law_pick" 1 ["_law_stream", "_law_many"] (_root_.K.m_law_pick)) (b_range : mg "range" = none) : FnOk P w K mg base CX0 2 f fd ["_law_stream", "_law_cell", "_law_many"] (spF K (["_law_stream", "_law_cell", "_law_many"] : List Str).length _root_.K.m_law_boxes) := by
  have d_law_name := d_law_name.mono (show 1 ≤ 1 by first | decide | omega)
  have d_law_pick := d_law_pick.mono (show 1 ≤ 1 by first | decide | omega)
  refine fn_tree (N := ["_law_stream", "_law_cell", "_law_many", "_law_boxes_here", "_law_k", "_law_low", "_law_high"]) F sc_law_boxes (by decide)  fun cdv A outer s H E B hr => ?_
  have hu := hu_of hr
  have hq := hr.units
  have nd : (["_law_stream", "_law_cell", "_law_many", "_law_boxes_here", "_law_k", "_law_low", "_law_high"] : List Str).Nodup := sc_law_boxes.nd
  refine ts_cons ?_ ?_
  · exact ts_new 3 (ps_set nd rfl (Or.inl rfl) (tf_lst ta_nil (le1000 len_nil (by decide)))) (fun _ _ _ h => h)
  · refine ts_cons ?_ ?_
    · refine ts_for ?_ ?_ ?_ ?_ ?_ ?_
      · exact PassesOwn.never
      · exact rfl
      · exact ti_range (by rfl) b_range (te_var 2 (pv 2))
      · exact tg_name 4 (pg_name nd rfl (Or.inl rfl))
      · refine ts_cons ?_ ?_
        · exact ts_set 5 (ps_set nd rfl (Or.inl rfl) (te_op opT_sub (te_callD d_law_pick hr (by rfl) (ta_cons (te_var 0 (pv 0)) (ta_cons te_int ta_nil)) (eq_cons (eq_cons eq_nil))) te_int)) (fun _ _ _ h => h)
        · refine ts_cons ?_ ?_
          · exact ts_if (tc_cmp (opT_eq hq) (te_callD d_law_pick hr (by rfl) (ta_cons (te_var 0 (pv 0)) (ta_cons te_int ta_nil)) (eq_cons (eq_cons eq_nil))) te_int (nomark _))   (ts_one (ts_set 5 (ps_set nd rfl (Or.inl rfl) (te_op opT_sub (te_callD d_law_pick hr (by rfl) (ta_cons (te_var 0 (pv 0)) (ta_cons (te_op opT_sub (te_op opT_mul te_int (te_op opT_pow te_int te_int)) te_int) ta_nil)) (eq_cons (eq_cons eq_nil))) (te_op opT_pow te_int te_int))) (fun _ _ _ h => h)))   ts_nil
          · refine ts_cons ?_ ?_
            · exact ts_set 6 (ps_set nd rfl (Or.inl rfl) (te_op opT_add (te_var 5 (pv 5)) (te_callD d_law_pick hr (by rfl) (ta_cons (te_var 0 (pv 0)) (ta_cons te_int ta_nil)) (eq_cons (eq_cons eq_nil))))) (fun _ _ _ h => h)
            · exact ts_one (ts_append 3 (ps_expr (pe_bm PySem.F.plainAttrs_list PySem.F.slot_list_append PySem.F.type_list_append mt_append (pv 3) (pa_cons (te_tup (ta_cons (te_callD d_law_name hr (by rfl) (ta_cons (te_var 1 (pv 1)) (ta_cons (te_var 4 (pv 4)) ta_nil)) (eq_cons (eq_cons eq_nil))) (ta_cons te_str (ta_cons (te_var 5 (pv 5)) (ta_cons (te_var 6 (pv 6)) (ta_cons (te_op opT_add (te_var 5 (pv 5)) (te_callD d_law_pick hr (by rfl) (ta_cons (te_var 0 (pv 0)) (ta_cons (te_op opT_add (te_op opT_sub (te_var 6 (pv 6)) (te_var 5 (pv 5))) te_int) ta_nil)) (eq_cons (eq_cons eq_nil)))) ta_nil))))) (le1000 (len_cons (len_cons (len_cons (len_cons (len_cons len_nil))))) (by decide))) pa_nil))))
      · exact sz_range
    · exact ts_one (ts_ret (te_var 3 (pv 3)))
theorem ok_law_boxes (F : Fun K "_law_boxes" "_law_boxes" s_law_boxes f fd) (hmg : mg "_law_boxes" = some (.ref f)) (d_law_name : DefOk P w K mg base "_law_name" 1 ["_law_cell", "_law_k"] (_root_.K.m_law_name)) (d_law_pick : DefOk P w K mg base "_law_pick" 1 ["_law_stream", "_law_many"] (_root_.K.m_law_pick)) (b_range : mg "range" = none) : DefOk P w K mg base "_law_boxes" 2 ["_law_stream", "_law_cell", "_law_many"] _root_.K.m_law_boxes :=
  ⟨f, fd, fo_law_boxes F d_law_name d_law_pick b_range, F.binds (ps := ["_law_stream", "_law_cell", "_law_many"]) fun _ _ _ _ _ _ us hl => match us, hl with | [_, _, _], _ => rfl, F.kp, hmg⟩
noncomputable abbrev s_law_step : Stmt := top 22
theorem sc_law_step : FnScope ["_law_stream", "_law_boxes_here", "_law_hands", "_law_hand", "_law_places", "_law_here", "_law_there", "_law_guard", "_law_sets", "_law_box", "_law_way"] ["_law_stream", "_law_boxes_here", "_law_hands"] (defScope s_law_step) := ⟨rfl, rfl, rfl, by decide +kernel, rfl, by decide +kernel, by decide +kernel⟩
theorem fo_law_step (F : Fun K "_law_step" "_law_step" s_law_step f fd) (d_law_pick : DefOk P w K mg base "_law_pick" 1 ["_law_stream", "_law_many"] (_root_.K.m_law_pick)) (d_law_remark : DefOk P w K mg base "_law_remark" 4 ["_law_stream", "_law_boxes_here", "_law_hands"] (_root_.K.m_law_remark)) (d_law_sum : DefOk P w K mg base "_law_sum" 2 ["_law_stream", "_law_boxes_here"] (_root_.K.m_law_sum)) (b_len : mg "len" = none) (b_sorted : mg "sorted" = none) (b_tuple : mg "tuple" = none) : FnOk P w K mg base CX0 5 f fd ["_law_stream", "_law_boxes_here", "_law_hands"] (spF K (["_law_stream", "_law_boxes_here", "_law_hands"] : List Str).length _root_.K.m_law_step) := by
  have d_law_pick := d_law_pick.mono (show 1 ≤ 4 by first | decide | omega)
  have d_law_remark := d_law_remark.mono (show 4 ≤ 4 by first | decide | omega)
  have d_law_sum := d_law_sum.mono (show 2 ≤ 4 by first | decide | omega)
  refine fn_tree (N := ["_law_stream", "_law_boxes_here", "_law_hands", "_law_hand", "_law_places", "_law_here", "_law_there", "_law_guard", "_law_sets", "_law_box", "_law_way"]) F sc_law_step (by decide)  fun cdv A outer s H E B hr => ?_
  have hu := hu_of hr
  have hq := hr.units
  have nd : (["_law_stream", "_law_boxes_here", "_law_hands", "_law_hand", "_law_places", "_law_here", "_law_there", "_law_guard", "_law_sets", "_law_box", "_law_way"] : List Str).Nodup := sc_law_step.nd
  refine ts_cons ?_ ?_
  · exact ts_go (ps_asg (te_ix hu (te_var 2 (pv 2)) (te_callD d_law_pick hr (by rfl) (ta_cons (te_var 0 (pv 0)) (ta_cons (te_of_cb (pe_callB callT_len (by rfl) b_len PySem.boot_len (ta_cons (te_var 2 (pv 2)) ta_nil))) ta_nil)) (eq_cons (eq_cons eq_nil))) (fun _ _ => rfl)) (tg_tup (is := [3, 4]) (pg_tup rfl (pgs_cons (pg_name nd rfl (Or.inl rfl)) (pgs_cons (pg_name nd rfl (Or.inl rfl)) pgs_nil)))))
  · refine ts_cons ?_ ?_
    · exact ts_set 5 (ps_set nd rfl (Or.inl rfl) (te_callD d_law_pick hr (by rfl) (ta_cons (te_var 0 (pv 0)) (ta_cons (te_var 4 (pv 4)) ta_nil)) (eq_cons (eq_cons eq_nil)))) (fun _ _ _ h => h)
    · refine ts_cons ?_ ?_
      · exact ts_set 6 (ps_set nd rfl (Or.inl rfl) (te_callD d_law_pick hr (by rfl) (ta_cons (te_var 0 (pv 0)) (ta_cons (te_var 4 (pv 4)) ta_nil)) (eq_cons (eq_cons eq_nil)))) (fun _ _ _ h => h)
      · refine ts_cons ?_ ?_
        · exact ts_set 7 (ps_set nd rfl (Or.inl rfl) (te_callD d_law_remark hr (by rfl) (ta_cons (te_var 0 (pv 0)) (ta_cons (te_var 1 (pv 1)) (ta_cons (te_var 2 (pv 2)) ta_nil))) (eq_cons (eq_cons (eq_cons eq_nil))))) (fun _ _ _ h => h)
        · refine ts_cons ?_ ?_
          · exact ts_new 8 (ps_set nd rfl (Or.inl rfl) (tf_lst ta_nil (le1000 len_nil (by decide)))) (fun _ _ _ h => h)
          · refine ts_cons ?_ ?_
            · refine ts_for ?_ ?_ ?_ ?_ ?_ ?_
              · exact PassesOwn.never
              · exact rfl
              · exact ti_seq (te_of_cb (pe_callB (callT_sorted (by rfl)) (by rfl) b_sorted PyProof.Rows.boot_sorted (ta_cons (te_var 1 (pv 1)) ta_nil)))
              · exact tg_name 9 (pg_name nd rfl (Or.inl rfl))
              · refine ts_cons ?_ ?_
                · exact ts_set 10 (ps_set nd rfl (Or.inl rfl) (te_callD d_law_pick hr (by rfl) (ta_cons (te_var 0 (pv 0)) (ta_cons te_int ta_nil)) (eq_cons (eq_cons eq_nil)))) (fun _ _ _ h => h)
                · refine ts_cons ?_ ?_
                  · exact ts_if (tc_cmp (opT_eq hq) (te_var 10 (pv 10)) te_int (nomark _))   (ts_one (ts_append 8 (ps_expr (pe_bm PySem.F.plainAttrs_list PySem.F.slot_list_append PySem.F.type_list_append mt_append (pv 8) (pa_cons (te_tup (ta_cons (te_var 9 (pv 9)) (ta_cons (te_callD d_law_sum hr (by rfl) (ta_cons (te_var 0 (pv 0)) (ta_cons (te_var 1 (pv 1)) ta_nil)) (eq_cons (eq_cons eq_nil))) ta_nil)) (le1000 (len_cons (len_cons len_nil)) (by decide))) pa_nil)))))   ts_nil
                  · refine ts_one ?_
                    · refine ts_if ?_ ?_ ?_
                      · exact tc_cmp (opT_eq hq) (te_var 10 (pv 10)) te_int (nomark _)
                      · exact ts_one (ts_append 8 (ps_expr (pe_bm PySem.F.plainAttrs_list PySem.F.slot_list_append PySem.F.type_list_append mt_append (pv 8) (pa_cons (te_tup (ta_cons (te_var 9 (pv 9)) (ta_cons (te_tup (ta_cons (te_op opT_sub (te_callD d_law_pick hr (by rfl) (ta_cons (te_var 0 (pv 0)) (ta_cons te_int ta_nil)) (eq_cons (eq_cons eq_nil))) te_int) (ta_cons (te_tup (ta_cons (te_tup (ta_cons (te_var 9 (pv 9)) (ta_cons te_int ta_nil)) (le1000 (len_cons (len_cons len_nil)) (by decide))) ta_nil) (le1000 (len_cons len_nil) (by decide))) ta_nil)) (le1000 (len_cons (len_cons len_nil)) (by decide))) ta_nil)) (le1000 (len_cons (len_cons len_nil)) (by decide))) pa_nil))))
                      · exact ts_nil
              · exact sz_seq
            · exact ts_one (ts_ret (te_tup (ta_cons (te_var 3 (pv 3)) (ta_cons (te_var 5 (pv 5)) (ta_cons (te_var 7 (pv 7)) (ta_cons (te_of_cb (pe_callTy callT_tuple (by rfl) b_tuple PyProof.Rows.boot_tuple (ta_cons (te_var 8 (pv 8)) ta_nil))) (ta_cons (te_var 6 (pv 6)) ta_nil))))) (le1000 (len_cons (len_cons (len_cons (len_cons (len_cons len_nil))))) (by decide))))
theorem ok_law_step (F : Fun K "_law_step" "_law_step" s_law_step f fd) (hmg : mg "_law_step" = some (.ref f)) (d_law_pick : DefOk P w K mg base "_law_pick" 1 ["_law_stream", "_law_many"] (_root_.K.m_law_pick)) (d_law_remark : DefOk P w K mg base "_law_remark" 4 ["_law_stream", "_law_boxes_here", "_law_hands"] (_root_.K.m_law_remark)) (d_law_sum : DefOk P w K mg base "_law_sum" 2 ["_law_stream", "_law_boxes_here"] (_root_.K.m_law_sum)) (b_len : mg "len" = none) (b_sorted : mg "sorted" = none) (b_tuple : mg "tuple" = none) : DefOk P w K mg base "_law_step" 5 ["_law_stream", "_law_boxes_here", "_law_hands"] _root_.K.m_law_step :=
  ⟨f, fd, fo_law_step F d_law_pick d_law_remark d_law_sum b_len b_sorted b_tuple, F.binds (ps := ["_law_stream", "_law_boxes_here", "_law_hands"]) fun _ _ _ _ _ _ us hl => match us, hl with | [_, _, _], _ => rfl, F.kp, hmg⟩
noncomputable abbrev s_law_program : Stmt := top 23
theorem sc_law_program : FnScope ["_law_script", "_law_most", "_law_way", "_law_cell", "_law_stream", "_law_many", "_law_hands", "_law_k", "_law_boxes_here", "_law_names", "_law_steps"] ["_law_script", "_law_most"] (defScope s_law_program) := ⟨rfl, rfl, rfl, by decide +kernel, rfl, by decide +kernel, by decide +kernel⟩
theorem fo_law_program (F : Fun K "_law_program" "_law_program" s_law_program f fd) (d_law_boxes : DefOk P w K mg base "_law_boxes" 2 ["_law_stream", "_law_cell", "_law_many"] (_root_.K.m_law_boxes)) (d_law_cell_at : DefOk P w K mg base "_law_cell_at" 1 ["_law_script", "_law_k"] (_root_.K.m_law_cell_at)) (d_law_name : DefOk P w K mg base "_law_name" 1 ["_law_cell", "_law_k"] (_root_.K.m_law_name)) (d_law_pick : DefOk P w K mg base "_law_pick" 1 ["_law_stream", "_law_many"] (_root_.K.m_law_pick)) (d_law_step : DefOk P w K mg base "_law_step" 5 ["_law_stream", "_law_boxes_here", "_law_hands"] (_root_.K.m_law_step)) (b_range : mg "range" = none) : FnOk P w K mg base CX0 6 f fd ["_law_script", "_law_most"] (spF K (["_law_script", "_law_most"] : List Str).length _root_.K.m_law_program) := by
  have d_law_boxes := d_law_boxes.mono (show 2 ≤ 5 by first | decide | omega)
  have d_law_cell_at := d_law_cell_at.mono (show 1 ≤ 5 by first | decide | omega)
  have d_law_name := d_law_name.mono (show 1 ≤ 5 by first | decide | omega)
  have d_law_pick := d_law_pick.mono (show 1 ≤ 5 by first | decide | omega)
  have d_law_step := d_law_step.mono (show 5 ≤ 5 by first | decide | omega)
  refine fn_tree (N := ["_law_script", "_law_most", "_law_way", "_law_cell", "_law_stream", "_law_many", "_law_hands", "_law_k", "_law_boxes_here", "_law_names", "_law_steps"]) F sc_law_program (by decide)  fun cdv A outer s H E B hr => ?_
  have hu := hu_of hr
  have hq := hr.units
  have nd : (["_law_script", "_law_most", "_law_way", "_law_cell", "_law_stream", "_law_many", "_law_hands", "_law_k", "_law_boxes_here", "_law_names", "_law_steps"] : List Str).Nodup := sc_law_program.nd
  refine ts_cons ?_ ?_
  · exact ts_set 2 (ps_set nd rfl (Or.inr rfl) (te_op opT_mod (te_op opT_fdiv (te_callD d_law_cell_at hr (by rfl) (ta_cons (te_var 0 (pv 0)) (ta_cons te_int ta_nil)) (eq_cons (eq_cons eq_nil))) te_int) te_int)) (fun _ _ _ h => h)
  · refine ts_cons ?_ ?_
    · exact ts_set 3 (ps_set nd rfl (Or.inl rfl) (te_callD d_law_cell_at hr (by rfl) (ta_cons (te_var 0 (pv 0)) (ta_cons te_int ta_nil)) (eq_cons (eq_cons eq_nil)))) (fun _ _ _ h => h)
    · refine ts_cons ?_ ?_
      · exact ts_set 4 (ps_set nd rfl (Or.inl rfl) (te_newLst (ta_cons (te_callD d_law_cell_at hr (by rfl) (ta_cons (te_var 0 (pv 0)) (ta_cons te_int ta_nil)) (eq_cons (eq_cons eq_nil))) (ta_cons (te_var 2 (pv 2)) ta_nil)) (le1000 (len_cons (len_cons len_nil)) (by decide)))) (fun _ _ _ h => h)
      · refine ts_cons ?_ ?_
        · exact ts_set 5 (ps_set nd rfl (Or.inl rfl) (te_op opT_add te_int (te_callD d_law_pick hr (by rfl) (ta_cons (te_var 4 (pv 4)) (ta_cons te_int ta_nil)) (eq_cons (eq_cons eq_nil))))) (fun _ _ _ h => h)
        · refine ts_cons ?_ ?_
          · exact ts_new 6 (ps_set nd rfl (Or.inr rfl) (tf_lst ta_nil (le1000 len_nil (by decide)))) (fun _ _ _ h => h)
          · refine ts_cons ?_ ?_
            · refine ts_for ?_ ?_ ?_ ?_ ?_ ?_
              · exact PassesOwn.never
              · exact rfl
              · exact ti_range (by rfl) b_range (te_var 5 (pv 5))
              · exact tg_name 7 (pg_name nd rfl (Or.inl rfl))
              · refine ts_one ?_
                · exact ts_append 6 (ps_expr (pe_bm PySem.F.plainAttrs_list PySem.F.slot_list_append PySem.F.type_list_append mt_append (pv 6) (pa_cons (te_tup (ta_cons (te_callD d_law_name hr (by rfl) (ta_cons (te_var 3 (pv 3)) (ta_cons (te_op opT_add te_int (te_var 7 (pv 7))) ta_nil)) (eq_cons (eq_cons eq_nil))) (ta_cons (te_op opT_add te_int (te_callD d_law_pick hr (by rfl) (ta_cons (te_var 4 (pv 4)) (ta_cons (te_ix hu (te_lst (ta_cons te_int (ta_cons te_int (ta_cons te_int ta_nil))) (le1000 (len_cons (len_cons (len_cons len_nil))) (by decide))) (te_op opT_sub (te_var 5 (pv 5)) te_int) (fun _ _ => rfl)) ta_nil)) (eq_cons (eq_cons eq_nil)))) ta_nil)) (le1000 (len_cons (len_cons len_nil)) (by decide))) pa_nil)))
              · exact sz_range
            · refine ts_cons ?_ ?_
              · exact ts_set 8 (ps_set nd rfl (Or.inl rfl) (te_callD d_law_boxes hr (by rfl) (ta_cons (te_var 4 (pv 4)) (ta_cons (te_var 3 (pv 3)) (ta_cons (te_callD d_law_pick hr (by rfl) (ta_cons (te_var 4 (pv 4)) (ta_cons te_int ta_nil)) (eq_cons (eq_cons eq_nil))) ta_nil))) (eq_cons (eq_cons (eq_cons eq_nil))))) (fun _ _ _ h => h)
              · refine ts_cons ?_ ?_
                · exact ts_set 9 (ps_set nd rfl (Or.inr rfl) (te_fresh (tf_comp (N := ["_law_box"]) ⟨rfl, fun j k h => match j, h with | _ + 0, h => (by cases h)⟩ ⟨rfl, rfl, by decide +kernel, by decide +kernel⟩ rfl (ti_seq (te_var 8 (pv 8))) sz_seq (fun C s₀ H₀ ex pn => pgE fun B => (tg_name 0 (pg_name (show (["_law_box"] : List Str).Nodup by decide +kernel) rfl (Or.inl rfl)))) (fun C s₀ H₀ ex pn => ptsE_nil) (fun C s₀ H₀ ex pn => peE fun B => (te_ix hu (te_var 0 (pv 0)) te_int (fun _ _ => rfl)))))) (fun _ _ _ h => h)
                · refine ts_cons ?_ ?_
                  · exact ts_set 10 (ps_comp (N := ["_law_one", "_law_names", "_law_hands", "_law_way"]) ⟨rfl, rfl, by decide +kernel, by decide +kernel⟩ rfl (ti_seq (te_slice (te_var 0 (pv 0)) (to_some te_int) (to_some (te_op opT_add te_int (te_var 1 (pv 1)))))) (fun C s₀ H₀ ex pn => pgE fun B => (tg_name 0 (pg_name (show (["_law_one", "_law_names", "_law_hands", "_law_way"] : List Str).Nodup by decide +kernel) rfl (Or.inl rfl)))) (fun C s₀ H₀ ex pn => ptsE_nil) (fun C s₀ H₀ ex pn => peE fun B => (te_callD d_law_step hr (by rfl) (ta_cons (te_newLst (ta_cons (te_var 0 (pv 0)) (ta_cons (te_var 3 (pv 3)) ta_nil)) (le1000 (len_cons (len_cons len_nil)) (by decide))) (ta_cons (te_var 1 (pv 1)) (ta_cons (te_var 2 (pv 2)) ta_nil))) (eq_cons (eq_cons (eq_cons eq_nil))))) (pg_name nd rfl (Or.inl rfl)) rfl) (fun σ H Q h => comp_f ⟨rfl, fun j k h => match j, h with | 0, h => (by cases h; exact ⟨_, rfl, rfl, ⟨.inl rfl, .inr (.inl rfl), .inl rfl⟩⟩) | 1, h => (by cases h; exact ⟨_, rfl, rfl, ⟨.inl rfl, .inr (.inl rfl), .inl rfl⟩⟩) | 2, h => (by cases h; exact ⟨_, rfl, rfl, ⟨.inl rfl, .inr (.inl rfl), .inl rfl⟩⟩) | _ + 3, h => (by cases h)⟩ sz_seq (f_of_t h))
                  · exact ts_one (ts_ret (te_tup (ta_cons (te_var 8 (pv 8)) (ta_cons (te_var 6 (pv 6)) (ta_cons (te_var 10 (pv 10)) (ta_cons (te_tup ta_nil (le1000 len_nil (by decide))) ta_nil)))) (le1000 (len_cons (len_cons (len_cons (len_cons len_nil)))) (by decide))))
theorem ok_law_program (F : Fun K "_law_program" "_law_program" s_law_program f fd) (hmg : mg "_law_program" = some (.ref f)) (d_law_boxes : DefOk P w K mg base "_law_boxes" 2 ["_law_stream", "_law_cell", "_law_many"] (_root_.K.m_law_boxes)) (d_law_cell_at : DefOk P w K mg base "_law_cell_at" 1 ["_law_script", "_law_k"] (_root_.K.m_law_cell_at)) (d_law_name : DefOk P w K mg base "_law_name" 1 ["_law_cell", "_law_k"] (_root_.K.m_law_name)) (d_law_pick : DefOk P w K mg base "_law_pick" 1 ["_law_stream", "_law_many"] (_root_.K.m_law_pick)) (d_law_step : DefOk P w K mg base "_law_step" 5 ["_law_stream", "_law_boxes_here", "_law_hands"] (_root_.K.m_law_step)) (b_range : mg "range" = none) : DefOk P w K mg base "_law_program" 6 ["_law_script", "_law_most"] _root_.K.m_law_program :=
  ⟨f, fd, fo_law_program F d_law_boxes d_law_cell_at d_law_name d_law_pick d_law_step b_range, F.binds (ps := ["_law_script", "_law_most"]) fun _ _ _ _ _ _ us hl => match us, hl with | [_, _], _ => rfl, F.kp, hmg⟩
noncomputable abbrev s_law_boxes_of : Stmt := top 24
theorem sc_law_boxes_of : FnScope ["_law_remark_here", "_law_found", "_law_one"] ["_law_remark_here"] (defScope s_law_boxes_of) := ⟨rfl, rfl, rfl, by decide +kernel, rfl, by decide +kernel, by decide +kernel⟩
theorem fo_law_boxes_of (F : Fun K "_law_boxes_of" "_law_boxes_of" s_law_boxes_of f fd) {nn : Nat} (d_law_boxes_of : DefOk P w K mg base "_law_boxes_of" (0 + nn) ["_law_remark_here"] (_root_.K.m_law_boxes_of nn)) : FnOk P w K mg base CX0 (0 + nn + 1) f fd ["_law_remark_here"] (spF K (["_law_remark_here"] : List Str).length (_root_.K.m_law_boxes_of (nn + 1))) := by
  have d_law_boxes_of := d_law_boxes_of.mono (show (0 + nn) ≤ (0 + nn) by first | decide | omega)
  refine fn_tree (N := ["_law_remark_here", "_law_found", "_law_one"]) F sc_law_boxes_of (by decide)  fun cdv A outer s H E B hr => ?_
  have hu := hu_of hr
  have hq := hr.units
  have nd : (["_law_remark_here", "_law_found", "_law_one"] : List Str).Nodup := sc_law_boxes_of.nd
  refine ts_cons ?_ ?_
  · refine ts_if ?_ ?_ ?_
    · exact PW.pt (tc_or (tc_cmp (opT_eq hq) (te_ix hu (te_var 0 (pv 0)) te_int (fun _ _ => rfl)) te_str (nomark _)) (tc_or1 (tc_cmp (opT_eq hq) (te_ix hu (te_var 0 (pv 0)) te_int (fun _ _ => rfl)) te_str (nomark _))))
    · exact ts_one (ts_ret (te_fresh (tf_comp (N := ["_law_box", "_law_times_of"]) ⟨rfl, fun j k h => match j, h with | _ + 0, h => (by cases h)⟩ ⟨rfl, rfl, by decide +kernel, by decide +kernel⟩ rfl (ti_seq (te_ix hu (te_ix hu (te_var 0 (pv 0)) te_int (fun _ _ => rfl)) te_int (fun _ _ => rfl))) sz_seq (fun C s₀ H₀ ex pn => pgE fun B => (tg_tup (is := [0, 1]) (pg_tup rfl (pgs_cons (pg_name (show (["_law_box", "_law_times_of"] : List Str).Nodup by decide +kernel) rfl (Or.inl rfl)) (pgs_cons (pg_name (show (["_law_box", "_law_times_of"] : List Str).Nodup by decide +kernel) rfl (Or.inl rfl)) pgs_nil))))) (fun C s₀ H₀ ex pn => ptsE_nil) (fun C s₀ H₀ ex pn => peE fun B => (te_var 0 (pv 0))))))
    · exact ts_nil
  · refine ts_cons ?_ ?_
    · exact ts_new 1 (ps_set nd rfl (Or.inl rfl) (tf_lst ta_nil (le1000 len_nil (by decide)))) (fun _ _ _ h => h)
    · refine ts_cons ?_ ?_
      · exact ts_if (tc_cmp (opT_eq hq) (te_ix hu (te_var 0 (pv 0)) te_int (fun _ _ => rfl)) te_str (nomark _))   (ts_one (ts_ret (te_callD d_law_boxes_of hr (by rfl) (ta_cons (te_ix hu (te_var 0 (pv 0)) te_int (fun _ _ => rfl)) ta_nil) (eq_cons eq_nil))))   ts_nil
      · exact ts_cons (ts_if (PW.pt (tc_or (tc_cmp (opT_eq hq) (te_ix hu (te_var 0 (pv 0)) te_int (fun _ _ => rfl)) te_str (nomark _)) (tc_or1 (tc_cmp (opT_eq hq) (te_ix hu (te_var 0 (pv 0)) te_int (fun _ _ => rfl)) te_str (nomark _)))))   (ts_one (ts_for PassesOwn.never rfl (ti_seq (te_ix hu (te_var 0 (pv 0)) te_int (fun _ _ => rfl))) (tg_name 2 (pg_name nd rfl (Or.inl rfl)))   (ts_one (ts_extend 1 (ps_expr (pe_bm PySem.F.plainAttrs_list PySem.F.slot_list_extend PySem.F.type_list_extend mt_extendS (pv 1) (pa_cons (te_callD d_law_boxes_of hr (by rfl) (ta_cons (te_var 2 (pv 2)) ta_nil) (eq_cons eq_nil)) pa_nil))))) sz_seq))   ts_nil)   (ts_one (ts_ret (te_var 1 (pv 1))))
theorem ok_law_boxes_of (F : Fun K "_law_boxes_of" "_law_boxes_of" s_law_boxes_of f fd) (hmg : mg "_law_boxes_of" = some (.ref f)) {nn : Nat} (d_law_boxes_of : DefOk P w K mg base "_law_boxes_of" (0 + nn) ["_law_remark_here"] (_root_.K.m_law_boxes_of nn)) : DefOk P w K mg base "_law_boxes_of" (0 + nn + 1) ["_law_remark_here"] (_root_.K.m_law_boxes_of (nn + 1)) :=
  ⟨f, fd, fo_law_boxes_of F d_law_boxes_of, F.binds (ps := ["_law_remark_here"]) fun _ _ _ _ _ _ us hl => match us, hl with | [_], _ => rfl, F.kp, hmg⟩
theorem okg_law_boxes_of {f_law_boxes_of : Addr} {fd_law_boxes_of : FuncData} (F_law_boxes_of : Fun K "_law_boxes_of" "_law_boxes_of" s_law_boxes_of f_law_boxes_of fd_law_boxes_of) (h_law_boxes_of : mg "_law_boxes_of" = some (.ref f_law_boxes_of)) : ∀ nn : Nat, DefOk P w K mg base "_law_boxes_of" (0 + nn) ["_law_remark_here"] (_root_.K.m_law_boxes_of nn)
  | 0 => DefOk.zero F_law_boxes_of h_law_boxes_of (F_law_boxes_of.binds (ps := ["_law_remark_here"]) fun _ _ _ _ _ _ us hl => match us, hl with | [_], _ => rfl)
  | nn + 1 => by
    have ih := okg_law_boxes_of F_law_boxes_of h_law_boxes_of nn
    have d_law_boxes_of := ih
    exact ok_law_boxes_of F_law_boxes_of h_law_boxes_of d_law_boxes_of
noncomputable abbrev s_law_ats_of : Stmt := top 25
theorem sc_law_ats_of : FnScope ["_law_remark_here", "_law_found", "_law_one"] ["_law_remark_here"] (defScope s_law_ats_of) := ⟨rfl, rfl, rfl, by decide +kernel, rfl, by decide +kernel, by decide +kernel⟩
theorem fo_law_ats_of (F : Fun K "_law_ats_of" "_law_ats_of" s_law_ats_of f fd) {nn : Nat} (d_law_ats_of : DefOk P w K mg base "_law_ats_of" (0 + nn) ["_law_remark_here"] (_root_.K.m_law_ats_of nn)) : FnOk P w K mg base CX0 (0 + nn + 1) f fd ["_law_remark_here"] (spF K (["_law_remark_here"] : List Str).length (_root_.K.m_law_ats_of (nn + 1))) := by
  have d_law_ats_of := d_law_ats_of.mono (show (0 + nn) ≤ (0 + nn) by first | decide | omega)
  refine fn_tree (N := ["_law_remark_here", "_law_found", "_law_one"]) F sc_law_ats_of (by decide)  fun cdv A outer s H E B hr => ?_
  have hu := hu_of hr
  have hq := hr.units
  have nd : (["_law_remark_here", "_law_found", "_law_one"] : List Str).Nodup := sc_law_ats_of.nd
  refine ts_cons ?_ ?_
  · exact ts_if (tc_cmp (opT_eq hq) (te_ix hu (te_var 0 (pv 0)) te_int (fun _ _ => rfl)) te_str (nomark _))   (ts_one (ts_ret (te_lst (ta_cons (te_ix hu (te_var 0 (pv 0)) te_int (fun _ _ => rfl)) ta_nil) (le1000 (len_cons len_nil) (by decide)))))   ts_nil
  · refine ts_cons ?_ ?_
    · exact ts_new 1 (ps_set nd rfl (Or.inl rfl) (tf_lst ta_nil (le1000 len_nil (by decide)))) (fun _ _ _ h => h)
    · refine ts_cons ?_ ?_
      · exact ts_if (tc_cmp (opT_eq hq) (te_ix hu (te_var 0 (pv 0)) te_int (fun _ _ => rfl)) te_str (nomark _))   (ts_one (ts_ret (te_callD d_law_ats_of hr (by rfl) (ta_cons (te_ix hu (te_var 0 (pv 0)) te_int (fun _ _ => rfl)) ta_nil) (eq_cons eq_nil))))   ts_nil
      · exact ts_cons (ts_if (PW.pt (tc_or (tc_cmp (opT_eq hq) (te_ix hu (te_var 0 (pv 0)) te_int (fun _ _ => rfl)) te_str (nomark _)) (tc_or1 (tc_cmp (opT_eq hq) (te_ix hu (te_var 0 (pv 0)) te_int (fun _ _ => rfl)) te_str (nomark _)))))   (ts_one (ts_for PassesOwn.never rfl (ti_seq (te_ix hu (te_var 0 (pv 0)) te_int (fun _ _ => rfl))) (tg_name 2 (pg_name nd rfl (Or.inl rfl)))   (ts_one (ts_extend 1 (ps_expr (pe_bm PySem.F.plainAttrs_list PySem.F.slot_list_extend PySem.F.type_list_extend mt_extendS (pv 1) (pa_cons (te_callD d_law_ats_of hr (by rfl) (ta_cons (te_var 2 (pv 2)) ta_nil) (eq_cons eq_nil)) pa_nil))))) sz_seq))   ts_nil)   (ts_one (ts_ret (te_var 1 (pv 1))))
theorem ok_law_ats_of (F : Fun K "_law_ats_of" "_law_ats_of" s_law_ats_of f fd) (hmg : mg "_law_ats_of" = some (.ref f)) {nn : Nat} (d_law_ats_of : DefOk P w K mg base "_law_ats_of" (0 + nn) ["_law_remark_here"] (_root_.K.m_law_ats_of nn)) : DefOk P w K mg base "_law_ats_of" (0 + nn + 1) ["_law_remark_here"] (_root_.K.m_law_ats_of (nn + 1)) :=
  ⟨f, fd, fo_law_ats_of F d_law_ats_of, F.binds (ps := ["_law_remark_here"]) fun _ _ _ _ _ _ us hl => match us, hl with | [_], _ => rfl, F.kp, hmg⟩
theorem okg_law_ats_of {f_law_ats_of : Addr} {fd_law_ats_of : FuncData} (F_law_ats_of : Fun K "_law_ats_of" "_law_ats_of" s_law_ats_of f_law_ats_of fd_law_ats_of) (h_law_ats_of : mg "_law_ats_of" = some (.ref f_law_ats_of)) : ∀ nn : Nat, DefOk P w K mg base "_law_ats_of" (0 + nn) ["_law_remark_here"] (_root_.K.m_law_ats_of nn)
  | 0 => DefOk.zero F_law_ats_of h_law_ats_of (F_law_ats_of.binds (ps := ["_law_remark_here"]) fun _ _ _ _ _ _ us hl => match us, hl with | [_], _ => rfl)
  | nn + 1 => by
    have ih := okg_law_ats_of F_law_ats_of h_law_ats_of nn
    have d_law_ats_of := ih
    exact ok_law_ats_of F_law_ats_of h_law_ats_of d_law_ats_of
noncomputable abbrev s_law_meddles : Stmt := top 26
theorem sc_law_meddles : FnScope ["_law_step_here", "_law_other", "_law_named", "_law_box", "_law_one"] ["_law_step_here", "_law_other"] (defScope s_law_meddles) := ⟨rfl, rfl, rfl, by decide +kernel, rfl, by decide +kernel, by decide +kernel⟩
theorem fo_law_meddles (F : Fun K "_law_meddles" "_law_meddles" s_law_meddles f fd) (d_law_ats_of : DefOk P w K mg base "_law_ats_of" 40 ["_law_remark_here"] (_root_.K.m_law_ats_of 40)) (d_law_boxes_of : DefOk P w K mg base "_law_boxes_of" 40 ["_law_remark_here"] (_root_.K.m_law_boxes_of 40)) : FnOk P w K mg base CX0 41 f fd ["_law_step_here", "_law_other"] (spF K (["_law_step_here", "_law_other"] : List Str).length _root_.K.m_law_meddles) := by
  have d_law_ats_of := d_law_ats_of.mono (show 40 ≤ 40 by first | decide | omega)
  have d_law_boxes_of := d_law_boxes_of.mono (show 40 ≤ 40 by first | decide | omega)
  refine fn_tree (N := ["_law_step_here", "_law_other", "_law_named", "_law_box", "_law_one"]) F sc_law_meddles (by decide)  fun cdv A outer s H E B hr => ?_
  have hu := hu_of hr
  have hq := hr.units
  have nd : (["_law_step_here", "_law_other", "_law_named", "_law_box", "_law_one"] : List Str).Nodup := sc_law_meddles.nd
  refine ts_cons ?_ ?_
  · exact ts_if (PW.pt (tc_or (tc_cmp (opT_eq hq) (te_ix hu (te_var 0 (pv 0)) te_int (fun _ _ => rfl)) (te_ix hu (te_var 1 (pv 1)) te_int (fun _ _ => rfl)) (nomark _)) (tc_or1 (tc_cmp (opT_in hq) (te_ix hu (te_var 0 (pv 0)) te_int (fun _ _ => rfl)) (te_callD d_law_ats_of hr (by rfl) (ta_cons (te_ix hu (te_var 1 (pv 1)) te_int (fun _ _ => rfl)) ta_nil) (eq_cons eq_nil)) rfl))))   (ts_one (ts_ret te_bl))   ts_nil
  · refine ts_cons ?_ ?_
    · exact ts_set 2 (ps_set nd rfl (Or.inr rfl) (te_callD d_law_boxes_of hr (by rfl) (ta_cons (te_ix hu (te_var 1 (pv 1)) te_int (fun _ _ => rfl)) ta_nil) (eq_cons eq_nil))) (fun _ _ _ h => h)
    · refine ts_cons ?_ ?_
      · refine ts_for ?_ ?_ ?_ ?_ ?_ ?_
        · exact PassesOwn.never
        · exact rfl
        · exact ti_seq (te_ix hu (te_var 1 (pv 1)) te_int (fun _ _ => rfl))
        · exact tg_tup (is := [3, 4]) (pg_tup rfl (pgs_cons (pg_name nd rfl (Or.inl rfl)) (pgs_cons (pg_name nd rfl (Or.inl rfl)) pgs_nil)))
        · refine ts_one ?_
          · refine ts_set (te := tOf _ _ _) _ ?_ (fun _ _ _ h => h)
            · refine ps_set ?_ ?_ ?_ ?_
              · exact nd
              · exact rfl
              · exact Or.inr rfl
              · refine te_op ?_ ?_ ?_
                · exact opT_add
                · exact te_op opT_add (te_var 2 (pv 2)) (te_lst (ta_cons (te_var 3 (pv 3)) ta_nil) (le1000 (len_cons len_nil) (by decide)))
                · exact te_fresh (tf_comp (N := ["_law_name_here", "_law_times_of"]) ⟨rfl, fun j k h => match j, h with | _ + 0, h => (by cases h)⟩ ⟨rfl, rfl, by decide +kernel, by decide +kernel⟩ rfl (ti_seq (te_ix hu (te_var 4 (pv 4)) te_int (fun _ _ => rfl))) sz_seq (fun C s₀ H₀ ex pn => pgE fun B => (tg_tup (is := [0, 1]) (pg_tup rfl (pgs_cons (pg_name (show (["_law_name_here", "_law_times_of"] : List Str).Nodup by decide +kernel) rfl (Or.inl rfl)) (pgs_cons (pg_name (show (["_law_name_here", "_law_times_of"] : List Str).Nodup by decide +kernel) rfl (Or.inl rfl)) pgs_nil))))) (fun C s₀ H₀ ex pn => ptsE_nil) (fun C s₀ H₀ ex pn => peE fun B => (te_var 0 (pv 0))))
        · exact sz_seq
      · refine ts_one ?_
        · refine ts_ret ?_
          · refine te_cmp (opT_ne hq) ?_ ?_ ?_
            · refine te_fresh ?_
              · refine tf_comp (N := ["_law_box", "_law_one", "_law_named"]) ?_ ?_ ?_ ?_ ?_ ?_ ?_ ?_
                · exact ⟨rfl, fun j k h => match j, h with | 0, h => (by cases h; exact ⟨_, rfl, rfl, ⟨.inl rfl, .inr (.inl rfl), .inl rfl⟩⟩) | _ + 1, h => (by cases h)⟩
                · exact ⟨rfl, rfl, by decide +kernel, by decide +kernel⟩
                · exact rfl
                · exact ti_seq (te_ix hu (te_var 0 (pv 0)) te_int (fun _ _ => rfl))
                · exact sz_seq
                · exact fun C s₀ H₀ ex pn => pgE fun B => (tg_tup (is := [0, 1]) (pg_tup rfl (pgs_cons (pg_name (show (["_law_box", "_law_one", "_law_named"] : List Str).Nodup by decide +kernel) rfl (Or.inl rfl)) (pgs_cons (pg_name (show (["_law_box", "_law_one", "_law_named"] : List Str).Nodup by decide +kernel) rfl (Or.inl rfl)) pgs_nil))))
                · exact fun C s₀ H₀ ex pn => (ptsE_one fun B => (tc_cmp (opT_in hq) (te_var 0 (pv 0)) (te_var 2 (pv 2)) rfl))
                · exact fun C s₀ H₀ ex pn => peE fun B => (te_var 0 (pv 0))
            · exact te_lst ta_nil (le1000 len_nil (by decide))
            · exact nomark _
theorem ok_law_meddles (F : Fun K "_law_meddles" "_law_meddles" s_law_meddles f fd) (hmg : mg "_law_meddles" = some (.ref f)) (d_law_ats_of : DefOk P w K mg base "_law_ats_of" 40 ["_law_remark_here"] (_root_.K.m_law_ats_of 40)) (d_law_boxes_of : DefOk P w K mg base "_law_boxes_of" 40 ["_law_remark_here"] (_root_.K.m_law_boxes_of 40)) : DefOk P w K mg base "_law_meddles" 41 ["_law_step_here", "_law_other"] _root_.K.m_law_meddles :=
  ⟨f, fd, fo_law_meddles F d_law_ats_of d_law_boxes_of, F.binds (ps := ["_law_step_here", "_law_other"]) fun _ _ _ _ _ _ us hl => match us, hl with | [_, _], _ => rfl, F.kp, hmg⟩
noncomputable abbrev s_law_parted : Stmt := top 27
theorem sc_law_parted : FnScope ["_law_program_here", "_law_k", "_law_j", "_law_one", "_law_other"] ["_law_program_here", "_law_k", "_law_j"] (defScope s_law_parted) := ⟨rfl, rfl, rfl, by decide +kernel, rfl, by decide +kernel, by decide +kernel⟩
theorem fo_law_parted (F : Fun K "_law_parted" "_law_parted" s_law_parted f fd) (d_law_meddles : DefOk P w K mg base "_law_meddles" 41 ["_law_step_here", "_law_other"] (_root_.K.m_law_meddles)) : FnOk P w K mg base CX0 42 f fd ["_law_program_here", "_law_k", "_law_j"] (spF K (["_law_program_here", "_law_k", "_law_j"] : List Str).length _root_.K.m_law_parted) := by
  have d_law_meddles := d_law_meddles.mono (show 41 ≤ 41 by first | decide | omega)
  refine fn_tree (N := ["_law_program_here", "_law_k", "_law_j", "_law_one", "_law_other"]) F sc_law_parted (by decide)  fun cdv A outer s H E B hr => ?_
  have hu := hu_of hr
  have hq := hr.units
  have nd : (["_law_program_here", "_law_k", "_law_j", "_law_one", "_law_other"] : List Str).Nodup := sc_law_parted.nd
  exact ts_cons (ts_set 3 (ps_set nd rfl (Or.inl rfl) (te_ix hu (te_ix hu (te_var 0 (pv 0)) te_int (fun _ _ => rfl)) (te_var 1 (pv 1)) (fun _ _ => rfl))) (fun _ _ _ h => h))   (ts_cons (ts_set 4 (ps_set nd rfl (Or.inl rfl) (te_ix hu (te_ix hu (te_var 0 (pv 0)) te_int (fun _ _ => rfl)) (te_var 2 (pv 2)) (fun _ _ => rfl))) (fun _ _ _ h => h))   (ts_one (ts_ret (te_and (te_not (te_callD d_law_meddles hr (by rfl) (ta_cons (te_var 3 (pv 3)) (ta_cons (te_var 4 (pv 4)) ta_nil)) (eq_cons (eq_cons eq_nil)))) (te_one (te_not (te_callD d_law_meddles hr (by rfl) (ta_cons (te_var 4 (pv 4)) (ta_cons (te_var 3 (pv 3)) ta_nil)) (eq_cons (eq_cons eq_nil)))))))))
theorem ok_law_parted (F : Fun K "_law_parted" "_law_parted" s_law_parted f fd) (hmg : mg "_law_parted" = some (.ref f)) (d_law_meddles : DefOk P w K mg base "_law_meddles" 41 ["_law_step_here", "_law_other"] (_root_.K.m_law_meddles)) : DefOk P w K mg base "_law_parted" 42 ["_law_program_here", "_law_k", "_law_j"] _root_.K.m_law_parted :=
  ⟨f, fd, fo_law_parted F d_law_meddles, F.binds (ps := ["_law_program_here", "_law_k", "_law_j"]) fun _ _ _ _ _ _ us hl => match us, hl with | [_, _, _], _ => rfl, F.kp, hmg⟩
noncomputable abbrev s_law : Stmt := top 28
theorem sc_law : FnScope ["_law_script", "_law_program_here", "_law_handed", "_law_k", "_law_j", "_law_found"] ["_law_script"] (defScope s_law) := ⟨rfl, rfl, rfl, by decide +kernel, rfl, by decide +kernel, by decide +kernel⟩
theorem fo_law (F : Fun K "law" "law" s_law f fd) (d_law_parted : DefOk P w K mg base "_law_parted" 42 ["_law_program_here", "_law_k", "_law_j"] (_root_.K.m_law_parted)) (d_law_program : DefOk P w K mg base "_law_program" 6 ["_law_script", "_law_most"] (_root_.K.m_law_program)) (d_parted : DefOk P w K mg base "parted" 6 ["program", "one", "other"] (_root_.K.m_parted)) (b_bool : mg "bool" = none) (b_isinstance : mg "isinstance" = none) (b_len : mg "len" = none) (b_list : mg "list" = none) (b_range : mg "range" = none) : FnOk P w K mg base CX0 43 f fd ["_law_script"] (spF K (["_law_script"] : List Str).length _root_.K.m_law) := by
  have d_law_parted := d_law_parted.mono (show 42 ≤ 42 by first | decide | omega)
  have d_law_program := d_law_program.mono (show 6 ≤ 42 by first | decide | omega)
  have d_parted := d_parted.mono (show 6 ≤ 42 by first | decide | omega)
  refine fn_tree (N := ["_law_script", "_law_program_here", "_law_handed", "_law_k", "_law_j", "_law_found"]) F sc_law (by decide)  fun cdv A outer s H E B hr => ?_
  have hu := hu_of hr
  have hq := hr.units
  have nd : (["_law_script", "_law_program_here", "_law_handed", "_law_k", "_law_j", "_law_found"] : List Str).Nodup := sc_law.nd
  refine ts_cons ?_ ?_
  · exact ts_set 1 (ps_set nd rfl (Or.inl rfl) (te_callD d_law_program hr (by rfl) (ta_cons (te_var 0 (pv 0)) (ta_cons te_int ta_nil)) (eq_cons (eq_cons eq_nil)))) (fun _ _ _ h => h)
  · refine ts_cons ?_ ?_
    · exact ts_set 2 (ps_set nd rfl (Or.inl rfl) (te_tup (ta_cons (te_of_cb (pe_callTy callT_list (by rfl) b_list PyProof.Rows.boot_list (ta_cons (te_ix hu (te_var 1 (pv 1)) te_int (fun _ _ => rfl)) ta_nil))) (ta_cons (te_of_cb (pe_callTy callT_list (by rfl) b_list PyProof.Rows.boot_list (ta_cons (te_ix hu (te_var 1 (pv 1)) te_int (fun _ _ => rfl)) ta_nil))) (ta_cons (te_of_cb (pe_callTy callT_list (by rfl) b_list PyProof.Rows.boot_list (ta_cons (te_ix hu (te_var 1 (pv 1)) te_int (fun _ _ => rfl)) ta_nil))) (ta_cons (te_tup ta_nil (le1000 len_nil (by decide))) ta_nil)))) (le1000 (len_cons (len_cons (len_cons (len_cons len_nil)))) (by decide)))) (fun _ _ _ h => h)
    · refine ts_cons ?_ ?_
      · refine ts_for ?_ ?_ ?_ ?_ ?_ ?_
        · exact PassesOwn.never
        · exact rfl
        · exact ti_range (by rfl) b_range (te_of_cb (pe_callB callT_len (by rfl) b_len PySem.boot_len (ta_cons (te_ix hu (te_var 1 (pv 1)) te_int (fun _ _ => rfl)) ta_nil)))
        · exact tg_name 3 (pg_name nd rfl (Or.inl rfl))
        · refine ts_one ?_
          · refine ts_for ?_ ?_ ?_ ?_ ?_ ?_
            · exact PassesOwn.never
            · exact rfl
            · exact ti_seq (te_lst (ta_cons (te_var 3 (pv 3)) (ta_cons te_int (ta_cons (te_op opT_sub (te_op opT_sub (te_of_cb (pe_callB callT_len (by rfl) b_len PySem.boot_len (ta_cons (te_ix hu (te_var 1 (pv 1)) te_int (fun _ _ => rfl)) ta_nil))) te_int) (te_var 3 (pv 3))) (ta_cons (te_op opT_mod (te_op opT_add (te_op opT_mul te_int (te_var 3 (pv 3))) te_int) (te_of_cb (pe_callB callT_len (by rfl) b_len PySem.boot_len (ta_cons (te_ix hu (te_var 1 (pv 1)) te_int (fun _ _ => rfl)) ta_nil)))) ta_nil)))) (le1000 (len_cons (len_cons (len_cons (len_cons len_nil)))) (by decide)))
            · exact tg_name 4 (pg_name nd rfl (Or.inl rfl))
            · refine ts_cons ?_ ?_
              · exact ts_set 5 (ps_set nd rfl (Or.inl rfl) (te_callD d_parted hr (by rfl) (ta_cons (te_var 2 (pv 2)) (ta_cons (te_var 3 (pv 3)) (ta_cons (te_var 4 (pv 4)) ta_nil))) (eq_cons (eq_cons (eq_cons eq_nil))))) (fun _ _ _ h => h)
              · refine ts_cons ?_ ?_
                · exact ts_if (PW.pt (tc_or (tc_not (tc_val (te_isi_bool (by rfl) b_isinstance (by rfl) b_bool (te_var 5 (pv 5))))) (tc_or (tc_cmp (opT_ne hq) (te_var 5 (pv 5)) (te_callD d_law_parted hr (by rfl) (ta_cons (te_var 1 (pv 1)) (ta_cons (te_var 3 (pv 3)) (ta_cons (te_var 4 (pv 4)) ta_nil))) (eq_cons (eq_cons (eq_cons eq_nil)))) (nomark _)) (tc_or1 (tc_cmp (opT_ne hq) (te_var 2 (pv 2)) (te_var 1 (pv 1)) (nomark _))))))   (ts_one (ts_ret te_bl))   ts_nil
                · exact ts_one (ts_if (tc_cmp (opT_ne hq) (te_callD d_parted hr (by rfl) (ta_cons (te_var 2 (pv 2)) (ta_cons (te_var 4 (pv 4)) (ta_cons (te_var 3 (pv 3)) ta_nil))) (eq_cons (eq_cons (eq_cons eq_nil)))) (te_var 5 (pv 5)) (nomark _))   (ts_one (ts_ret te_bl))   ts_nil)
            · exact sz_seq
        · exact sz_range
      · exact ts_one (ts_ret te_bl)
end
end D
end
noncomputable section
set_option linter.all false
set_option maxRecDepth 100000
set_option maxHeartbeats 1000000
namespace D
open PySem L2 C
theorem all_mk {l : PySem.W.OpenLaw} {w : World} {K : PySem.W.Frag} {h : Heap} {mg : Str → Option Value} {fa f1 f2 f3 f4 f5 f6 f7 f8 f9 f10 f11 f12 f13 f14 f15 f16 f17 f18 f19 f20 f21 f22 f23 f24 f25 : Addr} (X : K.In h) (G : h.Ns mainGlobals mg) (hfa : mg "law" = some (.ref fa))
    {od1 an1 od2 an2 od3 an3 od4 an4 od5 an5 od6 an6 od7 an7 od8 an8 od9 an9 od10 an10 od11 an11 od12 an12 od13 an13 od14 an14 od15 an15 od16 an16 od17 an17 od18 an18 od19 an19 od20 an20 od21 an21 od22 an22 od23 an23 od24 an24 od25 an25 : Option Addr} {sl1 sl2 sl3 sl4 sl5 sl6 sl7 sl8 sl9 sl10 sl11 sl12 sl13 sl14 sl15 sl16 sl17 sl18 sl19 sl20 sl21 sl22 sl23 sl24 sl25 : Array (Option Value)} {oc1 kV1 dc1 pm1 cd1 ct1 oc2 kV2 dc2 pm2 cd2 ct2 oc3 kV3 dc3 pm3 cd3 ct3 oc4 kV4 dc4 pm4 cd4 ct4 oc5 kV5 dc5 pm5 cd5 ct5 oc6 kV6 dc6 pm6 cd6 ct6 oc7 kV7 dc7 pm7 cd7 ct7 oc8 kV8 dc8 pm8 cd8 ct8 oc9 kV9 dc9 pm9 cd9 ct9 oc10 kV10 dc10 pm10 cd10 ct10 oc11 kV11 dc11 pm11 cd11 ct11 oc12 kV12 dc12 pm12 cd12 ct12 oc13 kV13 dc13 pm13 cd13 ct13 oc14 kV14 dc14 pm14 cd14 ct14 oc15 kV15 dc15 pm15 cd15 ct15 oc16 kV16 dc16 pm16 cd16 ct16 oc17 kV17 dc17 pm17 cd17 ct17 oc18 kV18 dc18 pm18 cd18 ct18 oc19 kV19 dc19 pm19 cd19 ct19 oc20 kV20 dc20 pm20 cd20 ct20 oc21 kV21 dc21 pm21 cd21 ct21 oc22 kV22 dc22 pm22 cd22 ct22 oc23 kV23 dc23 pm23 cd23 ct23 oc24 kV24 dc24 pm24 cd24 ct24 oc25 kV25 dc25 pm25 cd25 ct25 : Value}
    (a1 : PySem.W.nsIn K mainGlobals "boxes_of" = some (some (.ref f1))) (l1 : K.lookup f1 = some ⟨oc1, od1, .func (PySem.W.fnOf "boxes_of" "boxes_of" (defArgs s_boxes_of) (defBody s_boxes_of) (defScope s_boxes_of) .none kV1 dc1 pm1 an1 cd1 ct1), sl1⟩) (c1 : PySem.W.codeIn K cd1 "boxes_of" = true) (k1 : PySem.W.keepIn K (.ref f1) = true)
    (a2 : PySem.W.nsIn K mainGlobals "members_of" = some (some (.ref f2))) (l2 : K.lookup f2 = some ⟨oc2, od2, .func (PySem.W.fnOf "members_of" "members_of" (defArgs s_members_of) (defBody s_members_of) (defScope s_members_of) .none kV2 dc2 pm2 an2 cd2 ct2), sl2⟩) (c2 : PySem.W.codeIn K cd2 "members_of" = true) (k2 : PySem.W.keepIn K (.ref f2) = true)
    (a3 : PySem.W.nsIn K mainGlobals "parts_of" = some (some (.ref f3))) (l3 : K.lookup f3 = some ⟨oc3, od3, .func (PySem.W.fnOf "parts_of" "parts_of" (defArgs s_parts_of) (defBody s_parts_of) (defScope s_parts_of) .none kV3 dc3 pm3 an3 cd3 ct3), sl3⟩) (c3 : PySem.W.codeIn K cd3 "parts_of" = true) (k3 : PySem.W.keepIn K (.ref f3) = true)
    (a4 : PySem.W.nsIn K mainGlobals "boxes_from_left" = some (some (.ref f4))) (l4 : K.lookup f4 = some ⟨oc4, od4, .func (PySem.W.fnOf "boxes_from_left" "boxes_from_left" (defArgs s_boxes_from_left) (defBody s_boxes_from_left) (defScope s_boxes_from_left) .none kV4 dc4 pm4 an4 cd4 ct4), sl4⟩) (c4 : PySem.W.codeIn K cd4 "boxes_from_left" = true) (k4 : PySem.W.keepIn K (.ref f4) = true)
    (a5 : PySem.W.nsIn K mainGlobals "ats_from_left" = some (some (.ref f5))) (l5 : K.lookup f5 = some ⟨oc5, od5, .func (PySem.W.fnOf "ats_from_left" "ats_from_left" (defArgs s_ats_from_left) (defBody s_ats_from_left) (defScope s_ats_from_left) .none kV5 dc5 pm5 an5 cd5 ct5), sl5⟩) (c5 : PySem.W.codeIn K cd5 "ats_from_left" = true) (k5 : PySem.W.keepIn K (.ref f5) = true)
    (a6 : PySem.W.nsIn K mainGlobals "boxes_in" = some (some (.ref f6))) (l6 : K.lookup f6 = some ⟨oc6, od6, .func (PySem.W.fnOf "boxes_in" "boxes_in" (defArgs s_boxes_in) (defBody s_boxes_in) (defScope s_boxes_in) .none kV6 dc6 pm6 an6 cd6 ct6), sl6⟩) (c6 : PySem.W.codeIn K cd6 "boxes_in" = true) (k6 : PySem.W.keepIn K (.ref f6) = true)
    (a7 : PySem.W.nsIn K mainGlobals "hands_in" = some (some (.ref f7))) (l7 : K.lookup f7 = some ⟨oc7, od7, .func (PySem.W.fnOf "hands_in" "hands_in" (defArgs s_hands_in) (defBody s_hands_in) (defScope s_hands_in) .none kV7 dc7 pm7 an7 cd7 ct7), sl7⟩) (c7 : PySem.W.codeIn K cd7 "hands_in" = true) (k7 : PySem.W.keepIn K (.ref f7) = true)
    (a8 : PySem.W.nsIn K mainGlobals "meets" = some (some (.ref f8))) (l8 : K.lookup f8 = some ⟨oc8, od8, .func (PySem.W.fnOf "meets" "meets" (defArgs s_meets) (defBody s_meets) (defScope s_meets) .none kV8 dc8 pm8 an8 cd8 ct8), sl8⟩) (c8 : PySem.W.codeIn K cd8 "meets" = true) (k8 : PySem.W.keepIn K (.ref f8) = true)
    (a9 : PySem.W.nsIn K mainGlobals "changed_by" = some (some (.ref f9))) (l9 : K.lookup f9 = some ⟨oc9, od9, .func (PySem.W.fnOf "changed_by" "changed_by" (defArgs s_changed_by) (defBody s_changed_by) (defScope s_changed_by) .none kV9 dc9 pm9 an9 cd9 ct9), sl9⟩) (c9 : PySem.W.codeIn K cd9 "changed_by" = true) (k9 : PySem.W.keepIn K (.ref f9) = true)
    (a10 : PySem.W.nsIn K mainGlobals "named_by" = some (some (.ref f10))) (l10 : K.lookup f10 = some ⟨oc10, od10, .func (PySem.W.fnOf "named_by" "named_by" (defArgs s_named_by) (defBody s_named_by) (defScope s_named_by) .none kV10 dc10 pm10 an10 cd10 ct10), sl10⟩) (c10 : PySem.W.codeIn K cd10 "named_by" = true) (k10 : PySem.W.keepIn K (.ref f10) = true)
    (a11 : PySem.W.nsIn K mainGlobals "parted" = some (some (.ref f11))) (l11 : K.lookup f11 = some ⟨oc11, od11, .func (PySem.W.fnOf "parted" "parted" (defArgs s_parted) (defBody s_parted) (defScope s_parted) .none kV11 dc11 pm11 an11 cd11 ct11), sl11⟩) (c11 : PySem.W.codeIn K cd11 "parted" = true) (k11 : PySem.W.keepIn K (.ref f11) = true)
    (a12 : PySem.W.nsIn K mainGlobals "_law_cell_at" = some (some (.ref f12))) (l12 : K.lookup f12 = some ⟨oc12, od12, .func (PySem.W.fnOf "_law_cell_at" "_law_cell_at" (defArgs s_law_cell_at) (defBody s_law_cell_at) (defScope s_law_cell_at) .none kV12 dc12 pm12 an12 cd12 ct12), sl12⟩) (c12 : PySem.W.codeIn K cd12 "_law_cell_at" = true) (k12 : PySem.W.keepIn K (.ref f12) = true)
    (a13 : PySem.W.nsIn K mainGlobals "_law_pick" = some (some (.ref f13))) (l13 : K.lookup f13 = some ⟨oc13, od13, .func (PySem.W.fnOf "_law_pick" "_law_pick" (defArgs s_law_pick) (defBody s_law_pick) (defScope s_law_pick) .none kV13 dc13 pm13 an13 cd13 ct13), sl13⟩) (c13 : PySem.W.codeIn K cd13 "_law_pick" = true) (k13 : PySem.W.keepIn K (.ref f13) = true)
    (a14 : PySem.W.nsIn K mainGlobals "_law_name" = some (some (.ref f14))) (l14 : K.lookup f14 = some ⟨oc14, od14, .func (PySem.W.fnOf "_law_name" "_law_name" (defArgs s_law_name) (defBody s_law_name) (defScope s_law_name) .none kV14 dc14 pm14 an14 cd14 ct14), sl14⟩) (c14 : PySem.W.codeIn K cd14 "_law_name" = true) (k14 : PySem.W.keepIn K (.ref f14) = true)
    (a15 : PySem.W.nsIn K mainGlobals "_law_sum" = some (some (.ref f15))) (l15 : K.lookup f15 = some ⟨oc15, od15, .func (PySem.W.fnOf "_law_sum" "_law_sum" (defArgs s_law_sum) (defBody s_law_sum) (defScope s_law_sum) .none kV15 dc15 pm15 an15 cd15 ct15), sl15⟩) (c15 : PySem.W.codeIn K cd15 "_law_sum" = true) (k15 : PySem.W.keepIn K (.ref f15) = true)
    (a16 : PySem.W.nsIn K mainGlobals "_law_simple" = some (some (.ref f16))) (l16 : K.lookup f16 = some ⟨oc16, od16, .func (PySem.W.fnOf "_law_simple" "_law_simple" (defArgs s_law_simple) (defBody s_law_simple) (defScope s_law_simple) .none kV16 dc16 pm16 an16 cd16 ct16), sl16⟩) (c16 : PySem.W.codeIn K cd16 "_law_simple" = true) (k16 : PySem.W.keepIn K (.ref f16) = true)
    (a17 : PySem.W.nsIn K mainGlobals "_law_remark" = some (some (.ref f17))) (l17 : K.lookup f17 = some ⟨oc17, od17, .func (PySem.W.fnOf "_law_remark" "_law_remark" (defArgs s_law_remark) (defBody s_law_remark) (defScope s_law_remark) .none kV17 dc17 pm17 an17 cd17 ct17), sl17⟩) (c17 : PySem.W.codeIn K cd17 "_law_remark" = true) (k17 : PySem.W.keepIn K (.ref f17) = true)
    (a18 : PySem.W.nsIn K mainGlobals "_law_boxes" = some (some (.ref f18))) (l18 : K.lookup f18 = some ⟨oc18, od18, .func (PySem.W.fnOf "_law_boxes" "_law_boxes" (defArgs s_law_boxes) (defBody s_law_boxes) (defScope s_law_boxes) .none kV18 dc18 pm18 an18 cd18 ct18), sl18⟩) (c18 : PySem.W.codeIn K cd18 "_law_boxes" = true) (k18 : PySem.W.keepIn K (.ref f18) = true)
    (a19 : PySem.W.nsIn K mainGlobals "_law_step" = some (some (.ref f19))) (l19 : K.lookup f19 = some ⟨oc19, od19, .func (PySem.W.fnOf "_law_step" "_law_step" (defArgs s_law_step) (defBody s_law_step) (defScope s_law_step) .none kV19 dc19 pm19 an19 cd19 ct19), sl19⟩) (c19 : PySem.W.codeIn K cd19 "_law_step" = true) (k19 : PySem.W.keepIn K (.ref f19) = true)
    (a20 : PySem.W.nsIn K mainGlobals "_law_program" = some (some (.ref f20))) (l20 : K.lookup f20 = some ⟨oc20, od20, .func (PySem.W.fnOf "_law_program" "_law_program" (defArgs s_law_program) (defBody s_law_program) (defScope s_law_program) .none kV20 dc20 pm20 an20 cd20 ct20), sl20⟩) (c20 : PySem.W.codeIn K cd20 "_law_program" = true) (k20 : PySem.W.keepIn K (.ref f20) = true)
    (a21 : PySem.W.nsIn K mainGlobals "_law_boxes_of" = some (some (.ref f21))) (l21 : K.lookup f21 = some ⟨oc21, od21, .func (PySem.W.fnOf "_law_boxes_of" "_law_boxes_of" (defArgs s_law_boxes_of) (defBody s_law_boxes_of) (defScope s_law_boxes_of) .none kV21 dc21 pm21 an21 cd21 ct21), sl21⟩) (c21 : PySem.W.codeIn K cd21 "_law_boxes_of" = true) (k21 : PySem.W.keepIn K (.ref f21) = true)
    (a22 : PySem.W.nsIn K mainGlobals "_law_ats_of" = some (some (.ref f22))) (l22 : K.lookup f22 = some ⟨oc22, od22, .func (PySem.W.fnOf "_law_ats_of" "_law_ats_of" (defArgs s_law_ats_of) (defBody s_law_ats_of) (defScope s_law_ats_of) .none kV22 dc22 pm22 an22 cd22 ct22), sl22⟩) (c22 : PySem.W.codeIn K cd22 "_law_ats_of" = true) (k22 : PySem.W.keepIn K (.ref f22) = true)
    (a23 : PySem.W.nsIn K mainGlobals "_law_meddles" = some (some (.ref f23))) (l23 : K.lookup f23 = some ⟨oc23, od23, .func (PySem.W.fnOf "_law_meddles" "_law_meddles" (defArgs s_law_meddles) (defBody s_law_meddles) (defScope s_law_meddles) .none kV23 dc23 pm23 an23 cd23 ct23), sl23⟩) (c23 : PySem.W.codeIn K cd23 "_law_meddles" = true) (k23 : PySem.W.keepIn K (.ref f23) = true)
    (a24 : PySem.W.nsIn K mainGlobals "_law_parted" = some (some (.ref f24))) (l24 : K.lookup f24 = some ⟨oc24, od24, .func (PySem.W.fnOf "_law_parted" "_law_parted" (defArgs s_law_parted) (defBody s_law_parted) (defScope s_law_parted) .none kV24 dc24 pm24 an24 cd24 ct24), sl24⟩) (c24 : PySem.W.codeIn K cd24 "_law_parted" = true) (k24 : PySem.W.keepIn K (.ref f24) = true)
    (a25 : PySem.W.nsIn K mainGlobals "law" = some (some (.ref f25))) (l25 : K.lookup f25 = some ⟨oc25, od25, .func (PySem.W.fnOf "law" "law" (defArgs s_law) (defBody s_law) (defScope s_law) .none kV25 dc25 pm25 an25 cd25 ct25), sl25⟩) (c25 : PySem.W.codeIn K cd25 "law" = true) (k25 : PySem.W.keepIn K (.ref f25) = true)
    (z_any : PySem.W.nsIn K mainGlobals "any" = some none)
    (z_bool : PySem.W.nsIn K mainGlobals "bool" = some none)
    (z_isinstance : PySem.W.nsIn K mainGlobals "isinstance" = some none)
    (z_len : PySem.W.nsIn K mainGlobals "len" = some none)
    (z_list : PySem.W.nsIn K mainGlobals "list" = some none)
    (z_range : PySem.W.nsIn K mainGlobals "range" = some none)
    (z_set : PySem.W.nsIn K mainGlobals "set" = some none)
    (z_sorted : PySem.W.nsIn K mainGlobals "sorted" = some none)
    (z_tuple : PySem.W.nsIn K mainGlobals "tuple" = some none)
    : ∃ fd : FuncData, (∀ (s : Shared) (v : Value), BindsTo s fd ⟨[v], []⟩ [("_law_script", v)]) ∧ ∀ base : Heap, K.In base → base.Ns mainGlobals mg → FnOk l.prog w K mg base CX0 43 fa fd ["_law_script"] (spF K 1 _root_.K.m_law) := by
  have e := hfa.symm.trans (PySem.W.mg_of X G a25)
  cases e
  have F1 := fun_mk (st := s_boxes_of) l1 c1 k1
  have F2 := fun_mk (st := s_members_of) l2 c2 k2
  have F3 := fun_mk (st := s_parts_of) l3 c3 k3
  have F4 := fun_mk (st := s_boxes_from_left) l4 c4 k4
  have F5 := fun_mk (st := s_ats_from_left) l5 c5 k5
  have F6 := fun_mk (st := s_boxes_in) l6 c6 k6
  have F7 := fun_mk (st := s_hands_in) l7 c7 k7
  have F8 := fun_mk (st := s_meets) l8 c8 k8
  have F9 := fun_mk (st := s_changed_by) l9 c9 k9
  have F10 := fun_mk (st := s_named_by) l10 c10 k10
  have F11 := fun_mk (st := s_parted) l11 c11 k11
  have F12 := fun_mk (st := s_law_cell_at) l12 c12 k12
  have F13 := fun_mk (st := s_law_pick) l13 c13 k13
  have F14 := fun_mk (st := s_law_name) l14 c14 k14
  have F15 := fun_mk (st := s_law_sum) l15 c15 k15
  have F16 := fun_mk (st := s_law_simple) l16 c16 k16
  have F17 := fun_mk (st := s_law_remark) l17 c17 k17
  have F18 := fun_mk (st := s_law_boxes) l18 c18 k18
  have F19 := fun_mk (st := s_law_step) l19 c19 k19
  have F20 := fun_mk (st := s_law_program) l20 c20 k20
  have F21 := fun_mk (st := s_law_boxes_of) l21 c21 k21
  have F22 := fun_mk (st := s_law_ats_of) l22 c22 k22
  have F23 := fun_mk (st := s_law_meddles) l23 c23 k23
  have F24 := fun_mk (st := s_law_parted) l24 c24 k24
  have F25 := fun_mk (st := s_law) l25 c25 k25
  have b_any := PySem.W.mg_none_of X G z_any
  have b_bool := PySem.W.mg_none_of X G z_bool
  have b_isinstance := PySem.W.mg_none_of X G z_isinstance
  have b_len := PySem.W.mg_none_of X G z_len
  have b_list := PySem.W.mg_none_of X G z_list
  have b_range := PySem.W.mg_none_of X G z_range
  have b_set := PySem.W.mg_none_of X G z_set
  have b_sorted := PySem.W.mg_none_of X G z_sorted
  have b_tuple := PySem.W.mg_none_of X G z_tuple
  refine ⟨PySem.W.fnOf "law" "law" (defArgs s_law) (defBody s_law) (defScope s_law) .none kV25 dc25 pm25 an25 cd25 ct25, fun s v => .of_eq rfl, fun base _ _ => ?_⟩
  have d_boxes_of := ok_boxes_of (P := l.prog) (w := w) (base := base) F1 (PySem.W.mg_of X G a1)
  have d_members_of := ok_members_of (P := l.prog) (w := w) (base := base) F2 (PySem.W.mg_of X G a2)
  have d_parts_of := ok_parts_of (P := l.prog) (w := w) (base := base) F3 (PySem.W.mg_of X G a3) d_members_of b_len
  have d_boxes_from_left := ok_boxes_from_left (P := l.prog) (w := w) (base := base) F4 (PySem.W.mg_of X G a4) d_boxes_of d_parts_of
  have d_ats_from_left := ok_ats_from_left (P := l.prog) (w := w) (base := base) F5 (PySem.W.mg_of X G a5) d_parts_of
  have d_boxes_in := ok_boxes_in (P := l.prog) (w := w) (base := base) F6 (PySem.W.mg_of X G a6) d_boxes_from_left b_set b_sorted
  have d_hands_in := ok_hands_in (P := l.prog) (w := w) (base := base) F7 (PySem.W.mg_of X G a7) d_ats_from_left b_set b_sorted
  have d_meets := ok_meets (P := l.prog) (w := w) (base := base) F8 (PySem.W.mg_of X G a8) b_any
  have d_changed_by := ok_changed_by (P := l.prog) (w := w) (base := base) F9 (PySem.W.mg_of X G a9)
  have d_named_by := ok_named_by (P := l.prog) (w := w) (base := base) F10 (PySem.W.mg_of X G a10) d_boxes_in d_boxes_of d_changed_by d_hands_in
  have d_parted := ok_parted (P := l.prog) (w := w) (base := base) F11 (PySem.W.mg_of X G a11) d_changed_by d_meets d_named_by
  have d_law_cell_at := ok_law_cell_at (P := l.prog) (w := w) (base := base) F12 (PySem.W.mg_of X G a12) b_len
  have d_law_pick := ok_law_pick (P := l.prog) (w := w) (base := base) F13 (PySem.W.mg_of X G a13) b_len
  have d_law_name := ok_law_name (P := l.prog) (w := w) (base := base) F14 (PySem.W.mg_of X G a14)
  have d_law_sum := ok_law_sum (P := l.prog) (w := w) (base := base) F15 (PySem.W.mg_of X G a15) d_law_pick b_sorted b_tuple
  have d_law_simple := ok_law_simple (P := l.prog) (w := w) (base := base) F16 (PySem.W.mg_of X G a16) d_law_pick d_law_sum b_len
  have d_law_remark := ok_law_remark (P := l.prog) (w := w) (base := base) F17 (PySem.W.mg_of X G a17) d_law_pick d_law_simple b_range b_tuple
  have d_law_boxes := ok_law_boxes (P := l.prog) (w := w) (base := base) F18 (PySem.W.mg_of X G a18) d_law_name d_law_pick b_range
  have d_law_step := ok_law_step (P := l.prog) (w := w) (base := base) F19 (PySem.W.mg_of X G a19) d_law_pick d_law_remark d_law_sum b_len b_sorted b_tuple
  have d_law_program := ok_law_program (P := l.prog) (w := w) (base := base) F20 (PySem.W.mg_of X G a20) d_law_boxes d_law_cell_at d_law_name d_law_pick d_law_step b_range
  have g_law_boxes_of := okg_law_boxes_of (P := l.prog) (w := w) (base := base) F21 (PySem.W.mg_of X G a21) 40
  have d_law_boxes_of := g_law_boxes_of
  have g_law_ats_of := okg_law_ats_of (P := l.prog) (w := w) (base := base) F22 (PySem.W.mg_of X G a22) 40
  have d_law_ats_of := g_law_ats_of
  have d_law_meddles := ok_law_meddles (P := l.prog) (w := w) (base := base) F23 (PySem.W.mg_of X G a23) d_law_ats_of d_law_boxes_of
  have d_law_parted := ok_law_parted (P := l.prog) (w := w) (base := base) F24 (PySem.W.mg_of X G a24) d_law_meddles
  exact fo_law F25 d_law_parted d_law_program d_parted b_bool b_isinstance b_len b_list b_range
theorem walk {l : PySem.W.OpenLaw} {q : Program} {loose : List Str} {XP : (Str → Option Value) → Heap → Prop} {YP : World → Heap → Prop} {d : DefRec} {K : Params → PySem.W.Frag} (hn : l.most = some 63) (hdf : d.params.defaults = [])
    (hY : ∀ (w : World) (h : Heap), YP w h → (K w.params).In h)
    (F : ∀ (w : World) (mg : Str → Option Value) (fa : Addr) (h : Heap), (K w.params).In h → h.Ns mainGlobals mg → mg d.name = some (.ref fa) →
      ∃ fd : FuncData, (∀ (s : Shared) (u : Value), BindsTo s fd ⟨[u], []⟩ [("_law_script", u)]) ∧ ∀ base : Heap, (K w.params).In base → base.Ns mainGlobals mg → FnOk l.prog w (K w.params) mg base CX0 43 fa fd ["_law_script"] (spF (K w.params) 1 _root_.K.m_law)) :
    PySem.W.WalkO q loose XP YP l.row.toRowW d [] (fun f vs => PySem.call f vs) :=
  L2.walk_of (n := 63) (k := 43) (x := "_law_script") (CX := fun _ => CX0) (sp := fun w => spF (K w.params) 1 _root_.K.m_law) hn (by decide) hdf ⟨rfl, by decide, by decide⟩ hY F (fun w H a ns hl _ hS => law_spE hS (_root_.K.law_true (cs := ns) hl)) fun _ _ _ _ _ z => z
end D
open PySem PySem.W PyProof.Rows
set_option maxRecDepth 100000 in
set_option maxHeartbeats 0 in
theorem PySem.Challenge.cw_calm_k30_parted_holds : PySem.Challenge.rw_calm_k30_parted.Holds := by
  w_on; o_law; k_head; (case hw => w_witness2)
  k_fill
  refine D.walk (l := PySem.Challenge.rw_calm_k30_parted) rfl rfl (fun w h Y => PySem.W.kIn_of Y) ?F
  case F =>
    intro w mg fa h KX G hmg
    refine' D.all_mk KX G hmg ?a1 ?l1 ?c1 ?k1 ?a2 ?l2 ?c2 ?k2 ?a3 ?l3 ?c3 ?k3 ?a4 ?l4 ?c4 ?k4 ?a5 ?l5 ?c5 ?k5 ?a6 ?l6 ?c6 ?k6 ?a7 ?l7 ?c7 ?k7 ?a8 ?l8 ?c8 ?k8 ?a9 ?l9 ?c9 ?k9 ?a10 ?l10 ?c10 ?k10 ?a11 ?l11 ?c11 ?k11 ?a12 ?l12 ?c12 ?k12 ?a13 ?l13 ?c13 ?k13 ?a14 ?l14 ?c14 ?k14 ?a15 ?l15 ?c15 ?k15 ?a16 ?l16 ?c16 ?k16 ?a17 ?l17 ?c17 ?k17 ?a18 ?l18 ?c18 ?k18 ?a19 ?l19 ?c19 ?k19 ?a20 ?l20 ?c20 ?k20 ?a21 ?l21 ?c21 ?k21 ?a22 ?l22 ?c22 ?k22 ?a23 ?l23 ?c23 ?k23 ?a24 ?l24 ?c24 ?k24 ?a25 ?l25 ?c25 ?k25 ?z_any ?z_bool ?z_isinstance ?z_len ?z_list ?z_range ?z_set ?z_sorted ?z_tuple
    (case a1 => k_is)
    (case l1 => k_is)
    (case c1 => k_is)
    (case k1 => k_is)
    (case a2 => k_is)
    (case l2 => k_is)
    (case c2 => k_is)
    (case k2 => k_is)
    (case a3 => k_is)
    (case l3 => k_is)
    (case c3 => k_is)
    (case k3 => k_is)
    (case a4 => k_is)
    (case l4 => k_is)
    (case c4 => k_is)
    (case k4 => k_is)
    (case a5 => k_is)
    (case l5 => k_is)
    (case c5 => k_is)
    (case k5 => k_is)
    (case a6 => k_is)
    (case l6 => k_is)
    (case c6 => k_is)
    (case k6 => k_is)
    (case a7 => k_is)
    (case l7 => k_is)
    (case c7 => k_is)
    (case k7 => k_is)
    (case a8 => k_is)
    (case l8 => k_is)
    (case c8 => k_is)
    (case k8 => k_is)
    (case a9 => k_is)
    (case l9 => k_is)
    (case c9 => k_is)
    (case k9 => k_is)
    (case a10 => k_is)
    (case l10 => k_is)
    (case c10 => k_is)
    (case k10 => k_is)
    (case a11 => k_is)
    (case l11 => k_is)
    (case c11 => k_is)
    (case k11 => k_is)
    (case a12 => k_is)
    (case l12 => k_is)
    (case c12 => k_is)
    (case k12 => k_is)
    (case a13 => k_is)
    (case l13 => k_is)
    (case c13 => k_is)
    (case k13 => k_is)
    (case a14 => k_is)
    (case l14 => k_is)
    (case c14 => k_is)
    (case k14 => k_is)
    (case a15 => k_is)
    (case l15 => k_is)
    (case c15 => k_is)
    (case k15 => k_is)
    (case a16 => k_is)
    (case l16 => k_is)
    (case c16 => k_is)
    (case k16 => k_is)
    (case a17 => k_is)
    (case l17 => k_is)
    (case c17 => k_is)
    (case k17 => k_is)
    (case a18 => k_is)
    (case l18 => k_is)
    (case c18 => k_is)
    (case k18 => k_is)
    (case a19 => k_is)
    (case l19 => k_is)
    (case c19 => k_is)
    (case k19 => k_is)
    (case a20 => k_is)
    (case l20 => k_is)
    (case c20 => k_is)
    (case k20 => k_is)
    (case a21 => k_is)
    (case l21 => k_is)
    (case c21 => k_is)
    (case k21 => k_is)
    (case a22 => k_is)
    (case l22 => k_is)
    (case c22 => k_is)
    (case k22 => k_is)
    (case a23 => k_is)
    (case l23 => k_is)
    (case c23 => k_is)
    (case k23 => k_is)
    (case a24 => k_is)
    (case l24 => k_is)
    (case c24 => k_is)
    (case k24 => k_is)
    (case a25 => k_is)
    (case l25 => k_is)
    (case c25 => k_is)
    (case k25 => k_is)
    (case z_any => k_is)
    (case z_bool => k_is)
    (case z_isinstance => k_is)
    (case z_len => k_is)
    (case z_list => k_is)
    (case z_range => k_is)
    (case z_set => k_is)
    (case z_sorted => k_is)
    (case z_tuple => k_is)
#print axioms PySem.Challenge.cw_calm_k30_parted_holds
end
