import PyProof.Rows.All
import Wide.All
import OpenK.AllK
import Wide.FinOn
import Lean
import PyProof.EqAt
import PyProof.EqKinds
import PyProof.TupleCall
import PyProof.P3Statements
import PyProof.Lay0
import PyProof.P3Eq
import PyProof.NeData
import KE.KEqDict
import PyProof.ListRange
import KE.KDictSum
import PyProof.AttrMissHeap
import PyProof.WalksS
import KE.KDictOf
import KE.KRevSl
import PyProof.ZipIter
import PyProof.WalksMore
import PyProof.Rows.FactsT2
import PyProof.Rows.SetFrom
import PyProof.Rows.SortStr
import KE.KDictList
import PyProof.FactsAll.set
import PyProof.CollectWalk
import PyProof.FString
import PyProof.MeetsStr
import PyProof.StrLaws
import PyProof.StrLawsJoin
import PyProof.FitsInt
import PySem.Challenge.RW_calm_k06_remarks_written
set_option Elab.async false
noncomputable section
set_option linter.all false
set_option maxRecDepth 100000
namespace L2
open PySem PySem.Spec PyProof.Rows
noncomputable abbrev Key := Sum Int Str
noncomputable def keyIs : Key → Value → Bool
  | .inl k, v => Value.isInt k v
  | .inr x, v => Value.isStrOf x v
noncomputable def keyH (w : World) : Key → Int
  | .inl k => hashInt k
  | .inr x => hashStr w x
theorem keyIs_shape : ∀ {k : Key} {v : Value}, keyIs k v = true → (∃ i t, k = Sum.inl i ∧ v = Value.int i t) ∨ (∃ x t, k = Sum.inr x ∧ v = Value.str x t)
  | .inl i, v, h => by
    obtain ⟨t, e⟩ := Value.isInt_shape (k := i) (v := v) h
    exact .inl ⟨i, t, rfl, e⟩
  | .inr x, v, h => by
    obtain ⟨t, e⟩ := Value.isStrOf_shape (x := x) (v := v) h
    exact .inr ⟨x, t, rfl, e⟩
theorem keyIs_int (i : Int) (t : Tok) : keyIs (.inl i) (.int i t) = true := by simp [keyIs, Value.isInt]
theorem keyIs_str (x : Str) (t : Tok) : keyIs (.inr x) (.str x t) = true := by simp [keyIs, Value.isStrOf]
theorem key_ll (a b : Int) : decide ((Sum.inl a : Key) = Sum.inl b) = (a == b) := by
  by_cases e : a = b
  · subst e; simp
  · have h : ¬ (Sum.inl a : Key) = Sum.inl b := fun q => e (Sum.inl.inj q)
    rw [decide_eq_false h]
    exact (beq_eq_false_iff_ne.mpr e).symm
theorem key_rr (a b : Str) : decide ((Sum.inr a : Key) = Sum.inr b) = decide (a = b) := by
  by_cases e : a = b
  · subst e; simp
  · have h : ¬ (Sum.inr a : Key) = Sum.inr b := fun q => e (Sum.inr.inj q)
    rw [decide_eq_false h, decide_eq_false e]
theorem key_lr (a : Int) (b : Str) : decide ((Sum.inl a : Key) = Sum.inr b) = false := decide_eq_false (fun q => nomatch q)
theorem key_rl (a : Str) (b : Int) : decide ((Sum.inr a : Key) = Sum.inl b) = false := decide_eq_false (fun q => nomatch q)
noncomputable def mixKind (prog : Program) (w : World) : PySem.KeyKind prog w Key where
  is := keyIs
  hash := keyH w
  inj := fun v a b ha hb => by
    rcases keyIs_shape ha with ⟨i, t, rfl, rfl⟩ | ⟨x, t, rfl, rfl⟩
    · rcases keyIs_shape hb with ⟨j, u, rfl, e⟩ | ⟨y, u, rfl, e⟩
      · injection e with e1 _; rw [e1]
      · exact nomatch e
    · rcases keyIs_shape hb with ⟨j, u, rfl, e⟩ | ⟨y, u, rfl, e⟩
      · exact nomatch e
      · injection e with e1 _; rw [e1]
  byValue := fun k v h => by
    rcases keyIs_shape h with ⟨i, t, rfl, rfl⟩ | ⟨x, t, rfl, rfl⟩ <;> rfl
  pyHash := fun hv h => by
    rcases keyIs_shape hv with ⟨i, t, rfl, rfl⟩ | ⟨x, t, rfl, rfl⟩
    · exact wpAny_pyHash_int h
    · exact wpAny_pyHash_str h
  eqBool := fun hu hv h => by
    rcases keyIs_shape hu with ⟨i, t, rfl, rfl⟩ | ⟨x, t, rfl, rfl⟩
    · rcases keyIs_shape hv with ⟨j, u, rfl, rfl⟩ | ⟨y, u, rfl, rfl⟩
      · rw [key_ll] at h; exact wpAny_eqBool_int h
      · rw [key_lr] at h; exact SeqAt.EqAt.int_str i t y u _ _ _ _ h
    · rcases keyIs_shape hv with ⟨j, u, rfl, rfl⟩ | ⟨y, u, rfl, rfl⟩
      · rw [key_rl] at h; exact SeqAt.EqAt.str_int x t j u _ _ _ _ h
      · rw [key_rr] at h; exact wpAny_eqBool_str h
  «strs» := fun k x t v h => by
    rcases keyIs_shape h with ⟨i, u, rfl, e⟩ | ⟨y, u, rfl, e⟩
    · exact nomatch e
    · injection e with e1 _
      subst e1
      cases v <;> rfl
theorem mixKind_is (prog : Program) (w : World) (k : Key) (v : Value) : (mixKind prog w).is k v = keyIs k v := rfl
theorem mixKind_int (prog : Program) (w : World) (i : Int) (t : Tok) : (mixKind prog w).is (.inl i) (.int i t) = true := keyIs_int i t
theorem mixKind_str (prog : Program) (w : World) (x : Str) (t : Tok) : (mixKind prog w).is (.inr x) (.str x t) = true := keyIs_str x t
end L2
namespace L2
open PySem PySem.Spec PyProof.Rows
inductive V where
  | non | bl (b : Bool) | int (i : Int) | str (x : Str) | byt (b : Array UInt8) | flt (b : UInt64) | ref (a : Addr) | ty (n : String)
  deriving DecidableEq
noncomputable def RelV : V → Value → Prop
  | .non, u => u = Value.none
  | .bl b, u => u = Value.bool b
  | .int i, u => ∃ t, u = Value.int i t
  | .str x, u => ∃ t, u = Value.str x t
  | .byt b, u => ∃ t, u = Value.bytes b t
  | .flt b, u => ∃ t, u = Value.float b t
  | .ref a, u => u = Value.ref a
  | .ty n, u => u = Value.type n
noncomputable abbrev Vals : List V → List Value → Prop := Paired RelV
theorem Vals.length {xs : List V} {us : List Value} (r : Vals xs us) : xs.length = us.length := Paired.length r
theorem Vals.get : ∀ {xs : List V} {us : List Value} {i : Nat} {x : V}, Vals xs us → xs[i]? = some x → ∃ u, us[i]? = some u ∧ RelV x u
  | _, _, _, _, .nil, e => by simp at e
  | _, _, 0, _, .cons r _, e => by simp at e; subst e; exact ⟨_, rfl, r⟩
  | _, _, i + 1, x, .cons _ t, e => by
    obtain ⟨u, h1, h2⟩ := Vals.get (i := i) (x := x) t (by simpa using e)
    exact ⟨u, by simpa using h1, h2⟩
theorem Vals.set {x : V} {u : Value} (r : RelV x u) : ∀ {xs : List V} {us : List Value} (i : Nat), Vals xs us → Vals (xs.set i x) (us.set i u)
  | _, _, _, .nil => .nil
  | _, _, 0, .cons _ t => .cons r t
  | _, _, i + 1, .cons q t => .cons q (Vals.set r i t)
theorem Vals.append : ∀ {xs ys : List V} {us ws : List Value}, Vals xs us → Vals ys ws → Vals (xs ++ ys) (us ++ ws)
  | _, _, _, _, .nil, s => s
  | _, _, _, _, .cons r t, s => .cons r (Vals.append t s)
theorem Vals.take : ∀ {xs : List V} {us : List Value} (n : Nat), Vals xs us → Vals (xs.take n) (us.take n)
  | _, _, 0, _ => .nil
  | _, _, _ + 1, .nil => .nil
  | _, _, n + 1, .cons r t => .cons r (Vals.take n t)
theorem Vals.drop : ∀ {xs : List V} {us : List Value} (n : Nat), Vals xs us → Vals (xs.drop n) (us.drop n)
  | _, _, 0, r => r
  | _, _, _ + 1, .nil => .nil
  | _, _, n + 1, .cons _ t => Vals.drop n t
noncomputable def RelO : Option V → Option Value → Prop
  | some v, some u => RelV v u
  | none, none => True
  | _, _ => False
noncomputable def KV {κ : Type} : List (κ × V) → List (κ × Value) → Prop := Paired fun (p : κ × V) (q : κ × Value) => p.1 = q.1 ∧ RelV p.2 q.2
noncomputable def kV : Key → V
  | .inl i => .int i
  | .inr x => .str x
inductive HO where
  /-- a list -/
  | lst (xs : List V)
  /-- a tuple (never changes) -/
  | tup (xs : List V)
  /-- a dict whose keys are ints and texts; one whose keys are tuples of ints and texts (the empty one is both) -/
  | dK (kvs : List (Key × V)) | dT (kvs : List (List Key × V))
  /-- a set of ints: its members, its size -/
  | set (S : Int → Bool) (n : Nat)
  /-- an instance of the class at C, its dict at dx, its attributes -/
  | ins (C dx : Addr) (fs : List (Str × V))
  /-- the dict of the instance at x -/
  | own (x : Addr)
  /-- the dict of an exception -/
  | xd (fs : List (Str × V))
  /-- a bound method, f of x -/
  | met (f x : Addr)
  /-- a range object lo, lo + 1, .. below hi -/
  | rng (lo hi : Int)
  /-- a thing that is known to the object (the script; a dict while a loop walks it): read, never written while it is so -/
  | frz (o : Obj) (u : HO)
  /-- a code object's table -/
  | tbl (ps : Array Value)
  /-- any other thing, by what is true of its one object (a def of one's own: SetO a S n := HO.ext fun h => ..) -/
  | ext (φ : Heap → Prop)
noncomputable abbrev Hp := Addr → Option HO
noncomputable def upd (H : Hp) (a : Addr) (o : HO) : Hp := fun b => if b = a then some o else H b
theorem upd_same {H : Hp} {a : Addr} {o : HO} : upd H a o a = some o := by unfold upd; rw [if_pos rfl]
theorem upd_ne {H : Hp} {a b : Addr} {o : HO} (h : b ≠ a) : upd H a o b = H b := by unfold upd; rw [if_neg h]
theorem upd_upd {H : Hp} {a : Addr} {o u : HO} : upd (upd H a o) a u = upd H a u := by
  funext b; unfold upd; split <;> rfl
theorem ne_of {H : Hp} {a b : Addr} {o u : HO} (h : H a = some o) (h' : H b = some u) (d : o ≠ u) : a ≠ b := by
  intro e; subst e; rw [h] at h'; exact d (Option.some.inj h')
theorem ne_of_none {H : Hp} {a b : Addr} {o : HO} (h : H a = some o) (h' : H b = none) : a ≠ b := by
  intro e; subst e; rw [h] at h'; cases h'
noncomputable def TupD (h : Heap) (a : Addr) (items : Array Value) : Prop := ∃ o, h.get? a = some o ∧ o.cls = .type "tuple" ∧ o.dict = none ∧ ∃ n, o.data = .seq items n
theorem TupD.is {h : Heap} {a : Addr} {items : Array Value} (x : TupD h a items) : IsTup h a items := let ⟨o, e, c, _, d⟩ := x; ⟨o, e, c, d⟩
theorem TupD.new (h : Heap) (items : Array Value) : TupD (h.push { cls := .type "tuple", data := .seq items }) h.objs.size items := ⟨_, Heap.get?_push_size _ rfl, rfl, rfl, 0, rfl⟩
noncomputable section
variable (P : Program) (w : World)
noncomputable def ObjOk (H : Hp) (h : Heap) (a : Addr) : HO → Prop
  | .lst xs => xs.length ≤ sizeLine ∧ ∃ (its : List Value) (n : Nat), Vals xs its ∧ h.get? a = some { cls := .type "list", data := .seq its.toArray n }
  | .tup xs => xs.length ≤ sizeLine ∧ ∃ its : List Value, Vals xs its ∧ TupD h a its.toArray
  | .dK kvs => kvs.length ≤ sizeLine ∧ (a == sysModules) = false ∧ ∃ vs, KV kvs vs ∧ h.DictOf (mixKind P w) a vs
  | .dT kvs => kvs.length ≤ sizeLine ∧ (a == sysModules) = false ∧ ∃ xs : List (List Key × Addr × Value),
      Paired (fun (p : List Key × V) (q : List Key × Addr × Value) => p.1 = q.1 ∧ H q.2.1 = some (.tup (p.1.map kV)) ∧ RelV p.2 q.2.2) kvs xs ∧
      ∃ o es ep, h.get? a = some o ∧ o.ExactDict ∧ o.data = .dict es ep ∧ es.toList = xs.map (entryOfKey (tupleKind (mixKind P w))) ∧ (xs.map (·.1)).Nodup
  | .set S n => h.SetOf (intKind P w) a S n
  | .ins C dx fs => H dx = some (.own a) ∧ fs.length ≤ 1000 ∧ dx ≠ a ∧ h.get? a = some (PySem.W.instObj C dx) ∧
      ∃ mA, h.Ns1 dx mA ∧ (∀ f, RelO (fs.lookup f) (mA f)) ∧ PySem.Within mA (fs.map (·.1))
  | .own _ => ∃ o, h.get? a = some o
  | .xd fs => ∃ mA, h.Ns1 a mA ∧ ∀ f, RelO (fs.lookup f) (mA f)
  | .rng lo hi => ∃ t u v, h.get? a = some { cls := .type "range", data := .fields #[.int lo t, .int hi u, .int 1 v] }
  | .frz o u => h.get? a = some o ∧ ObjOk H h a u
  | .tbl ps => h.get? a = some { cls := .none, data := .fields ps }
  | .met f x => h.get? a = some (PySem.W.methodObj (.ref f) (.ref x))
  | .ext φ => φ h ∧ (∃ o, h.get? a = some o) ∧ ∀ h1 h2 : Heap, φ h1 → (∀ o, h1.get? a = some o → h2.get? a = some o) → φ h2
noncomputable def HOk (H : Hp) (h : Heap) : Prop := ∀ a o, H a = some o → ObjOk P w H h a o
end
noncomputable section
variable {P : Program} {w : World} {H H' : Hp} {h h' : Heap} {a : Addr} {o : HO}
theorem ObjOk.lt (x : ObjOk P w H h a o) : a < h.objs.size := by
  cases o with
  | lst xs => obtain ⟨_, _, _, _, e⟩ := x; exact Heap.lt_size e
  | tup xs => obtain ⟨_, _, _, p⟩ := x; exact p.is.lt
  | dK kvs => obtain ⟨_, _, _, _, o, _, _, e, _⟩ := x; exact Heap.lt_size e
  | dT kvs => obtain ⟨_, _, _, _, o, _, _, e, _⟩ := x; exact Heap.lt_size e
  | set S n => obtain ⟨o, _, _, _, e, _⟩ := x; exact Heap.lt_size e
  | ins C dx fs => obtain ⟨_, _, _, e, _⟩ := x; exact Heap.lt_size e
  | own y => obtain ⟨_, e⟩ := x; exact Heap.lt_size e
  | xd fs => obtain ⟨_, ⟨_, _, _, e, _⟩, _⟩ := x; exact Heap.lt_size e
  | rng lo hi => obtain ⟨_, _, _, e⟩ := x; exact Heap.lt_size e
  | frz ob u => obtain ⟨e, _⟩ := x; exact Heap.lt_size e
  | tbl ps => exact Heap.lt_size (show h.get? a = some _ from x)
  | met f y => exact Heap.lt_size (show h.get? a = some _ from x)
  | ext φ => obtain ⟨_, ⟨_, e⟩, _⟩ := x; exact Heap.lt_size e
theorem Paired.mapP {α β : Type} {F G : α → β → Prop} : ∀ {l₁ : List α} {l₂ : List β}, Paired F l₁ l₂ → (∀ a b, F a b → G a b) → Paired G l₁ l₂
  | _, _, .nil, _ => .nil
  | _, _, .cons r t, f => .cons (f _ _ r) (Paired.mapP t f)
theorem ObjOk.stay (x : ObjOk P w H h a o) (k : ∀ b u, (b = a ∨ H b = some (.own a)) → h.get? b = some u → h'.get? b = some u)
    (ho : ∀ b, H b = some (.own a) → H' b = some (.own a)) (ht : ∀ b xs, H b = some (.tup xs) → H' b = some (.tup xs)) : ObjOk P w H' h' a o := by
  induction o with
  | lst xs => obtain ⟨z, its, n, r, e⟩ := x; exact ⟨z, its, n, r, k _ _ (.inl rfl) e⟩
  | tup xs => obtain ⟨z, its, r, ob, e, c⟩ := x; exact ⟨z, its, r, ob, k _ _ (.inl rfl) e, c⟩
  | dK kvs => obtain ⟨z, y, vs, r, ob, es, ep, e, c⟩ := x; exact ⟨z, y, vs, r, ob, es, ep, k _ _ (.inl rfl) e, c⟩
  | dT kvs =>
    obtain ⟨z, y, xs, r, ob, es, ep, e, c⟩ := x
    exact ⟨z, y, xs, Paired.mapP r fun p q z => ⟨z.1, ht _ _ z.2.1, z.2.2⟩, ob, es, ep, k _ _ (.inl rfl) e, c⟩
  | set S n => obtain ⟨ob, es, ep, t, e, c⟩ := x; exact ⟨ob, es, ep, t, k _ _ (.inl rfl) e, c⟩
  | ins C dx fs =>
    obtain ⟨d, z, ne, e, mA, ⟨od, es, ep, e2, c⟩, r⟩ := x
    exact ⟨ho _ d, z, ne, k _ _ (.inl rfl) e, mA, ⟨od, es, ep, k _ _ (.inr d) e2, c⟩, r⟩
  | own y => obtain ⟨ob, e⟩ := x; exact ⟨ob, k _ _ (.inl rfl) e⟩
  | xd fs => obtain ⟨mA, ⟨od, es, ep, e, c⟩, r⟩ := x; exact ⟨mA, ⟨od, es, ep, k _ _ (.inl rfl) e, c⟩, r⟩
  | rng lo hi => obtain ⟨t, u, v, e⟩ := x; exact ⟨t, u, v, k _ _ (.inl rfl) e⟩
  | frz ob u ih => obtain ⟨e, q⟩ := x; exact ⟨k _ _ (.inl rfl) e, ih q⟩
  | tbl ps =>
    have e : h.get? a = some { cls := .none, data := .fields ps } := x
    show h'.get? a = some { cls := .none, data := .fields ps }
    exact k a _ (.inl rfl) e
  | met f y =>
    have e : h.get? a = some (PySem.W.methodObj (.ref f) (.ref y)) := x
    show h'.get? a = some (PySem.W.methodObj (.ref f) (.ref y))
    exact k a _ (.inl rfl) e
  | ext φ => obtain ⟨p, ⟨o, e⟩, st⟩ := x; exact ⟨st _ _ p fun o q => k _ _ (.inl rfl) q, ⟨o, k _ _ (.inl rfl) e⟩, st⟩
theorem HOk.lt (x : HOk P w H h) (e : H a = some o) : a < h.objs.size := (x a o e).lt
theorem HOk.fresh (x : HOk P w H h) (e : h.objs.size ≤ a) : H a = none := by
  cases q : H a with
  | none => rfl
  | some u => exact absurd (Nat.lt_of_lt_of_le (x.lt q) e) (Nat.lt_irrefl _)
theorem HOk.kept (x : HOk P w H h) (k : ∀ b u, h.get? b = some u → h'.get? b = some u) : HOk P w H h' := fun a o e =>
  (x a o e).stay (fun b u _ q => k b u q) (fun _ q => q) fun _ _ q => q
theorem HOk.laid (x : HOk P w H h) (k : ∀ b u, h.get? b = some u → h'.get? b = some u) (hp : h.objs.size ≤ a) (new : ObjOk P w (upd H a o) h' a o) : HOk P w (upd H a o) h' := fun b u e => by
  have hn := x.fresh hp
  by_cases hb : b = a
  · subst hb; rw [upd_same] at e; cases e; exact new
  · rw [upd_ne hb] at e
    exact (x b u e).stay (fun c v _ q => k c v q) (fun c q => by rw [upd_ne (ne_of_none q hn)]; exact q) fun c xs q => by rw [upd_ne (ne_of_none q hn)]; exact q
end
noncomputable def Rd (H : Hp) (a : Addr) (u : HO) : Prop := H a = some u ∨ ∃ o, H a = some (.frz o u)
theorem Rd.of {H : Hp} {a : Addr} {u : HO} (h : H a = some u) : Rd H a u := .inl h
theorem Rd.ok {P : Program} {w : World} {H : Hp} {h : Heap} {a : Addr} {u : HO} (r : Rd H a u) (x : HOk P w H h) : ObjOk P w H h a u := by
  rcases r with r | ⟨o, r⟩
  · exact x a u r
  · obtain ⟨_, q⟩ := x a _ r
    exact q
noncomputable def Mut : Option HO → Prop
  | some (.lst _) => True
  | some (.dK _) => True
  | some (.dT _) => True
  | some (.set _ _) => True
  | some (.ins _ _ _) => True
  | some (.ext _) => True
  | _ => False
noncomputable section
variable {P : Program} {w : World} {H : Hp} {h h' : Heap} {x e : Addr} {o' : HO}
theorem HOk.write (ok : HOk P w H h) (mu : Mut (H x)) (he : e = x ∨ H e = some (.own x)) (k : ∀ b u, b ≠ e → h.get? b = some u → h'.get? b = some u) (heo : ∃ u, h'.get? e = some u)
    (new : ObjOk P w (upd H x o') h' x o') : HOk P w (upd H x o') h' := fun b u q => by
  have nown : ∀ c y, H c = some (.own y) → c ≠ x := fun c y r z => by subst z; rw [r] at mu; exact mu
  have ntup : ∀ c xs, H c = some (.tup xs) → c ≠ x := fun c xs r z => by subst z; rw [r] at mu; exact mu
  by_cases hb : b = x
  · subst hb; rw [upd_same] at q; cases q; exact new
  · rw [upd_ne hb] at q
    by_cases hbe : b = e
    · have q' : H b = some (.own x) := by
        rcases he with z | z
        · exact absurd (hbe.trans z) hb
        · rw [hbe]; exact z
      rw [q] at q'; cases q'
      obtain ⟨v, hv⟩ := heo
      exact ⟨v, by rw [hbe]; exact hv⟩
    · refine (ok b u q).stay (fun c v hc r => k c v ?_ r) (fun c r => by rw [upd_ne (nown c b r)]; exact r) fun c xs r => by rw [upd_ne (ntup c xs r)]; exact r
      rcases hc with rfl | hc
      · exact hbe
      · rintro rfl
        rcases he with z | z
        · exact nown c b hc z
        · rw [hc] at z; cases z; exact hb rfl
end
structure Un (fs ex : List Addr) (H H' : Hp) (h h' : Heap) : Prop where
  keep : ∀ b o, h.get? b = some o → H b = none → b ∉ fs → b ∉ ex → h'.get? b = some o
  slot : ∀ b o, h.get? b = some o → H b = none → b ∈ fs → b ∉ ex → ∃ sl, h'.get? b = some { o with slots := sl }
  free : ∀ b o, h.get? b = some o → H b = none → b ∉ ex → H' b = none
  there : ∀ b o, h.get? b = some o → b ∉ ex → ∃ o', h'.get? b = some o'
  tups : ∀ b xs, H b = some (.tup xs) → H' b = some (.tup xs)
  frzs : ∀ b o u, H b = some (.frz o u) → H' b = some (.frz o u)
  tbls : ∀ b ps, H b = some (.tbl ps) → ∃ more, H' b = some (.tbl (ps ++ more))
noncomputable section
variable {fs fs' ex ex' : List Addr} {H H1 H2 : Hp} {h h1 h2 h' : Heap} {a x e : Addr} {o : HO}
theorem Un.any (u : Un fs ex H H1 h h1) {b : Addr} {ob : Obj} (q : h.get? b = some ob) (n : H b = none) (hx : b ∉ ex) : ∃ sl, h1.get? b = some { ob with slots := sl } := by
  by_cases hb : b ∈ fs
  · exact u.slot b ob q n hb hx
  · exact ⟨ob.slots, u.keep b ob q n hb hx⟩
theorem Un.trans (a : Un fs ex H H1 h h1) (b : Un fs ex H1 H2 h1 h2) : Un fs ex H H2 h h2 where
  keep := fun c ob q n hc hx => b.keep c ob (a.keep c ob q n hc hx) (a.free c ob q n hx) hc hx
  slot := fun c ob q n hc hx => by
    obtain ⟨sl, e1⟩ := a.slot c ob q n hc hx
    obtain ⟨sl', e2⟩ := b.slot c _ e1 (a.free c ob q n hx) hc hx
    exact ⟨sl', e2⟩
  free := fun c ob q n hx => by
    obtain ⟨o', e1⟩ := a.there c ob q hx
    exact b.free c o' e1 (a.free c ob q n hx) hx
  there := fun c ob q hx => by
    obtain ⟨o', e1⟩ := a.there c ob q hx
    exact b.there c o' e1 hx
  tups := fun c xs q => b.tups c xs (a.tups c xs q)
  frzs := fun c ob xs q => b.frzs c ob xs (a.frzs c ob xs q)
  tbls := fun c ps q => by
    obtain ⟨m1, e1⟩ := a.tbls c ps q
    obtain ⟨m2, e2⟩ := b.tbls c _ e1
    exact ⟨m1 ++ m2, by rw [e2, Array.append_assoc]⟩
theorem Un.kept (k : ∀ b u, h.get? b = some u → h'.get? b = some u) : Un fs ex H H h h' :=
  ⟨fun b ob q _ _ _ => k b ob q, fun b ob q _ _ _ => ⟨ob.slots, k b ob q⟩, fun _ _ _ n _ => n, fun b ob q _ => ⟨ob, k b ob q⟩, fun _ _ q => q, fun _ _ _ q => q, fun _ ps q => ⟨#[], by rw [q]; simp⟩⟩
theorem Un.refl : Un fs ex H H h h := Un.kept fun _ _ q => q
theorem Un.laid (k : ∀ b u, h.get? b = some u → h'.get? b = some u) (hp : h.objs.size ≤ a) (hn : H a = none) : Un fs ex H (upd H a o) h h' where
  keep := fun b u q _ _ _ => k b u q
  slot := fun b u q _ _ _ => ⟨u.slots, k b u q⟩
  free := fun b u q n _ => by rw [upd_ne (Nat.ne_of_lt (Nat.lt_of_lt_of_le (Heap.lt_size q) hp))]; exact n
  there := fun b u q _ => ⟨u, k b u q⟩
  tups := fun b xs q => by rw [upd_ne (ne_of_none q hn)]; exact q
  frzs := fun b u xs q => by rw [upd_ne (ne_of_none q hn)]; exact q
  tbls := fun b ps q => ⟨#[], by rw [upd_ne (ne_of_none q hn), q]; simp⟩
theorem Un.write (mu : Mut (H x)) (he : e = x ∨ H e = some (.own x)) (k : ∀ b u, b ≠ e → h.get? b = some u → h'.get? b = some u) (heo : ∃ u, h'.get? e = some u) : Un fs ex H (upd H x o) h h' := by
  have hx : ∀ b, H b = none → b ≠ x := fun b n z => by subst z; rw [n] at mu; exact mu
  have hb : ∀ b, H b = none → b ≠ e := fun b n z => by
    subst z
    rcases he with r | r
    · exact hx b n r
    · rw [n] at r; cases r
  have hm : ∀ b u, H b = some u → ¬ Mut (some u) → b ≠ x := fun b u q nm z => by subst z; rw [q] at mu; exact nm mu
  refine ⟨fun b u q n _ _ => k b u (hb b n) q, fun b u q n _ _ => ⟨u.slots, k b u (hb b n) q⟩, fun b u q n _ => by rw [upd_ne (hx b n)]; exact n, fun b u q _ => ?_,
    fun b xs q => by rw [upd_ne (hm b _ q fun z => z)]; exact q, fun b u xs q => by rw [upd_ne (hm b _ q fun z => z)]; exact q, fun b ps q => ⟨#[], by rw [upd_ne (hm b _ q fun z => z), q]; simp⟩⟩
  by_cases hbe : b = e
  · subst hbe; exact heo
  · exact ⟨u, k b u hbe q⟩
theorem Un.mono (u : Un fs ex H H1 h h1) (hs : ∀ b ∈ fs, b ∈ fs') (hx : ∀ b ∈ ex, b ∈ ex') : Un fs' ex' H H1 h h1 :=
  ⟨fun b ob q n hb he => u.keep b ob q n (fun z => hb (hs b z)) fun z => he (hx b z), fun _ _ q n _ he => u.any q n fun z => he (hx _ z), fun b ob q n he => u.free b ob q n fun z => he (hx b z), fun b ob q he => u.there b ob q fun z => he (hx b z), u.tups, u.frzs, u.tbls⟩
end
noncomputable def trk (h : Heap) (H : Hp) : List Addr := (List.range h.objs.size).filter fun a => (H a).isSome
noncomputable def hidT (h : Heap) (H : Hp) : Heap := PySem.W.hideAll h (trk h H)
theorem hidT_size (h : Heap) (H : Hp) : (hidT h H).objs.size = h.objs.size := PySem.W.hideAll_size _ _
theorem hidT_get {h : Heap} {H : Hp} {b : Addr} {o : Obj} (e : h.get? b = some o) (n : H b = none) : (hidT h H).get? b = some o :=
  PySem.W.hideAll_get _ e fun hm => by
    have q : (H b).isSome = true := (List.mem_filter.mp hm).2
    rw [n] at q; simp at q
theorem of_hidT {h : Heap} {H : Hp} {b : Addr} {o : Obj} (e : (hidT h H).get? b = some o) : h.get? b = some o ∧ H b = none := by
  have e' : h.get? b = some o := PySem.W.of_hideAll (trk h H) e
  refine ⟨e', ?_⟩
  cases q : H b with
  | none => rfl
  | some x =>
    have hm : b ∈ trk h H := List.mem_filter.mpr ⟨List.mem_range.mpr (Heap.lt_size e'), by simp [q]⟩
    have z : (hidT h H).get? b = none := PySem.W.hideAll_none (trk h H) hm
    rw [z] at e; cases e
noncomputable def allNews (g h : Heap) (L : Addr) : List (Addr × Obj) := (List.range h.objs.size).filterMap fun a => if a = L ∨ (g.get? a).isSome = true then none else (h.get? a).map fun o => (a, o)
noncomputable def rest (g h : Heap) (L d : Addr) : List (Addr × Obj) := (allNews g h L).filter fun p => decide (p.1 ≠ d)
end L2
namespace L2
open PySem PySem.Spec PyProof.Rows
structure Mod (K : PySem.W.Frag) (mg : Str → Option Value) (base : Heap) : Prop where
  kin : K.In base
  glob : base.Ns mainGlobals mg
  blt : ∃ mb, base.Ns builtinsNs mb ∧ ∀ x : Str, x ≠ "__name__" → mb x = bootBuiltins x
  nolimit : base.NoLimit
structure Cx where
  prog : Program
  w : World
  K : PySem.W.Frag
  mg : Str → Option Value
  base : Heap
  A : Around
  N : List Str
  s₀ : Shared
  H₀ : Hp
  env : Env
  outer : List Env
  stack : List Env
  ex : List Addr
  fn : Str → Bool
  calm : Bool
  pn : List (Addr × Obj)
  xe : Value → Shared → Prop
noncomputable def frs (l : List Env) : List Addr := l.filterMap (·.frame)
noncomputable abbrev Cx.fs (X : Cx) : List Addr := frs X.outer
noncomputable def Vis (sc : Scope) (x : Str) : Prop := sc.names.lookup x = some .local ∨ sc.names.lookup x = some .cell ∨ sc.names.lookup x = some .free
noncomputable def Loc (sc : Scope) (x : Str) : Prop := sc.names.lookup x = some .local ∨ sc.names.lookup x = some .cell
noncomputable def Look (env : Env) (h : Heap) (m : Str → Option Value) (x : Str) (u : Value) : Prop :=
  (env.kindOf x = some .local ∧ m x = some u) ∨ ((env.kindOf x = some .cell ∨ env.kindOf x = some .free) ∧ ∃ c, env.cells.lookup x = some c ∧ h.IsCell c (some u))
structure Cx.Ok (X : Cx) : Prop where
  mod : Mod X.K X.mg X.base
  kind : X.env.scope.kind = .function
  glob : X.env.globals = mainGlobals
  blt : X.env.builtins = builtinsNs
  above : X.s₀.heap.objs.size ≤ X.env.locals
  inj : ∀ x y c, X.env.cells.lookup x = some c → X.env.cells.lookup y = some c → x = y
  has : ∀ x, (X.env.kindOf x = some .cell ∨ X.env.kindOf x = some .free) → ∃ c, X.env.cells.lookup x = some c
  cab : ∀ x c, X.fn x = true → X.env.cells.lookup x = some c → X.s₀.heap.objs.size ≤ c
  hd : X.calm = true → X.A.handled = none
  frames : X.A.frames = some X.stack
  stk : X.stack = X.outer ∨ (X.stack = X.env :: X.outer ∧ X.env.frame = some X.env.locals)
  exf : ∀ b ∈ X.ex, b ≠ X.env.locals ∧ ∀ x c, X.env.cells.lookup x = some c → c ≠ b
  bs : ∀ b o, X.base.get? b = some o → X.s₀.heap.get? b = some o ∧ X.H₀ b = none
  bsz : X.base.objs.size ≤ X.s₀.heap.objs.size
  noex : ∀ b o, X.base.get? b = some o → b ∉ X.ex
  exfs : ∀ b ∈ X.ex, b ∉ X.fs
  funs : X.s₀.heap.FunFrames X.base X.outer
  frf : ∀ b ∈ X.fs, X.H₀ b = none
structure Inv (X : Cx) (pins : List (Addr × Obj)) (σ : List (Option V)) (H : Hp) (s : Shared) : Prop where
  ok : X.Ok
  os : s.os = X.s₀.os
  bare : AllBare s.gens
  base : Un X.fs X.ex X.H₀ H X.s₀.heap s.heap
  loc : ∃ m, s.heap.Ns X.env.locals m ∧ ∀ (i : Nat) (x : Str) (v : V), X.N[i]? = some x → σ[i]? = some (some v) → Vis X.env.scope x → ∃ u, RelV v u ∧ Look X.env s.heap m x u
  cell : ∀ x c, X.env.cells.lookup x = some c → ∃ v, s.heap.IsCell c v
  free : H X.env.locals = none
  freeC : ∀ x c, X.env.cells.lookup x = some c → H c = none
  pin : ∀ p ∈ X.pn ++ pins, s.heap.get? p.1 = some p.2 ∧ H p.1 = none ∧ p.1 ≠ X.env.locals ∧ p.1 ∉ X.fs ∧ ∀ v, p.2.data ≠ .cell v
  hok : HOk X.prog X.w H s.heap
  len : σ.length = X.N.length
noncomputable section
variable {X : Cx} {pins : List (Addr × Obj)} {σ : List (Option V)} {H H' : Hp} {s : Shared} {h' : Heap}
theorem Cx.Ok.nofr (ok : X.Ok) {b : Addr} {o : Obj} (e : X.base.get? b = some o) : b ∉ X.fs := fun hb => by
  have := (ok.funs.mem hb).1
  rw [e] at this; cases this
theorem Inv.bs (I : Inv X pins σ H s) : ∀ b o, X.base.get? b = some o → s.heap.get? b = some o ∧ H b = none := fun b o e =>
  ⟨I.base.keep b o (I.ok.bs b o e).1 (I.ok.bs b o e).2 (I.ok.nofr e) (I.ok.noex b o e), I.base.free b o (I.ok.bs b o e).1 (I.ok.bs b o e).2 (I.ok.noex b o e)⟩
theorem Inv.bk (I : Inv X pins σ H s) : ∀ b o, X.base.get? b = some o → s.heap.get? b = some o := fun b o e => (I.bs b o e).1
theorem Inv.mod (I : Inv X pins σ H s) : Mod X.K X.mg X.base := I.ok.mod
theorem Inv.kIn (I : Inv X pins σ H s) : X.K.In s.heap := I.ok.mod.kin.keeps I.bk
theorem Inv.fr (I : Inv X pins σ H s) : ∃ m, Fr X.base X.env.locals s.heap m :=
  let ⟨m, hn, _⟩ := I.loc
  ⟨m, hn, I.bk, Nat.le_trans I.ok.bsz I.ok.above⟩
theorem Inv.lt (I : Inv X pins σ H s) : X.env.locals < s.heap.objs.size := let ⟨_, hn, _⟩ := I.loc; hn.lt
theorem Inv.sz (I : Inv X pins σ H s) : X.s₀.heap.objs.size ≤ s.heap.objs.size := Nat.le_trans I.ok.above (Nat.le_of_lt I.lt)
theorem Inv.nofs (I : Inv X pins σ H s) {a : Addr} (h : s.heap.objs.size ≤ a) : a ∉ X.fs := fun hb => by
  obtain ⟨_, o, ho, _⟩ := I.ok.funs.mem hb
  exact absurd (Nat.lt_of_lt_of_le (Heap.lt_size ho) (Nat.le_trans I.sz h)) (Nat.lt_irrefl _)
theorem Inv.cne (I : Inv X pins σ H s) : ∀ x c, X.env.cells.lookup x = some c → c ≠ X.env.locals := fun x c e z => by
  obtain ⟨v, o, ho, hd⟩ := I.cell x c e
  obtain ⟨m, ⟨o', es, ep, ho', hd', _⟩, _⟩ := I.loc
  rw [z, ho'] at ho; cases ho; rw [hd'] at hd; cases hd
theorem Inv.funs (I : Inv X pins σ H s) : s.heap.FunFrames X.base X.outer := by
  have all : ∀ (l : List Env), (∀ b ∈ frs l, b ∈ X.fs) → X.s₀.heap.FunFrames X.base l → s.heap.FunFrames X.base l := by
    intro l
    induction l with
    | nil => intro _ _; trivial
    | cons env r ih =>
      intro hs hl
      obtain ⟨hk, ⟨L, o, hf, hn, ho, hd⟩, hr⟩ := hl
      have hL : L ∈ X.fs := hs L (by unfold frs; rw [List.filterMap_cons, hf]; exact List.mem_cons_self)
      obtain ⟨sl, e⟩ := I.base.slot L o ho (I.ok.frf L hL) hL fun z => I.ok.exfs L z hL
      exact ⟨hk, ⟨L, _, hf, hn, e, hd⟩, ih (fun b hb => hs b (by unfold frs; rw [List.filterMap_cons, hf]; exact List.mem_cons_of_mem _ hb)) hr⟩
  exact all X.outer (fun _ hb => hb) I.ok.funs
theorem Inv.stack (I : Inv X pins σ H s) : s.heap.FunFrames X.base X.stack := by
  rcases I.ok.stk with e | ⟨e, hf⟩
  · rw [e]; exact I.funs
  · rw [e]
    obtain ⟨m, hn, _⟩ := I.loc
    refine .cons (by rw [I.ok.kind]; decide) hf hn ?_ I.funs
    exact Heap.get?_none_of_le (Nat.le_trans I.ok.bsz I.ok.above)
theorem Inv.stkSub (I : Inv X pins σ H s) : ∀ b ∈ frs X.stack, b ∈ X.env.locals :: X.fs := fun b hb => by
  rcases I.ok.stk with e | ⟨e, hf⟩
  · rw [e] at hb; exact List.mem_cons_of_mem _ hb
  · rw [e] at hb
    unfold frs at hb
    rw [List.filterMap_cons, hf] at hb
    exact hb
theorem Inv.stkFree (I : Inv X pins σ H s) : ∀ b ∈ frs X.stack, H b = none := fun b hb => by
  rcases List.mem_cons.mp (I.stkSub b hb) with e | hb
  · rw [e]; exact I.free
  · obtain ⟨_, o, ho, _⟩ := I.ok.funs.mem hb
    exact I.base.free b o ho (I.ok.frf b hb) fun z => I.ok.exfs b z hb
theorem Inv.step {g' : Array GenState} {t' : Nat} {d' : Drawn} {ch : List Addr} (I : Inv X pins σ H s)
    (hch : ∀ b ∈ ch, (b ∈ X.ex ∨ X.s₀.heap.objs.size ≤ b) ∧ b ≠ X.env.locals ∧ (∀ x c, X.env.cells.lookup x = some c → c ≠ b) ∧ ∀ p ∈ X.pn ++ pins, p.1 ≠ b)
    (keep : ∀ b o, b ≠ X.env.locals → b ∉ X.fs → b ∉ ch → s.heap.get? b = some o → H b = none → h'.get? b = some o)
    (slot : ∀ b o, b ≠ X.env.locals → b ∈ X.fs → b ∉ ch → s.heap.get? b = some o → H b = none → ∃ sl, h'.get? b = some { o with slots := sl }) (free : ∀ b o, b ∉ ch → s.heap.get? b = some o → H b = none → H' b = none)
    (there : ∀ b o, b ∉ ch → s.heap.get? b = some o → ∃ o', h'.get? b = some o')
    (tups : ∀ b xs, H b = some (.tup xs) → H' b = some (.tup xs)) (frzs : ∀ b o u, H b = some (.frz o u) → H' b = some (.frz o u)) (tbls : ∀ b ps, H b = some (.tbl ps) → ∃ more, H' b = some (.tbl (ps ++ more)))
    (ns : ∀ m, s.heap.Ns X.env.locals m → h'.Ns X.env.locals m) (hok : HOk X.prog X.w H' h') (hg : AllBare g') :
    Inv X pins σ H' { s with heap := h', gens := g', drawn := d', toks := t' } := by
  have neL : ∀ b o, X.s₀.heap.get? b = some o → b ≠ X.env.locals := fun b o e => Nat.ne_of_lt (Nat.lt_of_lt_of_le (Heap.lt_size e) I.ok.above)
  have neC : ∀ b o, X.s₀.heap.get? b = some o → b ∉ X.ex → b ∉ ch := fun b o e hx hb => by
    rcases (hch b hb).1 with z | z
    · exact hx z
    · exact absurd (Nat.lt_of_lt_of_le (Heap.lt_size e) z) (Nat.lt_irrefl _)
  have cellK : ∀ x c, X.env.cells.lookup x = some c → ∀ v, s.heap.IsCell c v → h'.IsCell c v := fun x c e v ⟨o, ho, hd⟩ => by
    have nch : c ∉ ch := fun z => (hch c z).2.2.1 x c e rfl
    by_cases hc : c ∈ X.fs
    · obtain ⟨sl, q⟩ := slot c o (I.cne x c e) hc nch ho (I.freeC x c e)
      exact ⟨_, q, hd⟩
    · exact ⟨o, keep c o (I.cne x c e) hc nch ho (I.freeC x c e), hd⟩
  refine ⟨I.ok, I.os, hg, ⟨fun b o e n hb hx => ?_, fun b o e n hb hx => ?_, fun b o e n hx => ?_, fun b o e hx => ?_, fun b xs e => tups b xs (I.base.tups b xs e), fun b o xs e => frzs b o xs (I.base.frzs b o xs e), fun b ps e => ?_⟩, ?_, fun x c e => ?_, ?_, fun x c e => ?_, fun p hp => ?_, hok, I.len⟩
  · exact keep b o (neL b o e) hb (neC b o e hx) (I.base.keep b o e n hb hx) (I.base.free b o e n hx)
  · obtain ⟨sl, e1⟩ := I.base.slot b o e n hb hx
    obtain ⟨sl', e2⟩ := slot b _ (neL b o e) hb (neC b o e hx) e1 (I.base.free b o e n hx)
    exact ⟨sl', e2⟩
  · obtain ⟨o', e1⟩ := I.base.there b o e hx
    exact free b o' (neC b o e hx) e1 (I.base.free b o e n hx)
  · obtain ⟨o', e1⟩ := I.base.there b o e hx
    exact there b o' (neC b o e hx) e1
  · obtain ⟨m1, e1⟩ := I.base.tbls b ps e
    obtain ⟨m2, e2⟩ := tbls b _ e1
    exact ⟨m1 ++ m2, by rw [e2, Array.append_assoc]⟩
  · obtain ⟨m, hn, hl⟩ := I.loc
    refine ⟨m, ns m hn, fun i x v e1 e2 e3 => ?_⟩
    obtain ⟨u, r, l⟩ := hl i x v e1 e2 e3
    refine ⟨u, r, ?_⟩
    rcases l with l | ⟨k, c, e, z⟩
    · exact .inl l
    · exact .inr ⟨k, c, e, cellK x c e _ z⟩
  · obtain ⟨v, z⟩ := I.cell x c e
    exact ⟨v, cellK x c e v z⟩
  · obtain ⟨m, ⟨o, _, _, ho, _⟩, _⟩ := I.loc
    exact free _ o (fun z => (hch _ z).2.1 rfl) ho I.free
  · obtain ⟨v, o, ho, hd⟩ := I.cell x c e
    exact free c o (fun z => (hch c z).2.2.1 x c e rfl) ho (I.freeC x c e)
  · obtain ⟨e, n, ne, nf, d⟩ := I.pin p hp
    have nch : p.1 ∉ ch := fun z => (hch p.1 z).2.2.2 p hp rfl
    exact ⟨keep p.1 p.2 ne nf nch e n, free p.1 p.2 nch e n, ne, nf, d⟩
theorem Inv.un {t' : Nat} (I : Inv X pins σ H s) (u : Un X.fs [] H H' s.heap h') (hok : HOk X.prog X.w H' h') : Inv X pins σ H' { s with heap := h', toks := t' } := by
  obtain ⟨m, ⟨o, es, ep, ho, r⟩, _⟩ := id I.loc
  obtain ⟨sl, hL⟩ := u.any ho I.free (by simp)
  exact I.step (g' := s.gens) (d' := s.drawn) (ch := []) (fun _ z => nomatch z) (fun b o _ hb _ e n => u.keep b o e n hb (by simp)) (fun b o _ hb _ e n => u.slot b o e n hb (by simp)) (fun b o _ e n => u.free b o e n (by simp)) (fun b o _ e => u.there b o e (by simp)) u.tups u.frzs u.tbls (fun m' hm => by
    obtain ⟨o', es', ep', ho', r'⟩ := hm
    rw [ho] at ho'; cases ho'
    exact ⟨_, es', ep', hL, r'⟩) hok I.bare
theorem Inv.call {g' : Array GenState} {t' : Nat} {d' : Drawn} {ch : List Addr} (I : Inv X pins σ H s) (u : Un (frs X.stack) ch H H' s.heap h') (hok : HOk X.prog X.w H' h') (hg : AllBare g')
    (hch : ∀ b ∈ ch, (b ∈ X.ex ∨ X.s₀.heap.objs.size ≤ b) ∧ b ≠ X.env.locals ∧ (∀ x c, X.env.cells.lookup x = some c → c ≠ b) ∧ ∀ p ∈ X.pn ++ pins, p.1 ≠ b) :
    Inv X pins σ H' { s with heap := h', gens := g', drawn := d', toks := t' } := by
  obtain ⟨m, ⟨o, es, ep, ho, r⟩, _⟩ := id I.loc
  obtain ⟨sl, hL⟩ := u.any ho I.free fun z => (hch _ z).2.1 rfl
  exact I.step (ch := ch) hch (fun b o hL hb hc e n => u.keep b o e n (fun z => (List.mem_cons.mp (I.stkSub b z)).elim hL hb) hc) (fun b o _ _ hc e n => u.any e n hc) (fun b o hc e n => u.free b o e n hc) (fun b o hc e => u.there b o e hc) u.tups u.frzs u.tbls (fun m' hm => by
    obtain ⟨o', es', ep', ho', r'⟩ := hm
    rw [ho] at ho'; cases ho'
    exact ⟨_, es', ep', hL, r'⟩) hok hg
theorem Inv.turned {t' : Nat} {it : Addr} (I : Inv X pins σ H s) (k : ∀ b o, b ≠ it → s.heap.get? b = some o → h'.get? b = some o) (hn : H it = none) (hL : it ≠ X.env.locals)
    (h1 : it ∈ X.ex ∨ X.s₀.heap.objs.size ≤ it) (h2 : ∀ x c, X.env.cells.lookup x = some c → c ≠ it) (h3 : ∀ p ∈ X.pn ++ pins, p.1 ≠ it) : Inv X pins σ H { s with heap := h', toks := t' } := by
  have nit : ∀ b u, H b = some u → b ≠ it := fun b u e z => by rw [z, hn] at e; cases e
  refine I.step (g' := s.gens) (d' := s.drawn) (ch := [it]) (fun b hb => ?_) (fun b o _ _ hc e _ => k b o (fun z => hc (by simp [z])) e) (fun b o _ _ hc e _ => ⟨o.slots, k b o (fun z => hc (by simp [z])) e⟩) (fun _ _ _ _ n => n)
    (fun b o hc e => ⟨o, k b o (fun z => hc (by simp [z])) e⟩) (fun _ _ e => e) (fun _ _ _ e => e) (fun b ps e => ⟨#[], by rw [e]; simp⟩) (fun m hm => ?_) (fun b u e => ?_) I.bare
  · have e : b = it := by simpa using hb
    subst e
    exact ⟨h1, hL, h2, h3⟩
  · obtain ⟨o, es, ep, ho, r⟩ := hm
    exact ⟨o, es, ep, k _ o (Ne.symm hL) ho, r⟩
  · refine (I.hok b u e).stay (fun c v hc q => k c v ?_ q) (fun _ q => q) fun _ _ q => q
    rcases hc with z | z
    · rw [z]; exact nit b u e
    · exact nit c _ z
theorem Inv.tok (I : Inv X pins σ H s) (t : Nat) : Inv X pins σ H { s with toks := t } := I.un (h' := s.heap) (t' := t) Un.refl I.hok
theorem Inv.kept {t' : Nat} (I : Inv X pins σ H s) (k : ∀ b u, s.heap.get? b = some u → h'.get? b = some u) : Inv X pins σ H { s with heap := h', toks := t' } := I.un (Un.kept k) (I.hok.kept k)
theorem Inv.laid {a : Addr} {o : HO} {t' : Nat} (I : Inv X pins σ H s) (k : ∀ b u, s.heap.get? b = some u → h'.get? b = some u) (hp : s.heap.objs.size ≤ a) (new : ObjOk X.prog X.w (upd H a o) h' a o) :
    Inv X pins σ (upd H a o) { s with heap := h', toks := t' } := I.un (Un.laid k hp (I.hok.fresh hp)) (I.hok.laid k hp new)
theorem Inv.write {x e : Addr} {o : HO} {t' : Nat} (I : Inv X pins σ H s) (mu : Mut (H x)) (he : e = x ∨ H e = some (.own x)) (k : ∀ b u, b ≠ e → s.heap.get? b = some u → h'.get? b = some u) (heo : ∃ u, h'.get? e = some u)
    (new : ObjOk X.prog X.w (upd H x o) h' x o) : Inv X pins σ (upd H x o) { s with heap := h', toks := t' } := I.un (Un.write mu he k heo) (I.hok.write mu he k heo new)
theorem Inv.pins_of {pins' : List (Addr × Obj)} (I : Inv X pins σ H s) (h : ∀ p ∈ pins', s.heap.get? p.1 = some p.2 ∧ H p.1 = none ∧ p.1 ≠ X.env.locals ∧ p.1 ∉ X.fs ∧ ∀ v, p.2.data ≠ .cell v) : Inv X pins' σ H s :=
  ⟨I.ok, I.os, I.bare, I.base, I.loc, I.cell, I.free, I.freeC, fun p hp => (List.mem_append.mp hp).elim (fun z => I.pin p (List.mem_append_left _ z)) (h p), I.hok, I.len⟩
theorem nodup_ix {N : List Str} (hN : N.Nodup) {i j : Nat} {x : Str} (a : N[i]? = some x) (b : N[j]? = some x) : i = j := by
  obtain ⟨h1, e1⟩ := List.getElem?_eq_some_iff.mp a
  obtain ⟨h2, e2⟩ := List.getElem?_eq_some_iff.mp b
  exact (List.getElem_inj hN).mp (e1.trans e2.symm)
theorem store_ok2 {M : Model} {A : Around} {E : Value → Shared → Prop} {i : Nat} {x : Str} {v : V} {u : Value} {Q : Unit → Shared → Prop} (I : Inv X pins σ H s) (hN : X.N.Nodup) (hi : X.N[i]? = some x) (hx : Loc X.env.scope x) (r : RelV v u)
    (h : ∀ s', Inv X pins (σ.set i (some v)) H s' → (∃ a, Heap.SameBut a s.heap s'.heap ∧ (a = X.env.locals ∨ X.env.cells.lookup x = some a)) → Q () s') (hf : X.fn x = true ∨ X.env.scope.names.lookup x = some .local := by first | exact .inl rfl | exact .inr rfl | assumption) : wpAny M A (storeName X.env x u) Q E s := by
  obtain ⟨m, hn, hl⟩ := id I.loc
  have hcls : (X.env.scope.kind == .class || (X.env.scope.kind == .module && X.env.locals != X.env.globals)) = false := by rw [I.ok.kind]; rfl
  have hiσ : i < σ.length := by rw [I.len]; exact (List.getElem?_eq_some_iff.mp hi).1
  have cne := I.cne
  have tracked : ∀ {a : Addr} {h' : Heap}, (∃ o, s.heap.get? a = some o ∧ H a = none) → Heap.SameBut a s.heap h' → HOk X.prog X.w H h' := fun {a h'} ha hs b ob e => by
    obtain ⟨_, _, hfree⟩ := ha
    refine (I.hok b ob e).stay (fun c w' hc q => (hs.2 c ?_).trans q) (fun _ q => q) fun _ _ q => q
    rintro rfl
    rcases hc with rfl | hc
    · rw [hfree] at e; cases e
    · rw [hfree] at hc; cases hc
  rcases hx with hk | hk
  · refine wpAny_storeName_local hk hn (fun h' hn' hs => ?_) hcls
    obtain ⟨oL, _, _, hoL, _⟩ := id hn
    refine h _ ⟨I.ok, I.os, I.bare, ⟨fun b o e n hb hx => ?_, fun b o e n hb hx => ?_, I.base.free, fun b o e hx => ?_, I.base.tups, I.base.frzs, I.base.tbls⟩, ⟨_, hn', fun j y v' e1 e2 e3 => ?_⟩, fun y c e => ?_, I.free, I.freeC, fun p hp => ?_, tracked ⟨oL, hoL, I.free⟩ hs, by simpa using I.len⟩ ⟨_, hs, .inl rfl⟩
    · exact (hs.2 b (Nat.ne_of_lt (Nat.lt_of_lt_of_le (Heap.lt_size e) I.ok.above))).trans (I.base.keep b o e n hb hx)
    · obtain ⟨sl, e1⟩ := I.base.slot b o e n hb hx
      exact ⟨sl, (hs.2 b (Nat.ne_of_lt (Nat.lt_of_lt_of_le (Heap.lt_size e) I.ok.above))).trans e1⟩
    · obtain ⟨o', e1⟩ := I.base.there b o e hx
      exact ⟨o', (hs.2 b (Nat.ne_of_lt (Nat.lt_of_lt_of_le (Heap.lt_size e) I.ok.above))).trans e1⟩
    · by_cases hj : j = i
      · subst hj
        rw [hi] at e1; cases e1
        rw [List.getElem?_set_self hiσ] at e2
        cases e2
        exact ⟨u, r, .inl ⟨hk, by simp⟩⟩
      · rw [List.getElem?_set_ne (Ne.symm hj)] at e2
        obtain ⟨u', r', q⟩ := hl j y v' e1 e2 e3
        refine ⟨u', r', ?_⟩
        rcases q with ⟨k, e⟩ | ⟨k, c, e, z⟩
        · refine .inl ⟨k, ?_⟩
          have : y ≠ x := fun e => hj (nodup_ix hN e1 (e ▸ hi))
          simp [this, e]
        · exact .inr ⟨k, c, e, z.sameBut hs (cne y c e)⟩
    · obtain ⟨w', z⟩ := I.cell y c e
      exact ⟨w', z.sameBut hs (cne y c e)⟩
    · obtain ⟨e, n, ne, nf, d⟩ := I.pin p hp
      exact ⟨(hs.2 p.1 ne).trans e, n, ne, nf, d⟩
  · have hfn : X.fn x = true := by
      rcases hf with z | z
      · exact z
      · rw [z] at hk; cases hk
    obtain ⟨c, hc⟩ := I.ok.has x (.inl hk)
    obtain ⟨w', z⟩ := I.cell x c hc
    refine wpAny_storeName_cell I.ok.kind hk hc z (fun h' hc' hs => ?_)
    obtain ⟨oc, hoc, hocd⟩ := id z
    refine h { s with heap := h' } ⟨I.ok, I.os, I.bare, ⟨fun b o e n hb hx => ?_, fun b o e n hb hx => ?_, I.base.free, fun b o e hx => ?_, I.base.tups, I.base.frzs, I.base.tbls⟩, ⟨m, hn.sameBut hs (Ne.symm (cne x c hc)), fun j y v' e1 e2 e3 => ?_⟩, fun y c' e => ?_, I.free, I.freeC, fun p hp => ?_, tracked ⟨oc, hoc, I.freeC x c hc⟩ hs, by simpa using I.len⟩ ⟨c, hs, .inr hc⟩
    · exact (hs.2 b (Nat.ne_of_lt (Nat.lt_of_lt_of_le (Heap.lt_size e) (I.ok.cab x c hfn hc)))).trans (I.base.keep b o e n hb hx)
    · obtain ⟨sl, e1⟩ := I.base.slot b o e n hb hx
      exact ⟨sl, (hs.2 b (Nat.ne_of_lt (Nat.lt_of_lt_of_le (Heap.lt_size e) (I.ok.cab x c hfn hc)))).trans e1⟩
    · obtain ⟨o', e1⟩ := I.base.there b o e hx
      exact ⟨o', (hs.2 b (Nat.ne_of_lt (Nat.lt_of_lt_of_le (Heap.lt_size e) (I.ok.cab x c hfn hc)))).trans e1⟩
    · by_cases hj : j = i
      · subst hj
        rw [hi] at e1; cases e1
        rw [List.getElem?_set_self hiσ] at e2
        cases e2
        exact ⟨u, r, .inr ⟨.inl hk, c, hc, hc'⟩⟩
      · rw [List.getElem?_set_ne (Ne.symm hj)] at e2
        obtain ⟨u', r', q⟩ := hl j y v' e1 e2 e3
        refine ⟨u', r', ?_⟩
        rcases q with q | ⟨k, c', e, z'⟩
        · exact .inl q
        · refine .inr ⟨k, c', e, z'.sameBut hs ?_⟩
          rintro rfl
          exact hj (nodup_ix hN e1 (I.ok.inj _ _ _ e hc ▸ hi))
    · by_cases hcc : c' = c
      · subst hcc; exact ⟨_, hc'⟩
      · obtain ⟨w2, z2⟩ := I.cell y c' e
        exact ⟨w2, z2.sameBut hs hcc⟩
    · obtain ⟨e, n, ne, nf, d⟩ := I.pin p hp
      refine ⟨(hs.2 p.1 ?_).trans e, n, ne, nf, d⟩
      intro q
      rw [q, hoc] at e
      have q' : oc = p.2 := Option.some.inj e
      exact d w' (by rw [← q']; exact hocd)
theorem store_ok {M : Model} {A : Around} {E : Value → Shared → Prop} {i : Nat} {x : Str} {v : V} {u : Value} {Q : Unit → Shared → Prop} (I : Inv X pins σ H s) (hN : X.N.Nodup) (hi : X.N[i]? = some x) (hx : Loc X.env.scope x) (r : RelV v u)
    (h : ∀ s', Inv X pins (σ.set i (some v)) H s' → Q () s') (hf : X.fn x = true ∨ X.env.scope.names.lookup x = some .local := by first | exact .inl rfl | exact .inr rfl | assumption) : wpAny M A (storeName X.env x u) Q E s :=
  store_ok2 I hN hi hx r (fun s' I' _ => h s' I') hf
end
noncomputable abbrev XK := Value → Option Addr → Hp → Prop
noncomputable abbrev St := List (Option V)
noncomputable abbrev VK := V → Hp → Prop
noncomputable abbrev TE := St → Hp → VK → Prop
noncomputable abbrev TT := St → Hp → (Bool → Hp → Prop) → Prop
noncomputable abbrev TA := St → Hp → (List V → Hp → Prop) → Prop
structure Ends where
  nx : St → Hp → Prop
  rt : VK
  bk : St → Hp → Prop := fun _ _ => False
  ct : St → Hp → Prop := fun _ _ => False
noncomputable abbrev TS := Ends → St → Hp → Prop
noncomputable def EP (X : Cx) (pins : List (Addr × Obj)) (σ : St) (Q : VK) (u : Value) (s' : Shared) : Prop := ∃ v H', Inv X pins σ H' s' ∧ RelV v u ∧ Q v H'
noncomputable def TP (X : Cx) (pins : List (Addr × Obj)) (σ : St) (Q : Bool → Hp → Prop) (b : Bool) (s' : Shared) : Prop := ∃ H', Inv X pins σ H' s' ∧ Q b H'
noncomputable def AP (X : Cx) (pins : List (Addr × Obj)) (σ : St) (Q : List V → Hp → Prop) (us : List Value) (s' : Shared) : Prop := ∃ vs H', Inv X pins σ H' s' ∧ Vals vs us ∧ Q vs H'
noncomputable def SP (X : Cx) (pins : List (Addr × Obj)) (D : Ends) (f : Flow) (s' : Shared) : Prop :=
  match f with
  | .next => ∃ σ' H', Inv X pins σ' H' s' ∧ D.nx σ' H'
  | .brk => ∃ σ' H', Inv X pins σ' H' s' ∧ D.bk σ' H'
  | .cont => ∃ σ' H', Inv X pins σ' H' s' ∧ D.ct σ' H'
  | .ret u => ∃ v σ' H', Inv X pins σ' H' s' ∧ RelV v u ∧ D.rt v H'
noncomputable def PE (X : Cx) (e : Expr) (t : TE) : Prop :=
  ∀ (pins : List (Addr × Obj)) (s : Shared) (σ : St) (H : Hp) (Q : VK), Inv X pins σ H s → t σ H Q → wpAny (model X.prog X.w) X.A (eval e X.env) (EP X pins σ Q) X.xe s
noncomputable def PT (X : Cx) (e : Expr) (t : TT) : Prop :=
  ∀ (pins : List (Addr × Obj)) (s : Shared) (σ : St) (H : Hp) (Q : Bool → Hp → Prop), Inv X pins σ H s → t σ H Q → wpAny (model X.prog X.w) X.A (isTrue e X.env (eval e X.env)) (TP X pins σ Q) X.xe s
noncomputable def PW (X : Cx) (e : Expr) (t : TT) : Prop :=
  ∀ (whole : Sem Value) (pins : List (Addr × Obj)) (s : Shared) (σ : St) (H : Hp) (Q : Bool → Hp → Prop), Inv X pins σ H s → t σ H Q → wpAny (model X.prog X.w) X.A (isTrue e X.env whole) (TP X pins σ Q) X.xe s
theorem PW.pt {X : Cx} {e : Expr} {t : TT} (h : PW X e t) : PT X e t := h _
noncomputable def PA (X : Cx) (es : List Expr) (t : TA) : Prop :=
  ∀ (pos : Pos) (pins : List (Addr × Obj)) (s : Shared) (σ : St) (H : Hp) (Q : List V → Hp → Prop), Inv X pins σ H s → t σ H Q → wpAny (model X.prog X.w) X.A (spliced (backTo pos (starEach es X.env))) (AP X pins σ Q) X.xe s
noncomputable def PS (X : Cx) (st : Stmt) (t : TS) : Prop :=
  ∀ (pins : List (Addr × Obj)) (s : Shared) (σ : St) (H : Hp) (D : Ends), Inv X pins σ H s → t D σ H → wpAny (model X.prog X.w) X.A (exec st X.env) (SP X pins D) X.xe s
noncomputable def PSs (X : Cx) (st : List Stmt) (t : TS) : Prop :=
  ∀ (pins : List (Addr × Obj)) (s : Shared) (σ : St) (H : Hp) (D : Ends), Inv X pins σ H s → t D σ H → wpAny (model X.prog X.w) X.A (execs st X.env) (SP X pins D) X.xe s
theorem thn {α : Type} {t : Sem α} {Q Q' : α → Shared → Prop} {M : Model} {A : Around} {E : Value → Shared → Prop} {s : Shared} (h : wpAny M A t Q E s) (hQ : ∀ a s, Q a s → Q' a s) : wpAny M A t Q' E s := wpAny_mono h hQ fun _ _ x => x
end L2
namespace L2
open PySem PySem.Spec PyProof.Rows
noncomputable section
variable {X : Cx}
noncomputable def tVar (i : Nat) : TE := fun σ H Q => ∃ v, σ[i]? = some (some v) ∧ Q v H
noncomputable def tC (v : V) : TE := fun _ H Q => Q v H
theorem pe_var {i : Nat} {x : Str} {pos : Pos} (hN : X.N[i]? = some x) (hv : Vis X.env.scope x) (hd : (x == ("__debug__" : Str)) = false := by decide) (hcd : (x == ("__classdict__" : Str)) = false := by decide) : PE X (.Name x pos) (tVar i) := by
  intro pins s σ H Q I h
  obtain ⟨v, e, h⟩ := h
  obtain ⟨m, hn, hl⟩ := I.loc
  obtain ⟨u, r, l⟩ := hl i x v hN e hv
  have fin : EP X pins σ Q u s := ⟨v, H, I, r, h⟩
  rcases l with ⟨hk, hm⟩ | ⟨hk, c, hc, hcell⟩
  · exact wpAny_Name (wpAny_loadName_local I.ok.kind hk hn hm fin) hd
  · rcases hk with hk | hk
    · exact wpAny_Name (wpAny_loadName_cell I.ok.kind hk hc hcell fin) hd
    · exact wpAny_Name (wpAny_loadName_free I.ok.kind hk hc hcell fin hcd) hd
theorem pe_int {i j pos} : PE X (.Constant (.int i) j pos) (tC (.int i)) := fun _ _ _ H _ I h => wpAny_Constant_int ⟨.int i, H, I.tok _, ⟨_, rfl⟩, h⟩
theorem pe_bl {b j pos} : PE X (.Constant (.bool b) j pos) (tC (.bl b)) := fun _ _ _ H _ I h => Constant_bool ⟨.bl b, H, I, rfl, h⟩
theorem pe_str {x j pos} : PE X (.Constant (.str x) j pos) (tC (.str x)) := fun _ _ _ H _ I h => Calls.Constant_str ⟨.str x, H, I.tok _, ⟨_, rfl⟩, h⟩
noncomputable def Gl (X : Cx) (x : Str) : Prop := X.env.kindOf x = some .globalImplicit
theorem ld_glob {E : Value → Shared → Prop} {pins : List (Addr × Obj)} {s : Shared} {σ : St} {H : Hp} {x : Str} {u : Value} {pos : Pos} {Q : Value → Shared → Prop} (I : Inv X pins σ H s) (hg : Gl X x) (hm : X.mg x = some u) (h : Q u s)
    (hd : (x == ("__debug__" : Str)) = false := by decide) : wpAny (model X.prog X.w) X.A (eval (.Name x pos) X.env) Q E s :=
  Calls.Name_function_global I.ok.kind hg (Calls.loadGlobal_global (by rw [I.ok.glob]; exact I.mod.glob.keeps I.bk) hm h) hd
theorem ld_blt {E : Value → Shared → Prop} {pins : List (Addr × Obj)} {s : Shared} {σ : St} {H : Hp} {x : Str} {u : Value} {pos : Pos} {Q : Value → Shared → Prop} (I : Inv X pins σ H s) (hg : Gl X x) (hm : X.mg x = none) (hv : bootBuiltins x = some u) (h : Q u s)
    (hn : x ≠ "__name__" := by decide) (hd : (x == ("__debug__" : Str)) = false := by decide) : wpAny (model X.prog X.w) X.A (eval (.Name x pos) X.env) Q E s := by
  obtain ⟨mb, h1, h2⟩ := I.mod.blt
  exact Calls.Name_function_global I.ok.kind hg (Calls.loadGlobal_builtin (by rw [I.ok.glob]; exact I.mod.glob.keeps I.bk) hm (by rw [I.ok.blt]; exact h1.keeps I.bk) ((h2 x hn).trans hv) h) hd
theorem pe_glob {x : Str} {v : V} {u : Value} {pos : Pos} (hg : Gl X x) (hm : X.mg x = some u) (r : RelV v u) (hd : (x == ("__debug__" : Str)) = false := by decide) : PE X (.Name x pos) (tC v) :=
  fun _ _ _ H _ I h => ld_glob I hg hm ⟨v, H, I, r, h⟩ hd
theorem pe_bltn {x : Str} {v : V} {u : Value} {pos : Pos} (hg : Gl X x) (hm : X.mg x = none) (hv : bootBuiltins x = some u) (r : RelV v u) (hn : x ≠ "__name__" := by decide) (hd : (x == ("__debug__" : Str)) = false := by decide) : PE X (.Name x pos) (tC v) :=
  fun _ _ _ H _ I h => ld_blt I hg hm hv ⟨v, H, I, r, h⟩ hn hd
variable {a b : Expr} {ta tb : TE} {pos : Pos}
noncomputable def tB (t : TE) : TT := fun σ H Q => t σ H fun x H1 => ∃ c, x = .bl c ∧ Q c H1
theorem pt_val {e : Expr} {t : TE} (h : PE X e t) (he : ∀ whole, isTrue e X.env whole = (do let v ← whole; standAt e.pos; holding [v] (truthy v)) := by intro _; rfl) : PT X e (tB t) := by
  intro pins s σ H Q I hw
  refine isTrue_plain (thn (h pins s σ H _ I hw) fun v s1 ⟨x, H1, I1, r1, q1⟩ => ?_) (he _)
  obtain ⟨d, rfl, q⟩ := q1
  cases r1
  exact wpAny_truthy_bool ⟨H1, I1, q⟩
variable {tA tB' : TT} {rest : List Expr}
noncomputable def tAnd (t u : TT) : TT := fun σ H Q => t σ H fun c H1 => if c = true then u σ H1 Q else Q false H1
noncomputable def tOr (t u : TT) : TT := fun σ H Q => t σ H fun c H1 => if c = true then Q true H1 else u σ H1 Q
noncomputable def tNot (t : TT) : TT := fun σ H Q => t σ H fun c H1 => Q (!c) H1
theorem pw_and1 (ha : PT X a tA) : PW X (.BoolOp .And [a] pos) tA := by
  intro wh pins s σ H Q I h
  refine isTrue_and (thn (ha pins s σ H Q I h) fun c s1 e => ?_)
  cases c with
  | true => exact isTrue_and_nil e
  | false => exact e
theorem pw_or1 (ha : PT X a tA) : PW X (.BoolOp .Or [a] pos) tA := by
  intro wh pins s σ H Q I h
  refine isTrue_or (thn (ha pins s σ H Q I h) fun c s1 e => ?_)
  cases c with
  | false => exact isTrue_or_nil e
  | true => exact e
theorem pw_and (ha : PT X a tA) (hb : PW X (.BoolOp .And (b :: rest) pos) tB') : PW X (.BoolOp .And (a :: b :: rest) pos) (tAnd tA tB') := by
  intro wh pins s σ H Q I h
  refine isTrue_and (thn (ha pins s σ H _ I h) fun c s1 ⟨H1, I1, q1⟩ => ?_)
  cases c with
  | true => exact hb wh pins s1 σ H1 Q I1 q1
  | false => exact ⟨H1, I1, q1⟩
theorem pw_or (ha : PT X a tA) (hb : PW X (.BoolOp .Or (b :: rest) pos) tB') : PW X (.BoolOp .Or (a :: b :: rest) pos) (tOr tA tB') := by
  intro wh pins s σ H Q I h
  refine isTrue_or (thn (ha pins s σ H _ I h) fun c s1 ⟨H1, I1, q1⟩ => ?_)
  cases c with
  | true => exact ⟨H1, I1, q1⟩
  | false => exact hb wh pins s1 σ H1 Q I1 q1
theorem pt_not (ha : PT X a tA) : PT X (.UnaryOp .Not a pos) (tNot tA) := by
  intro pins s σ H Q I h
  exact isTrue_not (ha pins s σ H (fun c H1 => Q (!c) H1) I h)
noncomputable def tIf (t : TT) (ta tb : TE) : TE := fun σ H Q => t σ H fun c H1 => if c = true then ta σ H1 Q else tb σ H1 Q
theorem pe_ifExp {c : Expr} (hc : PT X c tA) (ha : PE X a ta) (hb : PE X b tb) : PE X (.IfExp c a b pos) (tIf tA ta tb) := by
  intro pins s σ H Q I h
  refine wpAny_IfExp (thn (hc pins s σ H _ I h) fun d s1 ⟨H1, I1, q1⟩ => ?_)
  cases d with
  | true => exact ha pins s1 σ H1 Q I1 q1
  | false => exact hb pins s1 σ H1 Q I1 q1
end
end L2
namespace L2
open PySem PySem.Spec PyProof.Rows
noncomputable def SqL (K : PySem.W.Frag) (H : Hp) (a : Addr) (xs : List V) : Prop :=
  Rd H a (.lst xs) ∨
    ∃ (o : Obj) (its : Array Value) (n : Nat), K.lookup a = some o ∧ o.cls = .type "list" ∧ o.dict = none ∧ o.data = .seq its n ∧ its.size ≤ sizeLine ∧ Vals xs its.toList
noncomputable def SqT (K : PySem.W.Frag) (H : Hp) (a : Addr) (xs : List V) : Prop :=
  Rd H a (.tup xs) ∨
    ∃ (o : Obj) (its : Array Value) (n : Nat), K.lookup a = some o ∧ o.cls = .type "tuple" ∧ o.dict = none ∧ o.data = .seq its n ∧ its.size ≤ sizeLine ∧ Vals xs its.toList
noncomputable def absV : Value → Option V
  | .none => some .non
  | .bool b => some (.bl b)
  | .int i _ => some (.int i)
  | .str x _ => some (.str x)
  | .bytes b _ => some (.byt b)
  | .float b _ => some (.flt b)
  | .ref a => some (.ref a)
  | .type n => some (.ty n)
  | _ => none
theorem RelV.abs {x : V} {u : Value} (r : RelV x u) : absV u = some x := by
  cases x with
  | non => cases r; rfl
  | bl _ => cases r; rfl
  | int _ => obtain ⟨t, rfl⟩ := r; rfl
  | str _ => obtain ⟨t, rfl⟩ := r; rfl
  | byt _ => obtain ⟨t, rfl⟩ := r; rfl
  | flt _ => obtain ⟨t, rfl⟩ := r; rfl
  | ref _ => cases r; rfl
  | ty _ => cases r; rfl
theorem RelV.inj {x y : V} {u : Value} (r : RelV x u) (q : RelV y u) : x = y := Option.some.inj (r.abs.symm.trans q.abs)
theorem Vals.inj : ∀ {xs ys : List V} {us : List Value}, Vals xs us → Vals ys us → xs = ys
  | _, _, _, .nil, .nil => rfl
  | _, _, _, .cons r t, .cons r' t' => by rw [r.inj r', Vals.inj t t']
noncomputable section
variable {X : Cx} {pins : List (Addr × Obj)} {σ : St} {H : Hp} {s : Shared} {a : Addr} {xs ys : List V}
theorem SqL.of {K : PySem.W.Frag} (h : H a = some (.lst xs)) : SqL K H a xs := .inl (.inl h)
theorem SqT.of {K : PySem.W.Frag} (h : H a = some (.tup xs)) : SqT K H a xs := .inl (.inl h)
theorem Inv.list (I : Inv X pins σ H s) (h : SqL X.K H a xs) : ∃ its : List Value, Vals xs its ∧ PlainL s.heap a its.toArray ∧ xs.length ≤ sizeLine := by
  rcases h with h | ⟨o, its, n, hk, hc, hd, hs, hz, r⟩
  · obtain ⟨z, its, n, r, e⟩ := h.ok I.hok
    exact ⟨its, r, ⟨_, n, e, rfl, rfl, rfl⟩, z⟩
  · refine ⟨its.toList, r, ⟨o, n, I.kIn a o hk, hc, hd, by simpa using hs⟩, ?_⟩
    have e := r.length
    simp only [Array.length_toList] at e
    omega
theorem Inv.tuple (I : Inv X pins σ H s) (h : SqT X.K H a xs) : ∃ its : List Value, Vals xs its ∧ IsTup s.heap a its.toArray ∧ xs.length ≤ sizeLine := by
  rcases h with h | ⟨o, its, n, hk, hc, hdn, hs, hz, r⟩
  · obtain ⟨z, its, r, p⟩ := h.ok I.hok
    exact ⟨its, r, p.is, z⟩
  · refine ⟨its.toList, r, ⟨o, I.kIn a o hk, hc, n, by simpa using hs⟩, ?_⟩
    have e := r.length
    simp only [Array.length_toList] at e
    omega
theorem Inv.list_inj (I : Inv X pins σ H s) (h : SqL X.K H a xs) (h' : SqL X.K H a ys) : xs = ys := by
  obtain ⟨its, r, ⟨o, n, e, _, _, d⟩, _⟩ := I.list h
  obtain ⟨its', r', ⟨o', n', e', _, _, d'⟩, _⟩ := I.list h'
  rw [e] at e'; cases e'
  rw [d] at d'
  injection d' with d1 _
  have : its = its' := by simpa using congrArg Array.toList d1
  subst this
  exact r.inj r'
theorem Inv.tuple_inj (I : Inv X pins σ H s) (h : SqT X.K H a xs) (h' : SqT X.K H a ys) : xs = ys := by
  obtain ⟨its, r, ⟨o, e, _, n, d⟩, _⟩ := I.tuple h
  obtain ⟨its', r', ⟨o', e', _, n', d'⟩, _⟩ := I.tuple h'
  rw [e] at e'; cases e'
  rw [d] at d'
  injection d' with d1 _
  have : its = its' := by simpa using congrArg Array.toList d1
  subst this
  exact r.inj r'
end
noncomputable abbrev Cx.wish (X : Cx) (E : Value → Shared → Prop) : Cx := { X with xe := E }
noncomputable abbrev Cx.nox (X : Cx) : Cx := X.wish fun _ _ => False
theorem Cx.Ok.wish {X : Cx} (ok : X.Ok) (E : Value → Shared → Prop) : (X.wish E).Ok :=
  ⟨ok.mod, ok.kind, ok.glob, ok.blt, ok.above, ok.inj, ok.has, ok.cab, ok.hd, ok.frames, ok.stk, ok.exf, ok.bs, ok.bsz, ok.noex, ok.exfs, ok.funs, ok.frf⟩
theorem Cx.Ok.unwish {X : Cx} {E : Value → Shared → Prop} (ok : (X.wish E).Ok) : X.Ok :=
  ⟨ok.mod, ok.kind, ok.glob, ok.blt, ok.above, ok.inj, ok.has, ok.cab, ok.hd, ok.frames, ok.stk, ok.exf, ok.bs, ok.bsz, ok.noex, ok.exfs, ok.funs, ok.frf⟩
noncomputable section
variable {X : Cx} {pins : List (Addr × Obj)} {σ : St} {H : Hp} {s : Shared} {E : Value → Shared → Prop}
theorem Inv.wish (I : Inv X pins σ H s) (E : Value → Shared → Prop) : Inv (X.wish E) pins σ H s := ⟨I.ok.wish E, I.os, I.bare, I.base, I.loc, I.cell, I.free, I.freeC, I.pin, I.hok, I.len⟩
theorem Inv.unwish (I : Inv (X.wish E) pins σ H s) : Inv X pins σ H s := ⟨I.ok.unwish, I.os, I.bare, I.base, I.loc, I.cell, I.free, I.freeC, I.pin, I.hok, I.len⟩
theorem SP.unwish {D : Ends} {f : Flow} {s' : Shared} (h : SP (X.wish E) pins D f s') : SP X pins D f s' := by
  cases f with
  | next => obtain ⟨σ', H', I, q⟩ := h; exact ⟨σ', H', I.unwish, q⟩
  | brk => obtain ⟨σ', H', I, q⟩ := h; exact ⟨σ', H', I.unwish, q⟩
  | cont => obtain ⟨σ', H', I, q⟩ := h; exact ⟨σ', H', I.unwish, q⟩
  | ret u => obtain ⟨v, σ', H', I, r, q⟩ := h; exact ⟨v, σ', H', I.unwish, r, q⟩
theorem PE.nox {e : Expr} {t : TE} (h : PE X.nox e t) : PE X e t := fun pins s σ H Q I hw =>
  wpAny_mono (h pins s σ H Q (I.wish _) hw) (fun _ _ ⟨v, H', I', r, q⟩ => ⟨v, H', I'.unwish, r, q⟩) fun _ _ z => False.elim z
theorem PT.nox {e : Expr} {t : TT} (h : PT X.nox e t) : PT X e t := fun pins s σ H Q I hw =>
  wpAny_mono (h pins s σ H Q (I.wish _) hw) (fun _ _ ⟨H', I', q⟩ => ⟨H', I'.unwish, q⟩) fun _ _ z => False.elim z
theorem PSs.nox {st : List Stmt} {t : TS} (h : PSs X.nox st t) : PSs X st t := fun pins s σ H D I hw =>
  wpAny_mono (h pins s σ H D (I.wish _) hw) (fun _ _ q => q.unwish) fun _ _ z => False.elim z
end
noncomputable section
variable {X : Cx} {st : Stmt} {rest : List Stmt} {t u : TS} {e : Expr} {te : TE} {pos : Pos}
noncomputable def tNext : TS := fun D σ H => D.nx σ H
noncomputable def tSeq (t u : TS) : TS := fun D σ H => t { D with nx := u D } σ H
theorem pss_nil : PSs X [] tNext := fun _ _ σ H _ I h => wpAny_execs_nil ⟨σ, H, I, h⟩
theorem pss_cons (h1 : PS X st t) (h2 : PSs X rest u) : PSs X (st :: rest) (tSeq t u) := by
  intro pins s σ H D I h
  refine wpAny_execs_cons (thn (h1 pins s σ H { D with nx := u D } I h) fun f s1 q => ?_)
  cases f with
  | next =>
    obtain ⟨σ', H', I', q⟩ := q
    exact h2 pins s1 σ' H' D I' q
  | ret v => exact q
  | brk => exact q
  | cont => exact q
theorem pss_one (h1 : PS X st t) : PSs X [st] t := by
  intro pins s σ H D I h
  refine wpAny_execs_cons (thn (h1 pins s σ H D I h) fun f s1 q => ?_)
  cases f with
  | next => exact wpAny_execs_nil q
  | ret v => exact q
  | brk => exact q
  | cont => exact q
theorem Inv.quiet {pins : List (Addr × Obj)} {σ : St} {H : Hp} {s : Shared} (I : Inv X pins σ H s) : interactive X.env = false := by simp [interactive, I.ok.kind]
noncomputable def tDrop (te : TE) : TS := fun D σ H => te σ H fun _ H1 => D.nx σ H1
theorem ps_expr (he : PE X e te) (hs : swapsWith e none pos.line X.env = pure false := by rfl) : PS X (.Expr e pos) (tDrop te) := by
  intro pins s σ H D I h
  exact wpAny_Expr_any (thn (he pins s σ H _ I h) fun v s1 ⟨x, H1, I1, r1, q1⟩ => ⟨σ, H1, I1, q1⟩) I.quiet hs
noncomputable def tRet (te : TE) : TS := fun D σ H => te σ H D.rt
theorem ps_ret (he : PE X e te) : PS X (.Return (some e) pos) (tRet te) := by
  intro pins s σ H D I h
  exact wpAny_Return_some (thn (he pins s σ H _ I h) fun v s1 ⟨x, H1, I1, r1, q1⟩ => ⟨x, σ, H1, I1, r1, q1⟩)
noncomputable def tIfS (c : TT) (t u : TS) : TS := fun D σ H => c σ H fun b H1 => if b = true then t D σ H1 else u D σ H1
theorem ps_if {c : Expr} {a b : List Stmt} {tc : TT} (hc : PT X c tc) (ha : PSs X a t) (hb : PSs X b u) : PS X (.If c a b pos) (tIfS tc t u) := by
  intro pins s σ H D I h
  refine wpAny_If (thn (hc pins s σ H _ I h) fun d s1 ⟨H1, I1, q1⟩ => ?_)
  cases d with
  | true => exact ha pins s1 σ H1 D I1 q1
  | false => exact hb pins s1 σ H1 D I1 q1
end
noncomputable abbrev TG := V → St → Hp → (St → Hp → Prop) → Prop
noncomputable abbrev TGs := List V → St → Hp → (St → Hp → Prop) → Prop
noncomputable def PG (X : Cx) (target : Expr) (t : TG) : Prop :=
  ∀ (pins : List (Addr × Obj)) (s : Shared) (σ : St) (H : Hp) (v : V) (u : Value) (Q : St → Hp → Prop), Inv X pins σ H s → RelV v u → t v σ H Q →
    wpAny (model X.prog X.w) X.A (assign target X.env u) (fun _ s' => ∃ σ' H', Inv X pins σ' H' s' ∧ Q σ' H') X.xe s
noncomputable def PGs (X : Cx) (ts : List Expr) (t : TGs) : Prop :=
  ∀ (pins : List (Addr × Obj)) (s : Shared) (σ : St) (H : Hp) (vs : List V) (us : List Value) (Q : St → Hp → Prop), Inv X pins σ H s → Vals vs us → t vs σ H Q →
    wpAny (model X.prog X.w) X.A (assignInOrder ((assignEach ts X.env).map (·.2)) us) (fun _ s' => ∃ σ' H', Inv X pins σ' H' s' ∧ Q σ' H') X.xe s
noncomputable section
variable {X : Cx} {pos : Pos}
noncomputable def gName (i : Nat) : TG := fun v σ H Q => Q (σ.set i (some v)) H
theorem pg_name {i : Nat} {x : Str} (hN : X.N.Nodup) (hi : X.N[i]? = some x) (hx : Loc X.env.scope x) (hf : X.fn x = true ∨ X.env.scope.names.lookup x = some .local := by first | exact .inl rfl | exact .inr rfl | assumption) : PG X (.Name x pos) (gName i) := by
  intro pins s σ H v u Q I r h
  exact wpAny_assign_Name (store_ok I hN hi hx r (fun s' I' => ⟨_, H, I', h⟩) hf)
noncomputable def gNil : TGs := fun vs σ H Q => vs = [] ∧ Q σ H
noncomputable def gCons (t : TG) (u : TGs) : TGs := fun vs σ H Q => ∃ v r, vs = v :: r ∧ t v σ H fun σ' H' => u r σ' H' Q
theorem pgs_nil : PGs X [] gNil := by
  intro pins s σ H vs us Q I r h
  obtain ⟨e, h⟩ := h
  subst e
  cases r
  exact assignInOrder_nil ⟨σ, H, I, h⟩
theorem pgs_cons {e : Expr} {es : List Expr} {t : TG} {u : TGs} (h1 : PG X e t) (h2 : PGs X es u)
    (hs : (assignEach (e :: es) X.env).map (·.2) = assign e X.env :: (assignEach es X.env).map (·.2) := by rfl) : PGs X (e :: es) (gCons t u) := by
  intro pins s σ H vs us Q I r h
  obtain ⟨v, vr, e1, h⟩ := h
  subst e1
  cases r with
  | cons r rr =>
    rw [hs]
    refine assignInOrder_cons (thn (h1 pins s σ H _ _ _ I r h) fun _ s1 ⟨σ1, H1, I1, q1⟩ => ?_)
    exact h2 pins s1 σ1 H1 _ _ Q I1 rr q1
noncomputable def gTup (K : PySem.W.Frag) (n : Nat) (t : TGs) : TG := fun v σ H Q => ∃ a xs, v = .ref a ∧ SqT K H a xs ∧ xs.length = n ∧ t xs σ H Q
theorem pg_tup {es : List Expr} {k : Nat} {t : TGs} {n : Nat} (hc : X.calm = true) (h : PGs X es t)
    (hn : (assignEach es X.env).length = n := by rfl) (hst : (assignEach es X.env).findIdx? (·.1) = none := by rfl) : PG X (.Tuple es k pos) (gTup X.K n t) := by
  intro pins s σ H v u Q I r hw
  obtain ⟨a, xs, e1, hq, hl, hw⟩ := hw
  subst e1
  cases r
  obtain ⟨its, rv, ht, hz⟩ := I.tuple hq
  refine assign_Tuple_tuple (I.ok.hd hc) ht (by simp [hn, ← hl, rv.length]) hst fun h' hx => ?_
  have I1 : Inv X pins σ H { s with heap := h' } := I.kept (t' := s.toks) fun b o e => hx b o (Nat.ne_of_lt (Heap.lt_size e)) e
  exact h pins _ σ H xs _ Q I1 (by simpa using rv) hw
noncomputable def tAsg (te : TE) (g : TG) : TS := fun D σ H => te σ H fun x H1 => g x σ H1 D.nx
theorem ps_set {i : Nat} {x : Str} {e : Expr} {te : TE} {pos' : Pos} (hN : X.N.Nodup) (hi : X.N[i]? = some x) (hx : Loc X.env.scope x) (he : PE X e te) (hs : swapsWith e (some (.Name x pos')) pos.line X.env = pure false := by rfl) (hf : X.fn x = true ∨ X.env.scope.names.lookup x = some .local := by first | exact .inl rfl | exact .inr rfl | assumption) :
    PS X (.Assign [.Name x pos'] e pos) (tAsg te (gName i)) := by
  intro pins s σ H D I h
  refine wpAny_Assign_Name (thn (he pins s σ H _ I h) fun v s1 ⟨y, H1, I1, r1, q1⟩ => ?_) hs
  exact store_ok I1 hN hi hx r1 (fun s2 I2 => ⟨_, H1, I2, q1⟩) hf
end
noncomputable section
variable {X : Cx} {pos : Pos}
end
structure It where
  go : Nat → Hp → Prop
  yld : Nat → Hp → V → Hp → Prop
  stop : Nat → Hp → Prop
noncomputable def FpOk (X : Cx) (pins : List (Addr × Obj)) (H : Hp) (b : Addr) : Prop :=
  H b = none ∧ b ≠ X.env.locals ∧ b ∉ X.fs ∧ (b ∈ X.ex ∨ X.s₀.heap.objs.size ≤ b) ∧ (∀ x c, X.env.cells.lookup x = some c → c ≠ b) ∧ ∀ p ∈ X.pn ++ pins, p.1 ≠ b
theorem Inv.fpOk {X : Cx} {pins : List (Addr × Obj)} {σ : St} {H H' : Hp} {s : Shared} {b : Addr} (I : Inv X pins σ H s) (hb : s.heap.objs.size ≤ b) (hn : H' b = none) : FpOk X pins H' b := by
  refine ⟨hn, Nat.ne_of_gt (Nat.lt_of_lt_of_le I.lt hb), I.nofs hb, .inr (Nat.le_trans I.sz hb), fun x c e z => ?_, fun p hp z => ?_⟩
  · obtain ⟨v, q⟩ := I.cell x c e
    exact absurd (Nat.lt_of_lt_of_le q.lt (by rw [z]; exact hb)) (Nat.lt_irrefl _)
  · exact absurd (Nat.lt_of_lt_of_le (Heap.lt_size (I.pin p hp).1) (by rw [z]; exact hb)) (Nat.lt_irrefl _)
structure Turn (P : Program) (w : World) (K : PySem.W.Frag) (tg : Expr) (J : It) (fp : List Addr) (it : Addr) (tn : Nat → Heap → Prop) : Prop where
  mem : it ∈ fp
  obj : ∀ i h, tn i h → ∀ b ∈ fp, ∃ o, h.get? b = some o ∧ ∀ v, o.data ≠ .cell v
  keep : ∀ i h h', tn i h → (∀ b ∈ fp, ∀ o, h.get? b = some o → h'.get? b = some o) → tn i h'
  item : ∀ (X : Cx), X.prog = P → X.w = w → X.K = K → X.calm = true → ∀ (i : Nat) (pins : List (Addr × Obj)) (s : Shared) (σ : St) (H : Hp) (E : Value → Shared → Prop), Inv X pins σ H s → (∀ b ∈ fp, FpOk X pins H b) → tn i s.heap → J.go i H →
    wpAny (model P w) X.A (pyNext (.ref it)) (fun r s1 => ∃ u, r = some u ∧
      wpAny (model P w) X.A (letOwnedTupleGo tg (.ref it) u) (fun _ s2 => ∃ x H', Inv X pins σ H' s2 ∧ RelV x u ∧ J.yld i H x H' ∧ tn (i + 1) s2.heap ∧ ∀ b ∈ fp, H' b = none) E s1) E s
  done : ∀ (X : Cx), X.prog = P → X.w = w → X.K = K → X.calm = true → ∀ (i : Nat) (pins : List (Addr × Obj)) (s : Shared) (σ : St) (H : Hp) (E : Value → Shared → Prop), Inv X pins σ H s → (∀ b ∈ fp, FpOk X pins H b) → tn i s.heap → J.stop i H →
    wpAny (model P w) X.A (pyNext (.ref it)) (fun r s1 => r = none ∧ Inv X pins σ H s1) E s
  self : ∀ (A : Around) (i : Nat) (s : Shared) (Q : Value → Shared → Prop) (E : Value → Shared → Prop), tn i s.heap → Q (.ref it) s → wpAny (model P w) A (pyIter (.ref it)) Q E s
noncomputable abbrev TI := St → Hp → (It → Hp → Prop) → Prop
noncomputable def PIE (X : Cx) (pins : List (Addr × Obj)) (σ : St) (tg : Expr) (R : It → Hp → Prop) (itv : Value) (s2 : Shared) : Prop :=
  ∃ (it : Addr) (fp : List Addr) (tn : Nat → Heap → Prop) (J : It) (H' : Hp), itv = .ref it ∧ Inv X pins σ H' s2 ∧ Turn X.prog X.w X.K tg J fp it tn ∧ tn 0 s2.heap ∧ (∀ b ∈ fp, FpOk X pins H' b) ∧ R J H'
noncomputable def PI (X : Cx) (tg iter : Expr) (wi : TI) : Prop :=
  ∀ (pins : List (Addr × Obj)) (s : Shared) (σ : St) (H : Hp) (R : It → Hp → Prop), Inv X pins σ H s → wi σ H R →
    wpAny (model X.prog X.w) X.A (eval iter X.env) (fun v s1 => wpAny (model X.prog X.w) X.A (pyIter v) (PIE X pins σ tg R) X.xe s1) X.xe s
theorem go_of {M : Model} {A : Around} {E : Value → Shared → Prop} {s : Shared} {tg : Expr} {it : Addr} {u : Value} {o : Obj} {n : String} {vs : Array Value} {Q : Unit → Shared → Prop} (ho : s.heap.get? it = some o) (hc : o.cls = .type n) (hd : o.data = .fields vs)
    (hn : ["enumerate", "zip", "dict_itemiterator", "dict_reverseitemiterator", "odict_iterator", "itertools.zip_longest", "itertools.pairwise"].contains n = false) (hQ : Q () s) : wpAny M A (letOwnedTupleGo tg (.ref it) u) Q E s := by
  unfold letOwnedTupleGo
  cases tg <;> first
    | exact wpAny_pure hQ
    | (cases u <;> first
        | exact wpAny_pure hQ
        | (refine wpAny_bind (wpAny_load ho ?_)
           rw [hc, hd]
           show wpAny M A (if (["enumerate", "zip", "dict_itemiterator", "dict_reverseitemiterator", "odict_iterator", "itertools.zip_longest", "itertools.pairwise"].contains n && vs[0]? == some (rawInt _)) = true then _ else _) Q E s
           rw [if_neg (by intro h; rw [hn, Bool.false_and] at h; cases h)]
           exact wpAny_pure hQ))
noncomputable def Itl (K : PySem.W.Frag) (a : Addr) : It :=
  ⟨fun i H => ∃ xs x, SqL K H a xs ∧ xs[i]? = some x, fun i H x H' => H' = H ∧ ∀ xs, SqL K H a xs → xs[i]? = some x, fun i H => ∃ xs, SqL K H a xs ∧ xs.length ≤ i⟩
noncomputable def Itt (K : PySem.W.Frag) (a : Addr) : It :=
  ⟨fun i H => ∃ xs x, SqT K H a xs ∧ xs[i]? = some x, fun i H x H' => H' = H ∧ ∀ xs, SqT K H a xs → xs[i]? = some x, fun i H => ∃ xs, SqT K H a xs ∧ xs.length ≤ i⟩
noncomputable def Itr (lo : Int) (n : Nat) : It := ⟨fun i _ => i < n, fun i H x H' => H' = H ∧ x = .int (lo + i), fun i _ => n ≤ i⟩
theorem turn_list {P : Program} {w : World} {K : PySem.W.Frag} {tg : Expr} (a it : Addr) : Turn P w K tg (Itl K a) [it] it (fun i h => h.IsListIter it a i) where
  mem := by simp
  obj := fun i h st b hb => by
    have e : b = it := by simpa using hb
    subst e
    obtain ⟨o, e, c, d⟩ := st
    exact ⟨o, e, fun v z => by rw [d] at z; cases z⟩
  keep := fun i h h' st k => st.at fun o e => k it (by simp) o e
  item := by
    intro X hP hw hK hc i pins s σ H E I hf st hg
    subst hP hw hK
    obtain ⟨xs, x, hq, hx⟩ := hg
    obtain ⟨its, rv, p, hz⟩ := I.list hq
    obtain ⟨u, hu, ru⟩ := rv.get hx
    obtain ⟨f0, f1, f2, f3, f4, f5⟩ := hf it (by simp)
    refine wpAny_pyNext_list_item st p.isList (x := u) (by simpa using hu) fun h' st' sb => ?_
    have I1 : Inv X pins σ H { s with heap := h' } := I.turned (t' := s.toks) (fun b o hb e => (sb.2 b hb).trans e) f0 f1 f3 f4 f5
    obtain ⟨o, e, c, d⟩ := id st'
    exact ⟨u, rfl, go_of (s := { s with heap := h' }) e c d (by decide) ⟨x, H, I1, ru, ⟨rfl, fun ys hy => by rw [I.list_inj hy hq]; exact hx⟩, st', fun b hb => (hf b hb).1⟩⟩
  done := by
    intro X hP hw hK hc i pins s σ H E I hf st hg
    subst hP hw hK
    obtain ⟨xs, hq, hx⟩ := hg
    obtain ⟨its, rv, p, hz⟩ := I.list hq
    obtain ⟨f0, f1, f2, f3, f4, f5⟩ := hf it (by simp)
    have hl := rv.length
    exact wpAny_pyNext_list_end (I.ok.hd hc) st p.isList (by simp; omega) fun h' eb => ⟨rfl, I.turned (t' := s.toks) (fun b o hb e => eb b o hb e) f0 f1 f3 f4 f5⟩
  self := fun _ _ _ _ _ st h => wpAny_pyIter_listiter st h
theorem turn_tuple {P : Program} {w : World} {K : PySem.W.Frag} {tg : Expr} (a it : Addr) : Turn P w K tg (Itt K a) [it] it (fun i h => h.IsTupleIter it a i) where
  mem := by simp
  obj := fun i h st b hb => by
    have e : b = it := by simpa using hb
    subst e
    obtain ⟨o, e, c, d⟩ := st
    exact ⟨o, e, fun v z => by rw [d] at z; cases z⟩
  keep := fun i h h' st k => st.at fun o e => k it (by simp) o e
  item := by
    intro X hP hw hK hc i pins s σ H E I hf st hg
    subst hP hw hK
    obtain ⟨xs, x, hq, hx⟩ := hg
    obtain ⟨its, rv, p, hz⟩ := I.tuple hq
    obtain ⟨u, hu, ru⟩ := rv.get hx
    obtain ⟨f0, f1, f2, f3, f4, f5⟩ := hf it (by simp)
    refine wpAny_pyNext_tuple_item st (show s.heap.IsTuple a its.toArray from p) (x := u) (by simpa using hu) fun h' st' sb => ?_
    have I1 : Inv X pins σ H { s with heap := h' } := I.turned (t' := s.toks) (fun b o hb e => (sb.2 b hb).trans e) f0 f1 f3 f4 f5
    obtain ⟨o, e, c, d⟩ := id st'
    exact ⟨u, rfl, go_of (s := { s with heap := h' }) e c d (by decide) ⟨x, H, I1, ru, ⟨rfl, fun ys hy => by rw [I.tuple_inj hy hq]; exact hx⟩, st', fun b hb => (hf b hb).1⟩⟩
  done := by
    intro X hP hw hK hc i pins s σ H E I hf st hg
    subst hP hw hK
    obtain ⟨xs, hq, hx⟩ := hg
    obtain ⟨its, rv, p, hz⟩ := I.tuple hq
    obtain ⟨f0, f1, f2, f3, f4, f5⟩ := hf it (by simp)
    have hl := rv.length
    exact wpAny_pyNext_tuple_end (I.ok.hd hc) st (show s.heap.IsTuple a its.toArray from p) (by simp; omega) fun h' eb => ⟨rfl, I.turned (t' := s.toks) (fun b o hb e => eb b o hb e) f0 f1 f3 f4 f5⟩
  self := fun _ _ _ _ _ st h => wpAny_pyIter_tupleiter st h
theorem turn_range {P : Program} {w : World} {K : PySem.W.Frag} {tg : Expr} (it : Addr) (lo : Int) (n : Nat) : Turn P w K tg (Itr lo n) [it] it (fun i h => IsRangeIter h it (lo + (i : Nat) * 1) ((n : Int) - (i : Nat)) 1) where
  mem := by simp
  obj := fun i h st b hb => by
    have e : b = it := by simpa using hb
    subst e
    exact ⟨_, st, fun v z => by
      have z' : Data.fields _ = Data.cell v := z
      cases z'⟩
  keep := fun i h h' st k => k it (by simp) _ st
  item := by
    intro X hP hw hK hc i pins s σ H E I hf st hg
    subst hP hw hK
    obtain ⟨f0, f1, f2, f3, f4, f5⟩ := hf it (by simp)
    have W := Walks.range (prog := X.prog) (w := X.w) (I.ok.hd hc) it lo 1 n
    refine W.item i s _ _ hg st fun v h' tk hv st' kk => ?_
    obtain ⟨t, rfl⟩ := hv
    have I1 : Inv X pins σ H { s with heap := h', toks := tk } := I.turned (fun b o hb e => kk b o (by simpa using hb) e) f0 f1 f3 f4 f5
    refine ⟨_, rfl, go_of (s := { s with heap := h', toks := tk }) (n := "range_iterator") st' rfl rfl (by decide) ⟨.int (lo + i), H, I1, ⟨t, ?_⟩, ⟨rfl, rfl⟩, st', fun b hb => (hf b hb).1⟩⟩
    rw [Int.mul_one]
  done := by
    intro X hP hw hK hc i pins s σ H E I hf st hg
    subst hP hw hK
    obtain ⟨f0, f1, f2, f3, f4, f5⟩ := hf it (by simp)
    exact wpAny_pyNext_range_end (I.ok.hd hc) st (by have : n ≤ i := hg; omega) fun h' eb => ⟨rfl, I.turned (t' := s.toks) (fun b o hb e => eb b o hb e) f0 f1 f3 f4 f5⟩
  self := fun _ _ _ _ _ st h => wpAny_pyIter_rangeiter st h
end L2
namespace L2
open PySem PySem.Spec PyProof.Rows
noncomputable section
variable {X : Cx} {tg : Expr}
theorem range_it {pins : List (Addr × Obj)} {σ : St} {H : Hp} {s : Shared} {R : It → Hp → Prop} {E : Value → Shared → Prop} {lo hi : Int} {t u v : Tok} {tk : Nat} (I : Inv X pins σ H s) (h1 : -(2 ^ 62) ≤ lo) (h2 : lo < 2 ^ 62) (h3 : -(2 ^ 62) ≤ hi) (h4 : hi < 2 ^ 62)
    (q : R (Itr lo (hi - lo).toNat) H) : wpAny (model X.prog X.w) X.A (pyIter (.ref s.heap.objs.size)) (PIE X pins σ tg R) E { s with heap := s.heap.push { cls := .type "range", data := .fields #[.int lo t, .int hi u, .int 1 v] }, toks := tk } := by
  refine wpAny_pyIter_range (IsRange.new ..) (small_one h1 h2 h3 h4) ?_
  have I1 : Inv X pins σ H { s with heap := s.heap.push { cls := .type "range", data := .fields #[.int lo t, .int hi u, .int 1 v] }, toks := tk } := I.kept fun b o e => Heap.get?_push_of_some _ e
  refine ⟨(s.heap.push { cls := .type "range", data := .fields #[.int lo t, .int hi u, .int 1 v] }).objs.size, [(s.heap.push { cls := .type "range", data := .fields #[.int lo t, .int hi u, .int 1 v] }).objs.size], _, _, H, rfl,
    I1.kept (t' := tk) fun b o e => Heap.get?_push_of_some _ e, turn_range _ lo (hi - lo).toNat, ?_, fun b hb => ?_, q⟩
  · have e1 : lo + ((0 : Nat) : Int) * 1 = lo := by simp
    have e2 : (((hi - lo).toNat : Nat) : Int) - ((0 : Nat) : Int) = Builtin.Range.rangeSize lo hi 1 := by rw [rangeSize_one]; split <;> omega
    show IsRangeIter _ _ (lo + ((0 : Nat) : Int) * 1) ((((hi - lo).toNat : Nat) : Int) - ((0 : Nat) : Int)) 1
    rw [e1, e2]
    exact Heap.get?_push_size _ rfl
  · have e : b = (s.heap.push { cls := .type "range", data := .fields #[.int lo t, .int hi u, .int 1 v] }).objs.size := by simpa using hb
    subst e
    exact I1.fpOk (Nat.le_refl _) (I1.hok.fresh (Nat.le_refl _))
noncomputable def iRng1 (ta : TA) : TI := fun σ H R => ta σ H fun vs H1 => ∃ j : Int, vs = [.int j] ∧ -(2 ^ 62) ≤ j ∧ j < 2 ^ 62 ∧ R (Itr 0 j.toNat) H1
theorem pi_range1 {a : Expr} {ta : TA} {p pos : Pos} (hg : Gl X "range") (hm : X.mg "range" = none) (ha : PA X [a] ta) (hs : starEach [a] X.env = [(false, eval a X.env)] := by rfl) : PI X tg (.Call (.Name "range" p) [a] [] pos) (iRng1 ta) := by
  intro pins s σ H R I h
  refine Call_ (ld_blt I hg hm boot_range (PyProof.Rows.callWith_type1 (thn (ha pos pins s σ H _ I h) fun us s1 ⟨vs, H1, I1, r1, q1⟩ => ?_) hs rfl))
  obtain ⟨j, e, q1, q2, q⟩ := q1
  subst e
  cases r1 with
  | cons r rr =>
    cases rr
    obtain ⟨t, rfl⟩ := r
    exact call_range_1 (range_it I1 (by omega) (by omega) q1 q2 (by simpa using q))
noncomputable def tFor (wi : TI) (g : TG) (tb : TS) : TS := fun D σ H => wi σ H fun J H1 => ∃ W : Nat → Nat → St → Hp → Prop, (∃ m, W 0 m σ H1) ∧ ∀ i m σ H, W i m σ H →
  (J.stop i H ∧ D.nx σ H) ∨ (J.go i H ∧ ∃ N : St → Hp → Prop, (∀ σ' H', N σ' H' → ∃ m', m' < m ∧ W (i + 1) m' σ' H') ∧ ∀ x H', J.yld i H x H' → g x σ H' fun σ2 H2 => tb { D with nx := N, ct := N, bk := D.nx } σ2 H2)
noncomputable def pinsAt (fp : List Addr) (h : Heap) : List (Addr × Obj) := fp.filterMap fun b => (h.get? b).map fun o => (b, o)
theorem mem_pinsAt {fp : List Addr} {h : Heap} {b : Addr} {o : Obj} (hb : b ∈ fp) (e : h.get? b = some o) : (b, o) ∈ pinsAt fp h := List.mem_filterMap.mpr ⟨b, hb, by rw [e]; rfl⟩
theorem of_pinsAt {fp : List Addr} {h : Heap} {p : Addr × Obj} (hp : p ∈ pinsAt fp h) : p.1 ∈ fp ∧ h.get? p.1 = some p.2 := by
  obtain ⟨b, hb, e⟩ := List.mem_filterMap.mp hp
  cases q : h.get? b with
  | none => rw [q] at e; cases e
  | some o =>
    rw [q] at e
    have e' : (b, o) = p := Option.some.inj e
    subst e'
    exact ⟨hb, q⟩
theorem Inv.pinned {pins : List (Addr × Obj)} {σ : St} {H : Hp} {s : Shared} {fp : List Addr} (I : Inv X pins σ H s) (hf : ∀ b ∈ fp, FpOk X pins H b) (ho : ∀ b ∈ fp, ∃ o, s.heap.get? b = some o ∧ ∀ v, o.data ≠ .cell v) : Inv X (pins ++ pinsAt fp s.heap) σ H s :=
  I.pins_of fun p hp => (List.mem_append.mp hp).elim (fun z => I.pin p (List.mem_append_right _ z)) fun z => by
    obtain ⟨hb, e⟩ := of_pinsAt z
    obtain ⟨f0, f1, f2, _⟩ := hf p.1 hb
    obtain ⟨o, e', d⟩ := ho p.1 hb
    rw [e] at e'; cases e'
    exact ⟨e, f0, f1, f2, d⟩
theorem Inv.unpinned {pins pl : List (Addr × Obj)} {σ : St} {H : Hp} {s : Shared} (I : Inv X (pins ++ pl) σ H s) : Inv X pins σ H s := I.pins_of fun p hp => I.pin p (List.mem_append_right _ (List.mem_append_left _ hp))
theorem ps_for {iter : Expr} {body : List Stmt} {wi : TI} {g : TG} {tb : TS} {pos : Pos} (hp : PassesOwn (model X.prog X.w) X.A X.env X.xe) (hc : X.calm = true) (hi : PI X tg iter wi) (hg : PG X tg g) (hb : PSs X body tb)
    (hs : ∀ x, foldedSetIterable iter X.env x = pure x := by intro _; rfl) : PS X (.For tg iter body [] pos) (tFor wi g tb) := by
  intro pins s σ H D I h
  refine wpAny_For (thn (hi pins s σ H _ I h) fun v s1 h1 => thn h1 fun itv s2 h2 => ?_) hs
  obtain ⟨it, fp, tn, J, H2, e, I2, T, st2, f2, W, ⟨m0, w0⟩, turn⟩ := h2
  subst e
  have stat : ∀ {H' : Hp}, (∀ b ∈ fp, H' b = none) → ∀ b ∈ fp, FpOk X pins H' b := fun hn b hb => ⟨hn b hb, (f2 b hb).2⟩
  refine codeAny_forLoop_any (fun n s' => ∃ i σ' H', Inv X pins σ' H' s' ∧ tn i s'.heap ∧ (∀ b ∈ fp, H' b = none) ∧ W i n σ' H') ?_ m0 ⟨0, σ, H2, I2, st2, fun b hb => (f2 b hb).1, w0⟩
  rintro n s3 ⟨i, σ3, H3, I3, st3, fr3, w3⟩
  rcases turn i n σ3 H3 w3 with ⟨stop, qn⟩ | ⟨go, N, hN, step⟩
  · refine wpAny_passesOwn hp (thn (T.done X rfl rfl rfl hc i pins s3 σ3 H3 X.xe I3 (stat fr3) st3 stop) fun r s4 ⟨hr, I4⟩ => ?_)
    subst hr
    exact wpAny_execs_nil ⟨σ3, H3, I4, qn⟩
  · refine wpAny_passesOwn hp (thn (T.item X rfl rfl rfl hc i pins s3 σ3 H3 X.xe I3 (stat fr3) st3 go) fun r s4 ⟨u, hr, h4⟩ => ?_)
    subst hr
    refine wpAny_passesOwn hp (thn h4 fun _ s5 ⟨x, H5, I5, r5, y5, st5, fr5⟩ => ?_)
    have I5' := I5.pinned (stat fr5) (T.obj _ _ st5)
    refine wpAny_passesOwn hp (thn (hg _ s5 σ3 H5 x u _ I5' r5 (step x H5 y5)) fun _ s6 ⟨σ6, H6, I6, q6⟩ => ?_)
    refine wpAny_passesOwn hp (thn (hb _ s6 σ6 H6 _ I6 q6) fun f s7 q7 => ?_)
    have again : ∀ {σ7 : St} {H7 : Hp}, Inv X (pins ++ pinsAt fp s5.heap) σ7 H7 s7 → N σ7 H7 → ∃ m, m < n ∧ ∃ i σ' H', Inv X pins σ' H' s7 ∧ tn i s7.heap ∧ (∀ b ∈ fp, H' b = none) ∧ W i m σ' H' := fun {σ7 H7} I7 n7 => by
      obtain ⟨m', hm, w7⟩ := hN σ7 H7 n7
      refine ⟨m', hm, i + 1, σ7, H7, I7.unpinned, T.keep _ _ _ st5 fun b hb o e => (I7.pin (b, o) (List.mem_append_right _ (List.mem_append_right _ (mem_pinsAt hb e)))).1, fun b hb => ?_, w7⟩
      obtain ⟨o, e, d⟩ := T.obj _ _ st5 b hb
      exact (I7.pin (b, o) (List.mem_append_right _ (List.mem_append_right _ (mem_pinsAt hb e)))).2.1
    cases f with
    | next => obtain ⟨σ7, H7, I7, n7⟩ := q7; exact again I7 n7
    | cont => obtain ⟨σ7, H7, I7, n7⟩ := q7; exact again I7 n7
    | brk => obtain ⟨σ7, H7, I7, q7⟩ := q7; exact ⟨σ7, H7, I7.unpinned, q7⟩
    | ret v => obtain ⟨x7, σ7, H7, I7, r7, q7⟩ := q7; exact ⟨x7, σ7, H7, I7.unpinned, r7, q7⟩
end
end L2
namespace L2
open PySem PySem.Spec PyProof.Rows
noncomputable abbrev R2 := V → V → Hp → VK → Prop
noncomputable def OpR (X : Cx) (f : Value → Value → Sem Value) (r : R2) : Prop :=
  ∀ (pins : List (Addr × Obj)) (s : Shared) (σ : St) (H : Hp) (x y : V) (v u : Value) (Q : VK), Inv X pins σ H s → RelV x v → RelV y u → r x y H Q →
    wpAny (model X.prog X.w) X.A (f v u) (EP X pins σ Q) X.xe s
noncomputable def UnR (X : Cx) (f : Value → Sem Value) (r : V → Hp → VK → Prop) : Prop :=
  ∀ (pins : List (Addr × Obj)) (s : Shared) (σ : St) (H : Hp) (x : V) (v : Value) (Q : VK), Inv X pins σ H s → RelV x v → r x H Q →
    wpAny (model X.prog X.w) X.A (f v) (EP X pins σ Q) X.xe s
noncomputable def CallR (X : Cx) (f : Value) (r : List V → Hp → VK → Prop) : Prop :=
  ∀ (pins : List (Addr × Obj)) (s : Shared) (σ : St) (H : Hp) (xs : List V) (us : List Value) (Q : VK), Inv X pins σ H s → Vals xs us → r xs H Q →
    wpAny (model X.prog X.w) X.A (call f us) (EP X pins σ Q) X.xe s
noncomputable def tOp (r : R2) (ta tb : TE) : TE := fun σ H Q => ta σ H fun x H1 => tb σ H1 fun y H2 => r x y H2 Q
noncomputable def tUn (r : V → Hp → VK → Prop) (ta : TE) : TE := fun σ H Q => ta σ H fun x H1 => r x H1 Q
noncomputable def rI (C : Int → Int → Prop) (g : Int → Int → V) : R2 := fun x y H Q => ∃ i j, x = .int i ∧ y = .int j ∧ C i j ∧ Q (g i j) H
noncomputable def rI0 (g : Int → Int → V) : R2 := fun x y H Q => ∃ i j, x = .int i ∧ y = .int j ∧ Q (g i j) H
noncomputable def rU (g : Int → V) : V → Hp → VK → Prop := fun x H Q => ∃ i, x = .int i ∧ Q (g i) H
noncomputable section
variable {X : Cx} {a b c : Expr} {ta tb tc : TE} {pos : Pos}
theorem binT (ha : PE X a ta) (hb : PE X b tb) {pins : List (Addr × Obj)} {s : Shared} {σ : St} {H : Hp} {R : V → V → Hp → Prop} (I : Inv X pins σ H s)
    (h : ta σ H fun x H1 => tb σ H1 fun y H2 => R x y H2) {Q : Value → Shared → Prop} {f : Value → Value → Sem Value}
    (hf : ∀ v u s2 x y H2, Inv X pins σ H2 s2 → RelV x v → RelV y u → R x y H2 → wpAny (model X.prog X.w) X.A (f v u) Q X.xe s2) :
    wpAny (model X.prog X.w) X.A (eval a X.env) (fun v s₁ => wpAny (model X.prog X.w) X.A (eval b X.env) (fun u s₂ => wpAny (model X.prog X.w) X.A (f v u) Q X.xe s₂) X.xe s₁) X.xe s := by
  refine thn (ha pins s σ H _ I h) fun v s1 ⟨x, H1, I1, r1, q1⟩ => ?_
  refine thn (hb pins s1 σ H1 _ I1 q1) fun u s2 ⟨y, H2, I2, r2, q2⟩ => ?_
  exact hf v u s2 x y H2 I2 r1 r2 q2
theorem pe_op {op : Operator} {r : R2} (ho : OpR X (binaryOp op) r) (ha : PE X a ta) (hb : PE X b tb) : PE X (.BinOp a op b pos) (tOp r ta tb) := by
  intro pins s σ H Q I h
  exact wpAny_BinOp (binT ha hb I h fun v u s2 x y H2 I2 rx ry q => ho pins s2 σ H2 x y v u Q I2 rx ry q)
theorem pe_un {op : UnaryOp} {r : V → Hp → VK → Prop} (ho : UnR X (unaryOp op) r) (ha : PE X a ta) : PE X (.UnaryOp op a pos) (tUn r ta) := by
  intro pins s σ H Q I h
  exact UnaryOp_ (thn (ha pins s σ H _ I h) fun v s1 ⟨x, H1, I1, r1, q1⟩ => ho pins s1 σ H1 x v Q I1 r1 q1)
theorem opI {f : Value → Value → Sem Value} {C : Int → Int → Prop} {g : Int → Int → Int}
    (rule : ∀ (i j : Int) (t u : Tok) (s : Shared) (Q : Value → Shared → Prop) (E : Value → Shared → Prop), C i j → Q (.int (g i j) s.toks) { s with toks := s.toks + 1 } → wpAny (model X.prog X.w) X.A (f (.int i t) (.int j u)) Q E s) :
    OpR X f (rI C fun i j => .int (g i j)) := by
  intro pins s σ H x y v u Q I rx ry h
  obtain ⟨i, j, rfl, rfl, hc, q⟩ := h
  obtain ⟨t, rfl⟩ := rx
  obtain ⟨t', rfl⟩ := ry
  exact rule i j t t' s _ _ hc ⟨.int (g i j), H, I.tok _, ⟨_, rfl⟩, q⟩
theorem opI0 {f : Value → Value → Sem Value} {g : Int → Int → Int}
    (rule : ∀ (i j : Int) (t u : Tok) (s : Shared) (Q : Value → Shared → Prop) (E : Value → Shared → Prop), Q (.int (g i j) s.toks) { s with toks := s.toks + 1 } → wpAny (model X.prog X.w) X.A (f (.int i t) (.int j u)) Q E s) :
    OpR X f (rI0 fun i j => .int (g i j)) := by
  intro pins s σ H x y v u Q I rx ry h
  obtain ⟨i, j, rfl, rfl, q⟩ := h
  obtain ⟨t, rfl⟩ := rx
  obtain ⟨t', rfl⟩ := ry
  exact rule i j t t' s _ _ ⟨.int (g i j), H, I.tok _, ⟨_, rfl⟩, q⟩
theorem opB0 {f : Value → Value → Sem Value} {g : Int → Int → Bool}
    (rule : ∀ (i j : Int) (t u : Tok) (s : Shared) (Q : Value → Shared → Prop) (E : Value → Shared → Prop), Q (.bool (g i j)) s → wpAny (model X.prog X.w) X.A (f (.int i t) (.int j u)) Q E s) :
    OpR X f (rI0 fun i j => .bl (g i j)) := by
  intro pins s σ H x y v u Q I rx ry h
  obtain ⟨i, j, rfl, rfl, q⟩ := h
  obtain ⟨t, rfl⟩ := rx
  obtain ⟨t', rfl⟩ := ry
  exact rule i j t t' s _ _ ⟨.bl (g i j), H, I, rfl, q⟩
noncomputable def CPow (i j : Int) : Prop := 0 ≤ j ∧ j ≤ 1000000 ∧ i.natAbs < 2 ^ 64
noncomputable def CMul (i j : Int) : Prop := (-(2 ^ 64) < i ∧ i < 2 ^ 64) ∨ (-(2 ^ 64) < j ∧ j < 2 ^ 64)
theorem CMul.ok {i j : Int} (h : CMul i j) : IntMulOk i j := by
  rcases h with ⟨h1, h2⟩ | ⟨h1, h2⟩
  · exact .of_left (intBits_le_64 h1 h2)
  · exact .of_right (intBits_le_64 h1 h2)
theorem op_add : OpR X (binaryOp .Add) (rI0 fun i j => .int (i + j)) := opI0 fun _ _ _ _ _ _ _ q => add_int q
theorem op_sub : OpR X (binaryOp .Sub) (rI0 fun i j => .int (i - j)) := opI0 fun _ _ _ _ _ _ _ q => sub_int q
theorem op_mul : OpR X (binaryOp .Mult) (rI CMul fun i j => .int (i * j)) := opI fun _ _ _ _ _ _ _ hc q => mul_int q hc.ok
theorem op_mod : OpR X (binaryOp .Mod) (rI (fun _ j => 0 < j) fun i j => .int (i % j)) := opI fun i j _ _ _ _ _ hc q => by
  have h1 : (0 : Int) < j := hc
  exact mod_int' (by omega) (by rw [Int.fmod_eq_emod_of_nonneg i (by omega)]; exact q)
theorem op_pow : OpR X (binaryOp .Pow) (rI CPow fun i j => .int (i ^ j.toNat)) := opI fun _ _ _ _ _ _ _ hc q => pow_int_small hc.1 hc.2.1 hc.2.2 q
theorem unI {f : Value → Sem Value} {g : Int → Int}
    (rule : ∀ (i : Int) (t : Tok) (s : Shared) (Q : Value → Shared → Prop) (E : Value → Shared → Prop), Q (.int (g i) s.toks) { s with toks := s.toks + 1 } → wpAny (model X.prog X.w) X.A (f (.int i t)) Q E s) :
    UnR X f (rU fun i => .int (g i)) := by
  intro pins s σ H x v Q I rx h
  obtain ⟨i, rfl, q⟩ := h
  obtain ⟨t, rfl⟩ := rx
  exact rule i t s _ _ ⟨.int (g i), H, I.tok _, ⟨_, rfl⟩, q⟩
theorem un_neg : UnR X (unaryOp .USub) (rU fun i => .int (-i)) := unI fun _ _ _ _ _ q => neg_int q
end
noncomputable section
variable {X : Cx} {a b c : Expr} {ta tb tc : TE} {pos : Pos}
theorem op_lt : OpR X (compareOp .Lt) (rI0 fun i j => .bl (decide (i < j))) := opB0 fun _ _ _ _ _ _ _ q => lt_int q
theorem op_gt : OpR X (compareOp .Gt) (rI0 fun i j => .bl (decide (j < i))) := opB0 fun _ _ _ _ _ _ _ q => gt_int q
theorem OpR.or {f : Value → Value → Sem Value} {r r' : R2} (h : OpR X f r) (h' : OpR X f r') : OpR X f (fun x y H Q => r x y H Q ∨ r' x y H Q) := by
  intro pins s σ H x y v u Q I rx ry q
  rcases q with q | q
  · exact h pins s σ H x y v u Q I rx ry q
  · exact h' pins s σ H x y v u Q I rx ry q
theorem nomark (b : Expr) {op : CmpOp} (h : op ≠ .In := by decide) (h2 : op ≠ .NotIn := by decide) : behindInMarks op b = false := by
  have e1 : (op == CmpOp.In) = false := by cases op <;> first | rfl | exact absurd rfl h
  have e2 : (op == CmpOp.NotIn) = false := by cases op <;> first | rfl | exact absurd rfl h2
  cases b <;> simp [behindInMarks, e1, e2]
theorem pe_cmpR {op : CmpOp} {r : R2} (ho : OpR X (compareOp op) r) (ha : PE X a ta) (hb : PE X b tb) (hm : behindInMarks op b = false) : PE X (.Compare a [op] [b] pos) (tOp r ta tb) := by
  intro pins s σ H Q I h
  exact wpAny_Compare1 (binT ha hb I h fun v u s2 x y H2 I2 rx ry q => ho pins s2 σ H2 x y v u Q I2 rx ry q) hm
noncomputable def tTest (t : TE) : TT := fun σ H Q => t σ H fun x H' => ∃ k, x = .bl k ∧ Q k H'
theorem pt_cmpR {op : CmpOp} {r : R2} (ho : OpR X (compareOp op) r) (ha : PE X a ta) (hb : PE X b tb) (hm : behindInMarks op b = false) : PT X (.Compare a [op] [b] pos) (tTest (tOp r ta tb)) := by
  intro pins s σ H Q I h
  refine wpAny_isTrue_Compare1 (thn (ha pins s σ H _ I h) fun v s1 ⟨x, H1, I1, r1, q1⟩ => thn (hb pins s1 σ H1 _ I1 q1) fun u s2 ⟨y, H2, I2, r2, q2⟩ =>
    thn (ho pins s2 σ H2 x y v u _ I2 r1 r2 q2) fun c s3 ⟨z, H3, I3, r3, k, e, q3⟩ => ?_) hm
  subst e
  cases r3
  exact wpAny_truthy_bool ⟨H3, I3, q3⟩
theorem line63 : (sizeLine : Nat) < 2 ^ 63 := by rw [sizeLine_eq]; decide
theorem op_add_str : OpR X (binaryOp .Add) (fun x y H Q => ∃ i j, x = .str i ∧ y = .str j ∧ i.length + j.length ≤ sizeLine ∧ Q (.str (i ++ j)) H) := by
  intro pins s σ H x y v u Q I rx ry h
  obtain ⟨i, j, rfl, rfl, hz, q⟩ := h
  obtain ⟨t, rfl⟩ := rx
  obtain ⟨t', rfl⟩ := ry
  exact add_str (fun t' tk => ⟨.str (i ++ j), H, I.tok _, ⟨_, rfl⟩, q⟩) hz
theorem vals1 {x : V} {us : List Value} (r : Vals [x] us) : ∃ u, us = [u] ∧ RelV x u := by
  cases r with
  | cons r1 r2 => cases r2; exact ⟨_, rfl, r1⟩
theorem call_abs : CallR X (.builtin "abs") (fun xs H Q => ∃ i, xs = [.int i] ∧ Q (.int (if i < 0 then -i else i)) H) := by
  intro pins s σ H xs us Q I r h
  obtain ⟨i, rfl, q⟩ := h
  obtain ⟨u, rfl, t, rfl⟩ := vals1 r
  exact call_abs_int fun u tk => ⟨.int (if i < 0 then -i else i), H, I.tok _, ⟨_, rfl⟩, q⟩
theorem call_int1 : CallR X (.type "int") (fun xs H Q => (∃ i, xs = [.int i] ∧ Q (.int i) H) ∨ ∃ k, xs = [.bl k] ∧ Q (.int (if k then 1 else 0)) H) := by
  intro pins s σ H xs us Q I r h
  rcases h with ⟨i, rfl, q⟩ | ⟨k, rfl, q⟩
  · obtain ⟨u, rfl, t, rfl⟩ := vals1 r
    exact call_int_int ⟨.int i, H, I, ⟨_, rfl⟩, q⟩
  · obtain ⟨u, rfl, r1⟩ := vals1 r
    cases r1
    exact call_int_bool ⟨.int (if k then 1 else 0), H, I.tok _, ⟨_, rfl⟩, q⟩
theorem call_str_int : CallR X (.type "str") (fun xs H Q => ∃ i, xs = [.int i] ∧ i.natAbs.log2 < 1920 ∧ Q (.str (toString i)) H) := by
  intro pins s σ H xs us Q I r h
  obtain ⟨i, rfl, hz, q⟩ := h
  obtain ⟨u, rfl, t, rfl⟩ := vals1 r
  exact PySem.P.str_of_int hz ⟨.str _, H, I.tok _, ⟨_, rfl⟩, q⟩
end
end L2
namespace L2
open PySem PySem.Spec PyProof.Rows
structure ObjM (h : Heap) (x dx C : Addr) (mA : Str → Option Value) : Prop where
  obj : h.get? x = some (PySem.W.instObj C dx)
  ns : h.Ns1 dx mA
  ne : dx ≠ x
theorem lookIn_ns {h : Heap} {dx : Addr} {mA : Str → Option Value} (n : h.Ns1 dx mA) : ∃ od, h.get? dx = some od ∧ ∀ name, PySem.W.lookIn name od = some (mA name) := by
  obtain ⟨o, es, ep, ho, hd, hk, _, hm⟩ := n
  refine ⟨o, ho, fun name => ?_⟩
  have e := hm name
  unfold nsFind findBy at e
  rw [← Array.find?_toList] at e
  unfold PySem.W.lookIn
  rw [hd]
  dsimp only
  split
  · rename_i y q
    rw [q] at e
    exact congrArg some e
  · rename_i q
    rw [q] at e
    have a : es.toList.any (·.refKey) = false := by
      rw [List.any_eq_false]
      intro y hy
      obtain ⟨z, t, hkey⟩ := hk y (Array.mem_toList_iff.mp hy)
      simp [DictEntry.refKey, hkey]
    have a' : ¬ es.toList.any (·.refKey) = true := by rw [a]; exact Bool.false_ne_true
    rw [if_neg a']
    exact congrArg some e
theorem ObjM.look {h : Heap} {x dx C : Addr} {mA : Str → Option Value} (I : ObjM h x dx C mA) : ∃ od, PySem.W.InstAt h x (PySem.W.instObj C dx) C (some od) ∧ ∀ name, PySem.W.lookIn name od = some (mA name) :=
  let ⟨od, ho, hl⟩ := lookIn_ns I.ns
  ⟨od, ⟨I.obj, rfl, rfl, ho⟩, hl⟩
noncomputable section
variable {prog : Program} {w : World} {A : Around} {E : Value → Shared → Prop} {s : Shared} {K : PySem.W.Frag} {x dx C f : Addr} {mA : Str → Option Value} {name : Str} {v : Value}
end
theorem RelO.some_of {v : V} {o : Option Value} (r : RelO (some v) o) : ∃ u, o = some u ∧ RelV v u := by
  cases o with
  | none => exact (show False from r).elim
  | some u => exact ⟨u, rfl, r⟩
theorem RelO.none_of {o : Option Value} (r : RelO none o) : o = none := by
  cases o with
  | none => rfl
  | some u => exact (show False from r).elim
noncomputable section
variable {P : Program} {w : World} {H H' : Hp} {h h' : Heap} {a C dx : Addr} {fs fs' : List (Str × V)}
theorem ins_get (hok : HOk P w H h) (e : H a = some (.ins C dx fs)) : ∃ mA, ObjM h a dx C mA ∧ (∀ f, RelO (fs.lookup f) (mA f)) ∧ PySem.Within mA (fs.map (·.1)) ∧ fs.length ≤ 1000 ∧ H dx = some (.own a) := by
  obtain ⟨d, z, ne, ob, mA, n, r, q⟩ := (show ObjOk P w H h a (.ins C dx fs) from hok a _ e)
  exact ⟨mA, ⟨ob, n, ne⟩, r, q, z, d⟩
end
structure Cls (K : PySem.W.Frag) (C : Addr) : Prop where
  pg : PySem.W.plainGet K C Str.empty = true
  hd : PySem.W.hasDictIn K C = true
  po : PySem.W.plainOver K C = true
  sa : PySem.W.findIn K (.ref C) "__setattr__" = some (some (.builtin "object.__setattr__"))
theorem Cls.get {K : PySem.W.Frag} {C : Addr} (c : Cls K C) (f : Str) : PySem.W.plainGet K C f = true := c.pg
structure Con (K : PySem.W.Frag) (C : Addr) (f : Str) (v : V) (u : Value) : Prop where
  at_ : PySem.W.findIn K (.ref C) f = some (some u)
  rel : RelV v u
  get : PySem.W.specialIn K u "__get__" = some none
  cp : PySem.W.copiedNames.contains f = false
structure Meth (K : PySem.W.Frag) (C : Addr) (m : Str) (f : Addr) : Prop where
  at_ : PySem.W.findIn K (.ref C) m = some (some (.ref f))
  fn : PySem.W.isFn K (.ref f) = true
  kp : PySem.W.keepIn K (.ref f) = true
noncomputable section
variable {X : Cx} {pins : List (Addr × Obj)} {σ : St} {H : Hp} {s : Shared} {a C dx : Addr} {fs : List (Str × V)} {f : Str} {v : V} {A : Around} {E : Value → Shared → Prop}
end
noncomputable section
variable {X : Cx} {o e value : Expr} {f : Str} {pos pos' tpos : Pos} {ta tv : TE}
end
noncomputable section
variable {X : Cx} {pins : List (Addr × Obj)} {σ : St} {H : Hp} {s : Shared} {A : Around} {E : Value → Shared → Prop} {Q : Value → Shared → Prop} {c : Value} {b : Bool}
inductive TyOf (K : PySem.W.Frag) (H : Hp) : V → Value → Prop where
  | non : TyOf K H .non (.type "NoneType")
  | bl (x : Bool) : TyOf K H (.bl x) (.type "bool")
  | int (i : Int) : TyOf K H (.int i) (.type "int")
  | str (x : Str) : TyOf K H (.str x) (.type "str")
  | flt (x : UInt64) : TyOf K H (.flt x) (.type "float")
  | lst {a : Addr} {xs : List V} (e : H a = some (.lst xs)) : TyOf K H (.ref a) (.type "list")
  | frz {a : Addr} {o : Obj} {xs : List V} (e : H a = some (.frz o (.lst xs))) : TyOf K H (.ref a) (.type "list")
  | tup {a : Addr} {xs : List V} (e : H a = some (.tup xs)) : TyOf K H (.ref a) (.type "tuple")
  | dK {a : Addr} {kvs : List (Key × V)} (e : H a = some (.dK kvs)) : TyOf K H (.ref a) (.type "dict")
  | dT {a : Addr} {kvs : List (List Key × V)} (e : H a = some (.dT kvs)) : TyOf K H (.ref a) (.type "dict")
  | ins {a C dx : Addr} {fs : List (Str × V)} (e : H a = some (.ins C dx fs)) (cl : Cls K C) (ha : PySem.W.findIn K (.ref C) "__class__" = some (some (.builtin "object.__class__")))
      (hn : PySem.W.specialIn K (.builtin "object.__class__") "__get__" = some (some (.builtin "getset_descriptor.__get__"))) (htk : PySem.W.takesIn K (.builtin "object.__class__") = some true)
      (hm : PySem.W.mroIn K C (.type "object") = some true) : TyOf K H (.ref a) (.ref C)
theorem isinst_ok {x : V} {u t : Value} (I : Inv X pins σ H s) (rx : RelV x u) (ty : TyOf X.K H x t) (e : PySem.W.kitOne X.K t c = some b) (h : ∀ tk, Q (.bool b) { s with toks := tk }) :
    wpAny (model X.prog X.w) A (call (.builtin "isinstance") [u, c]) Q E s := by
  cases ty with
  | non => cases (show u = Value.none from rx); exact PySem.W.kia_one PySem.W.kitx_none I.kIn True.intro e (fun z => nomatch z) h
  | bl y => cases (show u = Value.bool y from rx); exact PySem.W.kia_one PySem.W.kitx_bool I.kIn True.intro e (fun z => nomatch z) h
  | int i => obtain ⟨t, q⟩ := (show ∃ t, u = Value.int i t from rx); cases q; exact PySem.W.kia_one PySem.W.kitx_int I.kIn True.intro e (fun z => nomatch z) h
  | str y => obtain ⟨t, q⟩ := (show ∃ t, u = Value.str y t from rx); cases q; exact PySem.W.kia_one PySem.W.kitx_str I.kIn True.intro e (fun z => nomatch z) h
  | flt y => obtain ⟨t, q⟩ := (show ∃ t, u = Value.float y t from rx); cases q; exact PySem.W.kia_one PySem.W.kitx_float I.kIn True.intro e (fun z => nomatch z) h
  | @lst a xs ea =>
    cases (show u = Value.ref a from rx)
    obtain ⟨_, _, n, _, h1⟩ := (show ObjOk X.prog X.w H s.heap a (.lst xs) from I.hok a _ ea)
    exact PySem.W.kia_one PySem.W.kitx_list I.kIn ⟨_, h1, rfl⟩ e (fun z => nomatch z) h
  | @frz a ob xs ea =>
    cases (show u = Value.ref a from rx)
    obtain ⟨_, _, _, n, _, h1⟩ := (show ObjOk X.prog X.w H s.heap a (.frz ob (.lst xs)) from I.hok a _ ea)
    exact PySem.W.kia_one PySem.W.kitx_list I.kIn ⟨_, h1, rfl⟩ e (fun z => nomatch z) h
  | @tup a xs ea =>
    cases (show u = Value.ref a from rx)
    obtain ⟨_, _, _, p⟩ := (show ObjOk X.prog X.w H s.heap a (.tup xs) from I.hok a _ ea)
    obtain ⟨o, h1, h2, _⟩ := p
    exact PySem.W.kia_one PySem.W.kitx_tuple I.kIn ⟨o, h1, h2⟩ e (fun z => nomatch z) h
  | @dK a kvs ea =>
    cases (show u = Value.ref a from rx)
    obtain ⟨_, _, vs, _, p⟩ := (show ObjOk X.prog X.w H s.heap a (.dK kvs) from I.hok a _ ea)
    obtain ⟨o, es, ep, h1, h2, _⟩ := p
    exact PySem.W.kia_one PySem.W.kitx_dict I.kIn ⟨o, h1, h2.1⟩ e (fun z => nomatch z) h
  | @dT a kvs ea =>
    cases (show u = Value.ref a from rx)
    obtain ⟨_, _, xs, _, o, es, ep, h1, h2, _⟩ := (show ObjOk X.prog X.w H s.heap a (.dT kvs) from I.hok a _ ea)
    exact PySem.W.kia_one PySem.W.kitx_dict I.kIn ⟨o, h1, h2.1⟩ e (fun z => nomatch z) h
  | @ins a C dx fs ea cl ha hn htk hm =>
    cases (show u = Value.ref a from rx)
    obtain ⟨mA, O, _⟩ := ins_get I.hok ea
    obtain ⟨od, J, _⟩ := O.look
    exact PySem.W.kia_one (PySem.W.kitx_own (cl.get _) cl.hd ha hn htk hm) I.kIn J e (fun z => nomatch z) h
end
end L2
namespace L2
open PySem PySem.Spec PyProof.Rows
structure Room (k : Nat) (A : Around) : Prop where
  hd : A.handled = none
  dp : A.depth + 3 * k + 5 < recursionLimit
  un : A.units + 16 * k + 200 < cLine
theorem Room.mono {j k : Nat} {A : Around} (r : Room k A) (h : j ≤ k) : Room j A := ⟨r.hd, by have := r.dp; omega, by have := r.un; omega⟩
theorem Room.deeper {k : Nat} {A : Around} (r : Room (k + 1) A) (env : Env) : Room k (A.deeper env) :=
  ⟨r.hd, by have := r.dp; show A.depth + 1 + 3 * k + 5 < _; omega, by have := r.un; show A.units + 3 + 16 * k + 200 < _; omega⟩
theorem Room.depth {k : Nat} {A : Around} (r : Room k A) : A.depth < recursionLimit := by have := r.dp; omega
theorem Room.units {k : Nat} {A : Around} (r : Room k A) : A.units + 64 < cLine := by have := r.un; omega
noncomputable def tNil : TA := fun _ H Q => Q [] H
noncomputable def tCons (ta : TE) (tr : TA) : TA := fun σ H Q => ta σ H fun x H1 => tr σ H1 fun xs H2 => Q (x :: xs) H2
noncomputable section
variable {X : Cx} {e : Expr} {es : List Expr} {te : TE} {t : TA} {pos : Pos}
theorem pa_nil : PA X [] tNil := fun _ _ _ _ H Q I h => Calls.spliced_nil ⟨[], H, I, .nil, h⟩
theorem pa_cons (ha : PE X e te) (hr : PA X es t) (hs : starEach (e :: es) X.env = (false, eval e X.env) :: starEach es X.env := by rfl) : PA X (e :: es) (tCons te t) := by
  intro pos pins s σ H Q I h
  rw [hs]
  show wpAny _ _ (spliced ((false, eval e X.env) :: backTo pos (starEach es X.env))) _ _ s
  refine Calls.spliced_cons (thn (ha pins s σ H _ I h) fun u s1 ⟨x, H1, I1, r1, q1⟩ => ?_)
  exact thn (hr pos pins s1 σ H1 _ I1 q1) fun us s2 ⟨xs, H2, I2, r2, q2⟩ => ⟨x :: xs, H2, I2, .cons r1 r2, q2⟩
noncomputable def tTup (t : TA) : TE := fun σ H Q => t σ H fun xs H1 => xs.length ≤ sizeLine ∧ ∀ p, H1 p = none → Q (.ref p) (upd H1 p (.tup xs))
noncomputable def tLst (t : TA) : TE := fun σ H Q => t σ H fun xs H1 => xs.length ≤ sizeLine ∧ ∀ p, H1 p = none → Q (.ref p) (upd H1 p (.lst xs))
theorem pe_tup {x1} (h : PA X es t) : PE X (.Tuple es x1 pos) (tTup t) := by
  intro pins s σ H Q I hq
  refine wpAny_Tuple_spliced (thn (h pos pins s σ H _ I hq) fun us s1 ⟨xs, H1, I1, r, z, q⟩ => ⟨by rw [← r.length]; exact z, ?_⟩)
  have hf : H1 s1.heap.objs.size = none := I1.hok.fresh (Nat.le_refl _)
  refine ⟨.ref s1.heap.objs.size, upd H1 s1.heap.objs.size (.tup xs), I1.laid (t' := s1.toks) (fun b u e => Heap.get?_push_of_some _ e) (Nat.le_refl _) ?_, rfl, q _ hf⟩
  exact ⟨z, us, r, ⟨_, Heap.get?_push_size _ rfl, rfl, rfl, _, rfl⟩⟩
theorem pe_lst (h : PA X es t) : PE X (.List es pos) (tLst t) := by
  intro pins s σ H Q I hq
  refine wpAny_List_spliced (thn (h pos pins s σ H _ I hq) fun us s1 ⟨xs, H1, I1, r, z, q⟩ => ⟨by rw [← r.length]; exact z, ?_⟩)
  have hf : H1 s1.heap.objs.size = none := I1.hok.fresh (Nat.le_refl _)
  refine ⟨.ref s1.heap.objs.size, upd H1 s1.heap.objs.size (.lst xs), I1.laid (t' := s1.toks) (fun b u e => Heap.get?_push_of_some _ e) (Nat.le_refl _) ?_, rfl, q _ hf⟩
  exact ⟨z, us, 0, r, Heap.get?_push_size _ rfl⟩
end
noncomputable abbrev Sp := List V → Hp → VK → XK → Prop
noncomputable abbrev CXT := List Env → Hp → Shared → XK → Value → Shared → Prop
structure Env0 (P : Program) (w : World) (K : PySem.W.Frag) (mg : Str → Option Value) (base : Heap) (A : Around) (outer : List Env) (s : Shared) (H : Hp) : Prop where
  frames : A.frames = some outer
  mod : Mod K mg base
  bs : ∀ b o, base.get? b = some o → s.heap.get? b = some o ∧ H b = none
  bsz : base.objs.size ≤ s.heap.objs.size
  funs : s.heap.FunFrames base outer
  frf : ∀ b ∈ frs outer, H b = none
  hok : HOk P w H s.heap
  bare : AllBare s.gens
noncomputable def CE (outer : List Env) (P : Program) (w : World) (H : Hp) (s : Shared) (Q : VK) (u : Value) (s' : Shared) : Prop :=
  ∃ v H', s'.os = s.os ∧ AllBare s'.gens ∧ Un (frs outer) [] H H' s.heap s'.heap ∧ HOk P w H' s'.heap ∧ RelV v u ∧ Q v H'
noncomputable def CR (CX : CXT) (outer : List Env) (P : Program) (w : World) (H : Hp) (s : Shared) (Q : VK) (E : XK) (r : Result) (s' : Shared) : Prop :=
  match r with
  | .ok (.ret u) => CE outer P w H s Q u s'
  | .ok _ => False
  | .error e => CX outer H s E e s'
structure FnOk (P : Program) (w : World) (K : PySem.W.Frag) (mg : Str → Option Value) (base : Heap) (CX : CXT) (k : Nat) (f : Addr) (fd : FuncData) (ps : List Str) (sp : Sp) : Prop where
  len : ∀ vs H Q E, sp vs H Q E → vs.length = ps.length
  run : ∀ (A : Around) (outer : List Env) (s : Shared) (H : Hp) (args : Args) (us : List Value) (vs : List V) (Q : VK) (E : XK), Room k A → Env0 P w K mg base A outer s H → BindsTo s fd args (ps.zip us) → Vals vs us → sp vs H Q E →
    codeAny (model P w) A (.call (.ref f) args) (CR CX outer P w H s Q E) s
theorem FnOk.mono {P : Program} {w : World} {K : PySem.W.Frag} {mg : Str → Option Value} {base : Heap} {CX : CXT} {j k : Nat} {f : Addr} {fd : FuncData} {ps : List Str} {sp : Sp} (F : FnOk P w K mg base CX j f fd ps sp) (h : j ≤ k) :
    FnOk P w K mg base CX k f fd ps sp := ⟨F.len, fun A outer s H args us vs Q E hr => F.run A outer s H args us vs Q E (hr.mono h)⟩
theorem FnOk.imp {P : Program} {w : World} {K : PySem.W.Frag} {mg : Str → Option Value} {base : Heap} {CX : CXT} {k : Nat} {f : Addr} {fd : FuncData} {ps : List Str} {sp sp' : Sp} (F : FnOk P w K mg base CX k f fd ps sp)
    (h : ∀ vs H Q E, sp' vs H Q E → sp vs H Q E) : FnOk P w K mg base CX k f fd ps sp' :=
  ⟨fun vs H Q E q => F.len vs H Q E (h _ _ _ _ q), fun A outer s H args us vs Q E hr he hb hv hs => F.run A outer s H args us vs Q E hr he hb hv (h _ _ _ _ hs)⟩
noncomputable section
variable {X : Cx} {pins : List (Addr × Obj)} {σ : St} {H : Hp} {s s' : Shared}
theorem Inv.env0 (I : Inv X pins σ H s) : Env0 X.prog X.w X.K X.mg X.base X.A X.stack s H :=
  ⟨I.ok.frames, I.ok.mod, I.bs, Nat.le_trans I.ok.bsz I.sz, I.stack, I.stkFree, I.hok, I.bare⟩
theorem Inv.after {Q : VK} {u : Value} (I : Inv X pins σ H s) (h : CE X.stack X.prog X.w H s Q u s') : EP X pins σ Q u s' := by
  obtain ⟨v, H', os, bare, un, hok, r, q⟩ := h
  obtain ⟨hh, g, d, t, os'⟩ := s'
  obtain rfl : os' = s.os := os
  exact ⟨v, H', I.call (h' := hh) (g' := g) (d' := d) (t' := t) (ch := []) un hok bare (fun b z => absurd z (by simp)), r, q⟩
end
noncomputable def tCall (sp : Sp) (dvs : List V) (E : XK) (t : TA) : TE := fun σ H Q => t σ H fun vs H1 => sp (vs ++ dvs) H1 Q E
noncomputable def Binds (K : PySem.W.Frag) (fd : FuncData) (ps : List Str) (ds : List Value) : Prop :=
  ∀ (s : Shared) (us : List Value), K.In s.heap → (us ++ ds).length = ps.length → BindsTo s fd ⟨us, []⟩ (ps.zip (us ++ ds))
theorem Binds.all {K : PySem.W.Frag} {fd : FuncData} {ps : List Str} (h : ∀ us : List Value, us.length = ps.length → bindArgs fd ⟨us, []⟩ = pure (ps.zip us)) : Binds K fd ps [] := fun s us _ hl => by
  rw [List.append_nil] at hl ⊢
  exact .of_eq (h us hl)
noncomputable def Passes (CX : CXT) (X : Cx) (E : XK) : Prop := ∀ (pins : List (Addr × Obj)) (σ : St) (H : Hp) (s : Shared) (e : Value) (s' : Shared), Inv X pins σ H s → CX X.stack H s E e s' → X.xe e s'
noncomputable section
variable {X : Cx} {CX : CXT} {k : Nat} {f C : Addr} {fd : FuncData} {ps : List Str} {sp : Sp} {dvs : List V} {ds : List Value} {E : XK} {x m : Str} {p pos apos : Pos} {e o : Expr} {es : List Expr} {ta : TE} {t : TA}
theorem run_fn {pins : List (Addr × Obj)} {σ : St} {H : Hp} {s : Shared} {Q : VK} {us : List Value} {vs : List V} (F : FnOk X.prog X.w X.K X.mg X.base CX k f fd ps sp) (hr : Room k X.A) (hb : Binds X.K fd ps ds) (hd : Vals dvs ds) (hx : Passes CX X E)
    (I : Inv X pins σ H s) (r : Vals vs us) (h : sp (vs ++ dvs) H Q E) : wpAny (model X.prog X.w) X.A (call (.ref f) us) (EP X pins σ Q) X.xe s := by
  have r2 : Vals (vs ++ dvs) (us ++ ds) := r.append hd
  have hl : (us ++ ds).length = ps.length := by rw [← r2.length]; exact F.len _ _ _ _ h
  refine wpAny_call (codeAny_mono (F.run X.A X.stack s H ⟨us, []⟩ (us ++ ds) (vs ++ dvs) Q E hr I.env0 (hb s us I.kIn hl) r2 h) fun r s' hq => ?_)
  cases r with
  | error e => exact hx pins σ H s e s' I hq
  | ok fl =>
    cases fl with
    | ret u => exact I.after hq
    | next => exact False.elim hq
    | brk => exact False.elim hq
    | cont => exact False.elim hq
theorem pe_call (F : FnOk X.prog X.w X.K X.mg X.base CX k f fd ps sp) (hr : Room k X.A) (hg : Gl X x) (hm : X.mg x = some (.ref f)) (hk : PySem.W.keepIn X.K (.ref f) = true) (hb : Binds X.K fd ps ds) (hd : Vals dvs ds) (hx : Passes CX X E)
    (ha : PA X (e :: es) t) (hdb : (x == ("__debug__" : Str)) = false := by decide) (he : starEach (e :: es) X.env = (false, eval e X.env) :: starEach es X.env := by rfl) (hpl : (backTo pos (starEach es X.env)).any (·.1) = false := by rfl) :
    PE X (.Call (.Name x p) (e :: es) [] pos) (tCall sp dvs E t) := by
  intro pins s σ H Q I h
  refine wpAny_Call_Name_kw (ld_glob I hg hm ?_ hdb)
  refine PySem.W.callWith_K (h₀ := X.base) I.ok.mod.kin hk (thn (ha pos pins s σ H _ I h) fun us s1 ⟨vs, H1, I1, r, q⟩ => ⟨I1.kIn, ?_⟩) he hpl
  exact run_fn F hr hb hd hx I1 r q
structure Mk (K : PySem.W.Frag) (C f : Addr) : Prop where
  makes : PySem.W.makesIn K C = true
  init : PySem.W.findIn K (.ref C) "__init__" = some (some (.ref f))
  fn : PySem.W.isFn K (.ref f) = true
  kp : PySem.W.keepIn K (.ref C) = true
end
noncomputable section
variable {X : Cx} {CX : CXT} {k : Nat} {f C : Addr} {fd : FuncData} {ps ks : List Str} {sp : Sp} {E : XK} {x m : Str} {p pos apos kpos : Pos} {e o : Expr} {es : List Expr} {kws : List Keyword} {te ta : TE} {t tk : TA} {nm : Option Str}
structure KBinds (K : PySem.W.Frag) (fd : FuncData) (ps ks : List Str) (g : List Value → List Value → List Value) (gV : List V → List V → List V) : Prop where
  to : ∀ (s : Shared) (us ws : List Value), K.In s.heap → (g us ws).length = ps.length → BindsTo s fd ⟨us, ks.zip ws⟩ (ps.zip (g us ws))
  rel : ∀ {vs : List V} {us : List Value} {zs : List V} {ws : List Value}, Vals vs us → Vals zs ws → Vals (gV vs zs) (g us ws)
variable {g : List Value → List Value → List Value} {gV : List V → List V → List V}
end
structure FnScope (N P : List Str) (sc : Scope) : Prop where
  kind : sc.kind = .function
  co : sc.isCoroutine = false
  gen : sc.isGenerator = false
  nd : N.Nodup
  pre : N.take P.length = P
  par : ∀ x ∈ P, sc.names.lookup x = some .local ∨ sc.names.lookup x = some .cell
  nofree : ∀ y ∈ sc.names, y.2 ≠ .free
theorem bindL_out {kindOf : Str → Option NameKind} {x : Str} : ∀ {binds : List (Str × Value)} {m : Str → Option Value}, (∀ v, (x, v) ∉ binds) → bindL kindOf binds m x = m x
  | [], _, _ => rfl
  | (n, v) :: r, m, h => by
    unfold bindL
    rw [bindL_out fun w hw => h w (List.mem_cons_of_mem _ hw)]
    split
    · have : x ≠ n := by rintro rfl; exact h v List.mem_cons_self
      simp [this]
    · rfl
theorem bindC_out {kindOf : Str → Option NameKind} {x : Str} : ∀ {binds : List (Str × Value)} {m : Str → Option Value}, (∀ v, (x, v) ∉ binds) → bindC kindOf binds m x = m x
  | [], _, _ => rfl
  | (n, v) :: r, m, h => by
    unfold bindC
    rw [bindC_out fun w hw => h w (List.mem_cons_of_mem _ hw)]
    split
    · rfl
    · have : x ≠ n := by rintro rfl; exact h v List.mem_cons_self
      simp [this]
theorem bindL_get {kindOf : Str → Option NameKind} {x : Str} {v : Value} : ∀ {P : List Str} {vs : List Value} {i : Nat} {m : Str → Option Value}, P.Nodup → P[i]? = some x → vs[i]? = some v → kindOf x = some .local →
    bindL kindOf (P.zip vs) m x = some v
  | [], _, _, _, _, h, _, _ => by simp at h
  | _ :: _, [], _, _, _, _, h, _ => by simp at h
  | p :: P, w :: vs, 0, m, nd, h1, h2, hk => by
    simp at h1 h2; subst h1; subst h2
    show bindL kindOf ((p, w) :: P.zip vs) m p = _
    unfold bindL
    rw [bindL_out fun v hv => (List.nodup_cons.mp nd).1 (List.of_mem_zip hv).1, if_pos hk]
    simp
  | p :: P, w :: vs, i + 1, m, nd, h1, h2, hk => by
    show bindL kindOf ((p, w) :: P.zip vs) m x = _
    unfold bindL
    exact bindL_get (i := i) (List.nodup_cons.mp nd).2 (by simpa using h1) (by simpa using h2) hk
theorem bindC_get {kindOf : Str → Option NameKind} {x : Str} {v : Value} : ∀ {P : List Str} {vs : List Value} {i : Nat} {m : Str → Option Value}, P.Nodup → P[i]? = some x → vs[i]? = some v → kindOf x ≠ some .local →
    bindC kindOf (P.zip vs) m x = some v
  | [], _, _, _, _, h, _, _ => by simp at h
  | _ :: _, [], _, _, _, _, h, _ => by simp at h
  | p :: P, w :: vs, 0, m, nd, h1, h2, hk => by
    simp at h1 h2; subst h1; subst h2
    show bindC kindOf ((p, w) :: P.zip vs) m p = _
    unfold bindC
    rw [bindC_out fun v hv => (List.nodup_cons.mp nd).1 (List.of_mem_zip hv).1, if_neg hk]
    simp
  | p :: P, w :: vs, i + 1, m, nd, h1, h2, hk => by
    show bindC kindOf ((p, w) :: P.zip vs) m x = _
    unfold bindC
    exact bindC_get (i := i) (List.nodup_cons.mp nd).2 (by simpa using h1) (by simpa using h2) hk
noncomputable def start (N : List Str) (vs : List V) : St := vs.map some ++ List.replicate (N.length - vs.length) none
noncomputable def cxOf (CX : CXT) (P : Program) (w : World) (K : PySem.W.Frag) (mg : Str → Option Value) (base : Heap) (N : List Str) (qual : Str) (scope : Scope) (f : Addr) (cd : Value) (A : Around) (outer : List Env) (s : Shared) (H : Hp) (E : XK) : Cx where
  prog := P
  w := w
  K := K
  mg := mg
  base := base
  A := A.deeper (envOfC qual scope s.heap.objs.size f cd)
  N := N
  s₀ := s
  H₀ := H
  env := envOfC qual scope s.heap.objs.size f cd
  outer := outer
  stack := envOfC qual scope s.heap.objs.size f cd :: outer
  ex := []
  calm := true
  fn := fun _ => true
  pn := []
  xe := fun e s' => wpAny (model P w) (A.deeper (envOfC qual scope s.heap.objs.size f cd)) (leaving (envOfC qual scope s.heap.objs.size f cd) e) (fun _ s'' => CX outer H s E e s'') (fun e' s'' => CX outer H s E e' s'') s'
theorem cell_has {sc : Scope} {n : Nat} {x : Str} (h : sc.names.lookup x = some .cell) : ∃ c, (cellsFrom n sc.names []).lookup x = some c := by
  have q := PySem.W.cellsFrom_some sc.names n [] (.inl h)
  exact Option.isSome_iff_exists.mp q
theorem inv_start {CX : CXT} {P : Program} {w : World} {K : PySem.W.Frag} {mg : Str → Option Value} {base : Heap} {N ps : List Str} {qual : Str} {scope : Scope} {f : Addr} {cd : Value} {A : Around} {outer : List Env} {s s1 : Shared} {H : Hp} {E : XK} {us : List Value} {vs : List V}
    (S : FnScope N ps scope) (hd : A.handled = none) (e0 : Env0 P w K mg base A outer s H) (hl : vs.length = ps.length) (r : Vals vs us)
    (x : InCallC s s.heap.objs.size (bindL (envOfC qual scope s.heap.objs.size f cd).kindOf (ps.zip us) fun _ => none) (cellsFrom (s.heap.objs.size + 1) scope.names []) (bindC (envOfC qual scope s.heap.objs.size f cd).kindOf (ps.zip us) fun _ => none) s1) :
    Inv (cxOf CX P w K mg base N qual scope f cd A outer s H E) [] (start N vs) H s1 := by
  have hpl : ps.length ≤ N.length := by have := congrArg List.length S.pre; rw [List.length_take] at this; omega
  obtain ⟨h1, tk, rfl, hk⟩ := x.done
  have noA : ∀ b : Addr, b ∉ (cxOf CX P w K mg base N qual scope f cd A outer s H E).ex := fun b z => absurd (show b ∈ ([] : List Addr) from z) (by simp)
  refine ⟨⟨e0.mod, S.kind, rfl, rfl, Nat.le_refl _, fun y z c h1 h2 => ?_, fun y hy => ?_, fun y c _ h => ?_, fun _ => hd, Around.frames_deeper e0.frames, .inr ⟨rfl, rfl⟩, fun b z => absurd z (noA b), e0.bs, e0.bsz, fun b _ _ => noA b, fun b z => absurd z (noA b), e0.funs, e0.frf⟩,
    rfl, e0.bare, Un.kept hk, ⟨_, x.toInCall.ns, fun i y v h1 h2 h3 => ?_⟩, fun y c h => ⟨_, x.cell y c h⟩, e0.hok.fresh (Nat.le_refl _), fun y c h => ?_, fun p hp => absurd (show p ∈ ([] : List (Addr × Obj)) from hp) (by simp), e0.hok.kept hk, ?_⟩
  · exact name_of_addr x.apart (PySem.mem_of_lookup h1) (PySem.mem_of_lookup h2)
  · have hy : scope.names.lookup y = some .cell ∨ scope.names.lookup y = some .free := hy
    rcases hy with hy | hy
    · exact cell_has hy
    · exact absurd rfl (S.nofree _ (PySem.mem_of_lookup hy))
  · exact Nat.le_of_lt (x.above y c (PySem.mem_of_lookup h))
  · have hi : i < vs.length := by
      unfold start at h2
      by_cases hi : i < vs.length
      · exact hi
      · rw [List.getElem?_append_right (by simpa using hi)] at h2
        rw [List.getElem?_replicate] at h2
        split at h2 <;> cases h2
    have ha : vs[i]? = some v := by
      unfold start at h2
      rw [List.getElem?_append_left (by simpa using hi), List.getElem?_map] at h2
      cases e : vs[i]? with
      | none => rw [e] at h2; cases h2
      | some a => rw [e] at h2; cases h2; rfl
    obtain ⟨u, hu, rv⟩ := r.get ha
    have hp : ps[i]? = some y := by
      rw [← S.pre, List.getElem?_take_of_lt (by omega)]; exact h1
    have ndP : ps.Nodup := by rw [← S.pre]; exact S.nd.sublist (List.take_sublist _ _)
    refine ⟨u, rv, ?_⟩
    rcases S.par y (List.mem_of_getElem? hp) with k | k
    · exact .inl ⟨k, bindL_get ndP hp hu k⟩
    · obtain ⟨c, e⟩ := cell_has (n := s.heap.objs.size + 1) k
      refine .inr ⟨.inl k, c, e, ?_⟩
      have q := x.cell y c e
      rw [bindC_get ndP hp hu (by show scope.names.lookup y ≠ _; rw [k]; decide)] at q
      exact q
  · exact e0.hok.fresh (Nat.le_of_lt (x.above y c (PySem.mem_of_lookup h)))
  · unfold start
    show _ = N.length
    rw [List.length_append, List.length_map, List.length_replicate]
    omega
theorem fn_of {CX : CXT} {P : Program} {w : World} {K : PySem.W.Frag} {mg : Str → Option Value} {base : Heap} {k : Nat} {f : Addr} {name qual : Str} {params : Arguments} {body : List Stmt} {scope : Scope} {dV kV doc pm cdv ct oc : Value} {an od : Option Addr}
    {osl : Array (Option Value)} {N ps : List Str} {sp : Sp} (lk : K.lookup f = some ⟨oc, od, .func (PySem.W.fnOf name qual params body scope dV kV doc pm an cdv ct), osl⟩) (hcd : PySem.W.codeIn K cdv qual = true) (S : FnScope N ps scope)
    (len : ∀ vs H Q E, sp vs H Q E → vs.length = ps.length)
    (hbody : ∀ (A : Around) (outer : List Env) (s : Shared) (H : Hp) (vs : List V) (Q : VK) (E : XK), Room k (A.deeper (envOfC qual scope s.heap.objs.size f cdv)) → sp vs H Q E →
      ∃ t, PSs (cxOf CX P w K mg base N qual scope f cdv A outer s H E) body t ∧ t { nx := fun _ H' => Q .non H', rt := Q } (start N vs) H) :
    FnOk P w K mg base CX (k + 1) f (PySem.W.fnOf name qual params body scope dV kV doc pm an cdv ct) ps sp := by
  refine ⟨len, fun A outer s H args us vs Q E hr e0 hb r hsp => ?_⟩
  have hl := len _ _ _ _ hsp
  have KX : K.In s.heap := e0.mod.kin.keeps fun b o e => (e0.bs b o e).1
  have lim : s.heap.NoLimit := e0.mod.nolimit.keeps fun b o e => (e0.bs b o e).1
  have hkind : ∀ y ∈ ps.zip us, scope.names.lookup y.1 = some .local ∨ (scope.names.lookup y.1 = some .cell ∧ ((cellsFrom (s.heap.objs.size + 1) scope.names []).lookup y.1).isSome = true) := fun ⟨n, v⟩ hy => by
    rcases S.par n (List.of_mem_zip hy).1 with q | q
    · exact .inl q
    · exact .inr ⟨q, PySem.W.cellsFrom_some _ _ _ (.inl q)⟩
  refine codeAny_call_function hr.depth (KX _ _ lk) rfl S.co S.gen rfl (PySem.W.codeRec_of KX hcd) (hb _ _ _ _ ?_)
  refine wpAny_newFunctionEnv_cells S.kind hkind fun env he s1 x => ?_
  subst he
  refine ⟨lim.keeps x.toInCall.keep, codeAny_func ?_⟩
  obtain ⟨t, ht, hq⟩ := hbody A outer s H vs Q E (hr.deeper _) hsp
  have I : Inv (cxOf CX P w K mg base N qual scope f cdv A outer s H E) [] (start N vs) H s1 := inv_start S hr.hd e0 hl r x
  refine wpAny_mono (ht [] s1 (start N vs) H _ I hq) (fun fl s' hs => ?_) fun e s' hs => hs
  have fin : ∀ {σ' : St} {H' : Hp} {v : V} {u : Value}, Inv (cxOf CX P w K mg base N qual scope f cdv A outer s H E) [] σ' H' s' → RelV v u → Q v H' → CE outer P w H s Q u s' :=
    fun {σ' H' v u} J rv q => ⟨v, H', J.os, J.bare, J.base, J.hok, rv, q⟩
  cases fl with
  | ret u =>
    obtain ⟨v, σ', H', J, rv, q⟩ := hs
    exact fin J rv q
  | next =>
    obtain ⟨σ', H', J, q⟩ := hs
    exact fin (v := V.non) (u := Value.none) J rfl q
  | brk =>
    obtain ⟨_, _, _, q⟩ := hs
    exact False.elim q
  | cont =>
    obtain ⟨_, _, _, q⟩ := hs
    exact False.elim q
end L2
namespace L2
open PySem PySem.Spec PyProof.Rows
noncomputable section
variable {X : Cx} {x : Str} {p pos : Pos} {e : Expr} {es : List Expr} {t : TA} {id T : String} {r : List V → Hp → VK → Prop}
noncomputable def tCB (r : List V → Hp → VK → Prop) (t : TA) : TE := fun σ H Q => t σ H fun vs H1 => r vs H1 Q
theorem pe_callB (hc : CallR X (.builtin id) r) (hg : Gl X x) (hm : X.mg x = none) (hv : bootBuiltins x = some (.builtin id)) (ha : PA X (e :: es) t) (hn : x ≠ "__name__" := by decide) (hdb : (x == ("__debug__" : Str)) = false := by decide)
    (he : starEach (e :: es) X.env = (false, eval e X.env) :: starEach es X.env := by rfl) (hpl : (backTo pos (starEach es X.env)).any (·.1) = false := by rfl) : PE X (.Call (.Name x p) (e :: es) [] pos) (tCB r t) := by
  intro pins s σ H Q I h
  refine wpAny_Call_Name_kw (ld_blt I hg hm hv ?_ hn hdb)
  exact PyProof.Rows.callWith_builtin1 (thn (ha pos pins s σ H _ I h) fun us s1 ⟨vs, H1, I1, r1, q1⟩ => hc pins s1 σ H1 vs us Q I1 r1 q1) he hpl
theorem pe_callTy (hc : CallR X (.type T) r) (hg : Gl X x) (hm : X.mg x = none) (hv : bootBuiltins x = some (.type T)) (ha : PA X (e :: es) t) (hn : x ≠ "__name__" := by decide) (hdb : (x == ("__debug__" : Str)) = false := by decide)
    (he : starEach (e :: es) X.env = (false, eval e X.env) :: starEach es X.env := by rfl) (hpl : (backTo pos (starEach es X.env)).any (·.1) = false := by rfl) : PE X (.Call (.Name x p) (e :: es) [] pos) (tCB r t) := by
  intro pins s σ H Q I h
  refine wpAny_Call_Name_kw (ld_blt I hg hm hv ?_ hn hdb)
  exact PyProof.Rows.callWith_type1 (thn (ha pos pins s σ H _ I h) fun us s1 ⟨vs, H1, I1, r1, q1⟩ => hc pins s1 σ H1 vs us Q I1 r1 q1) he hpl
end
end L2
end
noncomputable section
set_option linter.all false
set_option maxRecDepth 100000
namespace HT
open PySem PyProof.Rows
noncomputable section
open PySem.SeqAt
open PySem.AutoSeq1 (wpAny_loadPart')
open PySem.MeetsSeq PySem.MeetsSeq2 PySem.MeetsSeq3
end
noncomputable section
variable {prog : Program} {w : World} {A : Around} {E : Value → Shared → Prop} {s : Shared}
theorem cat_tup {t b : Addr} {vs ws : List Value} {Q : Value → Shared → Prop} (ht : IsTup s.heap t vs.toArray) (hb : IsTup s.heap b ws.toArray) (hv : vs ≠ [])
    (h1 : ws = [] → Q (.ref t) s) (h2 : ws ≠ [] → Q (.ref s.heap.objs.size) { s with heap := s.heap.push { cls := .type "tuple", data := .seq (vs ++ ws).toArray } })
    (hsz : vs.length + ws.length ≤ sizeLine) : wpAny (model prog w) A (binaryOp .Add (.ref t) (.ref b)) Q E s := by
  obtain ⟨⟨cls, dd, data, sl⟩, ho, hc, n, hd⟩ := id ht
  obtain ⟨⟨cls2, dd2, data2, sl2⟩, ho2, hc2, n2, hd2⟩ := id hb
  simp only at hc hd hc2 hd2
  subst hc hd hc2 hd2
  have e : vs.toArray ++ ws.toArray = (vs ++ ws).toArray := by simp
  by_cases hw : ws = []
  · exact concat_meets ⟨_, ho, rfl⟩ ⟨_, ho2, rfl⟩ noFill_tuple_add seq_tuple_add PySem.F.slot_tuple_add PySem.F.entry_tuple_add (PySem.F.args_tuple_add_2 _ _)
      (tuple_addW1 t b vs.toArray ws.toArray n n2 dd dd2 sl sl2 (by simpa using hv) (by simp [hw])) ⟨ho, ho2, h1 hw⟩
  · refine concat_meets ⟨_, ho, rfl⟩ ⟨_, ho2, rfl⟩ noFill_tuple_add seq_tuple_add PySem.F.slot_tuple_add PySem.F.entry_tuple_add (PySem.F.args_tuple_add_2 _ _)
      (tuple_addW2 t b vs.toArray ws.toArray n n2 dd dd2 sl sl2 (by simpa using hv) (by simpa using hw) (by rw [List.size_toArray, List.size_toArray]; exact hsz)) ⟨ho, ho2, ?_⟩
    rw [e]
    exact h2 hw
noncomputable def sIx (n d : Nat) : Option Int → Nat
  | none => d
  | some v => if v < 0 then (v + (n : Int)).toNat else min v.toNat n
theorem sIx_le (n d : Nat) (hd : d ≤ n) (o : Option Int) : sIx n d o ≤ n := by
  cases o with
  | none => exact hd
  | some v =>
    show (if v < 0 then (v + (n : Int)).toNat else min v.toNat n) ≤ n
    by_cases hv : v < 0
    · rw [if_pos hv]; omega
    · rw [if_neg hv]; exact Nat.min_le_right _ _
theorem clip_eq (v : Int) (n d : Nat) : (if v < 0 then max (v + (n : Int)) 0 else min v (n : Int)) = ((sIx n d (some v) : Nat) : Int) := by
  show (if v < 0 then max (v + (n : Int)) 0 else min v (n : Int)) = (((if v < 0 then (v + (n : Int)).toNat else min v.toNat n) : Nat) : Int)
  by_cases hv : v < 0
  · simp only [if_pos hv]; omega
  · simp only [if_neg hv]; omega
theorem adjust_gen (lo hi : Option Int) (n : Nat) : Builtin.Slice.sliceAdjust lo hi 1 (n : Int) = (((sIx n 0 lo : Nat) : Int), ((sIx n n hi : Nat) : Int)) := by
  have h1 : ¬ ((1 : Int) < 0) := by omega
  unfold Builtin.Slice.sliceAdjust
  simp only [h1, if_false]
  refine Prod.ext ?_ ?_
  · cases lo with
    | none => rfl
    | some v => exact clip_eq v n 0
  · cases hi with
    | none => rfl
    | some v => exact clip_eq v n n
theorem places_gen (i j : Nat) : Builtin.Slice.slicePlaces (i : Int) (j : Int) 1 = j - i := by
  unfold Builtin.Slice.slicePlaces
  have h1 : (1 : Int) > 0 := by omega
  simp only [h1, if_true, Int.ediv_one]
  split <;> omega
theorem slicePart_ {v : Value} {o : Option Int} {Q : Option Int → Shared → Prop} (p : IsPart v o) (h : Q o s) : wpAny (model prog w) A (Builtin.Slice.slicePartIndex v) Q E s := by
  cases p with
  | none => exact slicePart_none h
  | int i t => exact slicePart_int h
theorem sliceApplied_gen {sl : Addr} {vl vu : Value} {lo hi : Option Int} {n : Nat} {Q : Int × Int × Nat → Shared → Prop} (hs : s.heap.IsSliceOf sl vl vu .none) (pl : IsPart vl lo) (pu : IsPart vu hi)
    (h : Q (((sIx n 0 lo : Nat) : Int), 1, sIx n n hi - sIx n 0 lo) s) : wpAny (model prog w) A (Builtin.Slice.sliceApplied (.ref sl) (pure (n : Int))) Q E s := by
  obtain ⟨os, hos, hcs, hds⟩ := id hs
  unfold Builtin.Slice.sliceApplied Builtin.Slice.sliceFields
  refine wpAny_bind (wpAny_bind (wpAny_field hos hds (x := vl) rfl (wpAny_bind (wpAny_field hos hds (x := vu) rfl (wpAny_bind (wpAny_field hos hds (x := .none) rfl (wpAny_pure ?_)))))))
  refine wpAny_bind (slicePart_none ?_)
  show wpAny _ _ (if ((1 : Int) == 0) = true then _ else _) _ _ s
  rw [if_neg (by decide)]
  refine wpAny_bind (slicePart_ pl (wpAny_bind (slicePart_ pu (wpAny_bind (wpAny_pure ?_)))))
  show wpAny _ _ (match Builtin.Slice.sliceAdjust lo hi 1 (n : Int) with | (lo, hi) => pure (lo, (1 : Int), Builtin.Slice.slicePlaces lo hi 1)) _ _ s
  rw [adjust_gen lo hi n]
  show wpAny _ _ (pure (((sIx n 0 lo : Nat) : Int), (1 : Int), Builtin.Slice.slicePlaces ((sIx n 0 lo : Nat) : Int) ((sIx n n hi : Nat) : Int) 1)) _ _ s
  rw [places_gen]
  exact wpAny_pure h
theorem pick_gen (xs : Array Value) (i k : Nat) : ((List.range k).filterMap fun (m : Nat) => xs[((i : Int) + (m : Int) * 1).toNat]?).toArray = ((xs.toList.drop i).take k).toArray := by
  have e : (fun (m : Nat) => xs[((i : Int) + (m : Int) * 1).toNat]?) = fun m => xs[i + m]? := by
    funext m
    have : ((i : Int) + (m : Int) * 1).toNat = i + m := by omega
    rw [this]
  rw [e]
  have := pick_run xs i k
  rw [List.filterMap_map] at this
  have e2 : ((fun x => xs[x]?) ∘ fun x => i + x) = fun m => xs[i + m]? := rfl
  rw [e2] at this
  rw [this]
theorem getItem_tuple_cut {t sl : Addr} {items : Array Value} {vl vu : Value} {lo hi : Option Int} {Q : Value → Shared → Prop} (ht : IsTup s.heap t items) (hs : s.heap.IsSliceOf sl vl vu .none) (pl : IsPart vl lo) (pu : IsPart vu hi)
    (hw : ¬ (sIx items.size 0 lo = 0 ∧ sIx items.size items.size hi = items.size))
    (h : Q (.ref s.heap.objs.size) { s with heap := s.heap.push { cls := .type "tuple", data := .seq ((items.toList.drop (sIx items.size 0 lo)).take (sIx items.size items.size hi - sIx items.size 0 lo)).toArray } })
    (hsz : items.size ≤ sizeLine) : wpAny (model prog w) A (getItem (.ref t) (.ref sl)) Q E s := by
  have htake : sizeOk (.seq ((items.toList.drop (sIx items.size 0 lo)).take (sIx items.size items.size hi - sIx items.size 0 lo)).toArray) := by
    show ((items.toList.drop (sIx items.size 0 lo)).take (sIx items.size items.size hi - sIx items.size 0 lo)).toArray.size ≤ sizeLine
    rw [List.size_toArray, List.length_take, List.length_drop, Array.length_toList]
    omega
  have hj : sIx items.size items.size hi ≤ items.size := sIx_le _ _ (Nat.le_refl _) hi
  obtain ⟨os, hos, hcs, hds⟩ := id hs
  have hTs : s.TypeIs (.ref sl) "slice" := ⟨os, hos, hcs⟩
  unfold getItem
  try with_reducible refine wpAny_holding ?_
  first | refine wpAny_bind (wpAny_pure ?_) | skip
  refine wpAny_bind (wpAny_sequenceKey ht.typeIs (by decide) ?_)
  refine wpAny_bind (wpAny_callSpecial?_slot (name := Str.ofString "__getitem__") ht.typeIs PyProof.Rows.slot_tuple_getitem
    (wpAny_call_entry PyProof.Rows.slot_tuple_getitem ht.typeIs entry_tuple_getitem ?_ (args_tuple_getitem _ _)))
  show wpAny _ _ (Builtin.Tuple.tupleItemsOf (.ref t) >>= _) _ _ s
  refine wpAny_bind (tupleItemsOf_ ht ?_)
  refine wpAny_bind (wpAny_typeOf hTs ?_)
  rw [if_pos (by decide)]
  refine wpAny_bind (sliceApplied_gen hs pl pu ?_)
  have hno : ¬ ((((sIx items.size 0 lo : Nat) : Int) == 0 && (1 : Int) == 1 && (sIx items.size items.size hi - sIx items.size 0 lo) == items.size) = true) := by
    intro q
    rw [Bool.and_eq_true, Bool.and_eq_true] at q
    have q1 : ((sIx items.size 0 lo : Nat) : Int) = 0 := eq_of_beq q.1.1
    have q2 : sIx items.size items.size hi - sIx items.size 0 lo = items.size := eq_of_beq q.2
    exact hw ⟨by omega, by omega⟩
  show wpAny _ _ (if (((sIx items.size 0 lo : Nat) : Int) == 0 && (1 : Int) == 1 && (sIx items.size items.size hi - sIx items.size 0 lo) == items.size) = true then _ else _) _ _ s
  rw [if_neg hno, pick_gen]
  first
    | exact wpAny_bind (m := Builtin.Tuple.tupleExact _) (wpAny_newObj_type (wpAny_pure ⟨_, rfl, wpAny_pure h⟩) htake)
    | exact wpAny_bind (m := Builtin.Tuple.tupleExact _) (wpAny_newObj_type (wpAny_bind (wpAny_pure (wpAny_pure ⟨_, rfl, wpAny_pure h⟩))) htake)
    | exact wpAny_bind (wpAny_bind (m := Builtin.Tuple.tupleExact _) (wpAny_newObj_type (wpAny_pure (wpAny_pure ⟨_, rfl, wpAny_pure h⟩)) htake))
    | exact wpAny_bind (wpAny_bind (m := Builtin.Tuple.tupleExact _) (wpAny_newObj_type (wpAny_pure ⟨_, rfl, wpAny_pure h⟩) htake))
end
end HT
namespace L2
open PySem PySem.Spec PyProof.Rows
noncomputable abbrev TO := St → Hp → (Option Int → Hp → Prop) → Prop
noncomputable def PO (X : Cx) (e : Option Expr) (t : TO) : Prop :=
  ∀ (pins : List (Addr × Obj)) (s : Shared) (σ : St) (H : Hp) (Q : Option Int → Hp → Prop), Inv X pins σ H s → t σ H Q →
    wpAny (model X.prog X.w) X.A (evalPart e X.env) (fun u s' => ∃ o H', Inv X pins σ H' s' ∧ IsPart u o ∧ Q o H') X.xe s
noncomputable def tNoPart : TO := fun _ H Q => Q none H
noncomputable def tPart (t : TE) : TO := fun σ H Q => t σ H fun x H1 => ∃ i, x = .int i ∧ Q (some i) H1
noncomputable section
variable {X : Cx} {e : Expr} {te : TE} {lo hi : Option Expr} {tl th : TO} {pos p2 : Pos}
theorem po_none : PO X none tNoPart := by
  intro pins s σ H Q I h
  rw [evalPart_none]
  exact wpAny_pure ⟨none, H, I, .none, h⟩
theorem po_some (h : PE X e te) : PO X (some e) (tPart te) := by
  intro pins s σ H Q I hw
  rw [evalPart_some]
  refine thn (h pins s σ H _ I hw) fun u s1 ⟨x, H1, I1, r1, q1⟩ => ?_
  obtain ⟨i, rfl, q⟩ := q1
  obtain ⟨t, rfl⟩ := r1
  exact ⟨some i, H1, I1, .int i t, q⟩
noncomputable def SlR (X : Cx) (r : V → Option Int → Option Int → Hp → VK → Prop) : Prop :=
  ∀ (pins : List (Addr × Obj)) (s : Shared) (σ : St) (H : Hp) (x : V) (v vl vu : Value) (lo hi : Option Int) (sl : Addr) (Q : VK), Inv X pins σ H s → RelV x v → s.heap.IsSliceOf sl vl vu .none → IsPart vl lo → IsPart vu hi → r x lo hi H Q →
    ∃ T id, typeLookup (.type T) "__getitem__" = pure (some (.builtin id)) ∧ s.TypeIs v T ∧ wpAny (model X.prog X.w) X.A (getItem v (.ref sl)) (EP X pins σ Q) X.xe s
theorem SlR.or {r r' : V → Option Int → Option Int → Hp → VK → Prop} (h : SlR X r) (h' : SlR X r') : SlR X (fun x lo hi H Q => r x lo hi H Q ∨ r' x lo hi H Q) := by
  intro pins s σ H x v vl vu lo hi sl Q I rx hs pl pu q
  rcases q with q | q
  · exact h pins s σ H x v vl vu lo hi sl Q I rx hs pl pu q
  · exact h' pins s σ H x v vl vu lo hi sl Q I rx hs pl pu q
noncomputable def tSl (r : V → Option Int → Option Int → Hp → VK → Prop) (te : TE) (tl th : TO) : TE := fun σ H Q => te σ H fun x H1 => tl σ H1 fun l H2 => th σ H2 fun u H3 => r x l u H3 Q
theorem pe_slice {r : V → Option Int → Option Int → Hp → VK → Prop} (hr : SlR X r) (he : PE X e te) (hl : PO X lo tl) (hu : PO X hi th) : PE X (.Subscript e (.Slice lo hi none p2) pos) (tSl r te tl th) := by
  intro pins s σ H Q I h
  refine Subscript_ (thn (he pins s σ H _ I h) fun v s1 ⟨x, H1, I1, r1, q1⟩ => ?_)
  refine wpAny_Slice (thn (hl pins s1 σ H1 _ I1 q1) fun vl s2 ⟨l, H2, I2, pl, q2⟩ => thn (hu pins s2 σ H2 _ I2 q2) fun vu s3 ⟨u, H3, I3, pu, q3⟩ => ?_)
  rw [evalPart_none]
  refine wpAny_pure ?_
  have I4 : Inv X pins σ H3 { s3 with heap := s3.heap.push { cls := .type "slice", data := .fields #[vl, vu, .none] } } := I3.kept (t' := s3.toks) fun b ob q => Heap.get?_push_of_some _ q
  obtain ⟨T, id, hT, ht, hg⟩ := hr pins { s3 with heap := s3.heap.push { cls := .type "slice", data := .fields #[vl, vu, .none] } } σ H3 x v vl vu l u s3.heap.objs.size Q I4 r1 (Heap.IsSliceOf.new ..) pl pu q3
  show wpAny (model X.prog X.w) X.A (subscriptTail e (.Slice lo hi none p2) v (.ref s3.heap.objs.size)) (EP X pins σ Q) X.xe { s3 with heap := s3.heap.push { cls := .type "slice", data := .fields #[vl, vu, .none] } }
  exact tail_any (ops := [.ref s3.heap.objs.size, v]) ht hT hg (by with_unfolding_all rfl)
noncomputable def cutV (xs : List V) (lo hi : Option Int) : List V := (xs.drop (HT.sIx xs.length 0 lo)).take (HT.sIx xs.length xs.length hi - HT.sIx xs.length 0 lo)
theorem cutV_length (xs : List V) (lo hi : Option Int) : (cutV xs lo hi).length ≤ xs.length := by
  unfold cutV
  rw [List.length_take, List.length_drop]
  omega
noncomputable def rSlT (K : PySem.W.Frag) : V → Option Int → Option Int → Hp → VK → Prop := fun x lo hi H Q => ∃ a xs, x = .ref a ∧ SqT K H a xs ∧
  ¬ (HT.sIx xs.length 0 lo = 0 ∧ HT.sIx xs.length xs.length hi = xs.length) ∧ ∀ p, H p = none → Q (.ref p) (upd H p (.tup (cutV xs lo hi)))
theorem sl_tup : SlR X (rSlT X.K) := by
  intro pins s σ H x v vl vu lo hi sl Q I rx hs pl pu h
  obtain ⟨a, xs, rfl, hx, hw, q⟩ := h
  cases rx
  obtain ⟨its, r, ht, hz⟩ := I.tuple hx
  have hlen : its.toArray.size = xs.length := by rw [List.size_toArray]; exact r.length.symm
  refine ⟨"tuple", _, PyProof.Rows.slot_tuple_getitem.lookup, ht.typeIs, ?_⟩
  refine HT.getItem_tuple_cut ht hs pl pu (by rw [hlen]; exact hw) ?_ (by rw [hlen]; exact hz)
  rw [hlen]
  refine ⟨.ref s.heap.objs.size, _, I.laid (t' := s.toks) (o := .tup (cutV xs lo hi)) (fun b ob q => Heap.get?_push_of_some _ q) (Nat.le_refl _) ?_, rfl, q _ (I.hok.fresh (Nat.le_refl _))⟩
  exact ⟨Nat.le_trans (cutV_length xs lo hi) hz, _, (r.drop (HT.sIx xs.length 0 lo)).take (HT.sIx xs.length xs.length hi - HT.sIx xs.length 0 lo), TupD.new _ _⟩
noncomputable def rCatT (K : PySem.W.Frag) : R2 := fun x y H Q => ∃ a b xs ys, x = .ref a ∧ y = .ref b ∧ SqT K H a xs ∧ SqT K H b ys ∧ xs ≠ [] ∧ xs.length + ys.length ≤ sizeLine ∧
  (ys = [] → Q (.ref a) H) ∧ (ys ≠ [] → ∀ p, H p = none → Q (.ref p) (upd H p (.tup (xs ++ ys))))
theorem Vals.nil_iff {xs : List V} {us : List Value} (r : Vals xs us) : us = [] ↔ xs = [] := by
  cases r with
  | nil => simp
  | cons _ _ => simp
theorem op_catT : OpR X (binaryOp .Add) (rCatT X.K) := by
  intro pins s σ H x y v u Q I rx ry h
  obtain ⟨a, b, xs, ys, rfl, rfl, ha, hb, hx, hz, q1, q2⟩ := h
  cases rx
  cases ry
  obtain ⟨its, r1, p1, _⟩ := I.tuple ha
  obtain ⟨its2, r2, p2, _⟩ := I.tuple hb
  refine HT.cat_tup p1 p2 (fun z => hx (r1.nil_iff.mp z)) (fun z => ⟨.ref a, H, I, rfl, q1 (r2.nil_iff.mp z)⟩) (fun z => ?_) (by rw [← r1.length, ← r2.length]; exact hz)
  refine ⟨.ref s.heap.objs.size, _, I.laid (t' := s.toks) (o := .tup (xs ++ ys)) (fun b ob q => Heap.get?_push_of_some _ q) (Nat.le_refl _) ?_, rfl, q2 (fun w => z (r2.nil_iff.mpr w)) _ (I.hok.fresh (Nat.le_refl _))⟩
  exact ⟨by rw [List.length_append]; exact hz, _, r1.append r2, TupD.new _ _⟩
end
end L2
namespace L2
open PySem PySem.Spec PyProof.Rows
noncomputable def ixN (n : Nat) (i : Int) : Option Nat := if 0 ≤ i then (if i < n then some i.toNat else none) else if -(n : Int) ≤ i then some (i + n).toNat else none
noncomputable def atI {α : Type} (xs : List α) (i : Int) : Option α := (ixN xs.length i).bind fun j => xs[j]?
theorem ixN_seq {n : Nat} {i : Int} {j : Nat} (h : ixN n i = some j) : seqIndex? i n = some j ∧ j < n ∧ -(n : Int) ≤ i ∧ i < n := by
  unfold ixN at h
  by_cases h0 : 0 ≤ i
  · rw [if_pos h0] at h
    by_cases h1 : i < n
    · rw [if_pos h1] at h
      have e : i.toNat = j := Option.some.inj h
      exact ⟨by rw [seqIndex_of h0 h1, e], by omega, by omega, h1⟩
    · rw [if_neg h1] at h; cases h
  · rw [if_neg h0] at h
    by_cases h1 : -(n : Int) ≤ i
    · rw [if_pos h1] at h
      have e : (i + n).toNat = j := Option.some.inj h
      exact ⟨by rw [seqIndex_neg (by omega) h1, e], by omega, h1, by omega⟩
    · rw [if_neg h1] at h; cases h
theorem atI_get {α : Type} {xs : List α} {i : Int} {v : α} (h : atI xs i = some v) : ∃ j, seqIndex? i xs.length = some j ∧ xs[j]? = some v ∧ j < xs.length ∧ -(xs.length : Int) ≤ i ∧ i < xs.length := by
  unfold atI at h
  cases e : ixN xs.length i with
  | none => rw [e] at h; cases h
  | some j =>
    rw [e] at h
    obtain ⟨h1, h2, h3, h4⟩ := ixN_seq e
    exact ⟨j, h1, h, h2, h3, h4⟩
noncomputable def PlainIx (b : Expr) : Prop := ∀ o i, subscripted b false o i = operate [o, i] (getItem o i)
noncomputable def IxR (X : Cx) (r : R2) : Prop :=
  ∀ (value slice : Expr) (pins : List (Addr × Obj)) (s : Shared) (σ : St) (H : Hp) (x y : V) (v u : Value) (Q : VK), Inv X pins σ H s → RelV x v → RelV y u → r x y H Q →
    subscripted slice false v u = operate [v, u] (getItem v u) → wpAny (model X.prog X.w) X.A (subscriptTail value slice v u) (EP X pins σ Q) X.xe s
noncomputable def MtR (X : Cx) (id : String) (r : V → List V → Hp → VK → Prop) : Prop :=
  ∀ (pins : List (Addr × Obj)) (s : Shared) (σ : St) (H : Hp) (x : V) (xs : List V) (v : Value) (us : List Value) (Q : VK), Inv X pins σ H s → RelV x v → Vals xs us → r x xs H Q →
    wpAny (model X.prog X.w) X.A (call (.builtin id) (v :: us)) (EP X pins σ Q) X.xe s
noncomputable section
variable {X : Cx} {a b : Expr} {ta tb : TE} {pos : Pos}
theorem IxR.or {r r' : R2} (h : IxR X r) (h' : IxR X r') : IxR X (fun x y H Q => r x y H Q ∨ r' x y H Q) := by
  intro value slice pins s σ H x y v u Q I rx ry q hs
  rcases q with q | q
  · exact h value slice pins s σ H x y v u Q I rx ry q hs
  · exact h' value slice pins s σ H x y v u Q I rx ry q hs
theorem MtR.or {id : String} {r r' : V → List V → Hp → VK → Prop} (h : MtR X id r) (h' : MtR X id r') : MtR X id (fun x xs H Q => r x xs H Q ∨ r' x xs H Q) := by
  intro pins s σ H x xs v us Q I rx rs q
  rcases q with q | q
  · exact h pins s σ H x xs v us Q I rx rs q
  · exact h' pins s σ H x xs v us Q I rx rs q
theorem pe_ix {r : R2} (hr : IxR X r) (ha : PE X a ta) (hb : PE X b tb) (hs : PlainIx b) : PE X (.Subscript a b pos) (tOp r ta tb) := by
  intro pins s σ H Q I h
  exact Subscript_ (binT ha hb I h fun v u s2 x y H2 I2 rx ry q => hr a b pins s2 σ H2 x y v u Q I2 rx ry q (hs _ _))
noncomputable def rIxL (K : PySem.W.Frag) : R2 := fun x y H Q => ∃ p xs i v, x = .ref p ∧ y = .int i ∧ SqL K H p xs ∧ atI xs i = some v ∧ Q v H
noncomputable def rIxT (K : PySem.W.Frag) : R2 := fun x y H Q => ∃ p xs i v, x = .ref p ∧ y = .int i ∧ SqT K H p xs ∧ atI xs i = some v ∧ Q v H
noncomputable def rIxS : R2 := fun x y H Q => ∃ z i c, x = .str z ∧ y = .int i ∧ z.length ≤ sizeLine ∧ atI z.cps.toList i = some c ∧ Q (.str ⟨#[c]⟩) H
theorem ix_list : IxR X (rIxL X.K) := by
  intro value slice pins s σ H x y v u Q I rx ry h hs
  obtain ⟨p, xs, i, z, rfl, rfl, hq, he, q⟩ := h
  cases rx
  obtain ⟨t, rfl⟩ := ry
  obtain ⟨its, r, pl, hz⟩ := I.list hq
  obtain ⟨j, h1, h2, h3, h4, h5⟩ := atI_get he
  obtain ⟨w, ew, rw'⟩ := r.get h2
  have hl := r.length
  have hn := line63
  have fin : EP X pins σ Q w s := ⟨z, H, I, rw', q⟩
  by_cases h0 : 0 ≤ i
  · have hj : i.toNat = j := by
      rw [seqIndex_of h0 h5] at h1
      exact Option.some.inj h1
    exact item_listR pl.isList h0 (by omega) (by rw [hj]; simpa using ew) fin hs
  · have hj : (i + (its.toArray.size : Int)).toNat = j := by
      rw [seqIndex_neg (by omega) h4] at h1
      rw [List.size_toArray, ← hl]
      exact Option.some.inj h1
    exact subscriptTail_builtinR (x := w) pl.isList.typeIs slot_list_getitem.lookup
      (wpAny_getItem_list_neg (Q := fun r s' => r = w ∧ EP X pins σ Q r s') pl.isList (by omega) (by rw [List.size_toArray] <;> omega) (by omega) (by rw [hj]; simpa using ew) ⟨rfl, fin⟩) hs
theorem ix_tup : IxR X (rIxT X.K) := by
  intro value slice pins s σ H x y v u Q I rx ry h hs
  obtain ⟨p, xs, i, z, rfl, rfl, hq, he, q⟩ := h
  cases rx
  obtain ⟨t, rfl⟩ := ry
  obtain ⟨its, r, pl, hz⟩ := I.tuple hq
  obtain ⟨j, h1, h2, h3, h4, h5⟩ := atI_get he
  obtain ⟨w, ew, rw'⟩ := r.get h2
  have hl := r.length
  have hn := line63
  have fin : EP X pins σ Q w s := ⟨z, H, I, rw', q⟩
  exact subscriptTail_builtinR (x := w) pl.typeIs slot_tuple_getitem.lookup
    (getItem_tuple (j := j) (Q := fun r s' => r = w ∧ EP X pins σ Q r s') pl (by omega) (by omega) (by rw [List.size_toArray, ← hl]; exact h1) (by simpa using ew) ⟨rfl, fin⟩) hs
theorem ix_str : IxR X rIxS := by
  intro value slice pins s σ H x y v u Q I rx ry h hs
  obtain ⟨z, i, c, rfl, rfl, hz, he, q⟩ := h
  obtain ⟨t, rfl⟩ := rx
  obtain ⟨t', rfl⟩ := ry
  obtain ⟨j, h1, h2, h3, h4, h5⟩ := atI_get he
  have hl : z.cps.toList.length = z.length := by simp [Str.length]
  rw [hl] at h1 h4 h5
  have hn := line63
  exact tail_any (typeIs_str s z t) slot_str_getitem.lookup (getItem_str (c := c) (by
    have e1 : decide (i < -(2 ^ 63 : Int)) = false := decide_eq_false (by omega)
    have e2 : decide (i ≥ 2 ^ 63) = false := decide_eq_false (by omega)
    rw [e1, e2, Bool.or_false]) (by rw [h1]; simpa using h2) ⟨.str ⟨#[c]⟩, H, I.tok _, ⟨_, rfl⟩, q⟩) hs
theorem Inv.lst {pins : List (Addr × Obj)} {σ : St} {H : Hp} {s : Shared} {p : Addr} {xs : List V} (I : Inv X pins σ H s) (h : H p = some (.lst xs)) :
    ∃ (its : List Value) (n : Nat), Vals xs its ∧ s.heap.get? p = some { cls := .type "list", data := .seq its.toArray n } ∧ xs.length ≤ sizeLine := by
  obtain ⟨z, its, n, r, e⟩ := I.hok p _ h
  exact ⟨its, n, r, e, z⟩
theorem slice_bounds (lo hi : Option Int) (n : Nat) : (sliceBounds lo hi none n).1 = ((HT.sIx n 0 lo : Nat) : Int) ∧ (sliceBounds lo hi none n).2.1 = ((HT.sIx n n hi : Nat) : Int) ∧ (sliceBounds lo hi none n).2.2 = 1 := by
  refine ⟨?_, ?_, rfl⟩
  · cases lo with
    | none => simp [sliceBounds, HT.sIx]
    | some i =>
      simp only [sliceBounds, HT.sIx, Option.getD_none, show (1 : Int) > 0 by decide, if_true]
      by_cases h : i < 0
      · simp only [h, if_true] <;> omega
      · simp only [h, if_false] <;> omega
  · cases hi with
    | none => simp [sliceBounds, HT.sIx]
    | some i =>
      simp only [sliceBounds, HT.sIx, Option.getD_none, show (1 : Int) > 0 by decide, if_true]
      by_cases h : i < 0
      · simp only [h, if_true] <;> omega
      · simp only [h, if_false] <;> omega
theorem slicePick_cut (its : List Value) (lo hi : Option Int) : slicePick its.toArray lo hi none = ((its.drop (HT.sIx its.length 0 lo)).take (HT.sIx its.length its.length hi - HT.sIx its.length 0 lo)).toArray := by
  obtain ⟨h1, h2, h3⟩ := slice_bounds lo hi its.toArray.size
  unfold slicePick
  rw [h1, h2, h3]
  simp only [sliceRange_one, pick_run, List.size_toArray] <;> rfl
noncomputable def rSlL (K : PySem.W.Frag) : V → Option Int → Option Int → Hp → VK → Prop := fun x lo hi H Q => ∃ a xs, x = .ref a ∧ SqL K H a xs ∧ ∀ p, H p = none → Q (.ref p) (upd H p (.lst (cutV xs lo hi)))
theorem sl_list : SlR X (rSlL X.K) := by
  intro pins s σ H x v vl vu lo hi sl Q I rx hs pl pu h
  obtain ⟨a, xs, rfl, hx, q⟩ := h
  cases rx
  obtain ⟨its, r, ht, hz⟩ := I.list hx
  have hlen := r.length
  refine ⟨"list", _, slot_list_getitem.lookup, ht.isList.typeIs, ?_⟩
  refine wpAny_getItem_list_slice ht.isList hs pl pu .none (by simp) ?_ (by rw [List.size_toArray] <;> omega)
  rw [slicePick_cut, ← hlen]
  refine ⟨.ref s.heap.objs.size, _, I.laid (t' := s.toks) (o := .lst (cutV xs lo hi)) (fun b ob q => Heap.get?_push_of_some _ q) (Nat.le_refl _) ?_, rfl, q _ (I.hok.fresh (Nat.le_refl _))⟩
  exact ⟨Nat.le_trans (cutV_length xs lo hi) hz, _, 0, (r.drop (HT.sIx xs.length 0 lo)).take (HT.sIx xs.length xs.length hi - HT.sIx xs.length 0 lo), Heap.get?_push_size _ rfl⟩
theorem call_len_seq : CallR X (.builtin "len") (fun xs H Q => ∃ p ys, xs = [.ref p] ∧ (SqL X.K H p ys ∨ SqT X.K H p ys) ∧ Q (.int ys.length) H) := by
  intro pins s σ H xs us Q I r h
  obtain ⟨p, ys, rfl, hq, q⟩ := h
  obtain ⟨u, rfl, rx⟩ := vals1 r
  cases rx
  have hn := line63
  rcases hq with hq | hq
  · obtain ⟨its, r', pl, hz⟩ := I.list hq
    have hlen := r'.length
    exact Calls.call_len_list pl.isList (by simp only [List.size_toArray] <;> omega) ⟨.int ys.length, H, I.tok _, ⟨s.toks + 1, by rw [List.size_toArray, hlen]⟩, q⟩
  · obtain ⟨its, r', pl, hz⟩ := I.tuple hq
    have hlen := r'.length
    exact len_tuple pl (by simp only [List.size_toArray] <;> omega) ⟨.int ys.length, H, I.tok _, ⟨s.toks + 1, by rw [List.size_toArray, hlen]⟩, q⟩
theorem call_len_str : CallR X (.builtin "len") (fun xs H Q => ∃ z, xs = [.str z] ∧ z.length ≤ sizeLine ∧ Q (.int z.length) H) := by
  intro pins s σ H xs us Q I r h
  obtain ⟨z, rfl, hz, q⟩ := h
  obtain ⟨u, rfl, t, rfl⟩ := vals1 r
  have hn := line63
  exact len_str (by omega) ⟨.int z.length, H, I.tok _, ⟨_, rfl⟩, q⟩
theorem CallR.or {f : Value} {r r' : List V → Hp → VK → Prop} (h : CallR X f r) (h' : CallR X f r') : CallR X f (fun xs H Q => r xs H Q ∨ r' xs H Q) := by
  intro pins s σ H xs us Q I rs q
  rcases q with q | q
  · exact h pins s σ H xs us Q I rs q
  · exact h' pins s σ H xs us Q I rs q
theorem call_tuple_of : CallR X (.type "tuple") (fun xs H Q => ∃ p ys, xs = [.ref p] ∧ ((SqL X.K H p ys ∧ ∀ l, H l = none → Q (.ref l) (upd H l (.tup ys))) ∨ (SqT X.K H p ys ∧ Q (.ref p) H))) := by
  intro pins s σ H xs us Q I r h
  obtain ⟨p, ys, rfl, h⟩ := h
  obtain ⟨u, rfl, rx⟩ := vals1 r
  cases rx
  rcases h with ⟨hq, q⟩ | ⟨hq, q⟩
  · obtain ⟨its, r', pl, hz⟩ := I.list hq
    have hlen := r'.length
    refine call_tuple_list pl.isList (fun h' kp => ?_) (by simp only [List.size_toArray] <;> omega)
    have I1 : Inv X pins σ H { s with heap := h' } := I.kept (t' := s.toks) kp
    have I2 : Inv X pins σ (upd H h'.objs.size (.tup ys)) { s with heap := h'.push { cls := .type "tuple", data := .seq its.toArray } } :=
      I1.laid (t' := s.toks) (fun b o e => Heap.get?_push_of_some _ e) (Nat.le_refl _) (show ObjOk X.prog X.w _ _ _ (.tup ys) from ⟨hz, its, r', TupD.new _ _⟩)
    exact ⟨.ref h'.objs.size, _, I2, rfl, q _ (I1.hok.fresh (Nat.le_refl _))⟩
  · obtain ⟨its, r', pl, hz⟩ := I.tuple hq
    exact call_tuple_same pl ⟨.ref p, H, I, rfl, q⟩
noncomputable def tyV (K : PySem.W.Frag) (T : String) (x : V) (H : Hp) : Prop := match x with
  | .str _ => T = "str"
  | .int _ => T = "int"
  | .ref p => (T = "list" ∧ ∃ xs, SqL K H p xs) ∨ (T = "tuple" ∧ ∃ o, K.lookup p = some o ∧ o.cls = .type "tuple" ∧ o.dict = none) ∨
      (T = "dict" ∧ ((∃ kvs, H p = some (.dK kvs)) ∨ ∃ kvs, H p = some (.dT kvs))) ∨ (T = "set" ∧ ∃ S n, H p = some (.set S n))
  | _ => False
theorem tyV_is {pins : List (Addr × Obj)} {σ : St} {H : Hp} {s : Shared} {T : String} {x : V} {v : Value} (I : Inv X pins σ H s) (r : RelV x v) (ty : tyV X.K T x H) :
    s.TypeIs v T ∧ ∀ a, v = .ref a → ∃ ob, s.heap.get? a = some ob ∧ ob.dict = none := by
  cases x with
  | str z =>
    obtain ⟨t, rfl⟩ := r
    cases (show T = "str" from ty)
    exact ⟨typeIs_str s z t, fun _ e => nomatch e⟩
  | int i =>
    obtain ⟨t, rfl⟩ := r
    cases (show T = "int" from ty)
    exact ⟨typeIs_int s i t, fun _ e => nomatch e⟩
  | ref p =>
    cases r
    rcases ty with ⟨rfl, xs, hq⟩ | ⟨rfl, o, hk, hc, hd⟩ | ⟨rfl, hk⟩ | ⟨rfl, S, n, hk⟩
    · obtain ⟨its, _, pl, _⟩ := I.list hq
      refine ⟨pl.isList.typeIs, fun a e => ?_⟩
      cases e
      obtain ⟨o, n, e, c, hd, _⟩ := pl
      exact ⟨o, e, hd⟩
    · refine ⟨⟨o, I.kIn p o hk, hc⟩, fun a e => ?_⟩
      cases e
      exact ⟨o, I.kIn _ o hk, hd⟩
    · have z : ∃ o, s.heap.get? p = some o ∧ o.ExactDict := by
        rcases hk with ⟨kvs, hk⟩ | ⟨kvs, hk⟩
        · obtain ⟨_, _, _, _, o, _, _, e, ex, _⟩ := I.hok p _ hk
          exact ⟨o, e, ex⟩
        · obtain ⟨_, _, _, _, o, _, _, e, ex, _⟩ := I.hok p _ hk
          exact ⟨o, e, ex⟩
      obtain ⟨o, e, ex⟩ := z
      refine ⟨⟨o, e, ex.1⟩, fun a e2 => ?_⟩
      cases e2
      exact ⟨o, e, ex.2.1⟩
    · obtain ⟨o, _, _, _, e, ex, _⟩ := I.hok p _ hk
      refine ⟨⟨o, e, ex.1⟩, fun a e2 => ?_⟩
      cases e2
      exact ⟨o, e, ex.2.1⟩
  | _ => exact False.elim ty
noncomputable def tBM (K : PySem.W.Frag) (T : String) (r : V → List V → Hp → VK → Prop) (to : TE) (t : TA) : TE := fun σ H Q => to σ H fun x H1 => tyV K T x H1 ∧ t σ H1 fun xs H2 => r x xs H2 Q
variable {o e : Expr} {es : List Expr} {to : TE} {t : TA} {name : Str} {apos cpos : Pos} {T id : String} {r : V → List V → Hp → VK → Prop}
theorem pe_bm (pa : PlainAttrs T) (slot : Slot T name id) (hty : typeOf (.builtin id) = pure (.type "method_descriptor")) (hm : MtR X id r) (ho : PE X o to) (ha : PA X (e :: es) t)
    (hbase : attributeBase o name X.env (eval o X.env) = eval o X.env := by rfl)
    (hfew : ((backTo cpos (starEach (e :: es) X.env)).all (fun x => !x.1) && (backToKw cpos (keywordEach [] X.env)).all (fun x => x.1.isSome)
      && decide ((e :: es).length + ([] : List Keyword).length + (if ([] : List Keyword).isEmpty then 0 else 1) < 30)) = true := by rfl)
    (hline : (apos.endLine == cpos.line) = true := by rfl) (hs : starEach (e :: es) X.env = (false, eval e X.env) :: starEach es X.env := by rfl) (hplain : (backTo cpos (starEach es X.env)).any (·.1) = false := by rfl) :
    PE X (.Call (.Attribute o name apos) (e :: es) [] cpos) (tBM X.K T r to t) := by
  intro pins s σ H Q I h
  refine wpAny_Call_method_late hbase hfew hline rfl (thn (ho pins s σ H _ I h) fun v s1 ⟨x, H1, I1, r1, ty, q1⟩ => ?_)
  obtain ⟨h1, h2⟩ := tyV_is I1 r1 ty
  refine ⟨T, id, pa, slot, hty, h1, h2, ?_⟩
  have hA := ha cpos pins s1 σ H1 _ I1 q1
  rw [hs] at hA ⊢
  refine Calls.callWith_builtin (by show (false || (backTo cpos (starEach es X.env)).any (·.1)) = false; rw [hplain] <;> rfl) (Calls.evalArgs_plain ?_)
  exact thn hA fun us s2 ⟨vs, H2, I2, r2, q2⟩ => hm pins s2 σ H2 x vs v us Q I2 r1 r2 q2
end
end L2
namespace L2
open PySem PySem.Spec PyProof.Rows
noncomputable def MtM (X : Cx) (id : String) (r : V → List V → Hp → VK → Prop) : Prop :=
  ∀ (pins : List (Addr × Obj)) (s : Shared) (σ : St) (H : Hp) (x : V) (xs : List V) (v : Value) (us : List Value) (Q : VK), Inv X pins σ H s → RelV x v → Vals xs us → r x xs H Q →
    wpAny (model X.prog X.w) X.A (call (.builtin id) (v :: us)) (EP X pins σ Q) X.xe s
theorem Vals.one : ∀ {x : V} {us : List Value}, Vals [x] us → ∃ u, us = [u] ∧ RelV x u
  | _, _, .cons r .nil => ⟨_, rfl, r⟩
theorem Vals.two : ∀ {x y : V} {us : List Value}, Vals [x, y] us → ∃ u v, us = [u, v] ∧ RelV x u ∧ RelV y v
  | _, _, _, .cons r (.cons q .nil) => ⟨_, _, rfl, r, q⟩
theorem Vals.zero : ∀ {us : List Value}, Vals [] us → us = []
  | _, .nil => rfl
theorem Vals.rep {xs : List V} {us : List Value} (h : Vals xs us) : ∀ k : Nat, Vals (List.replicate k xs).flatten (List.replicate k us).flatten
  | 0 => .nil
  | k + 1 => by
    rw [List.replicate_succ, List.replicate_succ, List.flatten_cons, List.flatten_cons]
    exact Vals.append h (Vals.rep h k)
noncomputable section
variable {X : Cx} {pins : List (Addr × Obj)} {σ : St} {H : Hp} {s : Shared} {l b : Addr} {xs ys zs : List V}
theorem Inv.lset {its its' : List Value} {n : Nat} {f : Array Value → Array Value} {t' : Nat} (I : Inv X pins σ H s) (hH : H l = some (.lst xs))
    (e : s.heap.get? l = some { cls := .type "list", data := .seq its.toArray n }) (hf : f its.toArray = its'.toArray) (hv : Vals ys its') (hz : ys.length ≤ sizeLine) :
    Inv X pins σ (upd H l (.lst ys)) { s with heap := s.heap.update l (Obj.mapSeq f), toks := t' } := by
  have q := PySem.IsL.update e f
  rw [hf] at q
  refine I.write (x := l) (e := l) (by rw [hH]; exact trivial) (.inl rfl) (fun b' u hb hu => (Heap.get?_update_other s.heap (Obj.mapSeq f) (Ne.symm hb)).trans hu) ⟨_, q⟩ ?_
  exact ⟨hz, its', _, hv, q⟩
theorem Inv.lnew {its : List Value} {t' : Nat} (I : Inv X pins σ H s) (hv : Vals ys its) (hz : ys.length ≤ sizeLine) :
    Inv X pins σ (upd H s.heap.objs.size (.lst ys)) { s with heap := s.heap.push { cls := .type "list", data := .seq its.toArray }, toks := t' } :=
  I.laid (fun _ _ q => Heap.get?_push_of_some _ q) (Nat.le_refl _) ⟨hz, its, 0, hv, Heap.get?_push_size _ rfl⟩
theorem Inv.fresh (I : Inv X pins σ H s) : H s.heap.objs.size = none := I.hok.fresh (Nat.le_refl _)
theorem Inv.lstM (I : Inv X pins σ H s) (hH : H l = some (.lst xs)) : xs.length ≤ sizeLine ∧ ∃ (its : List Value) (n : Nat), Vals xs its ∧ xs.length = its.length ∧ s.heap.get? l = some { cls := .type "list", data := .seq its.toArray n } := by
  obtain ⟨z, its, n, r, e⟩ := I.hok l _ hH
  exact ⟨z, its, n, r, r.length, e⟩
end
noncomputable section
variable {X : Cx}
noncomputable def rAppend : V → List V → Hp → VK → Prop := fun x vs H Q => ∃ l xs y, x = .ref l ∧ vs = [y] ∧ H l = some (.lst xs) ∧ xs.length < sizeLine ∧ Q .non (upd H l (.lst (xs ++ [y])))
theorem mt_append : MtM X "list.append" rAppend := by
  intro pins s σ H x vs v us Q I rx rv h
  obtain ⟨l, xs, y, rfl, rfl, hH, hz, q⟩ := h
  cases rx
  obtain ⟨u, rfl, ru⟩ := rv.one
  obtain ⟨z, its, n, r, hl, e⟩ := I.lstM hH
  refine call_meets F.slot_list_append ⟨_, e, rfl⟩ F.entry_list_append (F.args_list_append_2 _ _) (PySem.list_append l its.toArray n u (by rw [List.size_toArray]; omega)) ⟨e, ?_⟩
  refine ⟨.non, _, I.lset (its' := its ++ [u]) hH e (by simp) (r.append (.cons ru .nil)) ?_, rfl, q⟩
  rw [List.length_append, List.length_singleton]
  omega
end
noncomputable section
variable {prog : Program} {w : World} {A : Around} {E : Value → Shared → Prop} {s : Shared}
end
noncomputable section
variable {X : Cx}
end
end L2
end
noncomputable section
set_option linter.all false
set_option maxRecDepth 100000
namespace L2
open PySem PySem.Spec PyProof.Rows
noncomputable section
variable {κ : Type} [DecidableEq κ]
noncomputable def valV (kvs : List (κ × V)) (k : κ) : Option V := (kvs.find? fun kv => decide (kv.1 = k)).map (·.2)
noncomputable def putK (kvs : List (κ × V)) (k : κ) (v : V) : List (κ × V) :=
  if (kvs.any fun kv => decide (kv.1 = k)) = true then kvs.map (fun kv => if kv.1 = k then (kv.1, v) else kv) else kvs ++ [(k, v)]
theorem valV_pos {p : κ × V} {r : List (κ × V)} {k : κ} (e : p.1 = k) : valV (p :: r) k = some p.2 := by simp [valV, List.find?_cons, e]
theorem valV_neg {p : κ × V} {r : List (κ × V)} {k : κ} (e : ¬ p.1 = k) : valV (p :: r) k = valV r k := by simp [valV, List.find?_cons, e]
theorem valV_any (k : κ) : ∀ kvs : List (κ × V), (kvs.any fun kv => decide (kv.1 = k)) = (valV kvs k).isSome
  | [] => rfl
  | p :: r => by
    rw [List.any_cons]
    by_cases e : p.1 = k
    · simp only [valV_pos e, decide_eq_true e, Bool.true_or, Option.isSome_some]
    · rw [valV_neg e, decide_eq_false e, Bool.false_or]; exact valV_any k r
theorem length_putK (kvs : List (κ × V)) (k : κ) (v : V) : (putK kvs k v).length ≤ kvs.length + 1 := by
  unfold putK
  split
  · rw [List.length_map]; omega
  · rw [List.length_append, List.length_cons, List.length_nil]; omega
theorem RelO.isSome_eq {o : Option V} {u : Option Value} (r : RelO o u) : o.isSome = u.isSome := by
  cases o with
  | none => cases u with
    | none => rfl
    | some _ => exact (show False from r).elim
  | some _ => cases u with
    | none => exact (show False from r).elim
    | some _ => rfl
theorem RelO.getD {o : Option V} {u : Option Value} {d : V} {d' : Value} (r : RelO o u) (rd : RelV d d') : RelV (o.getD d) (u.getD d') := by
  cases o with
  | none => cases u with
    | none => exact rd
    | some _ => exact (show False from r).elim
  | some _ => cases u with
    | none => exact (show False from r).elim
    | some _ => exact r
theorem KV.val {kvs : List (κ × V)} {vs : List (κ × Value)} (r : KV kvs vs) (k : κ) : RelO (valV kvs k) (valueAt vs k) := by
  unfold KV at r
  induction r with
  | nil => exact True.intro
  | @cons p q ps qs h t ih =>
    obtain ⟨h1, h2⟩ := h
    by_cases e : p.1 = k
    · have e' : q.1 = k := h1.symm.trans e
      have b : valueAt (q :: qs) k = some q.2 := by simp [valueAt, List.find?_cons, e']
      rw [valV_pos e, b]; exact h2
    · have e' : ¬ q.1 = k := fun z => e (h1.trans z)
      have b : valueAt (q :: qs) k = valueAt qs k := by simp [valueAt, List.find?_cons, e']
      rw [valV_neg e, b]; exact ih
theorem KV.any {kvs : List (κ × V)} {vs : List (κ × Value)} (r : KV kvs vs) (k : κ) : (kvs.any fun kv => decide (kv.1 = k)) = vs.any fun kv => decide (kv.1 = k) := by
  unfold KV at r
  induction r with
  | nil => rfl
  | cons h t ih => rw [List.any_cons, List.any_cons, ih, h.1]
theorem KV.repl {kvs : List (κ × V)} {vs : List (κ × Value)} (r : KV kvs vs) (k : κ) {y : V} {u : Value} (ry : RelV y u) :
    KV (kvs.map fun kv => if kv.1 = k then (kv.1, y) else kv) (vs.map fun kv => if kv.1 = k then (kv.1, u) else kv) := by
  unfold KV at r ⊢
  induction r with
  | nil => exact .nil
  | @cons p q ps qs h t ih =>
    rw [List.map_cons, List.map_cons]
    refine .cons ?_ ih
    obtain ⟨h1, h2⟩ := h
    by_cases e : p.1 = k
    · rw [if_pos e, if_pos (h1.symm.trans e)]; exact ⟨h1, ry⟩
    · rw [if_neg e, if_neg (fun z => e (h1.trans z))]; exact ⟨h1, h2⟩
theorem KV.put {kvs : List (κ × V)} {vs : List (κ × Value)} (r : KV kvs vs) (k : κ) {y : V} {u : Value} (ry : RelV y u) : KV (putK kvs k y) (stored vs k u) := by
  unfold putK stored
  rw [r.any k]
  by_cases e : (vs.any fun kv => decide (kv.1 = k)) = true
  · rw [if_pos e, if_pos e]; exact r.repl k ry
  · rw [if_neg e, if_neg e]; exact Paired.snoc r ⟨rfl, ry⟩
theorem KV.keys {kvs : List (κ × V)} {vs : List (κ × Value)} (r : KV kvs vs) : kvs.map (·.1) = vs.map (·.1) := by
  unfold KV at r
  induction r with
  | nil => rfl
  | cons h t ih => rw [List.map_cons, List.map_cons, ih, h.1]
theorem KV.length {kvs : List (κ × V)} {vs : List (κ × Value)} (r : KV kvs vs) : kvs.length = vs.length := Paired.length r
end
theorem kV_is {P : Program} {w : World} {k : Key} {u : Value} (r : RelV (kV k) u) : (mixKind P w).is k u = true := by
  cases k with
  | inl i => obtain ⟨t, e⟩ := (show ∃ t, u = Value.int i t from r); subst e; exact mixKind_int P w i t
  | inr x => obtain ⟨t, e⟩ := (show ∃ t, u = Value.str x t from r); subst e; exact mixKind_str P w x t
theorem items_are {P : Program} {w : World} : ∀ {ks : List Key} {us : List Value}, Vals (ks.map kV) us → ItemsAre (mixKind P w) ks us
  | [], _, r => by rw [List.map_nil] at r; cases r; exact .nil
  | k :: ks, _, r => by
    rw [List.map_cons] at r
    cases r with
    | cons h t => exact .cons (kV_is h) (items_are t)
noncomputable abbrev KT (H : Hp) : List (List Key × V) → List (List Key × Addr × Value) → Prop := Paired fun p q => p.1 = q.1 ∧ H q.2.1 = some (.tup (p.1.map kV)) ∧ RelV p.2 q.2.2
theorem KT.val {H : Hp} {kvs : List (List Key × V)} {xs : List (List Key × Addr × Value)} (r : KT H kvs xs) (k : List Key) : RelO (valV kvs k) ((atKey xs k).map (·.2)) := by
  induction r with
  | nil => exact True.intro
  | @cons p q ps qs h t ih =>
    obtain ⟨h1, _, h2⟩ := h
    by_cases e : p.1 = k
    · have e' : q.1 = k := h1.symm.trans e
      have b : atKey (q :: qs) k = some q.2 := by simp [atKey, List.find?_cons, e']
      rw [valV_pos e, b]; exact h2
    · have e' : ¬ q.1 = k := fun z => e (h1.trans z)
      have b : atKey (q :: qs) k = atKey qs k := by simp [atKey, List.find?_cons, e']
      rw [valV_neg e, b]; exact ih
theorem KT.repl {H : Hp} {kvs : List (List Key × V)} {xs : List (List Key × Addr × Value)} (r : KT H kvs xs) (k : List Key) {y : V} {u : Value} (ry : RelV y u) :
    KT H (kvs.map fun kv => if kv.1 = k then (kv.1, y) else kv) (xs.map (putAt k u)) := by
  induction r with
  | nil => exact .nil
  | @cons p q ps qs h t ih =>
    rw [List.map_cons, List.map_cons]
    refine .cons ?_ ih
    obtain ⟨h1, h2, h3⟩ := h
    unfold putAt
    by_cases e : p.1 = k
    · rw [if_pos e, if_pos (h1.symm.trans e)]; exact ⟨h1, h2, ry⟩
    · rw [if_neg e, if_neg (fun z => e (h1.trans z))]; exact ⟨h1, h2, h3⟩
theorem KT.put {H : Hp} {kvs : List (List Key × V)} {xs : List (List Key × Addr × Value)} (r : KT H kvs xs) (k : List Key) {b : Addr} {y : V} {u : Value} (hb : H b = some (.tup (k.map kV))) (ry : RelV y u) :
    KT H (putK kvs k y) (storedH xs k b u) := by
  have e : (kvs.any fun kv => decide (kv.1 = k)) = (atKey xs k).isSome := by
    rw [valV_any, (r.val k).isSome_eq, Option.isSome_map]
  unfold putK storedH
  rw [e]
  by_cases q : (atKey xs k).isSome = true
  · rw [if_pos q, if_pos q]; exact r.repl k ry
  · rw [if_neg q, if_neg q]; exact Paired.snoc r ⟨rfl, hb, ry⟩
theorem KT.keeps {H H' : Hp} {kvs : List (List Key × V)} {xs : List (List Key × Addr × Value)} (r : KT H kvs xs) (ht : ∀ b ys, H b = some (.tup ys) → H' b = some (.tup ys)) : KT H' kvs xs :=
  Paired.mapP r fun _ _ z => ⟨z.1, ht _ _ z.2.1, z.2.2⟩
noncomputable section
variable {P : Program} {w : World} {H : Hp} {h : Heap} {a : Addr}
theorem rd_of {u : HO} (ok : HOk P w H h) (e : Rd H a u) : ObjOk P w H h a u := e.ok ok
theorem dk_rd {kvs : List (Key × V)} (ok : HOk P w H h) (e : Rd H a (.dK kvs)) : kvs.length ≤ sizeLine ∧ (a == sysModules) = false ∧ ∃ vs, KV kvs vs ∧ h.DictOf (mixKind P w) a vs :=
  show ObjOk P w H h a (.dK kvs) from rd_of ok e
theorem dk_of {kvs : List (Key × V)} (ok : HOk P w H h) (e : H a = some (.dK kvs)) : kvs.length ≤ sizeLine ∧ (a == sysModules) = false ∧ ∃ vs, KV kvs vs ∧ h.DictOf (mixKind P w) a vs := dk_rd ok (.inl e)
theorem key_of {ks : List Key} (ok : HOk P w H h) (e : H a = some (.tup (ks.map kV))) : (tupleKind (mixKind P w)).is h ks a := by
  obtain ⟨_, its, r, o, h1, h2, _, n, h3⟩ := (show ObjOk P w H h a (.tup (ks.map kV)) from ok a _ e)
  exact ⟨o, its.toArray, n, h1, h2, h3, by simpa using items_are r⟩
theorem dt_rd {kvs : List (List Key × V)} (ok : HOk P w H h) (e : Rd H a (.dT kvs)) : kvs.length ≤ sizeLine ∧ (a == sysModules) = false ∧
    ∃ xs, KT H kvs xs ∧ h.DictOfH (tupleKind (mixKind P w)) a xs := by
  obtain ⟨z, y, xs, r, o, es, ep, h1, h2, h3, h4, h5⟩ := (show ObjOk P w H h a (.dT kvs) from rd_of ok e)
  refine ⟨z, y, xs, r, o, es, ep, h1, h2, h3, h4, fun x hx => ?_, h5⟩
  have all : ∀ {l : List (List Key × V)} {m : List (List Key × Addr × Value)}, KT H l m → ∀ x ∈ m, (tupleKind (mixKind P w)).is h x.1 x.2.1 := by
    intro l m q
    induction q with
    | nil => intro x hx; exact nomatch hx
    | @cons p q ps qs hq t ih =>
      intro x hx
      rcases List.mem_cons.mp hx with e | hx
      · subst e
        exact key_of ok (by rw [← hq.1]; exact hq.2.1)
      · exact ih x hx
  exact all r x hx
theorem dt_of {kvs : List (List Key × V)} (ok : HOk P w H h) (e : H a = some (.dT kvs)) : kvs.length ≤ sizeLine ∧ (a == sysModules) = false ∧
    ∃ xs, KT H kvs xs ∧ h.DictOfH (tupleKind (mixKind P w)) a xs := dt_rd ok (.inl e)
end
noncomputable def DGet (H : Hp) (a : Addr) (y : V) (r : Option V) : Prop :=
  (∃ kvs k, Rd H a (.dK kvs) ∧ y = kV k ∧ r = valV kvs k) ∨ ∃ kvs k b, Rd H a (.dT kvs) ∧ y = .ref b ∧ H b = some (.tup (k.map kV)) ∧ r = valV kvs k
noncomputable def DPut (H : Hp) (a : Addr) (y v : V) (H' : Hp) : Prop :=
  (∃ kvs k, H a = some (.dK kvs) ∧ y = kV k ∧ kvs.length < sizeLine ∧ H' = upd H a (.dK (putK kvs k v))) ∨
  ∃ kvs k b, H a = some (.dT kvs) ∧ y = .ref b ∧ H b = some (.tup (k.map kV)) ∧ kvs.length < sizeLine ∧ H' = upd H a (.dT (putK kvs k v))
theorem DGet.k {H : Hp} {a : Addr} {kvs : List (Key × V)} {k : Key} (e : H a = some (.dK kvs)) : DGet H a (kV k) (valV kvs k) := .inl ⟨kvs, k, .inl e, rfl, rfl⟩
theorem DGet.t {H : Hp} {a b : Addr} {kvs : List (List Key × V)} {k : List Key} (e : H a = some (.dT kvs)) (eb : H b = some (.tup (k.map kV))) : DGet H a (.ref b) (valV kvs k) := .inr ⟨kvs, k, b, .inl e, rfl, eb, rfl⟩
theorem DPut.k {H : Hp} {a : Addr} {kvs : List (Key × V)} {k : Key} {v : V} (e : H a = some (.dK kvs)) (hl : kvs.length < sizeLine) : DPut H a (kV k) v (upd H a (.dK (putK kvs k v))) := .inl ⟨kvs, k, e, rfl, hl, rfl⟩
theorem DPut.t {H : Hp} {a b : Addr} {kvs : List (List Key × V)} {k : List Key} {v : V} (e : H a = some (.dT kvs)) (eb : H b = some (.tup (k.map kV))) (hl : kvs.length < sizeLine) :
    DPut H a (.ref b) v (upd H a (.dT (putK kvs k v))) := .inr ⟨kvs, k, b, e, rfl, eb, hl, rfl⟩
noncomputable section
variable {X : Cx} {pins : List (Addr × Obj)} {σ : St} {H : Hp} {s : Shared} {a : Addr} {y v : V} {u r : Value} {o : Option V} {A : Around} {E : Value → Shared → Prop}
theorem Inv.big (I : Inv X pins σ H s) : sysModules < s.heap.objs.size := by
  have h : mainGlobals < s.heap.objs.size := (I.mod.glob.keeps I.bk).lt
  exact Nat.lt_trans (by decide) h
theorem d_getItem {Q : Value → Shared → Prop} (hu : A.units + 1 < cLine) (I : Inv X pins σ H s) (g : DGet H a y (some v)) (ry : RelV y u) (h : ∀ w' s', Inv X pins σ H s' → RelV v w' → Q w' s') :
    wpAny (model X.prog X.w) A (getItem (.ref a) u) Q E s := by
  rcases g with ⟨kvs, k, e, ey, l⟩ | ⟨kvs, k, b, e, ey, eb, l⟩
  · subst ey
    obtain ⟨z, hd, vs, rel, dd⟩ := dk_rd I.hok e
    obtain ⟨w', hw, rw'⟩ := RelO.some_of (v := v) (o := valueAt vs k) (by rw [l]; exact rel.val k)
    exact wpAny_getItem_of (kV_is ry) dd.mapOf hw (h w' _ (I.tok _) rw')
  · subst ey
    cases (show u = Value.ref b from ry)
    obtain ⟨z, hd, xs, rel, dd⟩ := dt_rd I.hok e
    obtain ⟨w', hw, rw'⟩ := RelO.some_of (v := v) (o := (atKey xs k).map (·.2)) (by rw [l]; exact rel.val k)
    obtain ⟨p, hp, hp2⟩ := Option.map_eq_some_iff.mp hw
    refine wpAny_getItem_heap (tupleKind_room_in1 hu) (key_of I.hok eb) dd hp ?_
    rw [hp2]
    exact h w' _ (I.tok _) rw'
theorem d_in {Q : Value → Shared → Prop} (hu : A.units + 1 < cLine) (I : Inv X pins σ H s) (g : DGet H a y o) (ry : RelV y u) (h : ∀ s', Inv X pins σ H s' → Q (.bool o.isSome) s') :
    wpAny (model X.prog X.w) A (compareOp .In u (.ref a)) Q E s := by
  rcases g with ⟨kvs, k, e, ey, l⟩ | ⟨kvs, k, b, e, ey, eb, l⟩
  · subst ey
    obtain ⟨z, hd, vs, rel, dd⟩ := dk_rd I.hok e
    refine wpAny_in_of (kV_is ry) hd dd.mapOf ?_
    rw [← (rel.val k).isSome_eq, ← l]
    exact h _ (I.tok _)
  · subst ey
    cases (show u = Value.ref b from ry)
    obtain ⟨z, hd, xs, rel, dd⟩ := dt_rd I.hok e
    refine wpAny_in_heap (tupleKind_room_in1 hu) (key_of I.hok eb) hd dd ?_
    have q := (rel.val k).isSome_eq
    rw [Option.isSome_map] at q
    rw [← q, ← l]
    exact h _ (I.tok _)
theorem d_notIn {Q : Value → Shared → Prop} (hu : A.units + 1 < cLine) (I : Inv X pins σ H s) (g : DGet H a y o) (ry : RelV y u) (h : ∀ s', Inv X pins σ H s' → Q (.bool (!o.isSome)) s') :
    wpAny (model X.prog X.w) A (compareOp .NotIn u (.ref a)) Q E s := by
  rcases g with ⟨kvs, k, e, ey, l⟩ | ⟨kvs, k, b, e, ey, eb, l⟩
  · subst ey
    obtain ⟨z, hd, vs, rel, dd⟩ := dk_rd I.hok e
    refine wpAny_notIn_of (kV_is ry) hd dd.mapOf ?_
    rw [← (rel.val k).isSome_eq, ← l]
    exact h _ (I.tok _)
  · subst ey
    cases (show u = Value.ref b from ry)
    obtain ⟨z, hd, xs, rel, dd⟩ := dt_rd I.hok e
    refine wpAny_notIn_heap (tupleKind_room_in1 hu) (key_of I.hok eb) hd dd ?_
    have q := (rel.val k).isSome_eq
    rw [Option.isSome_map] at q
    rw [← q, ← l]
    exact h _ (I.tok _)
theorem d_write {h' : Heap} {t' : Nat} {ob : HO} (I : Inv X pins σ H s) (mu : Mut (H a)) (hs : Heap.SameBut a s.heap h') (he : ∃ q, h'.get? a = some q) (new : ObjOk X.prog X.w (upd H a ob) h' a ob) :
    Inv X pins σ (upd H a ob) { s with heap := h', toks := t' } :=
  I.write (x := a) (e := a) mu (.inl rfl) (fun b q hb z => (hs.2 b hb).trans z) he new
theorem dk_new {P : Program} {w : World} {H' : Hp} {h' : Heap} {kvs : List (Key × V)} {vs : List (Key × Value)} (z : kvs.length ≤ sizeLine) (hd : (a == sysModules) = false) (rel : KV kvs vs) (dd : h'.DictOf (mixKind P w) a vs) :
    ObjOk P w H' h' a (.dK kvs) := ⟨z, hd, vs, rel, dd⟩
theorem d_setItem {H' : Hp} {Q : Unit → Shared → Prop} (hu : A.units + 1 < cLine) (I : Inv X pins σ H s) (g : DPut H a y v H') (ry : RelV y u) (rv : RelV v r) (h : ∀ s', Inv X pins σ H' s' → Q () s') :
    wpAny (model X.prog X.w) A (setItem (.ref a) u r) Q E s := by
  rcases g with ⟨kvs, k, e, ey, l, eH⟩ | ⟨kvs, k, b, e, ey, eb, l, eH⟩
  · subst ey eH
    obtain ⟨z, hd, vs, rel, dd⟩ := dk_of I.hok e
    have hz : vs.length ≤ sizeLine := by rw [← rel.length]; exact z
    have hl : (putK kvs k v).length ≤ sizeLine := by have := length_putK kvs k v; omega
    refine wpAny_setItem_pairs (hsz := hz) (kV_is ry) dd fun h' dd' hs => h _ ?_
    have he : ∃ q, h'.get? a = some q := let ⟨q, _, _, hq, _⟩ := dd'; ⟨q, hq⟩
    exact d_write I (by rw [e]; exact True.intro) hs he (dk_new hl hd (rel.put k rv) dd')
  · subst ey eH
    cases (show u = Value.ref b from ry)
    obtain ⟨z, hd, xs, rel, dd⟩ := dt_of I.hok e
    have hz : xs.length ≤ sizeLine := by rw [← Paired.length rel]; exact z
    have hl : (putK kvs k v).length ≤ sizeLine := by have := length_putK kvs k v; omega
    refine wpAny_setItem_heap (hsz := hz) (tupleKind_room_in1 hu) (key_of I.hok eb) dd fun h' dd' hs => h _ ?_
    obtain ⟨q, es, ep, hq, h2, h3, h4, _, h5⟩ := dd'
    refine d_write I (by rw [e]; exact True.intro) hs ⟨q, hq⟩ ⟨hl, hd, _, (rel.put k eb rv).keeps fun c ys ec => ?_, q, es, ep, hq, h2, h3, h4, h5⟩
    rw [upd_ne (ne_of ec e (fun z => nomatch z))]
    exact ec
end
noncomputable section
variable {X : Cx} {pins : List (Addr × Obj)} {σ : St} {H : Hp} {s : Shared} {a : Addr} {kvs : List (Key × V)} {k : Key} {u : Value} {A : Around} {E : Value → Shared → Prop}
theorem d_len {Q : Value → Shared → Prop} (I : Inv X pins σ H s) (e : Rd H a (.dK kvs)) (h : ∀ t s', Inv X pins σ H s' → Q (.int kvs.length t) s') : wpAny (model X.prog X.w) A (call (.builtin "len") [.ref a]) Q E s := by
  obtain ⟨z, hd, vs, rel, dd⟩ := dk_rd I.hok e
  refine call_len_dict hd dd (by rw [← rel.length]; rw [sizeLine_eq] at z; omega) ?_
  rw [← rel.length]
  exact h _ _ (I.tok _)
end
noncomputable def NoSl (i : Expr) : Prop := ∀ ov iv, subscripted i false ov iv = operate [ov, iv] (getItem ov iv)
theorem subD_of {prog : Program} {w : World} {A : Around} {E : Value → Shared → Prop} {s : Shared} {env : Env} {value slice : Expr} {pos : Pos} {T id : String} {Q : Value → Shared → Prop}
    (hl : typeLookup (.type T) "__getitem__" = pure (some (.builtin id))) (hs : NoSl slice)
    (h : wpAny (model prog w) A (eval value env) (fun o s₁ => wpAny (model prog w) A (eval slice env) (fun i s₂ => s₂.TypeIs o T ∧ wpAny (model prog w) A (getItem o i) Q E s₂) E s₁) E s) :
    wpAny (model prog w) A (eval (.Subscript value slice pos) env) Q E s := by
  refine Subscript_ (wpAny_mono h (fun o s₁ h₁ => wpAny_mono h₁ (fun i s₂ h₂ => ?_) fun _ _ x => x) fun _ _ x => x)
  obtain ⟨hT, h₂⟩ := h₂
  unfold subscriptTail
  refine wpAny_bind ?_
  rw [getitemInPython_of_ne hT.not_modules]
  refine wpAny_bind (wpAny_specialOf hT hl ?_)
  have fin : wpAny (model prog w) A (subscripted slice false o i) (fun r s₃ => wpAny (model prog w) A (letTemporaryGo value o r >>= fun _ => pure r) Q E s₃) E s₂ := by
    rw [hs o i]
    exact wpAny_operating (wpAny_mono h₂ (fun r s₃ h₃ => wpAny_bind (wpAny_letTemporaryGo (wpAny_pure h₃))) fun _ _ x => x)
  first
    | exact wpAny_pure (wpAny_bind fin)
    | exact wpAny_bind (wpAny_pure (wpAny_bind fin))
    | exact wpAny_bind fin
theorem dict_typeIs {X : Cx} {pins : List (Addr × Obj)} {σ : St} {H : Hp} {s : Shared} {a : Addr} {y : V} {o : Option V} (I : Inv X pins σ H s) (g : DGet H a y o) : s.TypeIs (.ref a) "dict" := by
  rcases g with ⟨kvs, k, e, _, _⟩ | ⟨kvs, k, b, e, _, _, _⟩
  · obtain ⟨_, _, vs, _, dd⟩ := dk_rd I.hok e
    exact dd.typeIs
  · obtain ⟨_, _, xs, _, dd⟩ := dt_rd I.hok e
    exact dd.typeIs
noncomputable def tDGet (td ty : TE) : TE := fun σ H Q => td σ H fun x H1 => ty σ H1 fun y H2 => ∃ a v, x = .ref a ∧ DGet H2 a y (some v) ∧ Q v H2
noncomputable def sDPut (td ty tv : TE) : TS := fun D σ H => tv σ H fun v H1 => td σ H1 fun x H2 => ty σ H2 fun y H3 => ∃ a H4, x = .ref a ∧ DPut H3 a y v H4 ∧ D.nx σ H4
noncomputable section
variable {X : Cx} {o i e value : Expr} {pos pos' tpos : Pos} {td ty tv : TE}
theorem pe_dget (hu : X.A.units + 1 < cLine) (ho : PE X o td) (hi : PE X i ty) (hs : NoSl i) : PE X (.Subscript o i pos) (tDGet td ty) := by
  intro pins s σ H Q I h
  refine subD_of PySem.F.slot_dict_getitem.lookup hs (thn (ho pins s σ H _ I h) fun u s1 ⟨x, H1, I1, rx, q1⟩ => thn (hi pins s1 σ H1 _ I1 q1) fun iv s2 ⟨y, H2, I2, ry, a, v, ex, g, q2⟩ => ?_)
  subst ex
  obtain rfl : u = Value.ref a := rx
  exact ⟨dict_typeIs I2 g, d_getItem hu I2 g ry fun w' s3 I3 rw' => ⟨v, H2, I3, rw', q2⟩⟩
theorem ps_dput (hu : X.A.units + 1 < cLine) (ho : PE X o td) (hi : PE X i ty) (hv : PE X value tv) (hs : swapsWith value (some (.Subscript o i pos')) pos.line X.env = pure false) :
    PS X (.Assign [.Subscript o i pos'] value pos) (sDPut td ty tv) := by
  intro pins s σ H D I h
  refine wpAny_Assign_Subscript (thn (hv pins s σ H _ I h) fun r s1 ⟨v, H1, I1, rv, q1⟩ => thn (ho pins s1 σ H1 _ I1 q1) fun u s2 ⟨x, H2, I2, rx, q2⟩ => thn (hi pins s2 σ H2 _ I2 q2) fun iv s3 ⟨y, H3, I3, ry, a, H4, ex, g, q3⟩ => ?_) hs
  subst ex
  obtain rfl : u = Value.ref a := rx
  exact d_setItem hu I3 g ry rv fun s4 I4 => ⟨σ, H4, I4, q3⟩
end
theorem dk_empty {P : Program} {w : World} {H : Hp} (h : Heap) (hb : sysModules < h.objs.size) : ObjOk P w H (h.push { cls := .type "dict", data := .dict #[] }) h.objs.size (.dK []) :=
  ⟨Nat.zero_le _, beq_eq_false_iff_ne.mpr (Ne.symm (Nat.ne_of_lt hb)), [], .nil, Heap.DictOf.new h⟩
noncomputable section
variable {X : Cx} {pos : Pos}
end
noncomputable def tPairs : List (TE × TE) → St → Hp → (List (V × V) → Hp → Prop) → Prop
  | [], _, H, Q => Q [] H
  | (tk, tv) :: r, σ, H, Q => tk σ H fun x H1 => tv σ H1 fun y H2 => tPairs r σ H2 fun ps H3 => Q ((x, y) :: ps) H3
noncomputable abbrev VV : List (V × V) → List (Value × Value) → Prop := Paired fun p q => RelV p.1 q.1 ∧ RelV p.2 q.2
noncomputable def PPs (X : Cx) (pos : Pos) (keys : List (Option Expr)) (values : List Expr) (trs : List (TE × TE)) : Prop :=
  ∀ (pins : List (Addr × Obj)) (s : Shared) (σ : St) (H : Hp) (Q : List (V × V) → Hp → Prop), Inv X pins σ H s → tPairs trs σ H Q →
    wpAny (model X.prog X.w) X.A (evalPairs (pairTrees keys values X.env pos)) (fun vs s' => ∃ ps H', Inv X pins σ H' s' ∧ VV ps vs ∧ Q ps H') X.xe s
theorem pps_nil {X : Cx} {pos : Pos} : PPs X pos [] [] [] := fun pins s σ H Q I h => pairTrees_nil_walk ⟨[], H, I, .nil, h⟩
theorem pps_cons {X : Cx} {pos : Pos} {k v : Expr} {ks : List (Option Expr)} {vs : List Expr} {tk tv : TE} {trs : List (TE × TE)} (hk : PE X k tk) (hv : PE X v tv) (hr : PPs X pos ks vs trs) :
    PPs X pos (some k :: ks) (v :: vs) ((tk, tv) :: trs) := fun pins s σ H Q I h =>
  pairTrees_cons_walk (thn (hk pins s σ H _ I h) fun u s1 ⟨x, H1, I1, rx, q1⟩ => thn (hv pins s1 σ H1 _ I1 q1) fun w2 s2 ⟨y, H2, I2, ry, q2⟩ =>
    thn (hr pins s2 σ H2 _ I2 q2) fun ws s3 ⟨ps, H3, I3, rel, q3⟩ => ⟨(x, y) :: ps, H3, I3, .cons ⟨rx, ry⟩ rel, q3⟩)
noncomputable def mergeK (kvs more : List (Key × V)) : List (Key × V) := more.foldl (fun acc kv => putK acc kv.1 kv.2) kvs
theorem KV.merge : ∀ {more : List (Key × V)} {rs : List (Key × Value)} {kvs : List (Key × V)} {vs : List (Key × Value)}, KV more rs → KV kvs vs → KV (mergeK kvs more) (merged vs rs) := by
  intro more rs kvs vs r
  unfold KV at r
  induction r generalizing kvs vs with
  | nil => intro q; exact q
  | @cons p q ps qs h t ih =>
    intro r0
    have e : KV (putK kvs p.1 p.2) (stored vs q.1 q.2) := by
      have := r0.put p.1 h.2
      rw [← h.1]; exact this
    exact ih e
theorem length_mergeK : ∀ (more kvs : List (Key × V)), (mergeK kvs more).length ≤ kvs.length + more.length
  | [], kvs => by show kvs.length ≤ kvs.length + 0; omega
  | p :: r, kvs => by
    have h1 := length_mergeK r (putK kvs p.1 p.2)
    have h2 := length_putK kvs p.1 p.2
    show (mergeK (putK kvs p.1 p.2) r).length ≤ _
    rw [List.length_cons]; omega
theorem carries_of {P : Program} {w : World} : ∀ {kvs : List (Key × V)} {ws : List (Value × Value)}, VV (kvs.map fun kv => (kV kv.1, kv.2)) ws → ∃ rs, Carries (mixKind P w) ws rs ∧ KV kvs rs
  | [], _, r => by rw [List.map_nil] at r; cases r; exact ⟨[], True.intro, .nil⟩
  | p :: kvs, _, r => by
    rw [List.map_cons] at r
    cases r with
    | @cons a b as bs h t =>
      obtain ⟨rs, c, q⟩ := carries_of (P := P) (w := w) t
      obtain ⟨b1, b2⟩ := b
      exact ⟨(p.1, b2) :: rs, ⟨kV_is h.1, rfl, c⟩, .cons ⟨rfl, h.2⟩ q⟩
noncomputable def tDisp (trs : List (TE × TE)) : TE := fun σ H Q => ∀ p, H p = none → tPairs trs σ (upd H p (.dK [])) fun ps H2 => H2 p = some (.dK []) ∧ ∃ kvs : List (Key × V), ps = kvs.map (fun kv => (kV kv.1, kv.2)) ∧ kvs.length ≤ 15 ∧ Q (.ref p) (upd H2 p (.dK (mergeK [] kvs)))
theorem pe_disp {X : Cx} {pos : Pos} {keys : List (Option Expr)} {values : List Expr} {trs : List (TE × TE)} (h : PPs X pos keys values trs) (hall : keys.all (·.isSome) = true) (hl : keys.length = values.length) (h0 : keys ≠ [])
    (h15 : keys.length ≤ 15) : PE X (.Dict keys values pos) (tDisp trs) := by
  intro pins s σ H Q I q
  have hn := I.hok.fresh (Nat.le_refl s.heap.objs.size)
  have I1 := I.laid (a := s.heap.objs.size) (o := .dK []) (h' := s.heap.push { cls := .type "dict", data := .dict #[] }) (t' := s.toks) (fun _ _ q => Heap.get?_push_of_some _ q) (Nat.le_refl _) (dk_empty s.heap I.big)
  refine wpAny_Dict_walk (knd := mixKind X.prog X.w) hall hl h0 h15 (thn (h pins _ σ _ _ I1 (q _ hn)) fun ws s2 ⟨ps, H2, I2, rel, e, kvs, ep, lk, q2⟩ => ?_)
  subst ep
  obtain ⟨rs, c, rk⟩ := carries_of (P := X.prog) (w := X.w) rel
  obtain ⟨z, hd, vs0, r0, dd⟩ := dk_of I2.hok e
  cases r0
  refine ⟨rs, c, dd, fun h' dd' hs => ⟨.ref s.heap.objs.size, _, ?_, rfl, q2⟩⟩
  have hz : (mergeK [] kvs).length ≤ sizeLine := by
    have h1 := length_mergeK kvs []
    rw [List.length_nil] at h1
    rw [sizeLine_eq]; omega
  have he : ∃ q, h'.get? s.heap.objs.size = some q := let ⟨q, _, _, hq, _⟩ := dd'; ⟨q, hq⟩
  exact d_write I2 (by rw [e]; exact True.intro) hs he (dk_new hz hd (rk.merge .nil) dd')
structure M1 (X : Cx) (o : Expr) (m : Str) (apos : Pos) (e : Expr) (cpos : Pos) : Prop where
  base : attributeBase o m X.env (eval o X.env) = eval o X.env
  few : ((backTo cpos (starEach [e] X.env)).all (fun x => !x.1) && (backToKw cpos (keywordEach [] X.env)).all (fun x => x.1.isSome)
    && decide (([e] : List Expr).length + ([] : List Keyword).length + (if ([] : List Keyword).isEmpty then 0 else 1) < 30)) = true
  line : (apos.endLine == cpos.line) = true
  trees : backTo cpos (starEach [e] X.env) = [(false, eval e X.env)]
structure M2 (X : Cx) (o : Expr) (m : Str) (apos : Pos) (e f : Expr) (cpos : Pos) : Prop where
  base : attributeBase o m X.env (eval o X.env) = eval o X.env
  few : ((backTo cpos (starEach [e, f] X.env)).all (fun x => !x.1) && (backToKw cpos (keywordEach [] X.env)).all (fun x => x.1.isSome)
    && decide (([e, f] : List Expr).length + ([] : List Keyword).length + (if ([] : List Keyword).isEmpty then 0 else 1) < 30)) = true
  line : (apos.endLine == cpos.line) = true
  trees : backTo cpos (starEach [e, f] X.env) = [(false, eval e X.env), (false, eval f X.env)]
noncomputable section
variable {X : Cx} {pins : List (Addr × Obj)} {σ : St} {H : Hp} {s : Shared} {a : Addr} {y d : V} {u r : Value} {o : Option V} {A : Around} {E : Value → Shared → Prop}
end
noncomputable section
variable {X : Cx} {o e f : Expr} {apos cpos : Pos} {td ty tx : TE}
end
noncomputable section
variable {X : Cx} {pins : List (Addr × Obj)} {σ : St} {H : Hp} {s : Shared} {a : Addr} {kvs : List (Key × V)} {A : Around} {E : Value → Shared → Prop}
end
noncomputable section
variable {X : Cx} {pins : List (Addr × Obj)} {σ : St} {H : Hp} {s : Shared} {a : Addr} {y : V} {u : Value} {A : Around} {E : Value → Shared → Prop}
end
end L2
end
noncomputable section
set_option linter.all false
set_option maxRecDepth 100000
namespace Att
open PySem PySem.W PySem.Calls PyProof.Rows
theorem ints_of_wellAll {P : Params} {h : Heap} : ∀ (ns : List Int) (vs : List Value), WellAll P h vs (ns.map WData.int) → IntsAre vs ns := by
  intro ns
  induction ns with
  | nil =>
    intro vs w
    rw [List.map_nil] at w
    cases w
    exact .nil
  | cons n ns ih =>
    intro vs w
    rw [List.map_cons] at w
    cases w with
    | cons a b =>
      cases a
      exact .cons _ _ (ih _ b)
theorem script_of {l : OpenLaw} {n : Nat} (hn : l.most = some n) {P : Params} {h : Heap} {args : List WData} {vals : List Value}
    (hpre : l.row.toRowW.claim.pre args = true) (hwl : WellAll P h vals args) :
    ∃ a vs ns, vals = [Value.ref a] ∧ args = [WData.list (ns.map WData.int)] ∧ h.get? a = some { cls := .type "list", data := .seq vs.toArray } ∧ IntsAre vs ns ∧ ns.length ≤ n := by
  have hsh : WShape.hasAll [] args [.list .int] = true := (pre_splitW hpre).1
  have hc : l.pre.holds [] { args := args } = true := (pre_splitW hpre).2
  obtain ⟨d, r, rfl, h1, h2⟩ := hasAllW_cons hsh
  obtain rfl := hasAllW_nil h2
  obtain ⟨xs, rfl, h3⟩ := hasW_list h1
  obtain ⟨ns, rfl⟩ := items_int h3
  have hlen : ns.length ≤ n := by
    unfold OpenLaw.pre at hc
    have h4 : (WTm.not (.lt (.lit (.int (n : Int))) (.len (.arg 0)))).holds [] { args := [.list (ns.map .int)] } = true := by
      have h4 := (holds_andW hc).1
      rw [hn] at h4
      exact h4
    have h5 := condW_of h4 (w_not (w_lt w_lit (w_len_list (w_arg rfl))))
    rw [List.length_map] at h5
    refine Nat.le_of_not_lt fun q => ?_
    have q' : (n : Int) < ((ns.length : Nat) : Int) := by omega
    first
      | (rw [decide_eq_true q'] at h5; exact absurd h5 (by decide))
      | (simp at h5; omega)
  cases hwl with
  | cons w1 w2 =>
    cases w2
    cases w1 with
    | list ho hall => exact ⟨_, _, ns, rfl, rfl, ho, ints_of_wellAll ns _ hall, hlen⟩
theorem post_true (l : OpenLaw) (args : List WData) : l.row.toRowW.claim.post args (.bool true) args = true :=
  postW_of (r := l.row.toRowW) (X := (true == true))
    (show WShape.has [] (.bool true) .bool = true by first | rfl | decide | simp [WShape.has, WShape.arms, WShape.armsAll])
    (show (WTm.eq .res (.lit (.bool true))).value [] { args := args, res := some (.bool true), after := args } = some (.bool (true == true)) from w_eq_bool (w_res rfl) w_lit) rfl
theorem attach_call {l : OpenLaw} {n : Nat} {q : Program} {loose : List Str} {XP : (Str → Option Value) → Heap → Prop} {YP : World → Heap → Prop} {d : DefRec}
    (hn : l.most = some n) (hdf : d.params.defaults = [])
    (call : ∀ (w : World) (s₀ s₁ : Shared) (mg mb : Str → Option Value) (fa : Addr) (o : Obj) (pm cd doc : Value) (a : Addr) (vs : List Value) (ns : List Int),
      Ground q loose [] XP w s₀ mg mb s₁.heap → YP w s₁.heap →
      s₁.heap.get? fa = some o → o.data = .func (docDef d.name d.params d.body d.scope pm cd doc) → s₁.heap.CodeRec cd d.name → mg d.name = some (.ref fa) →
      s₁.heap.get? a = some { cls := .type "list", data := .seq vs.toArray } → IntsAre vs ns → ns.length ≤ n → s₁.gens = #[] →
      codeAny (model l.prog w) callerA (.call (.ref fa) ⟨[.ref a], []⟩) (fun r s' => r = .ok (.ret (.bool true)) ∧ OldK s₁.heap s'.heap ∧ s'.os = s₁.os ∧ AllBare s'.gens) s₁) :
    WalkO q loose XP YP l.row.toRowW d [] (fun f vs => PySem.call f vs) := by
  intro w s₀ s₁ mg mb G Y fa o pm cd doc dV kV ho hd hcd hD hmg hg args vals as hpre hlay hrd hwl hlo
  obtain rfl : dV = .none := Dflts.none hD hdf
  obtain rfl : kV = .none := Dflts.noKw hD
  obtain ⟨a, vs, ns, rfl, rfl, hobj, hints, hlen⟩ := script_of hn hpre hwl
  refine enter_call (codeAny_mono (call w s₀ s₁ mg mb fa o pm cd doc a vs ns G Y ho (fd_plain hd) hcd hmg hobj hints hlen hg) fun r s' hq => ?_)
  obtain ⟨rfl, h2, h3, h4⟩ := hq
  exact ⟨.inl ⟨.bool true, .bool true, [], rfl, fun _ => rfl, .bool true, post_true l _, fun _ => ⟨List.Pairwise.nil, fun _ hm => (nomatch hm)⟩⟩, h2, h3, h4⟩
noncomputable section
variable {prog : Program} {w : World} {A : Around} {E : Value → Shared → Prop} {s : Shared} {K : Frag}
end
end Att
namespace L2
open PySem PySem.Spec PyProof.Rows
theorem vals_ints : ∀ {vs : List Value} {ns : List Int}, IntsAre vs ns → Vals (ns.map V.int) vs
  | _, _, .nil => .nil
  | _, _, .cons n t h => .cons ⟨t, rfl⟩ (vals_ints h)
noncomputable def Only (H : Hp) : Prop := ∀ b, H b = none ∨ ∃ o xs, H b = some (.frz o (.lst xs))
theorem law_call {P : Program} {w : World} {K : PySem.W.Frag} {mg mb : Str → Option Value} {CX : CXT} {k : Nat} {fa a : Addr} {fd : FuncData} {x : Str} {sp : Sp} {s₁ : Shared} {vs : List Value} {ns : List Int}
    (KX : K.In s₁.heap) (hns : s₁.heap.Ns mainGlobals mg) (hb : s₁.heap.Ns builtinsNs mb) (hbb : ∀ x : Str, x ≠ "__name__" → mb x = bootBuiltins x) (hlim : s₁.heap.NoLimit) (hg : s₁.gens = #[])
    (ha : s₁.heap.get? a = some { cls := .type "list", data := .seq vs.toArray }) (hi : IntsAre vs ns) (hl : ns.length ≤ sizeLine) (hr : Room k callerA)
    (F : ∀ base : Heap, K.In base → base.Ns mainGlobals mg → FnOk P w K mg base CX k fa fd [x] sp) (hbind : ∀ (s : Shared) (u : Value), BindsTo s fd ⟨[u], []⟩ [(x, u)])
    (hsp : ∀ H : Hp, Only H → SqL K H a (ns.map V.int) → sp [.ref a] H (fun v _ => v = .bl true) fun _ _ _ => False)
    (hCX : ∀ H e s', CX [] H s₁ (fun _ _ _ => False) e s' → False) :
    codeAny (model P w) callerA (.call (.ref fa) ⟨[.ref a], []⟩) (fun r s' => r = .ok (.ret (.bool true)) ∧ OldK s₁.heap s'.heap ∧ s'.os = s₁.os ∧ AllBare s'.gens) s₁ := by
  have rv := vals_ints hi
  have lenV := hi.length
  have core : ∀ H : Hp, Only H → SqL K H a (ns.map V.int) → HOk P w H s₁.heap → (∀ b, H b ≠ none → b = a) → (H a ≠ none → K.lookup a = none) →
      codeAny (model P w) callerA (.call (.ref fa) ⟨[.ref a], []⟩) (fun r s' => r = .ok (.ret (.bool true)) ∧ OldK s₁.heap s'.heap ∧ s'.os = s₁.os ∧ AllBare s'.gens) s₁ := by
    intro H hO hS hok hA hK
    have base_of : ∀ {b : Addr} {o : Obj}, s₁.heap.get? b = some o → H b = none → (hidT s₁.heap H).get? b = some o := fun e n => hidT_get e n
    have noA : ∀ {b : Addr} {o : Obj} {es : Array DictEntry} {ep : Nat}, s₁.heap.get? b = some o → o.data = .dict es ep → H b = none := fun {b o es ep} e d => by
      cases q : H b with
      | none => rfl
      | some u =>
        have e' : b = a := hA b (by rw [q]; simp)
        subst e'
        rw [ha] at e; cases e
        have d' : Data.seq vs.toArray _ = Data.dict es ep := d
        cases d'
    have nsK : ∀ {b : Addr} {m : Str → Option Value}, s₁.heap.Ns b m → (hidT s₁.heap H).Ns b m := fun {b m} ⟨o, es, ep, e, d, r⟩ => ⟨o, es, ep, base_of e (noA e d), d, r⟩
    have hKb : K.In (hidT s₁.heap H) := fun b o e => base_of (KX b o e) (by
      cases q : H b with
      | none => rfl
      | some u =>
        have e' : b = a := hA b (by rw [q]; simp)
        subst e'
        rw [hK (by rw [q]; simp)] at e; cases e)
    have hM : Mod K mg (hidT s₁.heap H) := ⟨hKb, nsK hns, ⟨mb, nsK hb, hbb⟩, let ⟨mc, h1, h2⟩ := hlim; ⟨mc, nsK h1, h2⟩⟩
    have e0 : Env0 P w K mg (hidT s₁.heap H) callerA [] s₁ H := ⟨rfl, hM, fun b o e => of_hidT e, Nat.le_of_eq (hidT_size _ _), trivial, fun b hb => absurd (show b ∈ ([] : List Addr) from hb) (by simp), hok, .of_eq hg⟩
    refine codeAny_mono ((F _ hKb (nsK hns)).run callerA [] s₁ H ⟨[.ref a], []⟩ [.ref a] [.ref a] _ _ hr e0 (hbind s₁ (.ref a)) (.cons rfl .nil) (hsp H hO hS)) fun r s' h => ?_
    cases r with
    | error e => exact (hCX H e s' h).elim
    | ok fl =>
      cases fl with
      | next => exact False.elim h
      | brk => exact False.elim h
      | cont => exact False.elim h
      | ret u =>
        obtain ⟨v, H', os, bare, un, hok', r', q⟩ := h
        have q' : v = .bl true := q
        subst q'
        obtain rfl : u = Value.bool true := r'
        refine ⟨rfl, OldK.of_keep fun b o e => ?_, os, bare⟩
        cases q : H b with
        | none => exact un.keep b o e q (by intro z; exact absurd (show b ∈ ([] : List Addr) from z) (by simp)) (by simp)
        | some u =>
          rcases hO b with z | ⟨ob, xs, z⟩
          · rw [q] at z; cases z
          · have z2 := un.frzs b ob _ z
            obtain ⟨e1, _⟩ := hok b _ z
            obtain ⟨e2, _⟩ := hok' b _ z2
            rw [e] at e1; cases e1
            exact e2
  cases hk : K.lookup a with
  | some o =>
    have e := KX a o hk
    rw [ha] at e
    cases e
    refine core (fun _ => none) (fun _ => .inl rfl) (.inr ⟨_, vs.toArray, _, hk, rfl, rfl, rfl, by rw [List.size_toArray, lenV]; exact hl, by simpa using rv⟩) (fun b u z => by have z' : (none : Option HO) = some u := z; cases z') (fun b z => absurd rfl z) fun z => absurd rfl z
  | none =>
    refine core (fun b => if b = a then some (.frz { cls := .type "list", data := .seq vs.toArray } (.lst (ns.map V.int))) else none) (fun b => ?_) (.inl (.inr ⟨{ cls := .type "list", data := .seq vs.toArray }, if_pos rfl⟩)) (fun b u z => ?_) (fun b z => ?_) fun _ => hk
    · by_cases hb : b = a
      · exact .inr ⟨_, _, if_pos hb⟩
      · exact .inl (if_neg hb)
    · by_cases hb : b = a
      · have z' := (if_pos hb).symm.trans z
        cases z'
        subst hb
        exact ⟨ha, by rw [List.length_map]; exact hl, vs, _, rv, ha⟩
      · have z' := (if_neg hb).symm.trans z
        cases z'
    · by_cases hb : b = a
      · exact hb
      · exact absurd (if_neg hb) z
end L2
namespace L2
open PySem PySem.Spec PyProof.Rows
theorem walk_of {l : PySem.W.OpenLaw} {n k : Nat} {q : Program} {loose : List Str} {XP : (Str → Option Value) → Heap → Prop} {YP : World → Heap → Prop} {d : DefRec} {K : Params → PySem.W.Frag} {CX : World → CXT} {sp : World → Sp} {x : Str}
    (hn : l.most = some n) (hn2 : n ≤ sizeLine) (hdf : d.params.defaults = []) (hr : Room k callerA)
    (hY : ∀ (w : World) (h : Heap), YP w h → (K w.params).In h)
    (F : ∀ (w : World) (mg : Str → Option Value) (fa : Addr) (h : Heap), (K w.params).In h → h.Ns mainGlobals mg → mg d.name = some (.ref fa) →
      ∃ fd : FuncData, (∀ (s : Shared) (u : Value), BindsTo s fd ⟨[u], []⟩ [(x, u)]) ∧
        ∀ base : Heap, (K w.params).In base → base.Ns mainGlobals mg → FnOk l.prog w (K w.params) mg base (CX w) k fa fd [x] (sp w))
    (hsp : ∀ (w : World) (H : Hp) (a : Addr) (ns : List Int), ns.length ≤ n → Only H → SqL (K w.params) H a (ns.map V.int) → sp w [.ref a] H (fun v _ => v = .bl true) fun _ _ _ => False)
    (hCX : ∀ (w : World) (H : Hp) (s : Shared) (e : Value) (s' : Shared), CX w [] H s (fun _ _ _ => False) e s' → False) :
    PySem.W.WalkO q loose XP YP l.row.toRowW d [] (fun f vs => PySem.call f vs) := by
  refine Att.attach_call hn hdf fun w s₀ s₁ mg mb fa o pm cd doc a vs ns G Y ho hd hcd hmg hobj hints hlen hg => ?_
  have KX := hY w _ Y
  obtain ⟨fd, hb, hF⟩ := F w mg fa _ KX G.T.g hmg
  exact law_call KX G.T.g G.T.b G.T.builtins G.T.nolimit hg hobj hints (Nat.le_trans hlen hn2) hr hF hb (fun H hO hS => hsp w H a ns hlen hO hS) fun H e s' => hCX w H s₁ e s'
end L2
namespace L2
open PySem PySem.Spec PyProof.Rows
noncomputable def defArgs (s : Stmt) : Arguments := match s with
  | .FunctionDef _ a _ _ _ _ _ _ _ _ => a
  | _ => { posonlyargs := [], args := [], vararg := none, kwonlyargs := [], kw_defaults := [], kwarg := none, defaults := [] }
noncomputable def defBody (s : Stmt) : List Stmt := match s with
  | .FunctionDef _ _ b _ _ _ _ _ _ _ => b
  | _ => []
noncomputable def defScope (s : Stmt) : Scope := match s with
  | .FunctionDef _ _ _ _ _ _ sc _ _ _ => sc
  | _ => { kind := .function, names := [], isGenerator := false, isCoroutine := false }
noncomputable abbrev CX0 : CXT := fun _ _ _ _ _ _ => False
noncomputable abbrev E0 : XK := fun _ _ _ => False
theorem pass0 {X : Cx} : Passes CX0 X E0 := fun _ _ _ _ _ _ _ h => h.elim
structure Fun (K : PySem.W.Frag) (x qual : Str) (st : Stmt) (f : Addr) (fd : FuncData) : Prop where
  ex : ∃ (oc : Value) (od : Option Addr) (kV doc pm : Value) (an : Option Addr) (cdv ct : Value) (osl : Array (Option Value)),
    fd = PySem.W.fnOf x qual (defArgs st) (defBody st) (defScope st) .none kV doc pm an cdv ct ∧ K.lookup f = some ⟨oc, od, .func fd, osl⟩ ∧ PySem.W.codeIn K cdv qual = true
  kp : PySem.W.keepIn K (.ref f) = true
noncomputable section
variable {P : Program} {w : World} {K : PySem.W.Frag} {mg : Str → Option Value} {base : Heap}
theorem Fun.ok {x qual : Str} {st : Stmt} {f : Addr} {fd : FuncData} {N ps : List Str} {k : Nat} {sp : Sp} (F : Fun K x qual st f fd) (S : FnScope N ps (defScope st)) (len : ∀ vs H Q E, sp vs H Q E → vs.length = ps.length)
    (hbody : ∀ (cdv : Value) (A : Around) (outer : List Env) (s : Shared) (H : Hp) (vs : List V) (Q : VK) (E : XK), Room k (A.deeper (envOfC qual (defScope st) s.heap.objs.size f cdv)) → sp vs H Q E →
      ∃ t, PSs (cxOf CX0 P w K mg base N qual (defScope st) f cdv A outer s H E).nox (defBody st) t ∧ t { nx := fun _ H' => Q .non H', rt := Q } (start N vs) H) : FnOk P w K mg base CX0 (k + 1) f fd ps sp := by
  obtain ⟨oc, od, kV, doc, pm, an, cdv, ct, osl, rfl, lk, hcd⟩ := F.ex
  refine fn_of lk hcd S len fun A outer s H vs Q E hr hsp => ?_
  obtain ⟨t, h, q⟩ := hbody cdv A outer s H vs Q E hr hsp
  exact ⟨t, h.nox, q⟩
theorem Fun.binds {x qual : Str} {st : Stmt} {f : Addr} {fd : FuncData} {ps : List Str} (F : Fun K x qual st f fd)
    (h : ∀ (kV doc pm : Value) (an : Option Addr) (cdv ct : Value) (us : List Value), us.length = ps.length → bindArgs (PySem.W.fnOf x qual (defArgs st) (defBody st) (defScope st) .none kV doc pm an cdv ct) ⟨us, []⟩ = pure (ps.zip us)) : Binds K fd ps [] := by
  obtain ⟨oc, od, kV, doc, pm, an, cdv, ct, osl, rfl, lk, hcd⟩ := F.ex
  exact .all (h kV doc pm an cdv ct)
theorem fun_mk {x qual : Str} {st : Stmt} {f : Addr} {oc : Value} {od an : Option Addr} {osl : Array (Option Value)} {kV doc pm cdv ct : Value} (l : K.lookup f = some ⟨oc, od, .func (PySem.W.fnOf x qual (defArgs st) (defBody st) (defScope st) .none kV doc pm an cdv ct), osl⟩)
    (c : PySem.W.codeIn K cdv qual = true) (k : PySem.W.keepIn K (.ref f) = true) : Fun K x qual st f (PySem.W.fnOf x qual (defArgs st) (defBody st) (defScope st) .none kV doc pm an cdv ct) := ⟨⟨oc, od, kV, doc, pm, an, cdv, ct, osl, rfl, l, c⟩, k⟩
end
theorem hu_of {A : Around} {k : Nat} (hr : Room k A) : A.units + 1 < cLine := Nat.lt_of_le_of_lt (Nat.add_le_add_left (by decide : 1 ≤ 64) _) hr.units
theorem small1000 {n : Nat} (h : n ≤ 1000) : n < sizeLine := Nat.lt_of_le_of_lt h (by decide)
noncomputable section
variable {X : Cx}
theorem pv (i : Nat) {x : Str} {pos : Pos} (hN : X.N[i]? = some x := by rfl) (hv : Vis X.env.scope x := by first | exact Or.inl rfl | exact Or.inr (Or.inl rfl) | exact Or.inr (Or.inr rfl)) (hd : (x == ("__debug__" : Str)) = false := by decide)
    (hcd : (x == ("__classdict__" : Str)) = false := by decide) : PE X (.Name x pos) (tVar i) := pe_var hN hv hd hcd
end
theorem iteF {A B : Prop} (h : B) : if false = true then A else B := by
  rw [if_neg Bool.false_ne_true]
  exact h
theorem iteT {A B : Prop} (h : A) : if true = true then A else B := by
  rw [if_pos rfl]
  exact h
noncomputable def Same (H H' : Hp) : Prop := ∀ b o, H b = some o → H' b = some o
theorem Same.refl (H : Hp) : Same H H := fun _ _ h => h
theorem Same.trans {H H1 H2 : Hp} (a : Same H H1) (b : Same H1 H2) : Same H H2 := fun c o h => b c o (a c o h)
theorem Same.free {H H' : Hp} (e : Same H H') {l : Addr} (h : H' l = Option.none) : H l = Option.none := by
  cases q : H l with
  | none => rfl
  | some o =>
    rw [e l o q] at h
    cases h
theorem Same.seq {K : PySem.W.Frag} {H H' : Hp} {a : Addr} {xs : List V} (e : Same H H') (h : SqL K H a xs) : SqL K H' a xs := by
  rcases h with (h | ⟨o, h⟩) | h
  · exact .inl (.inl (e _ _ h))
  · exact .inl (.inr ⟨o, e _ _ h⟩)
  · exact .inr h
end L2
end
noncomputable section
set_option linter.all false
set_option maxRecDepth 100000
namespace L2
open PySem PySem.Spec PyProof.Rows
noncomputable section
variable {X : Cx}
end
noncomputable section
variable {κ : Type} [DecidableEq κ]
end
end L2
end
noncomputable section
namespace C
open PySem
noncomputable abbrev Key := Sum Int Str
inductive T where
  | non | bl (b : Bool) | int (i : Int) | str (x : Str)
  | tup (xs : List T) | lst (xs : List T) | dic (kvs : List (Key × T)) | obj (n : Nat)
instance : Inhabited T := ⟨.non⟩
inductive SO where
  | dic (kvs : List (Key × T)) | lst (xs : List T) | ins (c : Str) (fs : List (Str × T))
noncomputable abbrev Slot := Option (T × Bool)
structure Sta where
  env : List Slot
  sto : List SO
noncomputable abbrev M (α : Type) := Sta → Option (α × Sta)
noncomputable def dGet (k : Key) : List (Key × T) → Option T
  | [] => none
  | (q, t) :: r => if q = k then some t else dGet k r
noncomputable def dPut (k : Key) (t : T) (kvs : List (Key × T)) : List (Key × T) :=
  if kvs.any fun p => decide (p.1 = k) then kvs.map fun p => if p.1 = k then (p.1, t) else p else kvs ++ [(k, t)]
noncomputable def keyOf : T → Option Key
  | .int i => some (.inl i)
  | .str x => some (.inr x)
  | _ => none
noncomputable def ofKey : Key → T
  | .inl i => .int i
  | .inr x => .str x
mutual
noncomputable def dat : T → Option PyData
  | .non => some .none
  | .bl b => some (.bool b)
  | .int i => some (.int i)
  | .str x => if PyData.canLay0 (.str x) then some (.str x) else none
  | .tup xs => (dats xs).map .tuple
  | .lst xs => (dats xs).map .list
  | .dic _ => none
  | .obj _ => none
noncomputable def dats : List T → Option (List PyData)
  | [] => some []
  | x :: r => match dat x with
    | some a => (dats r).map (a :: ·)
    | none => none
end
noncomputable def eqD (a b : T) : Option Bool := match dat a with
  | some x => match dat b with
    | some y => if x.depth ≤ 40 then some (PyData.eqv x y) else none
    | none => none
  | none => none
noncomputable def eqKs : List (Key × T) → List (Key × T) → Option Bool
  | [], _ => some true
  | (k, x) :: r, ys => match dGet k ys with
    | none => some false
    | some y => match eqD x y with
      | some e => (eqKs r ys).map (e && ·)
      | none => none
noncomputable def eqT : T → T → Option Bool
  | .dic a, .dic b => if a.length = b.length then eqKs a b else some false
  | x, y => eqD x y
noncomputable def mPure (t : T) : M T := fun s => some (t, s)
noncomputable def mVar (i : Nat) : M T := fun s => match s.env[i]? with
  | some (some (t, false)) => some (t, s)
  | some (some (t, true)) => some (t, { s with env := s.env.set i (some (t, false)) })
  | _ => none
noncomputable def mShr (i : Nat) : M T := fun s => match s.env[i]? with
  | some (some (t, false)) => some (t, s)
  | _ => none
noncomputable def addI : T → T → Option T
  | .int i, .int j => some (.int (i + j))
  | _, _ => none
noncomputable def mNil : M (List T) := fun s => some ([], s)
noncomputable def mCons (a : M T) (r : M (List T)) : M (List T) := fun s => match a s with
  | some (t, s1) => match r s1 with
    | some (ts, s2) => some (t :: ts, s2)
    | none => none
  | none => none
noncomputable def mStrs : List Str → M (List T)
  | [] => mNil
  | x :: r => mCons (mPure (.str x)) (mStrs r)
noncomputable def mMap (f : List T → Option T) (a : M (List T)) : M T := fun s => match a s with
  | some (ts, s1) => match f ts with
    | some t => some (t, s1)
    | none => none
  | none => none
noncomputable def mUn (f : T → Option T) (a : M T) : M T := fun s => match a s with
  | some (t, s1) => match f t with
    | some u => some (u, s1)
    | none => none
  | none => none
noncomputable def mOp (f : T → T → Option T) (a b : M T) : M T := fun s => match a s with
  | some (t, s1) => match b s1 with
    | some (u, s2) => match f t u with
      | some v => some (v, s2)
      | none => none
    | none => none
  | none => none
noncomputable abbrev Fn := List T → List SO → Option (T × List SO)
noncomputable def mCall (F : Fn) (a : M (List T)) : M T := fun s => match a s with
  | some (ts, s1) => match F ts s1.sto with
    | some (t, sto) => some (t, { s1 with sto := sto })
    | none => none
  | none => none
noncomputable def mTest (a : M T) : M Bool := fun s => match a s with
  | some (.bl b, s1) => some (b, s1)
  | _ => none
noncomputable def mNot (a : M Bool) : M Bool := fun s => match a s with
  | some (b, s1) => some (!b, s1)
  | none => none
noncomputable def mAnd (a b : M Bool) : M Bool := fun s => match a s with
  | some (true, s1) => b s1
  | some (false, s1) => some (false, s1)
  | none => none
noncomputable def mOr (a b : M Bool) : M Bool := fun s => match a s with
  | some (true, s1) => some (true, s1)
  | some (false, s1) => b s1
  | none => none
noncomputable def mBool (a : M Bool) : M T := fun s => match a s with
  | some (b, s1) => some (.bl b, s1)
  | none => none
noncomputable def mIf (c : M Bool) (a b : M T) : M T := fun s => match c s with
  | some (true, s1) => a s1
  | some (false, s1) => b s1
  | none => none
noncomputable abbrev lim : Nat := 1000000
noncomputable def bnd64 (i : Int) : Bool := decide (-(2 ^ 64) < i ∧ i < 2 ^ 64)
noncomputable def addT : T → T → Option T
  | .int i, .int j => some (.int (i + j))
  | .str x, .str y => if x.length + y.length < lim then some (.str (x ++ y)) else none
  | .tup x, .tup y => if x.length + y.length < lim then some (.tup (x ++ y)) else none
  | .lst x, .lst y => if x.length + y.length < lim then some (.lst (x ++ y)) else none
  | _, _ => none
noncomputable def subT : T → T → Option T
  | .int i, .int j => some (.int (i - j))
  | _, _ => none
noncomputable def mulT : T → T → Option T
  | .int i, .int j => if bnd64 i || bnd64 j then some (.int (i * j)) else none
  | .str x, .int j => if 0 ≤ j ∧ j ≤ 1000 ∧ x.length ≤ 100 then some (.str ⟨((List.replicate j.toNat x.cps.toList).flatten).toArray⟩) else none
  | _, _ => none
noncomputable def modT : T → T → Option T
  | .int i, .int j => if 0 < j then some (.int (i % j)) else none
  | _, _ => none
noncomputable def fdl : Nat := 2 ^ 200
noncomputable def fdivT : T → T → Option T
  | .int i, .int j => if 0 < j ∧ (j < 1073741824 ∨ j.natAbs < fdl) then some (.int (i / j)) else none
  | _, _ => none
noncomputable def powT : T → T → Option T
  | .int i, .int j => if 0 ≤ j ∧ j ≤ 1000 ∧ i.natAbs < 1000 then some (.int (i ^ j.toNat)) else none
  | _, _ => none
noncomputable def negT : T → Option T
  | .int i => some (.int (-i))
  | _ => none
noncomputable def ltT : T → T → Option T
  | .int i, .int j => some (.bl (decide (i < j)))
  | _, _ => none
noncomputable def leT : T → T → Option T
  | .int i, .int j => some (.bl (decide (i ≤ j)))
  | _, _ => none
noncomputable def gtT : T → T → Option T
  | .int i, .int j => some (.bl (decide (j < i)))
  | _, _ => none
noncomputable def eqO (x y : T) : Option T := match eqT x y with
  | some b => some (.bl b)
  | none => none
noncomputable def neO (x y : T) : Option T := match eqT x y with
  | some b => some (.bl (!b))
  | none => none
noncomputable def ixI (n : Nat) (i : Int) : Option Nat := if 0 ≤ i then (if i < n then some i.toNat else none) else if -(n : Int) ≤ i then some (i + n).toNat else none
noncomputable def itemT : T → T → Option T
  | .tup xs, .int i => (ixI xs.length i).bind (xs[·]?)
  | .lst xs, .int i => (ixI xs.length i).bind (xs[·]?)
  | .str x, .int i => if x.length < lim then (ixI x.cps.toList.length i).bind fun j => (x.cps.toList[j]?).map fun c => .str ⟨#[c]⟩ else none
  | .dic kvs, k => (keyOf k).bind (dGet · kvs)
  | _, _ => none
noncomputable def lenT : List T → Option T
  | [.tup xs] => some (.int xs.length)
  | [.lst xs] => some (.int xs.length)
  | [.str x] => if x.length < lim then some (.int x.length) else none
  | [.dic kvs] => some (.int kvs.length)
  | _ => none
noncomputable def inL (x : T) : List T → Option Bool
  | [] => some false
  | y :: r => match eqD y x with
    | some e => (inL x r).map (e || ·)
    | none => none
noncomputable def inT (x y : T) : Option T := match y with
  | .dic kvs => (keyOf x).map fun q => .bl (dGet q kvs).isSome
  | _ => if (dat x).isSome then (match y with
    | .tup ys => (inL x ys).map .bl
    | .lst ys => (inL x ys).map .bl
    | _ => none) else none
noncomputable def tupleT : List T → Option T
  | [.lst xs] => some (.tup xs)
  | [.tup xs] => some (.tup xs)
  | _ => none
noncomputable def strsT : List T → Option (List Str)
  | [] => some []
  | .str x :: r => (strsT r).map (x :: ·)
  | _ => none
noncomputable def ins1 (x : Str) : List Str → List Str
  | [] => [x]
  | y :: r => if decide (x.cps.toList < y.cps.toList) then x :: y :: r else y :: ins1 x r
noncomputable def isort (l : List Str) : List Str := l.foldl (fun acc x => ins1 x acc) []
noncomputable def sortedT : List T → Option T
  | [.lst xs] => if xs.length < 64 then (strsT xs).map fun l => .lst ((isort l).map .str) else none
  | [.dic kvs] => if kvs.length < 64 then (strsT (kvs.map fun p => ofKey p.1)).map fun l => .lst ((isort l).map .str) else none
  | _ => none
noncomputable def isStr : List T → Option T
  | [.str _] => some (.bl true)
  | [.obj _] => none
  | [_] => some (.bl false)
  | _ => none
noncomputable def absT : List T → Option T
  | [.int i] => some (.int (if i < 0 then -i else i))
  | _ => none
noncomputable def mOwnLen (i : Nat) : M T := fun s => match s.env[i]? with
  | some (some (.lst xs, _)) => some (.int xs.length, s)
  | some (some (.dic xs, _)) => some (.int xs.length, s)
  | _ => none
noncomputable def lstAt (i : Nat) (s : Sta) : Bool := match s.env[i]? with
  | some (some (.lst _, _)) => true
  | _ => false
noncomputable def mObjItem (o k : M T) : M T := fun s => match o s with
  | some (.obj n, s1) => match k s1 with
    | some (kt, s2) => match s2.sto[n]? with
      | some (.dic kvs) => match (keyOf kt).bind (dGet · kvs) with
        | some t => some (t, s2)
        | none => none
      | _ => none
    | none => none
  | _ => none
noncomputable def mNewObj (ks : List Key) (a : M (List T)) : M T := fun s => match a s with
  | some (ts, s1) => some (.obj s1.sto.length, { s1 with sto := s1.sto ++ [.dic (ks.zip ts)] })
  | none => none
inductive Flow where
  | next | ret (t : T) | brk | cont
noncomputable abbrev S := Sta → Option (Flow × Sta)
noncomputable def sNil : S := fun s => some (.next, s)
noncomputable def sSeq (a b : S) : S := fun s => match a s with
  | some (.next, s1) => b s1
  | r => r
noncomputable def sRet (e : M T) : S := fun s => match e s with
  | some (t, s1) => some (.ret t, s1)
  | none => none
noncomputable def sIf (c : M Bool) (a b : S) : S := fun s => match c s with
  | some (true, s1) => a s1
  | some (false, s1) => b s1
  | none => none
noncomputable def putSlot (i : Nat) (t : T) (own : Bool) (s : Sta) : Sta := { s with env := s.env.set i (some (t, own)) }
noncomputable def sSet (i : Nat) (e : M T) : S := fun s => match e s with
  | some (t, s1) => some (.next, putSlot i t false s1)
  | none => none
noncomputable def sNew (i : Nat) (e : M T) : S := fun s => match e s with
  | some (t, s1) => some (.next, putSlot i t true s1)
  | none => none
noncomputable def sAppend (i : Nat) (e : M T) : S := fun s => if lstAt i s then (match e s with
  | some (t, s1) => match s1.env[i]? with
    | some (some (.lst xs, true)) => if xs.length < lim then some (.next, putSlot i (.lst (xs ++ [t])) true s1) else none
    | _ => none
  | none => none) else none
noncomputable def seqOf : T → Option (List T)
  | .lst xs => some xs
  | .tup xs => some xs
  | _ => none
noncomputable def sExtend (i : Nat) (e : M T) : S := fun s => if lstAt i s then (match e s with
  | some (t, s1) => match seqOf t, s1.env[i]? with
    | some ys, some (some (.lst xs, true)) => if xs.length + ys.length < lim then some (.next, putSlot i (.lst (xs ++ ys)) true s1) else none
    | _, _ => none
  | none => none) else none
noncomputable def sObjPut (o k v : M T) : S := fun s => match v s with
  | some (t, s1) => match o s1 with
    | some (.obj n, s2) => match k s2 with
      | some (kt, s3) => match s3.sto[n]?, keyOf kt with
        | some (.dic kvs), some q => if kvs.length < lim then some (.next, { s3 with sto := s3.sto.set n (.dic (dPut q t kvs)) }) else none
        | _, _ => none
      | none => none
    | _ => none
  | none => none
noncomputable def sReverse (i : Nat) : S := fun s => match s.env[i]? with
  | some (some (.lst xs, true)) => some (.next, putSlot i (.lst xs.reverse) true s)
  | _ => none
noncomputable def sNx (u : S) : S := fun s => match u s with
  | some (.next, s1) => some (.next, s1)
  | _ => none
noncomputable def sRetOwn (i : Nat) : S := fun s => match s.env[i]? with
  | some (some (t, true)) => some (.ret t, s)
  | _ => none
noncomputable abbrev G := T → Sta → Option Sta
noncomputable def hName (i : Nat) : G := fun t s => some (putSlot i t false s)
noncomputable def hTup (is : List Nat) : G := fun t s => match t with
  | .tup xs => if xs.length = is.length then some ((is.zip xs).foldl (fun s p => putSlot p.1 p.2 false s) s) else none
  | _ => none
noncomputable def sGo (g : G) (m : M T) : S := fun s => match m s with
  | some (t, s1) => match g t s1 with
    | some s2 => some (.next, s2)
    | none => none
  | none => none
noncomputable def forL (g : G) (b : S) : List T → S
  | [] => fun s => some (.next, s)
  | t :: r => fun s => match g t s with
    | some s1 => match b s1 with
      | some (.next, s2) => forL g b r s2
      | some (.cont, s2) => forL g b r s2
      | some (.brk, s2) => some (.next, s2)
      | some (.ret v, s2) => some (.ret v, s2)
      | none => none
    | none => none
noncomputable def sFor (g : G) (it : M (List T)) (b : S) : S := fun s => match it s with
  | some (ts, s1) => forL g b ts s1
  | none => none
noncomputable def rangeT (n : Nat) : List T := (List.range n).map fun (k : Nat) => .int (k : Int)
noncomputable def iRange (a : M T) : M (List T) := fun s => match a s with
  | some (.int n, s1) => if n.natAbs < lim then some (rangeT n.toNat, s1) else none
  | _ => none
noncomputable def iSeq (a : M T) : M (List T) := fun s => match a s with
  | some (.lst xs, s1) => if xs.length < lim then some (xs, s1) else none
  | some (.tup xs, s1) => if xs.length < lim then some (xs, s1) else none
  | _ => none
noncomputable def thaw (s : Slot) : Slot := match s with
  | some (t, _) => some (t, false)
  | none => none
noncomputable def freezeAll (s : Sta) : Sta := { s with env := s.env.map thaw }
noncomputable def compL (g : G) (c : M Bool) (e : M T) : List T → Sta → List T → Option (List T × Sta)
  | [], s, acc => some (acc, s)
  | t :: r, s, acc => match g t s with
    | some s1 => match c s1 with
      | some (true, s2) => match e s2 with
        | some (u, s3) => if acc.length < lim then compL g c e r (freezeAll s3) (acc ++ [u]) else none
        | none => none
      | some (false, s2) => compL g c e r (freezeAll s2) acc
      | none => none
    | none => none
noncomputable def mTrue : M Bool := fun s => some (true, s)
noncomputable def freezeAt (is : List Nat) (env : List Slot) : List Slot := is.foldl (fun e i => match e[i]? with
  | some (some (t, _)) => e.set i (some (t, false))
  | _ => e) env
noncomputable def mComp (nv : Nat) (cap : List Nat) (g : G) (it : M (List T)) (c : M Bool) (e : M T) : M T := fun s => match it s with
  | some (ts, s1) =>
    let env := freezeAt cap s1.env
    match compL g c e ts ⟨List.replicate nv none ++ cap.map (fun i => (env[i]?).getD none), s1.sto⟩ [] with
    | some (us, s2) => some (.lst us, ⟨env, s2.sto⟩)
    | none => none
  | none => none
noncomputable def runFn (n : Nat) (b : S) : Fn := fun ts sto => match b ⟨ts.map (fun t => some (t, false)) ++ List.replicate (n - ts.length) none, sto⟩ with
  | some (.ret t, s) => some (t, s.sto)
  | some (.next, s) => some (.non, s.sto)
  | _ => none
noncomputable section
variable {s s' : Sta} {t v : T} {a b : M T}
theorem mOp_inv {f : T → T → Option T} (h : mOp f a b s = some (v, s')) : ∃ t s1 u, a s = some (t, s1) ∧ b s1 = some (u, s') ∧ f t u = some v := by
  unfold mOp at h
  cases ha : a s with
  | none => rw [ha] at h; cases h
  | some p =>
    obtain ⟨t, s1⟩ := p; rw [ha] at h; dsimp only at h
    cases hb : b s1 with
    | none => rw [hb] at h; cases h -- here
    | some p =>
      obtain ⟨u, s2⟩ := p; rw [hb] at h; dsimp only at h
      cases hf : f t u with
      | none => rw [hf] at h; cases h
      | some w => rw [hf] at h; cases h; exact ⟨t, s1, u, rfl, hb, hf⟩
theorem mUn_inv {f : T → Option T} (h : mUn f a s = some (v, s')) : ∃ t, a s = some (t, s') ∧ f t = some v := by
  unfold mUn at h
  cases ha : a s with
  | none => rw [ha] at h; cases h
  | some p =>
    obtain ⟨t, s1⟩ := p; rw [ha] at h; dsimp only at h
    cases hf : f t with
    | none => rw [hf] at h; cases h
    | some w => rw [hf] at h; cases h; exact ⟨t, rfl, hf⟩
theorem mMap_inv {f : List T → Option T} {a : M (List T)} (h : mMap f a s = some (v, s')) : ∃ ts, a s = some (ts, s') ∧ f ts = some v := by
  unfold mMap at h
  cases ha : a s with
  | none => rw [ha] at h; cases h
  | some p =>
    obtain ⟨t, s1⟩ := p; rw [ha] at h; dsimp only at h
    cases hf : f t with
    | none => rw [hf] at h; cases h
    | some w => rw [hf] at h; cases h; exact ⟨t, rfl, hf⟩
theorem mCons_inv {r : M (List T)} {ts : List T} (h : mCons a r s = some (ts, s')) : ∃ t s1 us, a s = some (t, s1) ∧ r s1 = some (us, s') ∧ ts = t :: us := by
  unfold mCons at h
  cases ha : a s with
  | none => rw [ha] at h; cases h
  | some p =>
    obtain ⟨t, s1⟩ := p; rw [ha] at h; dsimp only at h
    cases hb : r s1 with
    | none => rw [hb] at h; cases h -- here
    | some p => obtain ⟨u, s2⟩ := p; rw [hb] at h; cases h; exact ⟨t, s1, u, rfl, hb, rfl⟩
theorem mCall_inv {F : Fn} {a : M (List T)} (h : mCall F a s = some (v, s')) : ∃ ts s1 sto, a s = some (ts, s1) ∧ F ts s1.sto = some (v, sto) ∧ s' = { s1 with sto := sto } := by
  unfold mCall at h
  cases ha : a s with
  | none => rw [ha] at h; cases h
  | some p =>
    obtain ⟨t, s1⟩ := p; rw [ha] at h; dsimp only at h
    cases hf : F t s1.sto with
    | none => rw [hf] at h; cases h
    | some w => obtain ⟨w, sto⟩ := w; rw [hf] at h; cases h; exact ⟨t, s1, sto, rfl, hf, rfl⟩
theorem mTest_inv {b : Bool} (h : mTest a s = some (b, s')) : a s = some (.bl b, s') := by
  unfold mTest at h
  cases ha : a s with
  | none => rw [ha] at h; cases h
  | some p =>
    obtain ⟨t, s1⟩ := p; rw [ha] at h
    cases t <;> first | (cases h; rfl) | (cases h)
theorem mNot_inv {c : M Bool} {b : Bool} (h : mNot c s = some (b, s')) : ∃ k, c s = some (k, s') ∧ b = !k := by
  unfold mNot at h
  cases ha : c s with
  | none => rw [ha] at h; cases h
  | some p => obtain ⟨t, s1⟩ := p; rw [ha] at h; cases h; exact ⟨t, rfl, rfl⟩
theorem mAnd_inv {c d : M Bool} {b : Bool} (h : mAnd c d s = some (b, s')) : (∃ s1, c s = some (true, s1) ∧ d s1 = some (b, s')) ∨ (c s = some (false, s') ∧ b = false) := by
  unfold mAnd at h
  cases ha : c s with
  | none => rw [ha] at h; cases h
  | some p =>
    obtain ⟨k, s1⟩ := p; rw [ha] at h
    cases k with
    | true => exact .inl ⟨s1, rfl, h⟩
    | false => cases h; exact .inr ⟨rfl, rfl⟩
theorem mOr_inv {c d : M Bool} {b : Bool} (h : mOr c d s = some (b, s')) : (∃ s1, c s = some (false, s1) ∧ d s1 = some (b, s')) ∨ (c s = some (true, s') ∧ b = true) := by
  unfold mOr at h
  cases ha : c s with
  | none => rw [ha] at h; cases h
  | some p =>
    obtain ⟨k, s1⟩ := p; rw [ha] at h
    cases k with
    | false => exact .inl ⟨s1, rfl, h⟩
    | true => cases h; exact .inr ⟨rfl, rfl⟩
theorem mIf_inv {c : M Bool} (h : mIf c a b s = some (v, s')) : (∃ s1, c s = some (true, s1) ∧ a s1 = some (v, s')) ∨ (∃ s1, c s = some (false, s1) ∧ b s1 = some (v, s')) := by
  unfold mIf at h
  cases ha : c s with
  | none => rw [ha] at h; cases h
  | some p =>
    obtain ⟨k, s1⟩ := p; rw [ha] at h
    cases k with
    | true => exact .inl ⟨s1, rfl, h⟩
    | false => exact .inr ⟨s1, rfl, h⟩
theorem mVar_inv {i : Nat} (h : mVar i s = some (v, s')) : (s.env[i]? = some (some (v, false)) ∧ s' = s) ∨ (s.env[i]? = some (some (v, true)) ∧ s' = { s with env := s.env.set i (some (v, false)) }) := by
  unfold mVar at h
  split at h
  · rename_i t e; cases h; exact .inl ⟨e, rfl⟩
  · rename_i t e; cases h; exact .inr ⟨e, rfl⟩
  · cases h
end
end C
end
noncomputable section
set_option linter.all false
set_option maxRecDepth 100000
set_option maxHeartbeats 4000002
namespace L2
open PySem PySem.Spec PyProof.Rows
noncomputable section
variable {pr : Program} {wd : World} {Ar : Around} {Rs : Result → Shared → Prop} {s : Shared}
theorem compLoop_gen {el tgt itr : Expr} {cs : List Expr} {scp : Scope} {ps : Pos} {itv accv : Value} {en : Env} (J : Nat → Shared → Prop)
    (turn : ∀ n z, J n z → wpAny (model pr wd) Ar (pyNext itv) (fun nx z1 => match nx with
      | none => Rs (.ok .next) z1
      | some v => wpAny (model pr wd) Ar (letOwnedTupleGo tgt itv v) (fun _ z2 => wpAny (model pr wd) Ar (assign tgt en v) (fun _ z3 =>
          wpAny (model pr wd) Ar (forIn cs true fun c go => if go = true then do let ok ← isTrue c en (eval c en); pure (ForInStep.yield ok) else pure (ForInStep.yield go)) (fun ok z4 =>
            if ok = true then wpAny (model pr wd) Ar (eval el en) (fun x z5 =>
              wpAny (model pr wd) Ar (call (.builtin "list.append") [accv, x]) (fun _ z6 => ∃ m, m < n ∧ J m z6) (fun _ _ => False) z5) (fun _ _ => False) z4
            else ∃ m, m < n ∧ J m z4) (fun _ _ => False) z3) (fun _ _ => False) z2) (fun _ _ => False) z1) (fun _ _ => False) z)
    (n : Nat) (h : J n s) :
    codeAny (model pr wd) Ar (.compLoop (.ListComp el [⟨tgt, itr, cs, 0⟩] scp ps) 0 itv accv en) Rs s := by
  refine codeAny_loop rfl J (fun k z hz => ?_) n h
  show wpAny _ Ar ((compTurn (.ListComp el [⟨tgt, itr, cs, 0⟩] scp ps) 0 itv accv en).onRaise (fun ex => do noteFrame ex en; theTreesLotGoes ex)) _ _ z
  refine wpAny_noted ?_
  rw [compTurn_list]
  refine wpAny_bind (wpAny_standAt (wpAny_bind (wpAny_mono (turn k z hz) (fun nx z1 g1 => ?_) fun _ _ no => no.elim)))
  cases nx with
  | none => exact wpAny_pure g1
  | some v =>
    refine wpAny_bind (wpAny_mono g1 (fun _ z2 g2 => ?_) fun _ _ no => no.elim)
    refine wpAny_bind (wpAny_mono g2 (fun _ z3 g3 => wpAny_bind (wpAny_mono g3 (fun ok z4 g4 => ?_) fun _ _ no => no.elim)) fun _ _ no => no.elim)
    cases ok with
    | false => exact wpAny_pure (And.intro rfl g4)
    | true =>
      exact wpAny_bind (wpAny_bind (wpAny_mono g4 (fun x z5 g5 => wpAny_bind (wpAny_mono g5 (fun _ z6 g6 => wpAny_pure (wpAny_pure (And.intro rfl g6))) fun _ _ no => no.elim)) fun _ _ no => no.elim))
end
noncomputable def clOf (env : Env) : List (Str × NameKind) → List (Str × Addr) → List (Str × Addr)
  | [], cs => cs
  | (n, k) :: r, cs => clOf env r (if (k == NameKind.free) = true then (match env.cells.lookup n with | some c => (n, c) :: cs | none => cs) else cs)
noncomputable def hasCells (env : Env) (names : List (Str × NameKind)) : Bool := names.all fun y => !(y.2 == NameKind.free) || (env.cells.lookup y.1).isSome
theorem closureFor_cl {scope : Scope} {env : Env} (h : hasCells env scope.names = true) : closureFor scope env = pure (clOf env scope.names []) := by
  have key : ∀ (l : List (Str × NameKind)) (cs : List (Str × Addr)), hasCells env l = true →
      (forIn (m := Sem) l cs fun x r => (do
        if (x.2 == NameKind.free) = true then
          let c ← cellOf env x.1
          pure (ForInStep.yield ((x.1, c) :: r))
        else pure (ForInStep.yield r))) = pure (clOf env l cs) := by
    intro l
    induction l with
    | nil => intro cs _; rfl
    | cons x r ih =>
      intro cs h
      obtain ⟨n, k⟩ := x
      unfold hasCells at h
      rw [List.all_cons, Bool.and_eq_true] at h -- here
      obtain ⟨h1, h2⟩ := h
      rw [List.forIn_cons]
      by_cases hk : (k == NameKind.free) = true
      · have h1' : (env.cells.lookup n).isSome = true := by simpa [hk] using h1
        obtain ⟨c, hc⟩ := Option.isSome_iff_exists.mp h1'
        have e : cellOf env n = pure c := by unfold cellOf; rw [hc]
        simp only [hk, if_true, e, pure_bind]
        rw [ih _ h2]
        simp only [clOf, hk, if_true, hc]
      · simp only [hk, if_false, pure_bind, Bool.false_eq_true]
        rw [ih _ h2]
        simp only [clOf, hk, if_false, Bool.false_eq_true]
  have := key scope.names [] h
  unfold closureFor
  simpa using this
noncomputable def compCx (X : Cx) (scope : Scope) (N : List Str) (C : Addr) (s₀ : Shared) (H₀ : Hp) (ex : List Addr) (pn : List (Addr × Obj)) : Cx :=
  { X with N := N, s₀ := s₀, H₀ := H₀, env := compEnvC scope (clOf X.env scope.names []) C X.env, outer := X.stack, ex := ex, fn := fun _ => false, pn := pn, xe := fun _ _ => False }
structure CompSc (X : Cx) (scope : Scope) (N : List Str) : Prop where
  has : hasCells X.env scope.names = true
  kind : scope.kind = .function
  nocell : ∀ y ∈ scope.names, y.2 ≠ .cell
  names : ∀ y ∈ scope.names, y.2 = .local → scope.names.lookup y.1 = some .local
noncomputable def CapK (X : Cx) (scope : Scope) (x : Str) : Prop :=
  (X.env.kindOf x = some .cell ∨ X.env.kindOf x = some .free) ∧ Vis X.env.scope x ∧ ((relabel scope X.env).names.lookup x = some .cell ∨ (relabel scope X.env).names.lookup x = some .free)
theorem cl_sub {env : Env} : ∀ (l : List (Str × NameKind)) (cs : List (Str × Addr)), (∀ x c, cs.lookup x = some c → env.cells.lookup x = some c) →
    ∀ x c, (clOf env l cs).lookup x = some c → env.cells.lookup x = some c
  | [], cs, h, x, c, e => h x c e
  | (n, k) :: r, cs, h, x, c, e => by
    rw [clOf] at e
    refine cl_sub r _ (fun y d q => ?_) x c e
    split at q
    · split at q
      · rename_i c' hc'
        rw [List.lookup_cons] at q
        split at q
        · rename_i hb
          cases q
          have hyn := eq_of_beq hb
          rw [hyn]; exact hc'
        · exact h y d q
      · exact h y d q
    · exact h y d q
theorem cl_keep {env : Env} : ∀ (l : List (Str × NameKind)) (cs : List (Str × Addr)) (x : Str), (∃ c, cs.lookup x = some c) → ∃ c, (clOf env l cs).lookup x = some c
  | [], cs, x, h => h
  | (n, k) :: r, cs, x, h => by
    rw [clOf]
    refine cl_keep r _ x ?_
    split
    · split
      · rename_i c' hc'
        rw [List.lookup_cons]
        split
        · exact ⟨_, rfl⟩
        · exact h
      · exact h
    · exact h
theorem cl_has {env : Env} : ∀ (l : List (Str × NameKind)) (cs : List (Str × Addr)) (x : Str), hasCells env l = true → (x, NameKind.free) ∈ l → ∃ c, (clOf env l cs).lookup x = some c
  | [], cs, x, _, h => by simp at h
  | (n, k) :: r, cs, x, hh, h => by
    unfold hasCells at hh
    rw [List.all_cons, Bool.and_eq_true] at hh
    rw [clOf]
    rcases List.mem_cons.mp h with e | h'
    · injection e with e1 e2
      subst e1; subst e2
      have h1 : (env.cells.lookup x).isSome = true := by simpa using hh.1
      obtain ⟨c, hc⟩ := Option.isSome_iff_exists.mp h1
      refine cl_keep r _ x ?_
      simp [hc]
    · exact cl_has r _ x hh.2 h'
theorem mem_of_lookup {α : Type} : ∀ {l : List (Str × α)} {x : Str} {k : α}, l.lookup x = some k → (x, k) ∈ l
  | [], _, _, h => by simp at h
  | (n, k') :: r, x, k, h => by
    rw [List.lookup_cons] at h
    split at h
    · rename_i hb
      cases h
      have hyn := eq_of_beq hb
      rw [hyn]; exact List.mem_cons_self
    · exact List.mem_cons_of_mem _ (mem_of_lookup h)
theorem rel_free {scope : Scope} {env : Env} (nc : ∀ y ∈ scope.names, y.2 ≠ .cell) {x : Str} (h : (relabel scope env).names.lookup x = some .cell ∨ (relabel scope env).names.lookup x = some .free) : (x, NameKind.free) ∈ scope.names := by
  have : ∃ k, (x, k) ∈ (relabel scope env).names ∧ (k = .cell ∨ k = .free) := by
    rcases h with h | h
    · exact ⟨_, mem_of_lookup h, .inl rfl⟩
    · exact ⟨_, mem_of_lookup h, .inr rfl⟩
  obtain ⟨k, hm, hk⟩ := this
  obtain ⟨⟨n, k'⟩, hm', e⟩ := List.mem_map.mp hm
  dsimp only at e
  split at e
  · rename_i hc
    cases e
    simp only [Bool.and_eq_true, beq_iff_eq] at hc
    obtain ⟨⟨h1, _⟩, _⟩ := hc
    subst h1; exact hm'
  · cases e
    rcases hk with rfl | rfl
    · exact absurd rfl (nc _ hm')
    · exact hm'
noncomputable def PTs (X : Cx) (ifs : List Expr) (t : TT) : Prop := ∀ (pins : List (Addr × Obj)) (s : Shared) (σ : St) (H : Hp) (Q : Bool → Hp → Prop), Inv X pins σ H s → t σ H Q →
  wpAny (model X.prog X.w) X.A (forIn ifs true fun c r => if r = true then do let ok ← isTrue c X.env (eval c X.env); pure (ForInStep.yield ok) else pure (ForInStep.yield r)) (TP X pins σ Q) X.xe s
theorem pts_nil {X : Cx} : PTs X [] (fun _ H Q => Q true H) := fun pins s σ H Q I h => wpAny_tests_nil ⟨H, I, h⟩
noncomputable def tCompIn (X : Cx) (scope : Scope) (N : List Str) (g : TG) (tc : TT) (te : TE) (σ : St) (J : It) (H1 : Hp) (Q : VK) : Prop := ∀ D, H1 D = none → ∃ σ0 : St, σ0.length = N.length ∧
  (∀ (i : Nat) (v : V) (x : Str), σ0[i]? = some (some v) → N[i]? = some x → Vis (relabel scope X.env) x → ∃ k : Nat, X.N[k]? = some x ∧ σ[k]? = some (some v) ∧ CapK X scope x) ∧
  ∃ W : Nat → Nat → St → Hp → Prop, (∃ m, W 0 m σ0 (upd H1 D (.lst []))) ∧ ∀ i m σ' H', W i m σ' H' →
    (J.stop i H' ∧ Q (.ref D) H') ∨ (J.go i H' ∧ ∀ x H2, J.yld i H' x H2 → g x σ' H2 fun σ2 H3 => tc σ2 H3 fun b H4 => if b = true then te σ2 H4 fun y H5 => ∃ l, H5 D = some (.lst l) ∧ l.length < sizeLine ∧ ∃ m', m' < m ∧ W (i + 1) m' σ2 (upd H5 D (.lst (l ++ [y]))) else ∃ m', m' < m ∧ W (i + 1) m' σ2 H4)
noncomputable def tComp (X : Cx) (scope : Scope) (N : List Str) (wi : TI) (g : TG) (tc : TT) (te : TE) : TE := fun σ H Q => wi σ H fun J H1 => tCompIn X scope N g tc te σ J H1 Q
noncomputable section
variable {X : Cx} {scope : Scope} {N : List Str}
theorem comp_ok (sc : CompSc X scope N) {pins : List (Addr × Obj)} {σ : St} {H : Hp} {s : Shared} {fp : List Addr} (I : Inv X pins σ H s) (hf : ∀ b ∈ fp, FpOk X pins H b) (hfl : ∀ b ∈ fp, b < s.heap.objs.size) :
    (compCx X scope N s.heap.objs.size s H fp (X.pn ++ pins)).Ok where
  mod := I.ok.mod
  kind := sc.kind
  glob := I.ok.glob
  blt := I.ok.blt
  above := Nat.le_refl _
  inj := fun x y c h1 h2 => I.ok.inj x y c (cl_sub _ [] (fun _ _ z => by simp at z) x c h1) (cl_sub _ [] (fun _ _ z => by simp at z) y c h2)
  has := fun x h => cl_has _ [] x sc.has (rel_free sc.nocell h)
  cab := fun x c h => by cases h
  hd := I.ok.hd
  frames := I.ok.frames
  stk := .inl rfl
  exf := fun b hb => ⟨Nat.ne_of_lt (hfl b hb), fun x c h => (hf b hb).2.2.2.2.1 x c (cl_sub _ [] (fun _ _ z => by simp at z) x c h)⟩
  bs := I.bs
  bsz := Nat.le_trans I.ok.bsz I.sz
  noex := fun b o e hb => by
    rcases (hf b hb).2.2.2.1 with z | z
    · exact I.ok.noex b o e z
    · exact absurd (Nat.lt_of_lt_of_le (Heap.lt_size e) (Nat.le_trans I.ok.bsz z)) (Nat.lt_irrefl _)
  exfs := fun b hb z => by
    rcases List.mem_cons.mp (I.stkSub b z) with e | e
    · exact (hf b hb).2.1 e
    · exact (hf b hb).2.2.1 e
  funs := I.stack
  frf := I.stkFree
theorem comp_start (sc : CompSc X scope N) {pins : List (Addr × Obj)} {σ σ0 : St} {H : Hp} {s : Shared} {fp : List Addr} {h' : Heap} {m : Str → Option Value} {tk : Nat} (I : Inv X pins σ H s) (hf : ∀ b ∈ fp, FpOk X pins H b) (hfl : ∀ b ∈ fp, b < s.heap.objs.size)
    (hl : σ0.length = N.length) (h0 : ∀ (i : Nat) (v : V) (x : Str), σ0[i]? = some (some v) → N[i]? = some x → Vis (relabel scope X.env) x → ∃ k : Nat, X.N[k]? = some x ∧ σ[k]? = some (some v) ∧ CapK X scope x)
    (hn : h'.Ns s.heap.objs.size m) (hk : ∀ b o, s.heap.get? b = some o → h'.get? b = some o) :
    Inv (compCx X scope N s.heap.objs.size s H fp (X.pn ++ pins)) [] σ0 H { s with heap := h', toks := tk } where
  ok := comp_ok sc I hf hfl
  os := rfl
  bare := I.bare
  base := Un.kept hk
  loc := ⟨m, hn, fun i x v e1 e2 e3 => by
    obtain ⟨k, n2, n3, ck, cv, cr⟩ := h0 i v x e2 e1 e3
    obtain ⟨m0, _, hl0⟩ := I.loc
    obtain ⟨u, r, l⟩ := hl0 k x v n2 n3 cv
    refine ⟨u, r, .inr ⟨cr, ?_⟩⟩
    rcases l with ⟨l1, _⟩ | ⟨_, c, hc, z⟩
    · rcases ck with q | q <;> (rw [l1] at q; cases q)
    · obtain ⟨c', hc'⟩ := cl_has (env := X.env) scope.names [] x sc.has (rel_free sc.nocell cr)
      have q := cl_sub scope.names [] (fun _ _ z => by simp at z) x c' hc'
      rw [hc] at q; cases q
      obtain ⟨o, ho, hd⟩ := z
      exact ⟨c, hc', o, hk _ _ ho, hd⟩⟩
  cell := fun x c e => by
    obtain ⟨v, o, ho, hd⟩ := I.cell x c (cl_sub scope.names [] (fun _ _ z => by simp at z) x c e)
    exact ⟨v, o, hk _ _ ho, hd⟩
  free := I.hok.fresh (Nat.le_refl _)
  freeC := fun x c e => I.freeC x c (cl_sub scope.names [] (fun _ _ z => by simp at z) x c e)
  pin := fun p hp => by
    have hp' : p ∈ X.pn ++ pins := by simpa [compCx] using hp
    obtain ⟨a, b, c, d, e⟩ := I.pin p hp'
    refine ⟨hk _ _ a, b, Nat.ne_of_lt (Heap.lt_size a), fun z => ?_, e⟩
    rcases List.mem_cons.mp (I.stkSub p.1 z) with q | q
    · exact c q
    · exact d q
  hok := I.hok.kept hk
  len := hl
theorem comp_end {pins : List (Addr × Obj)} {σ σ' : St} {H H' : Hp} {s s' : Shared} {fp : List Addr} {h' : Heap} (I : Inv X pins σ H s) (hf : ∀ b ∈ fp, FpOk X pins H b)
    (J : Inv (compCx X scope N s.heap.objs.size s H fp (X.pn ++ pins)) [] σ' H' s') (hs : Heap.SameBut s.heap.objs.size s'.heap h') : Inv X pins σ H' { s' with heap := h' } := by
  have kb : ∀ b o, b ≠ s.heap.objs.size → s'.heap.get? b = some o → h'.get? b = some o := fun b o n e => hs.extBut b o n e
  have ne : ∀ b o, s.heap.get? b = some o → b ≠ s.heap.objs.size := fun b o e => Nat.ne_of_lt (Heap.lt_size e)
  have fr : H' s.heap.objs.size = none := J.free
  have u0 : Un (frs X.stack) fp H H' s.heap s'.heap := J.base
  have u : Un (frs X.stack) fp H H' s.heap h' := ⟨fun b o e n h1 h2 => kb b o (ne b o e) (u0.keep b o e n h1 h2), fun b o e n h1 h2 => by
      obtain ⟨sl, q⟩ := u0.slot b o e n h1 h2
      exact ⟨sl, kb b _ (ne b o e) q⟩, u0.free, fun b o e h => by
      obtain ⟨o', q⟩ := u0.there b o e h
      exact ⟨o', kb b _ (ne b o e) q⟩, u0.tups, u0.frzs, u0.tbls⟩
  have hok : HOk X.prog X.w H' h' := fun b o e => by
    refine (J.hok b o e).stay (fun c v hc q => kb c v ?_ q) (fun _ q => q) fun _ _ q => q
    rcases hc with z | z
    · rw [z]; intro y; rw [y] at e; rw [fr] at e; cases e
    · intro y; rw [y] at z; rw [fr] at z; cases z
  have hos : s'.os = s.os := J.os
  obtain ⟨hh, g, d, t, os'⟩ := s'
  obtain rfl : os' = s.os := hos
  exact Inv.call (X := X) (s := s) (H := H) (h' := h') (g' := g) (d' := d) (t' := t) (ch := fp) I u hok J.bare fun b hb => ⟨(hf b hb).2.2.2.1, (hf b hb).2.1, (hf b hb).2.2.2.2.1, (hf b hb).2.2.2.2.2⟩
variable {tg iter elt : Expr} {ifs : List Expr} {pos : Pos} {g : TG} {tc : TT} {te : TE}
theorem comp_block (sc : CompSc X scope N) (calm : X.calm = true)
    (hg : ∀ C s₀ H₀ ex pn, PG (compCx X scope N C s₀ H₀ ex pn) tg g) (hc : ∀ C s₀ H₀ ex pn, PTs (compCx X scope N C s₀ H₀ ex pn) ifs tc) (he : ∀ C s₀ H₀ ex pn, PE (compCx X scope N C s₀ H₀ ex pn) elt te)
    {pins : List (Addr × Obj)} {σ : St} {H1 : Hp} {s₂ : Shared} {it : Addr} {fp : List Addr} {tn : Nat → Heap → Prop} {J : It} {Q : VK} {E : Value → Shared → Prop} {RR : Value → Addr → Result → Shared → Prop}
    (I : Inv X pins σ H1 s₂) (T : Turn X.prog X.w X.K tg J fp it tn) (st2 : tn 0 s₂.heap) (f2 : ∀ b ∈ fp, FpOk X pins H1 b) (q : tCompIn X scope N g tc te σ J H1 Q)
    (hRR : ∀ D s₃ H3 σ' H' s', Inv X pins σ H3 s₃ → (∀ b ∈ fp, FpOk X pins H3 b) → Inv (compCx X scope N s₃.heap.objs.size s₃ H3 fp (X.pn ++ pins)) [] σ' H' s' → Q (.ref D) H' → RR (.ref D) s₃.heap.objs.size (.ok .next) s') :
    wpAny (model X.prog X.w) X.A (newList []) (fun acc s₃ => wpAny (model X.prog X.w) X.A (newFunctionEnv scope X.env.globals (clOf X.env scope.names []) [] X.env.qual none .none (some X.env)) (fun cenv s₄ =>
      codeAny (model X.prog X.w) X.A (.compStart (.ListComp elt [⟨tg, iter, ifs, 0⟩] scope pos) 0 (.ref it) acc { cenv with scope := relabel scope X.env }) (RR acc cenv.locals) s₄) E s₃) E s₂ := by
  refine wpAny_newObj_type (wpAny_newFunctionEnv sc.nocell (by intro y hy; simp at hy) (fun h₁ hns₁ hsb₁ => ?_) sc.kind)
  dsimp only at hns₁ hsb₁ ⊢
  have I3 : Inv X pins σ (upd H1 s₂.heap.objs.size (.lst [])) { s₂ with heap := s₂.heap.push { cls := .type "list", dict := none, data := .seq ([] : List Value).toArray } } :=
    I.laid (t' := s₂.toks) (fun b ob q => Heap.get?_push_of_some _ q) (Nat.le_refl _) ⟨Nat.zero_le _, [], _, .nil, Heap.get?_push_size _ rfl⟩
  generalize hs3 : ({ s₂ with heap := s₂.heap.push { cls := .type "list", dict := none, data := .seq ([] : List Value).toArray } } : Shared) = s₃ at I3
  have hheap : s₂.heap.push { cls := .type "list", dict := none, data := .seq ([] : List Value).toArray } = s₃.heap := by rw [← hs3]
  have hstate : ∀ (h : Heap) (t : Nat), ({ s₂ with heap := h, toks := t } : Shared) = { s₃ with heap := h, toks := t } := fun h t => by rw [← hs3]
  rw [hheap] at hns₁ hsb₁ ⊢
  have lt2 : ∀ b ∈ fp, b < s₂.heap.objs.size := fun b hb => by
    obtain ⟨o, ho, _⟩ := T.obj _ _ st2 b hb
    exact Heap.lt_size ho
  have sz3 : s₃.heap.objs.size = s₂.heap.objs.size + 1 := by rw [← hheap, Heap.size_push]
  have k23 : ∀ b o, s₂.heap.get? b = some o → s₃.heap.get? b = some o := fun b o e => by rw [← hheap]; exact Heap.get?_push_of_some _ e
  have f3 : ∀ b ∈ fp, FpOk X pins (upd H1 s₂.heap.objs.size (.lst [])) b := fun b hb => ⟨by rw [upd_ne (Nat.ne_of_lt (lt2 b hb))]; exact (f2 b hb).1, (f2 b hb).2⟩
  have lt3 : ∀ b ∈ fp, b < s₃.heap.objs.size := fun b hb => by rw [sz3]; exact Nat.lt_succ_of_lt (lt2 b hb)
  obtain ⟨σ0, hl, h0, W, ⟨m0, w0⟩, turn⟩ := q s₂.heap.objs.size (I.hok.fresh (Nat.le_refl _))
  have k34 : ∀ b o, s₃.heap.get? b = some o → h₁.get? b = some o := fun b o e => hsb₁.extBut b o (Nat.ne_of_lt (Heap.lt_size e)) (Heap.get?_push_of_some _ e)
  rw [hstate]
  have J0 := comp_start (tk := s₂.toks + ([] : List (Str × Value)).length) sc I3 f3 lt3 hl h0 hns₁ k34
  have st4 : tn 0 h₁ := T.keep _ _ _ st2 fun b _ o e => k34 b o (k23 b o e)
  have key : ∀ s₄ : Shared, s₄ = { s₃ with heap := h₁, toks := s₂.toks + ([] : List (Str × Value)).length } → codeAny (model X.prog X.w) X.A (.compLoop (.ListComp elt [⟨tg, iter, ifs, 0⟩] scope pos) 0 (.ref it) (.ref s₂.heap.objs.size)
      (compCx X scope N s₃.heap.objs.size s₃ (upd H1 s₂.heap.objs.size (.lst [])) fp (X.pn ++ pins)).env) (RR (.ref s₂.heap.objs.size) s₃.heap.objs.size) s₄ := by
    rintro s₄ rfl
    generalize hX : compCx X scope N s₃.heap.objs.size s₃ (upd H1 s₂.heap.objs.size (.lst [])) fp (X.pn ++ pins) = X' at J0
    have hP : X'.prog = X.prog := by rw [← hX]; rfl
    have hW : X'.w = X.w := by rw [← hX]; rfl
    have hA : X'.A = X.A := by rw [← hX]; rfl
    have hxe : X'.xe = fun _ _ => False := by rw [← hX]; rfl
    have hK : X'.K = X.K := by rw [← hX]; rfl
    have hcal : X'.calm = true := by rw [← hX]; exact calm
    have stat : ∀ {H' : Hp}, (∀ b ∈ fp, H' b = none) → ∀ b ∈ fp, FpOk X' [] H' b := fun hn b hb => by
      have z := comp_ok sc I3 f3 lt3
      rw [hX] at z
      refine ⟨hn b hb, (z.exf b (by rw [← hX]; exact hb)).1, z.exfs b (by rw [← hX]; exact hb), .inl (by rw [← hX]; exact hb), (z.exf b (by rw [← hX]; exact hb)).2, fun p hp => ?_⟩
      have hp' : p ∈ X.pn ++ pins := by rw [← hX] at hp; simpa [compCx] using hp
      exact (f3 b hb).2.2.2.2.2 p hp'
    have hg' : PG X' tg g := by rw [← hX]; exact hg _ _ _ _ _
    have hc' : PTs X' ifs tc := by rw [← hX]; exact hc _ _ _ _ _
    have he' : PE X' elt te := by rw [← hX]; exact he _ _ _ _ _
    have fin : ∀ σ' H' s', Inv X' [] σ' H' s' → Q (.ref s₂.heap.objs.size) H' → RR (.ref s₂.heap.objs.size) s₃.heap.objs.size (.ok .next) s' := fun σ' H' s' I' q' => hRR _ s₃ _ σ' H' s' I3 f3 (by rw [hX]; exact I') q'
    have T' : Turn X'.prog X'.w X'.K tg J fp it tn := by rw [hP, hW, hK]; exact T
    rw [← hP, ← hW, ← hA]
    refine compLoop_gen (J := fun n s' => ∃ i σ' H', Inv X' [] σ' H' s' ∧ tn i s'.heap ∧ (∀ b ∈ fp, H' b = none) ∧ W i n σ' H') ?_ m0 ⟨0, σ0, _, J0, st4, fun b hb => (f3 b hb).1, w0⟩
    rintro n s5 ⟨i, σ5, H5, I5, st5, fr5, w5⟩
    rcases turn i n σ5 H5 w5 with ⟨stop, qn⟩ | ⟨go, step⟩
    · refine thn (T'.done X' rfl rfl rfl hcal i [] s5 σ5 H5 _ I5 (stat fr5) st5 stop) fun r s6 ⟨hr, I6⟩ => ?_
      subst hr
      exact fin _ _ _ I6 qn
    · refine thn (T'.item X' rfl rfl rfl hcal i [] s5 σ5 H5 _ I5 (stat fr5) st5 go) fun r s6 ⟨u, hr, h6⟩ => ?_
      subst hr
      refine thn h6 fun _ s7 ⟨x, H7, I7, r7, y7, st7, fr7⟩ => ?_
      have I7' := I7.pinned (stat fr7) (T'.obj _ _ st7)
      have a1 := hg' _ s7 σ5 H7 x u _ I7' r7 (step x H7 y7)
      rw [hxe] at a1
      refine thn a1 fun _ s8 ⟨σ8, H8, I8, q8⟩ => ?_
      have a2 := hc' _ s8 σ8 H8 _ I8 q8
      rw [hxe] at a2
      refine thn a2 fun ok s9 ⟨H9, I9, q9⟩ => ?_
      have again : ∀ {σ7 : St} {H7 : Hp} {s' : Shared} {m' : Nat}, Inv X' ([] ++ pinsAt fp s7.heap) σ7 H7 s' → m' < n → W (i + 1) m' σ7 H7 → ∃ m, m < n ∧ ∃ i σ' H', Inv X' [] σ' H' s' ∧ tn i s'.heap ∧ (∀ b ∈ fp, H' b = none) ∧ W i m σ' H' := fun {σ7 H7 s' m'} I7 hm w7 => by
        refine ⟨m', hm, i + 1, σ7, H7, I7.unpinned, T'.keep _ _ _ st7 fun b hb o e => (I7.pin (b, o) (List.mem_append_right _ (List.mem_append_right _ (mem_pinsAt hb e)))).1, fun b hb => ?_, w7⟩
        obtain ⟨o, e, d⟩ := T'.obj _ _ st7 b hb
        exact (I7.pin (b, o) (List.mem_append_right _ (List.mem_append_right _ (mem_pinsAt hb e)))).2.1
      cases ok with
      | false =>
        rw [if_neg Bool.false_ne_true] at q9 ⊢
        obtain ⟨m', hm, w9⟩ := q9
        exact again I9 hm w9
      | true =>
        rw [if_pos rfl] at q9 ⊢
        have a3 := he' _ s9 σ8 H9 _ I9 q9
        rw [hxe] at a3
        refine thn a3 fun xv s10 ⟨y, H10, I10, r10, l, hl10, hz10, m', hm, w10⟩ => ?_
        have a4 := mt_append (X := X') _ s10 σ8 H10 (.ref s₂.heap.objs.size) [y] (.ref s₂.heap.objs.size) [xv] (fun _ H' => H' = upd H10 s₂.heap.objs.size (.lst (l ++ [y]))) I10 rfl (.cons r10 .nil) ⟨_, l, y, rfl, rfl, hl10, hz10, rfl⟩
        rw [hxe] at a4
        refine thn a4 fun _ s11 ⟨v, H11, I11, _, e11⟩ => ?_
        subst e11
        exact again I11 hm w10
  exact codeAny_compStart_list (key _ rfl) (T.self _ 0 _ _ _ st4 (key _ rfl))
theorem pe_comp {wi : TI} (sc : CompSc X scope N) (calm : X.calm = true) (hi : PI X tg iter wi)
    (hg : ∀ C s₀ H₀ ex pn, PG (compCx X scope N C s₀ H₀ ex pn) tg g) (hc : ∀ C s₀ H₀ ex pn, PTs (compCx X scope N C s₀ H₀ ex pn) ifs tc) (he : ∀ C s₀ H₀ ex pn, PE (compCx X scope N C s₀ H₀ ex pn) elt te)
    (hs : ∀ x, foldedSetIterable iter X.env x = pure x := by intro _; rfl) : PE X (.ListComp elt [⟨tg, iter, ifs, 0⟩] scope pos) (tComp X scope N wi g tc te) := by
  intro pins s σ H Q I h
  rw [eval_ListComp]
  refine wpAny_comprehension_free (use := none) rfl hs (closureFor_cl sc.has) sc.kind sc.names ?_
  refine wpAny_mono (hi pins s σ H _ I h) (fun x s₁ h₁ => wpAny_mono h₁ (fun itv s₂ h₂ => ?_) fun _ _ e => e) fun _ _ e => e
  obtain ⟨it, fp, tn, J, H1, rfl, I2, T, st2, f2, q⟩ := h₂
  refine comp_block (RR := fun acc C => compPost (model X.prog X.w) X.A X.xe none (EP X pins σ Q) acc C) sc calm hg hc he I2 T st2 f2 q ?_
  intro D s₃ H3 σ' H' s' I3 f3 I' qn
  obtain ⟨m, hn, _⟩ := I'.loc
  exact ⟨m, hn, fun h' hs' => ⟨.ref D, H', comp_end I3 f3 I' hs', rfl, qn⟩⟩
theorem ps_comp {wi : TI} {y : Str} {py spos : Pos} {i : Nat} (sc : CompSc X scope N) (calm : X.calm = true) (hi : PI X tg iter wi)
    (hg : ∀ C s₀ H₀ ex pn, PG (compCx X scope N C s₀ H₀ ex pn) tg g) (hc : ∀ C s₀ H₀ ex pn, PTs (compCx X scope N C s₀ H₀ ex pn) ifs tc) (he : ∀ C s₀ H₀ ex pn, PE (compCx X scope N C s₀ H₀ ex pn) elt te)
    (hgN : PG X (.Name y py) (gName i)) (hsw : swapsWith (.ListComp elt [⟨tg, iter, ifs, 0⟩] scope pos) (some (.Name y py)) spos.line X.env = pure true)
    (hs : ∀ x, foldedSetIterable iter X.env x = pure x := by intro _; rfl) : PS X (.Assign [.Name y py] (.ListComp elt [⟨tg, iter, ifs, 0⟩] scope pos) spos) (tAsg (tComp X scope N wi g tc te) (gName i)) := by
  intro pins s σ H D I h
  rw [exec_Assign_Name_used _ _ _ _ hsw] -- here
  refine wpAny_bind (wpAny_standAt (wpAny_bind ?_)) -- here
  show wpAny _ X.A (do let _ ← comprehension (.ListComp elt [⟨tg, iter, ifs, 0⟩] scope pos) scope X.env _ (newList []) false (eval iter X.env) (some (assign (.Name y py) X.env))) _ _ s
  refine wpAny_bind (wpAny_mono (wpAny_comprehension_free (use := some (assign (.Name y py) X.env)) (Q := fun _ s' => SP X pins D .next s') rfl hs (closureFor_cl sc.has) sc.kind sc.names ?_) (fun _ s' hq => wpAny_pure (wpAny_pure hq)) fun _ _ e => e)
  refine wpAny_mono (hi pins s σ H _ I h) (fun x s₁ h₁ => wpAny_mono h₁ (fun itv s₂ h₂ => ?_) fun _ _ e => e) fun _ _ e => e
  obtain ⟨it, fp, tn, J, H1, rfl, I2, T, st2, f2, q⟩ := h₂
  refine comp_block (RR := fun acc C => compPost (model X.prog X.w) X.A X.xe (some (assign (.Name y py) X.env)) (fun _ s' => SP X pins D .next s') acc C) sc calm hg hc he I2 T st2 f2 q ?_
  intro D' s₃ H3 σ' H' s' I3 f3 I' qn
  obtain ⟨m, hn, _⟩ := I'.loc
  obtain ⟨oC, es, ep, hoC, hdC, hrest⟩ := id hn
  have IX : Inv X pins σ H' s' := comp_end I3 f3 I' (.refl ..)
  have fC : FpOk X pins H' s₃.heap.objs.size := I3.fpOk (Nat.le_refl _) I'.free
  have IXp := IX.pinned (fp := [s₃.heap.objs.size]) (fun b hb => by rw [List.mem_singleton.mp hb]; exact fC) (fun b hb => by
    rw [List.mem_singleton.mp hb]
    exact ⟨oC, hoC, fun v z => by rw [hdC] at z; cases z⟩)
  show wpAny _ X.A (assign (.Name y py) X.env (.ref D')) _ _ _
  refine thn (hgN _ s' σ H' (.ref D') (.ref D') _ IXp rfl qn) fun _ s'' ⟨σ'', H'', I'', q''⟩ => ?_
  have pC := I''.pin (s₃.heap.objs.size, oC) (List.mem_append_right _ (List.mem_append_right _ (mem_pinsAt (by simp) hoC)))
  refine ⟨m, ⟨oC, es, ep, pC.1, hdC, hrest⟩, fun h' hs' => ⟨σ'', H'', ?_, q''⟩⟩
  exact I''.unpinned.turned (h' := h') (t' := s''.toks) (it := s₃.heap.objs.size) (fun b o ne e => hs'.extBut b o ne e) pC.2.1 fC.2.1 fC.2.2.2.1 fC.2.2.2.2.1 fC.2.2.2.2.2
end
end L2
end
noncomputable section
set_option linter.all false
set_option maxHeartbeats 4000002
set_option autoImplicit false
namespace C
open PySem PySem.Spec PyProof.Rows L2
mutual
inductive Rep (K : PySem.W.Frag) (S : Hp) (as : List Addr) : V → T → Prop where
  | non : Rep K S as .non .non
  | bl (b : Bool) : Rep K S as (.bl b) (.bl b)
  | int (i : Int) : Rep K S as (.int i) (.int i)
  | str (x : Str) : Rep K S as (.str x) (.str x)
  | tup {a : Addr} {vs : List V} {ts : List T} : SqT K S a vs → Reps K S as vs ts → Rep K S as (.ref a) (.tup ts)
  | lst {a : Addr} {vs : List V} {ts : List T} : SqL K S a vs → Reps K S as vs ts → Rep K S as (.ref a) (.lst ts)
  | dic {a : Addr} {kvs : List (L2.Key × V)} {ts : List (L2.Key × T)} : Rd S a (.dK kvs) → RepK K S as kvs ts → Rep K S as (.ref a) (.dic ts)
  | obj {n : Nat} {a : Addr} : as[n]? = some a → Rep K S as (.ref a) (.obj n)
inductive Reps (K : PySem.W.Frag) (S : Hp) (as : List Addr) : List V → List T → Prop where
  | nil : Reps K S as [] []
  | cons {v : V} {t : T} {vs : List V} {ts : List T} : Rep K S as v t → Reps K S as vs ts → Reps K S as (v :: vs) (t :: ts)
inductive RepK (K : PySem.W.Frag) (S : Hp) (as : List Addr) : List (L2.Key × V) → List (L2.Key × T) → Prop where
  | nil : RepK K S as [] []
  | cons {k : L2.Key} {v : V} {t : T} {vs : List (L2.Key × V)} {ts : List (L2.Key × T)} : Rep K S as v t → RepK K S as vs ts → RepK K S as ((k, v) :: vs) ((k, t) :: ts)
end
theorem rd_mono {S S' : Hp} {a : Addr} {u : HO} (e : Same S S') (h : Rd S a u) : Rd S' a u := by
  rcases h with h | ⟨o, h⟩
  · exact .inl (e _ _ h)
  · exact .inr ⟨o, e _ _ h⟩
theorem sqT_mono {K : PySem.W.Frag} {S S' : Hp} {a : Addr} {xs : List V} (e : Same S S') (h : SqT K S a xs) : SqT K S' a xs := by
  rcases h with h | h
  · exact .inl (rd_mono e h)
  · exact .inr h
theorem sqL_mono {K : PySem.W.Frag} {S S' : Hp} {a : Addr} {xs : List V} (e : Same S S') (h : SqL K S a xs) : SqL K S' a xs := by
  rcases h with h | h
  · exact .inl (rd_mono e h)
  · exact .inr h
noncomputable section
variable {K : PySem.W.Frag} {S S' : Hp} {as as' : List Addr}
theorem get_app {α : Type} {l r : List α} {n : Nat} {a : α} (h : l[n]? = some a) : (l ++ r)[n]? = some a := by
  have := (List.getElem?_eq_some_iff.mp h).1
  rw [List.getElem?_append_left this]; exact h
mutual
theorem Rep.mono (e : Same S S') (x : ∃ l, as' = as ++ l) : ∀ {v : V} {t : T}, Rep K S as v t → Rep K S' as' v t
  | _, _, .non => .non
  | _, _, .bl b => .bl b
  | _, _, .int i => .int i
  | _, _, .str y => .str y
  | _, _, .tup h r => .tup (sqT_mono e h) (Reps.mono e x r)
  | _, _, .lst h r => .lst (sqL_mono e h) (Reps.mono e x r)
  | _, _, .dic h r => .dic (rd_mono e h) (RepK.mono e x r)
  | _, _, .obj h => .obj (by obtain ⟨l, rfl⟩ := x; exact get_app h)
theorem Reps.mono (e : Same S S') (x : ∃ l, as' = as ++ l) : ∀ {v : List V} {t : List T}, Reps K S as v t → Reps K S' as' v t
  | _, _, .nil => .nil
  | _, _, .cons h r => .cons (Rep.mono e x h) (Reps.mono e x r)
theorem RepK.mono (e : Same S S') (x : ∃ l, as' = as ++ l) : ∀ {v : List (L2.Key × V)} {t : List (L2.Key × T)}, RepK K S as v t → RepK K S' as' v t
  | _, _, .nil => .nil
  | _, _, .cons h r => .cons (Rep.mono e x h) (RepK.mono e x r)
end
theorem Reps.length : ∀ {vs : List V} {ts : List T}, Reps K S as vs ts → vs.length = ts.length
  | _, _, .nil => rfl
  | _, _, .cons _ r => congrArg (· + 1) r.length
theorem RepK.length : ∀ {vs : List (L2.Key × V)} {ts : List (L2.Key × T)}, RepK K S as vs ts → vs.length = ts.length
  | _, _, .nil => rfl
  | _, _, .cons _ r => congrArg (· + 1) r.length
theorem Reps.get : ∀ {vs : List V} {ts : List T} {i : Nat} {t : T}, Reps K S as vs ts → ts[i]? = some t → ∃ v, vs[i]? = some v ∧ Rep K S as v t
  | _, _, _, _, .nil, e => by simp at e
  | _, _, 0, _, .cons r _, e => by simp at e; subst e; exact ⟨_, rfl, r⟩
  | _, _, i + 1, t, .cons _ r, e => by
    obtain ⟨v, h1, h2⟩ := Reps.get (i := i) (t := t) r (by simpa using e)
    exact ⟨v, by simpa using h1, h2⟩
theorem Reps.append : ∀ {vs : List V} {ts : List T} {ws : List V} {us : List T}, Reps K S as vs ts → Reps K S as ws us → Reps K S as (vs ++ ws) (ts ++ us)
  | _, _, _, _, .nil, q => q
  | _, _, _, _, .cons h r, q => .cons h (Reps.append r q)
theorem Reps.drop : ∀ (n : Nat) {vs : List V} {ts : List T}, Reps K S as vs ts → Reps K S as (vs.drop n) (ts.drop n)
  | 0, _, _, r => r
  | _ + 1, _, _, .nil => .nil
  | n + 1, _, _, .cons _ r => Reps.drop n r
theorem RepK.get (k : L2.Key) : ∀ {vs : List (L2.Key × V)} {ts : List (L2.Key × T)}, RepK K S as vs ts → (∃ v t, valV vs k = some v ∧ dGet k ts = some t ∧ Rep K S as v t) ∨ (valV vs k = none ∧ dGet k ts = none)
  | _, _, .nil => .inr ⟨rfl, rfl⟩
  | _, _, .cons (k := q) (v := v) (t := t) (vs := vs) (ts := ts) h r => by
    by_cases e : q = k
    · exact .inl ⟨v, t, valV_pos (p := (q, v)) e, by rw [dGet, if_pos e], h⟩
    · rw [valV_neg (p := (q, v)) e, dGet, if_neg e]
      exact RepK.get k r
end
structure Bas where
  S : Hp
  as : List Addr
  H : Hp
structure Grow (B : Bas) (S : Hp) (as : List Addr) (H : Hp) : Prop where
  same : Same B.S S
  more : ∃ l, as = B.as ++ l
  keep : ∀ p o, B.H p = some o → B.S p = none → p ∉ B.as → H p = some o ∧ S p = none ∧ p ∉ as
structure Ext (S H S' H' : Hp) : Prop where
  s : Same S S'
  h : Same H H'
  sub : Same S' H'
  new : ∀ p, S' p ≠ none → S p ≠ none ∨ H p = none
theorem Ext.refl {S H : Hp} (h : Same S H) : Ext S H S H := ⟨Same.refl _, Same.refl _, h, fun _ q => .inl q⟩
theorem Same.upd {H : Hp} {p : Addr} (h : H p = none) (o : HO) : Same H (upd H p o) := fun b u q => by rw [upd_ne (ne_of_none q h)]; exact q
theorem Ext.laid {S H : Hp} (h : Same S H) {p : Addr} (n : H p = none) (o : HO) : Ext S H (upd S p o) (upd H p o) where
  s := Same.upd (h.free n) o
  h := Same.upd n o
  sub := fun b u q => by
    by_cases e : b = p
    · subst e; rw [upd_same] at q ⊢; exact q
    · rw [upd_ne e] at q ⊢; exact h _ _ q
  new := fun b q => by
    by_cases e : b = p
    · subst e; exact .inr n
    · rw [upd_ne e] at q; exact .inl q
theorem Ext.trans {S H S1 H1 S2 H2 : Hp} (a : Ext S H S1 H1) (b : Ext S1 H1 S2 H2) : Ext S H S2 H2 where
  s := a.s.trans b.s
  h := a.h.trans b.h
  sub := b.sub
  new := fun p q => by
    rcases b.new p q with z | z
    · exact a.new p z
    · exact .inr (a.h.free z)
noncomputable def Own (K : PySem.W.Frag) (S : Hp) (as : List Addr) (H : Hp) (p : Addr) : T → Prop
  | .lst ts => ∃ vs, H p = some (.lst vs) ∧ Reps K S as vs ts
  | .dic ts => ∃ kvs, H p = some (.dK kvs) ∧ RepK K S as kvs ts
  | _ => False
structure OwnAt (K : PySem.W.Frag) (B : Bas) (S : Hp) (as : List Addr) (H : Hp) (p : Addr) (t : T) : Prop where
  own : Own K S as H p t
  out : S p = none
  nas : p ∉ as
  new : B.H p = none
noncomputable def SRep (K : PySem.W.Frag) (S : Hp) (as : List Addr) (H : Hp) (a : Addr) : SO → Prop
  | .dic ts => ∃ kvs, H a = some (.dK kvs) ∧ RepK K S as kvs ts
  | .lst ts => ∃ vs, H a = some (.lst vs) ∧ Reps K S as vs ts
  | .ins _ _ => False
structure StoOk (K : PySem.W.Frag) (S : Hp) (as : List Addr) (H : Hp) (sto : List SO) : Prop where
  len : as.length = sto.length
  nd : as.Nodup
  at' : ∀ (n : Nat) so, sto[n]? = some so → ∃ a, as[n]? = some a ∧ S a = none ∧ SRep K S as H a so
structure Rel (K : PySem.W.Frag) (B : Bas) (st : Sta) (σ : L2.St) (H : Hp) (ps : List (V × T)) (S : Hp) (as : List Addr) : Prop where
  sub : Same S H
  grow : Grow B S as H
  slots : ∀ (i : Nat) t f, st.env[i]? = some (some (t, f)) → ∃ v, σ[i]? = some (some v) ∧ (f = false → Rep K S as v t) ∧ (f = true → ∃ p, v = .ref p ∧ OwnAt K B S as H p t)
  apart : ∀ (i j : Nat) t u p, st.env[i]? = some (some (t, true)) → st.env[j]? = some (some (u, true)) → σ[i]? = some (some (.ref p)) → σ[j]? = some (some (.ref p)) → i = j
  sto : StoOk K S as H st.sto
  pend : ∀ p ∈ ps, Rep K S as p.1 p.2
  len : σ.length = st.env.length
noncomputable section
variable {K : PySem.W.Frag} {B : Bas} {st : Sta} {σ : L2.St} {H H' S S' : Hp} {ps : List (V × T)} {as : List Addr}
theorem nol {as : List Addr} : ∃ l : List Addr, as = as ++ l := ⟨[], (List.append_nil _).symm⟩
theorem Own.mono {p : Addr} {t : T} (hs : Same S S') (hh : H p = H' p) (o : Own K S as H p t) : Own K S' as H' p t := by
  cases t with
  | lst ts => obtain ⟨vs, h, r⟩ := o; exact ⟨vs, hh ▸ h, r.mono hs nol⟩
  | dic ts => obtain ⟨vs, h, r⟩ := o; exact ⟨vs, hh ▸ h, r.mono hs nol⟩
  | _ => exact o.elim
theorem Own.there {p : Addr} {t : T} (o : Own K S as H p t) : ∃ ob, H p = some ob := by
  cases t with
  | lst ts => obtain ⟨vs, h, r⟩ := o; exact ⟨_, h⟩
  | dic ts => obtain ⟨vs, h, r⟩ := o; exact ⟨_, h⟩
  | _ => exact o.elim
theorem SRep.mono {a : Addr} {so : SO} (hs : Same S S') (hh : H a = H' a) (o : SRep K S as H a so) : SRep K S' as H' a so := by
  cases so with
  | dic ts => obtain ⟨vs, h, r⟩ := o; exact ⟨vs, hh ▸ h, r.mono hs nol⟩
  | lst ts => obtain ⟨vs, h, r⟩ := o; exact ⟨vs, hh ▸ h, r.mono hs nol⟩
  | ins c f => exact o.elim
theorem SRep.there {a : Addr} {so : SO} (o : SRep K S as H a so) : ∃ ob, H a = some ob := by
  cases so with
  | dic ts => obtain ⟨vs, h, r⟩ := o; exact ⟨_, h⟩
  | lst ts => obtain ⟨vs, h, r⟩ := o; exact ⟨_, h⟩
  | ins c f => exact o.elim
theorem Ext.outs (x : Ext S H S' H') {p : Addr} {o : HO} (h : H p = some o) (n : S p = none) : S' p = none := by
  cases q : S' p with
  | none => rfl
  | some u =>
    rcases x.new p (by rw [q]; exact Option.some_ne_none _) with z | z
    · exact absurd n z
    · rw [h] at z; cases z
theorem StoOk.ext {sto : List SO} (r : StoOk K S as H sto) (x : Ext S H S' H') : StoOk K S' as H' sto where
  len := r.len
  nd := r.nd
  at' := fun n so e => by
    obtain ⟨a, h1, h2, h3⟩ := r.at' n so e
    obtain ⟨ob, ho⟩ := h3.there
    exact ⟨a, h1, x.outs ho h2, h3.mono x.s (by rw [ho, x.h _ _ ho])⟩
theorem Rel.ext (r : Rel K B st σ H ps S as) (x : Ext S H S' H') : Rel K B st σ H' ps S' as where
  sub := x.sub
  grow := ⟨r.grow.same.trans x.s, r.grow.more, fun p o h1 h2 h3 => by
    obtain ⟨a, b, c⟩ := r.grow.keep p o h1 h2 h3
    exact ⟨x.h _ _ a, x.outs a b, c⟩⟩
  slots := fun i t f e => by
    obtain ⟨v, h1, h2, h3⟩ := r.slots i t f e
    refine ⟨v, h1, fun q => (h2 q).mono x.s nol, fun q => ?_⟩
    obtain ⟨p, e, o⟩ := h3 q
    obtain ⟨ob, ho⟩ := o.own.there
    exact ⟨p, e, o.own.mono x.s (by rw [ho, x.h _ _ ho]), x.outs ho o.out, o.nas, o.new⟩
  apart := r.apart
  sto := r.sto.ext x
  pend := fun p hp => (r.pend p hp).mono x.s nol
  len := r.len
theorem Rel.push (r : Rel K B st σ H ps S as) {v : V} {t : T} (h : Rep K S as v t) : Rel K B st σ H ((v, t) :: ps) S as :=
  ⟨r.sub, r.grow, r.slots, r.apart, r.sto, fun p hp => by
    rcases List.mem_cons.mp hp with rfl | z
    · exact h
    · exact r.pend p z, r.len⟩
theorem Rel.drop {p : V × T} (r : Rel K B st σ H (p :: ps) S as) : Rel K B st σ H ps S as :=
  ⟨r.sub, r.grow, r.slots, r.apart, r.sto, fun q hq => r.pend q (List.mem_cons_of_mem _ hq), r.len⟩
theorem Rel.top {v : V} {t : T} (r : Rel K B st σ H ((v, t) :: ps) S as) : Rep K S as v t := r.pend (v, t) List.mem_cons_self
theorem Rel.top2 {v : V} {t : T} {q : V × T} (r : Rel K B st σ H (q :: (v, t) :: ps) S as) : Rep K S as v t := r.pend (v, t) (List.mem_cons_of_mem _ List.mem_cons_self)
end
noncomputable def tOf (K : PySem.W.Frag) (B : Bas) (m : M T) : TE := fun σ H Q => ∃ st ps S as, Rel K B st σ H ps S as ∧ ∃ t st', m st = some (t, st') ∧
  ∀ v H' S' as', Rel K B st' σ H' ((v, t) :: ps) S' as' → Q v H'
noncomputable def cOf (K : PySem.W.Frag) (B : Bas) (m : M Bool) : TT := fun σ H Q => ∃ st ps S as, Rel K B st σ H ps S as ∧ ∃ b st', m st = some (b, st') ∧
  ∀ H' S' as', Rel K B st' σ H' ps S' as' → Q b H'
noncomputable def aOf (K : PySem.W.Frag) (B : Bas) (m : M (List T)) : TA := fun σ H Q => ∃ st ps S as, Rel K B st σ H ps S as ∧ ∃ ts st', m st = some (ts, st') ∧
  ∀ vs H' S' as', Rel K B st' σ H' ps S' as' → Reps K S' as' vs ts → Q vs H'
theorem _root_.L2.PE.imp {X : Cx} {e : Expr} {t t' : TE} (h : PE X e t) (i : ∀ σ H Q, t' σ H Q → t σ H Q) : PE X e t' := fun pins s σ H Q I q => h pins s σ H Q I (i σ H Q q)
theorem _root_.L2.PT.imp {X : Cx} {e : Expr} {t t' : TT} (h : PT X e t) (i : ∀ σ H Q, t' σ H Q → t σ H Q) : PT X e t' := fun pins s σ H Q I q => h pins s σ H Q I (i σ H Q q)
theorem _root_.L2.PA.imp {X : Cx} {e : List Expr} {t t' : TA} (h : PA X e t) (i : ∀ σ H Q, t' σ H Q → t σ H Q) : PA X e t' := fun pos pins s σ H Q I q => h pos pins s σ H Q I (i σ H Q q)
theorem _root_.L2.PS.imp {X : Cx} {e : Stmt} {t t' : TS} (h : PS X e t) (i : ∀ D σ H, t' D σ H → t D σ H) : PS X e t' := fun pins s σ H D I q => h pins s σ H D I (i D σ H q)
theorem _root_.L2.PSs.imp {X : Cx} {e : List Stmt} {t t' : TS} (h : PSs X e t) (i : ∀ D σ H, t' D σ H → t D σ H) : PSs X e t' := fun pins s σ H D I q => h pins s σ H D I (i D σ H q)
noncomputable def r2 (K : PySem.W.Frag) (f : T → T → Option T) : R2 := fun x y H Q => ∃ S as t u w, Same S H ∧ Rep K S as x t ∧ Rep K S as y u ∧ f t u = some w ∧ ∀ v H' S', Ext S H S' H' → Rep K S' as v w → Q v H'
noncomputable def r1 (K : PySem.W.Frag) (f : T → Option T) : V → Hp → VK → Prop := fun x H Q => ∃ S as t w, Same S H ∧ Rep K S as x t ∧ f t = some w ∧ ∀ v H' S', Ext S H S' H' → Rep K S' as v w → Q v H'
noncomputable def rL (K : PySem.W.Frag) (f : List T → Option T) : List V → Hp → VK → Prop := fun xs H Q => ∃ S as ts w, Same S H ∧ Reps K S as xs ts ∧ f ts = some w ∧ ∀ v H' S', Ext S H S' H' → Rep K S' as v w → Q v H'
noncomputable abbrev OpT (X : Cx) (f : Value → Value → Sem Value) (g : T → T → Option T) : Prop := OpR X f (r2 X.K g)
noncomputable abbrev UnT (X : Cx) (f : Value → Sem Value) (g : T → Option T) : Prop := UnR X f (r1 X.K g)
noncomputable abbrev CallT (X : Cx) (f : Value) (g : List T → Option T) : Prop := CallR X f (rL X.K g)
noncomputable section
variable {X : Cx} {B : Bas} {a b c : Expr} {m m1 m2 : M T} {pos : Pos}
theorem te_const {v : V} {t : T} {e : Expr} (h : PE X e (tC v)) (r : ∀ S as, Rep X.K S as v t) : PE X e (tOf X.K B (mPure t)) := h.imp fun σ H Q ⟨st, ps, S, as, R, t', st', e, q⟩ => by
  cases e
  exact q v H S as (R.push (r S as))
theorem te_int {i : Int} {j : Nat} : PE X (.Constant (.int i) j pos) (tOf X.K B (mPure (.int i))) := te_const pe_int fun _ _ => .int i
theorem te_bl {i : Bool} {j : Nat} : PE X (.Constant (.bool i) j pos) (tOf X.K B (mPure (.bl i))) := te_const pe_bl fun _ _ => .bl i
theorem te_str {i : Str} {j : Nat} : PE X (.Constant (.str i) j pos) (tOf X.K B (mPure (.str i))) := te_const pe_str fun _ _ => .str i
theorem te_op {op : Operator} {f : T → T → Option T} (ho : OpT X (binaryOp op) f) (ha : PE X a (tOf X.K B m1)) (hb : PE X b (tOf X.K B m2)) : PE X (.BinOp a op b pos) (tOf X.K B (mOp f m1 m2)) :=
  (pe_op ho ha hb).imp fun σ H Q ⟨st, ps, S, as, R, t, st', e, q⟩ => by
    obtain ⟨t1, s1, t2, e1, e2, e3⟩ := mOp_inv e
    refine ⟨st, ps, S, as, R, t1, s1, e1, fun v H1 S1 as1 R1 => ⟨s1, _, S1, as1, R1, t2, st', e2, fun u H2 S2 as2 R2 => ?_⟩⟩
    exact ⟨S2, as2, t1, t2, t, R2.sub, R2.top2, R2.top, e3, fun w H3 S3 x r => q w H3 S3 as2 ((R2.drop.drop.ext x).push r)⟩
end
end C
end
noncomputable section
set_option linter.all false
set_option maxRecDepth 100000
set_option maxHeartbeats 4000002
set_option autoImplicit false
namespace C
open PySem PySem.Spec PyProof.Rows L2
noncomputable section
variable {K : PySem.W.Frag} {B : Bas} {st : Sta} {σ : L2.St} {H H' S S' : Hp} {ps : List (V × T)} {as : List Addr}
theorem Rel.freeze (r : Rel K B st σ H ps S as) {i : Nat} {t : T} (e : st.env[i]? = some (some (t, true))) :
    ∃ v S', σ[i]? = some (some v) ∧ Rel K B { st with env := st.env.set i (some (t, false)) } σ H ((v, t) :: ps) S' as := by
  obtain ⟨v, h1, _, h3⟩ := r.slots i t true e
  obtain ⟨p, rfl, o⟩ := h3 rfl
  obtain ⟨ob, ho⟩ := o.own.there
  have hi : i < st.env.length := (List.getElem?_eq_some_iff.mp e).1
  have sS : Same S (upd S p ob) := Same.upd o.out ob
  have rep : Rep K (upd S p ob) as (.ref p) t := by
    have w := o.own
    cases t with
    | lst ts => obtain ⟨vs, h, q⟩ := w; rw [ho] at h; cases h; exact .lst (SqL.of upd_same) (q.mono sS nol)
    | dic ts => obtain ⟨vs, h, q⟩ := w; rw [ho] at h; cases h; exact .dic (.inl upd_same) (q.mono sS nol)
    | _ => exact w.elim
  have outs : ∀ q, S q = none → q ≠ p → upd S p ob q = none := fun q h n => by rw [upd_ne n]; exact h
  refine ⟨.ref p, upd S p ob, h1, ?_⟩
  refine Rel.push (v := .ref p) (t := t) ⟨?_, ?_, ?_, ?_, ?_, ?_, ?_⟩ rep
  · intro b u q
    by_cases z : b = p
    · subst z; rw [upd_same] at q; cases q; exact ho
    · rw [upd_ne z] at q; exact r.sub _ _ q
  · refine ⟨r.grow.same.trans sS, r.grow.more, fun q w a b c => ?_⟩
    obtain ⟨x, y, z⟩ := r.grow.keep q w a b c
    refine ⟨x, outs q y fun n => ?_, z⟩
    subst n; rw [o.new] at a; cases a
  · intro j u f ej
    by_cases hij : i = j
    · subst hij
      rw [List.getElem?_set_self hi] at ej
      cases ej
      exact ⟨.ref p, h1, fun _ => rep, fun z => by cases z⟩
    · rw [List.getElem?_set_ne hij] at ej
      obtain ⟨v', a1, a2, a3⟩ := r.slots j u f ej
      refine ⟨v', a1, fun z => (a2 z).mono sS nol, fun z => ?_⟩
      subst z
      obtain ⟨p', rfl, o'⟩ := a3 rfl
      refine ⟨p', rfl, o'.own.mono sS rfl, outs p' o'.out fun n => ?_, o'.nas, o'.new⟩
      subst n
      exact hij (r.apart i j t u p' e ej h1 a1)
  · intro j k u w q ej ek
    have hj : st.env[j]? = some (some (u, true)) := by
      by_cases hij : i = j
      · subst hij; rw [List.getElem?_set_self hi] at ej; cases ej
      · rwa [List.getElem?_set_ne hij] at ej
    have hk : st.env[k]? = some (some (w, true)) := by
      by_cases hij : i = k
      · subst hij; rw [List.getElem?_set_self hi] at ek; cases ek
      · rwa [List.getElem?_set_ne hij] at ek
    exact r.apart j k u w q hj hk
  · refine ⟨r.sto.len, r.sto.nd, fun n so en => ?_⟩
    obtain ⟨a, a1, a2, a3⟩ := r.sto.at' n so en
    refine ⟨a, a1, outs a a2 fun z => ?_, a3.mono sS rfl⟩
    subst z
    exact o.nas (List.mem_of_getElem? a1)
  · exact fun q hq => (r.pend q hq).mono sS nol
  · show σ.length = (st.env.set i _).length
    rw [List.length_set]; exact r.len
end
noncomputable section
variable {X : Cx} {B : Bas} {a b c : Expr} {m m1 m2 : M T} {pos : Pos}
theorem te_var (i : Nat) {e : Expr} (h : PE X e (tVar i)) : PE X e (tOf X.K B (mVar i)) := h.imp fun σ H Q ⟨st, ps, S, as, R, t, st', e, q⟩ => by
  rcases mVar_inv e with ⟨e1, rfl⟩ | ⟨e1, rfl⟩
  · obtain ⟨v, h1, h2, _⟩ := R.slots i t false e1
    exact ⟨v, h1, q v H S as (R.push (h2 rfl))⟩
  · obtain ⟨v, S', h1, R'⟩ := R.freeze e1
    exact ⟨v, h1, q v H S' as R'⟩
theorem ta_nil : PA X [] (aOf X.K B mNil) := pa_nil.imp fun σ H Q ⟨st, ps, S, as, R, ts, st', e, q⟩ => by
  cases e
  exact q [] H S as R .nil
theorem ta_cons {es : List Expr} {ms : M (List T)} (ha : PE X a (tOf X.K B m)) (hr : PA X es (aOf X.K B ms)) (hs : starEach (a :: es) X.env = (false, eval a X.env) :: starEach es X.env := by rfl) : PA X (a :: es) (aOf X.K B (mCons m ms)) :=
  (pa_cons ha hr hs).imp fun σ H Q ⟨st, ps, S, as, R, ts, st', e, q⟩ => by
    obtain ⟨t, s1, us, e1, e2, rfl⟩ := mCons_inv e
    refine ⟨st, ps, S, as, R, t, s1, e1, fun v H1 S1 as1 R1 => ⟨s1, _, S1, as1, R1, us, st', e2, fun vs H2 S2 as2 R2 rs => ?_⟩⟩
    exact q (v :: vs) H2 S2 as2 R2.drop (.cons R2.top rs)
theorem te_tup {es : List Expr} {ms : M (List T)} {k : Nat} (h : PA X es (aOf X.K B ms)) (hm : ∀ st ts st', ms st = some (ts, st') → ts.length ≤ 1000) : PE X (.Tuple es k pos) (tOf X.K B (mMap (fun l => some (.tup l)) ms)) :=
  (pe_tup h).imp fun σ H Q ⟨st, ps, S, as, R, t, st', e, q⟩ => by
    obtain ⟨ts, e1, e2⟩ := mMap_inv e
    cases e2
    refine ⟨st, ps, S, as, R, ts, st', e1, fun vs H1 S1 as1 R1 rs => ⟨?_, fun p hp => ?_⟩⟩
    · rw [rs.length]; exact Nat.le_of_lt (small1000 (hm _ _ _ e1))
    · have x := Ext.laid R1.sub hp (.tup vs)
      exact q _ _ _ _ ((R1.ext x).push (.tup (SqT.of upd_same) (rs.mono x.s nol)))
theorem te_lst {es : List Expr} {ms : M (List T)} (h : PA X es (aOf X.K B ms)) (hm : ∀ st ts st', ms st = some (ts, st') → ts.length ≤ 1000) : PE X (.List es pos) (tOf X.K B (mMap (fun l => some (.lst l)) ms)) :=
  (pe_lst h).imp fun σ H Q ⟨st, ps, S, as, R, t, st', e, q⟩ => by
    obtain ⟨ts, e1, e2⟩ := mMap_inv e
    cases e2
    refine ⟨st, ps, S, as, R, ts, st', e1, fun vs H1 S1 as1 R1 rs => ⟨?_, fun p hp => ?_⟩⟩
    · rw [rs.length]; exact Nat.le_of_lt (small1000 (hm _ _ _ e1))
    · have x := Ext.laid R1.sub hp (.lst vs)
      exact q _ _ _ _ ((R1.ext x).push (.lst (SqL.of upd_same) (rs.mono x.s nol)))
theorem len_nil : ∀ st ts st', mNil st = some (ts, st') → ts.length ≤ 0 := fun st ts st' e => by cases e; exact Nat.le_refl _
theorem len_cons {r : M (List T)} {n : Nat} (h : ∀ st ts st', r st = some (ts, st') → ts.length ≤ n) : ∀ st ts st', mCons m r st = some (ts, st') → ts.length ≤ n + 1 := fun st ts st' e => by
  obtain ⟨t, s1, us, e1, e2, rfl⟩ := mCons_inv e
  exact Nat.succ_le_succ (h _ _ _ e2)
theorem te_of_cb {ms : M (List T)} {f : List T → Option T} {e : Expr} (h : PE X e (tCB (rL X.K f) (aOf X.K B ms))) : PE X e (tOf X.K B (mMap f ms)) :=
  h.imp fun σ H Q ⟨st, ps, S, as, R, t, st', e, q⟩ => by
    obtain ⟨ts, e1, e2⟩ := mMap_inv e
    refine ⟨st, ps, S, as, R, ts, st', e1, fun vs H1 S1 as1 R1 rs => ⟨S1, as1, ts, t, R1.sub, rs, e2, fun v H2 S2 x r => ?_⟩⟩
    exact q v H2 S2 as1 ((R1.ext x).push r)
theorem te_of_op {f : T → T → Option T} {e : Expr} (h : PE X e (tOp (r2 X.K f) (tOf X.K B m1) (tOf X.K B m2))) : PE X e (tOf X.K B (mOp f m1 m2)) :=
  h.imp fun σ H Q ⟨st, ps, S, as, R, t, st', e, q⟩ => by
    obtain ⟨t1, s1, t2, e1, e2, e3⟩ := mOp_inv e
    refine ⟨st, ps, S, as, R, t1, s1, e1, fun v H1 S1 as1 R1 => ⟨s1, _, S1, as1, R1, t2, st', e2, fun u H2 S2 as2 R2 => ?_⟩⟩
    exact ⟨S2, as2, t1, t2, t, R2.sub, R2.top2, R2.top, e3, fun w H3 S3 x r => q w H3 S3 as2 ((R2.drop.drop.ext x).push r)⟩
theorem te_of_un {f : T → Option T} {e : Expr} (h : PE X e (tUn (r1 X.K f) (tOf X.K B m))) : PE X e (tOf X.K B (mUn f m)) :=
  h.imp fun σ H Q ⟨st, ps, S, as, R, t, st', e, q⟩ => by
    obtain ⟨t1, e1, e3⟩ := mUn_inv e
    refine ⟨st, ps, S, as, R, t1, st', e1, fun v H1 S1 as1 R1 => ⟨S1, as1, t1, t, R1.sub, R1.top, e3, fun w H3 S3 x r => q w H3 S3 as1 ((R1.drop.ext x).push r)⟩⟩
theorem te_cmp {op : CmpOp} {f : T → T → Option T} (ho : OpT X (compareOp op) f) (ha : PE X a (tOf X.K B m1)) (hb : PE X b (tOf X.K B m2)) (hm : behindInMarks op b = false) : PE X (.Compare a [op] [b] pos) (tOf X.K B (mOp f m1 m2)) := te_of_op (pe_cmpR ho ha hb hm)
theorem te_un {op : UnaryOp} {f : T → Option T} (ho : UnT X (unaryOp op) f) (ha : PE X a (tOf X.K B m)) : PE X (.UnaryOp op a pos) (tOf X.K B (mUn f m)) := te_of_un (pe_un ho ha)
theorem tc_of_test {e : Expr} (h : PT X e (tTest (tOf X.K B m))) : PT X e (cOf X.K B (mTest m)) := h.imp fun σ H Q ⟨st, ps, S, as, R, t, st', e, q⟩ => by
  refine ⟨st, ps, S, as, R, .bl t, st', mTest_inv e, fun v H1 S1 as1 R1 => ?_⟩
  cases R1.top
  exact ⟨t, rfl, q H1 S1 as1 R1.drop⟩
theorem tc_cmp {op : CmpOp} {f : T → T → Option T} (ho : OpT X (compareOp op) f) (ha : PE X a (tOf X.K B m1)) (hb : PE X b (tOf X.K B m2)) (hm : behindInMarks op b = false) : PT X (.Compare a [op] [b] pos) (cOf X.K B (mTest (mOp f m1 m2))) :=
  tc_of_test ((pt_cmpR ho ha hb hm).imp fun σ H Q ⟨st, ps, S, as, R, t, st', e, q⟩ => by
    obtain ⟨t1, s1, t2, e1, e2, e3⟩ := mOp_inv e
    refine ⟨st, ps, S, as, R, t1, s1, e1, fun v H1 S1 as1 R1 => ⟨s1, _, S1, as1, R1, t2, st', e2, fun u H2 S2 as2 R2 => ?_⟩⟩
    exact ⟨S2, as2, t1, t2, t, R2.sub, R2.top2, R2.top, e3, fun w H3 S3 x r => q w H3 S3 as2 ((R2.drop.drop.ext x).push r)⟩)
theorem tc_val {e : Expr} (h : PE X e (tOf X.K B m)) (he : ∀ whole, isTrue e X.env whole = (do let v ← whole; standAt e.pos; holding [v] (truthy v)) := by intro _; rfl) : PT X e (cOf X.K B (mTest m)) :=
  tc_of_test ((pt_val h he).imp fun σ H Q h => h)
theorem tc_not {c1 : M Bool} (ha : PT X a (cOf X.K B c1)) : PT X (.UnaryOp .Not a pos) (cOf X.K B (mNot c1)) := (pt_not ha).imp fun σ H Q ⟨st, ps, S, as, R, t, st', e, q⟩ => by
  obtain ⟨k, e1, rfl⟩ := mNot_inv e
  exact ⟨st, ps, S, as, R, k, st', e1, q⟩
theorem tc_and1 {c1 : M Bool} (ha : PT X a (cOf X.K B c1)) : PW X (.BoolOp .And [a] pos) (cOf X.K B c1) := pw_and1 ha
theorem tc_or1 {c1 : M Bool} (ha : PT X a (cOf X.K B c1)) : PW X (.BoolOp .Or [a] pos) (cOf X.K B c1) := pw_or1 ha
theorem pwImp {e : Expr} {t t' : TT} (h : PW X e t) (i : ∀ σ H Q, t' σ H Q → t σ H Q) : PW X e t' := fun whole pins s σ H Q I q => h whole pins s σ H Q I (i σ H Q q)
theorem tc_and {c1 c2 : M Bool} {rest : List Expr} (ha : PT X a (cOf X.K B c1)) (hb : PW X (.BoolOp .And (b :: rest) pos) (cOf X.K B c2)) : PW X (.BoolOp .And (a :: b :: rest) pos) (cOf X.K B (mAnd c1 c2)) :=
  pwImp (pw_and ha hb) fun σ H Q ⟨st, ps, S, as, R, t, st', e, q⟩ => by
    rcases mAnd_inv e with ⟨s1, e1, e2⟩ | ⟨e1, rfl⟩
    · exact ⟨st, ps, S, as, R, true, s1, e1, fun H1 S1 as1 R1 => iteT (⟨s1, ps, S1, as1, R1, t, st', e2, q⟩)⟩
    · exact ⟨st, ps, S, as, R, false, st', e1, fun H1 S1 as1 R1 => iteF (q H1 S1 as1 R1)⟩
theorem tc_or {c1 c2 : M Bool} {rest : List Expr} (ha : PT X a (cOf X.K B c1)) (hb : PW X (.BoolOp .Or (b :: rest) pos) (cOf X.K B c2)) : PW X (.BoolOp .Or (a :: b :: rest) pos) (cOf X.K B (mOr c1 c2)) :=
  pwImp (pw_or ha hb) fun σ H Q ⟨st, ps, S, as, R, t, st', e, q⟩ => by
    rcases mOr_inv e with ⟨s1, e1, e2⟩ | ⟨e1, rfl⟩
    · exact ⟨st, ps, S, as, R, false, s1, e1, fun H1 S1 as1 R1 => iteF (⟨s1, ps, S1, as1, R1, t, st', e2, q⟩)⟩
    · exact ⟨st, ps, S, as, R, true, st', e1, fun H1 S1 as1 R1 => iteT (q H1 S1 as1 R1)⟩
theorem te_ifExp {c1 : M Bool} (hc : PT X c (cOf X.K B c1)) (ha : PE X a (tOf X.K B m1)) (hb : PE X b (tOf X.K B m2)) : PE X (.IfExp c a b pos) (tOf X.K B (mIf c1 m1 m2)) :=
  (pe_ifExp hc ha hb).imp fun σ H Q ⟨st, ps, S, as, R, t, st', e, q⟩ => by
    rcases mIf_inv e with ⟨s1, e1, e2⟩ | ⟨s1, e1, e2⟩
    · exact ⟨st, ps, S, as, R, true, s1, e1, fun H1 S1 as1 R1 => iteT (⟨s1, ps, S1, as1, R1, t, st', e2, q⟩)⟩
    · exact ⟨st, ps, S, as, R, false, s1, e1, fun H1 S1 as1 R1 => iteF (⟨s1, ps, S1, as1, R1, t, st', e2, q⟩)⟩
end
end C
end
noncomputable section
set_option linter.all false
set_option maxRecDepth 100000
set_option maxHeartbeats 4000002
set_option autoImplicit false
namespace C
open PySem PySem.Spec PyProof.Rows L2
theorem sSeq_inv {a b : S} {s s' : Sta} {fl : Flow} (h : sSeq a b s = some (fl, s')) : (∃ s1, a s = some (.next, s1) ∧ b s1 = some (fl, s')) ∨ (a s = some (fl, s') ∧ fl ≠ .next) := by
  unfold sSeq at h
  split at h
  · rename_i s1 e; exact .inl ⟨s1, e, h⟩
  · rename_i r hr; exact .inr ⟨h, fun z => by subst z; exact hr _ h⟩
theorem sRet_inv {e : M T} {s s' : Sta} {fl : Flow} (h : sRet e s = some (fl, s')) : ∃ t, e s = some (t, s') ∧ fl = .ret t := by
  unfold sRet at h
  split at h
  · rename_i t s1 e; cases h; exact ⟨t, e, rfl⟩
  · cases h
theorem sIf_inv {c : M Bool} {a b : S} {s s' : Sta} {fl : Flow} (h : sIf c a b s = some (fl, s')) : (∃ s1, c s = some (true, s1) ∧ a s1 = some (fl, s')) ∨ (∃ s1, c s = some (false, s1) ∧ b s1 = some (fl, s')) := by
  unfold sIf at h
  split at h
  · rename_i s1 e; exact .inl ⟨s1, e, h⟩
  · rename_i s1 e; exact .inr ⟨s1, e, h⟩
  · cases h
theorem sSet_inv {i : Nat} {e : M T} {s s' : Sta} {fl : Flow} (h : sSet i e s = some (fl, s')) : ∃ t s1, e s = some (t, s1) ∧ fl = .next ∧ s' = putSlot i t false s1 := by
  unfold sSet at h
  split at h
  · rename_i t s1 e; cases h; exact ⟨t, s1, e, rfl, rfl⟩
  · cases h
theorem sNew_inv {i : Nat} {e : M T} {s s' : Sta} {fl : Flow} (h : sNew i e s = some (fl, s')) : ∃ t s1, e s = some (t, s1) ∧ fl = .next ∧ s' = putSlot i t true s1 := by
  unfold sNew at h
  split at h
  · rename_i t s1 e; cases h; exact ⟨t, s1, e, rfl, rfl⟩
  · cases h
theorem sFor_inv {g : G} {it : M (List T)} {b : S} {s s' : Sta} {fl : Flow} (h : sFor g it b s = some (fl, s')) : ∃ ts s1, it s = some (ts, s1) ∧ forL g b ts s1 = some (fl, s') := by
  unfold sFor at h
  split at h
  · rename_i ts s1 e; exact ⟨ts, s1, e, h⟩
  · cases h
theorem sAppend_inv {i : Nat} {e : M T} {s s' : Sta} {fl : Flow} (h : sAppend i e s = some (fl, s')) :
    lstAt i s = true ∧ ∃ t s1 xs, e s = some (t, s1) ∧ s1.env[i]? = some (some (.lst xs, true)) ∧ xs.length < lim ∧ fl = .next ∧ s' = putSlot i (.lst (xs ++ [t])) true s1 := by
  unfold sAppend at h
  split at h
  · rename_i hd
    refine ⟨hd, ?_⟩
    split at h
    · rename_i t s1 e
      split at h
      · rename_i xs ex
        split at h
        · rename_i hl; cases h; exact ⟨t, s1, xs, e, ex, hl, rfl, rfl⟩
        · cases h
      · cases h
    · cases h
  · cases h
theorem sObjPut_inv {o k v : M T} {s s' : Sta} {fl : Flow} (h : sObjPut o k v s = some (fl, s')) :
    ∃ t s1 n s2 kt s3 kvs q, v s = some (t, s1) ∧ o s1 = some (.obj n, s2) ∧ k s2 = some (kt, s3) ∧ s3.sto[n]? = some (.dic kvs) ∧ keyOf kt = some q ∧ kvs.length < lim ∧ fl = .next ∧ s' = { s3 with sto := s3.sto.set n (.dic (dPut q t kvs)) } := by
  unfold sObjPut at h
  split at h
  · rename_i t s1 e
    split at h
    · rename_i n s2 eo
      split at h
      · rename_i kt s3 ek
        split at h
        · rename_i kvs q ex eq
          split at h
          · rename_i hl; cases h; exact ⟨t, s1, n, s2, kt, s3, _, _, e, eo, ek, ex, eq, hl, rfl, rfl⟩
          · cases h
        · cases h
      · cases h
    · cases h
  · cases h
noncomputable section
variable {K : PySem.W.Frag} {B : Bas} {st : Sta} {σ : L2.St} {H H' S S' : Hp} {ps ps2 : List (V × T)} {as as' : List Addr}
theorem Rel.pick (r : Rel K B st σ H ps S as) (h : ∀ p ∈ ps2, p ∈ ps) : Rel K B st σ H ps2 S as :=
  ⟨r.sub, r.grow, r.slots, r.apart, r.sto, fun p hp => r.pend p (h p hp), r.len⟩
theorem set_out {α : Type} {l : List α} {i : Nat} {x : α} (h : l.length ≤ i) : l.set i x = l := List.set_eq_of_length_le h
theorem Rel.put (r : Rel K B st σ H ps S as) {i : Nat} {v : V} {t : T} (h : Rep K S as v t) : Rel K B (putSlot i t false st) (σ.set i (some v)) H ps S as := by
  by_cases hi : i < st.env.length
  · have hs : i < σ.length := by rw [r.len]; exact hi
    refine ⟨r.sub, r.grow, fun j u f e => ?_, fun j k u w p ej ek sj sk => ?_, r.sto, r.pend, by show _ = (st.env.set i _).length; rw [List.length_set, List.length_set]; exact r.len⟩
    · have e : (st.env.set i (some (t, false)))[j]? = some (some (u, f)) := e
      by_cases hij : i = j
      · subst hij
        rw [List.getElem?_set_self hi] at e; cases e
        exact ⟨v, List.getElem?_set_self hs, fun _ => h, fun z => by cases z⟩
      · rw [List.getElem?_set_ne hij] at e ⊢
        exact r.slots j u f e
    · have ej : (st.env.set i (some (t, false)))[j]? = some (some (u, true)) := ej
      have ek : (st.env.set i (some (t, false)))[k]? = some (some (w, true)) := ek
      have hij : i ≠ j := fun z => by subst z; rw [List.getElem?_set_self hi] at ej; cases ej
      have hik : i ≠ k := fun z => by subst z; rw [List.getElem?_set_self hi] at ek; cases ek
      rw [List.getElem?_set_ne hij] at ej sj
      rw [List.getElem?_set_ne hik] at ek sk
      exact r.apart j k u w p ej ek sj sk
  · have e1 : putSlot i t false st = st := by unfold putSlot; rw [set_out (Nat.le_of_not_lt hi)]
    have e2 : σ.set i (some v) = σ := set_out (by rw [r.len]; exact Nat.le_of_not_lt hi)
    rw [e1, e2]; exact r
noncomputable def NoSlot (st : Sta) (σ : L2.St) (p : Addr) : Prop := ∀ (j : Nat) u, st.env[j]? = some (some (u, true)) → σ[j]? = some (some (.ref p)) → False
theorem Rel.putOwn (r : Rel K B st σ H ps S as) {i : Nat} {p : Addr} {t : T} (h : OwnAt K B S as H p t) (hn : NoSlot st σ p) : Rel K B (putSlot i t true st) (σ.set i (some (.ref p))) H ps S as := by
  by_cases hi : i < st.env.length
  · have hs : i < σ.length := by rw [r.len]; exact hi
    refine ⟨r.sub, r.grow, fun j u f e => ?_, fun j k u w q ej ek sj sk => ?_, r.sto, r.pend, by show _ = (st.env.set i _).length; rw [List.length_set, List.length_set]; exact r.len⟩
    · have e : (st.env.set i (some (t, true)))[j]? = some (some (u, f)) := e
      by_cases hij : i = j
      · subst hij
        rw [List.getElem?_set_self hi] at e; cases e
        exact ⟨.ref p, List.getElem?_set_self hs, (fun z => by cases z), fun _ => ⟨p, rfl, h⟩⟩
      · rw [List.getElem?_set_ne hij] at e ⊢
        exact r.slots j u f e
    · have ej : (st.env.set i (some (t, true)))[j]? = some (some (u, true)) := ej
      have ek : (st.env.set i (some (t, true)))[k]? = some (some (w, true)) := ek
      by_cases hij : i = j
      · by_cases hik : i = k
        · rw [← hij, ← hik]
        · subst hij
          rw [List.getElem?_set_self hs] at sj; cases sj
          rw [List.getElem?_set_ne hik] at ek sk
          exact (hn k w ek sk).elim
      · rw [List.getElem?_set_ne hij] at ej sj
        by_cases hik : i = k
        · subst hik
          rw [List.getElem?_set_self hs] at sk; cases sk
          exact (hn j u ej sj).elim
        · rw [List.getElem?_set_ne hik] at ek sk
          exact r.apart j k u w q ej ek sj sk
  · have e1 : putSlot i t true st = st := by unfold putSlot; rw [set_out (Nat.le_of_not_lt hi)]
    have e2 : σ.set i (some (.ref p)) = σ := set_out (by rw [r.len]; exact Nat.le_of_not_lt hi)
    rw [e1, e2]; exact r
theorem Rel.turn (r : Rel K B st σ H ps S as) {i : Nat} {t t' : T} {p : Addr} {ob : HO} (e : st.env[i]? = some (some (t, true))) (hp : σ[i]? = some (some (.ref p))) (h : Own K S as (upd H p ob) p t') :
    Rel K B (putSlot i t' true st) σ (upd H p ob) ps S as := by
  obtain ⟨v, h1, _, h3⟩ := r.slots i t true e
  rw [hp] at h1; cases h1
  obtain ⟨p', ep, o⟩ := h3 rfl
  cases ep
  have hi : i < st.env.length := (List.getElem?_eq_some_iff.mp e).1
  have other : ∀ q, q ≠ p → H q = upd H p ob q := fun q n => (upd_ne n).symm
  refine ⟨fun b u q => ?_, ⟨r.grow.same, r.grow.more, fun q w a b c => ?_⟩, fun j u f ej => ?_, fun j k u w q ej ek sj sk => ?_, ⟨r.sto.len, r.sto.nd, fun n so en => ?_⟩, r.pend, by show _ = (st.env.set i _).length; rw [List.length_set]; exact r.len⟩
  · have n : b ≠ p := fun z => by subst z; rw [o.out] at q; cases q
    rw [upd_ne n]; exact r.sub _ _ q
  · obtain ⟨x, y, z⟩ := r.grow.keep q w a b c
    have n : q ≠ p := fun z => by subst z; rw [o.new] at a; cases a
    exact ⟨by rw [upd_ne n]; exact x, y, z⟩
  · have ej : (st.env.set i (some (t', true)))[j]? = some (some (u, f)) := ej
    by_cases hij : i = j
    · subst hij
      rw [List.getElem?_set_self hi] at ej; cases ej
      exact ⟨.ref p, hp, (fun z => by cases z), fun _ => ⟨p, rfl, h, o.out, o.nas, o.new⟩⟩
    · rw [List.getElem?_set_ne hij] at ej
      obtain ⟨v', a1, a2, a3⟩ := r.slots j u f ej
      refine ⟨v', a1, a2, fun z => ?_⟩
      subst z
      obtain ⟨p', rfl, o'⟩ := a3 rfl
      have n : p' ≠ p := fun z => by subst z; exact hij (r.apart i j t u p' e ej hp a1)
      exact ⟨p', rfl, o'.own.mono (Same.refl _) (other p' n), o'.out, o'.nas, o'.new⟩
  · have back : ∀ (j : Nat) u, (st.env.set i (some (t', true)))[j]? = some (some (u, true)) → ∃ u', st.env[j]? = some (some (u', true)) := fun j u ej => by
      by_cases hij : i = j
      · subst hij; exact ⟨t, e⟩
      · rw [List.getElem?_set_ne hij] at ej; exact ⟨u, ej⟩
    obtain ⟨u', ej'⟩ := back j u ej
    obtain ⟨w', ek'⟩ := back k w ek
    exact r.apart j k u' w' q ej' ek' sj sk
  · obtain ⟨a, a1, a2, a3⟩ := r.sto.at' n so en
    have n : a ≠ p := fun z => by subst z; exact o.nas (List.mem_of_getElem? a1)
    exact ⟨a, a1, a2, a3.mono (Same.refl _) (other a n)⟩
theorem Rel.objPut (r : Rel K B st σ H ps S as) {n : Nat} {so so' : SO} {a : Addr} {ob : HO} (e : st.sto[n]? = some so) (ha : as[n]? = some a) (h : SRep K S as (upd H a ob) a so') :
    Rel K B { st with sto := st.sto.set n so' } σ (upd H a ob) ps S as := by
  have ma : a ∈ as := List.mem_of_getElem? ha
  have hn : n < st.sto.length := (List.getElem?_eq_some_iff.mp e).1
  have sa : S a = none := by
    obtain ⟨a', a1, a2, _⟩ := r.sto.at' n so e
    rw [ha] at a1; cases a1; exact a2
  have other : ∀ q, q ≠ a → H q = upd H a ob q := fun q n => (upd_ne n).symm
  refine ⟨fun b u q => ?_, ⟨r.grow.same, r.grow.more, fun q w x y z => ?_⟩, fun j u f ej => ?_, r.apart, ⟨by rw [List.length_set]; exact r.sto.len, r.sto.nd, fun k so2 en => ?_⟩, r.pend, r.len⟩
  · have n : b ≠ a := fun z => by subst z; rw [sa] at q; cases q
    rw [upd_ne n]; exact r.sub _ _ q
  · obtain ⟨x1, y1, z1⟩ := r.grow.keep q w x y z
    have n : q ≠ a := fun z => by subst z; exact z1 ma
    exact ⟨by rw [upd_ne n]; exact x1, y1, z1⟩
  · obtain ⟨v', a1, a2, a3⟩ := r.slots j u f ej
    refine ⟨v', a1, a2, fun z => ?_⟩
    obtain ⟨p', rfl, o'⟩ := a3 z
    have n : p' ≠ a := fun z => by subst z; exact o'.nas ma
    exact ⟨p', rfl, o'.own.mono (Same.refl _) (other p' n), o'.out, o'.nas, o'.new⟩
  · by_cases hk : n = k
    · subst hk
      rw [List.getElem?_set_self hn] at en; cases en
      exact ⟨a, ha, sa, h⟩
    · rw [List.getElem?_set_ne hk] at en
      obtain ⟨b, b1, b2, b3⟩ := r.sto.at' k so2 en
      have n : b ≠ a := fun z => by
        subst z
        have l1 := (List.getElem?_eq_some_iff.mp b1).1
        have l2 := (List.getElem?_eq_some_iff.mp ha).1
        exact hk ((List.getElem?_inj (i := n) (j := k) l2 r.sto.nd).mp (by rw [ha, b1]))
      exact ⟨b, b1, b2, b3.mono (Same.refl _) (other b n)⟩
end
noncomputable def Fin (K : PySem.W.Frag) (B : Bas) (D : Ends) (ps : List (V × T)) : Flow → Sta → Prop
  | .next, st' => ∀ σ' H' S' as', Rel K B st' σ' H' ps S' as' → D.nx σ' H'
  | .ret t, st' => ∀ v σ' H' S' as', Rel K B st' σ' H' ((v, t) :: ps) S' as' → D.rt v H'
  | .brk, st' => ∀ σ' H' S' as', Rel K B st' σ' H' ps S' as' → D.bk σ' H'
  | .cont, st' => ∀ σ' H' S' as', Rel K B st' σ' H' ps S' as' → D.ct σ' H'
noncomputable def sOf (K : PySem.W.Frag) (B : Bas) (s : S) : TS := fun D σ H => ∃ st ps S as, Rel K B st σ H ps S as ∧ ∃ fl st', s st = some (fl, st') ∧ Fin K B D ps fl st'
noncomputable def gOf (K : PySem.W.Frag) (B : Bas) (g : G) : TG := fun v σ H Q => ∃ st ps S as t, Rel K B st σ H ((v, t) :: ps) S as ∧ ∃ st', g t st = some st' ∧ ∀ σ' H' S' as', Rel K B st' σ' H' ps S' as' → Q σ' H'
noncomputable def fOf (K : PySem.W.Frag) (B : Bas) (m : M T) : TE := fun σ H Q => ∃ st ps S as, Rel K B st σ H ps S as ∧ ∃ t st', m st = some (t, st') ∧
  ∀ p H' S' as', Rel K B st' σ H' ps S' as' → OwnAt K B S' as' H' p t → NoSlot st' σ p → Q (.ref p) H'
noncomputable section
variable {X : Cx} {B : Bas} {a b c e : Expr} {m m1 m2 : M T} {pos : Pos} {u v : S}
theorem ts_nil : PSs X [] (sOf X.K B sNil) := pss_nil.imp fun D σ H ⟨st, ps, S, as, R, fl, st', e, q⟩ => by
  cases e; exact q σ H S as R
theorem ts_cons {st : Stmt} {rest : List Stmt} (h1 : PS X st (sOf X.K B u)) (h2 : PSs X rest (sOf X.K B v)) : PSs X (st :: rest) (sOf X.K B (sSeq u v)) := (pss_cons h1 h2).imp fun D σ H ⟨st, ps, S, as, R, fl, st', e, q⟩ => by
  rcases sSeq_inv e with ⟨s1, e1, e2⟩ | ⟨e1, hn⟩
  · exact ⟨st, ps, S, as, R, .next, s1, e1, fun σ' H' S' as' R' => ⟨s1, ps, S', as', R', fl, st', e2, q⟩⟩
  · refine ⟨st, ps, S, as, R, fl, st', e1, ?_⟩
    cases fl with
    | next => exact absurd rfl hn
    | ret t => exact q
    | brk => exact q
    | cont => exact q
theorem ts_one {st : Stmt} (h1 : PS X st (sOf X.K B u)) : PSs X [st] (sOf X.K B u) := pss_one h1
theorem ts_ret (he : PE X e (tOf X.K B m)) : PS X (.Return (some e) pos) (sOf X.K B (sRet m)) := (ps_ret he).imp fun D σ H ⟨st, ps, S, as, R, fl, st', e, q⟩ => by
  obtain ⟨t, e1, rfl⟩ := sRet_inv e
  exact ⟨st, ps, S, as, R, t, st', e1, fun v H' S' as' R' => q v σ H' S' as' R'⟩
theorem ts_if {c1 : M Bool} {sa sb : List Stmt} (hc : PT X c (cOf X.K B c1)) (ha : PSs X sa (sOf X.K B u)) (hb : PSs X sb (sOf X.K B v)) : PS X (.If c sa sb pos) (sOf X.K B (sIf c1 u v)) := (ps_if hc ha hb).imp fun D σ H ⟨st, ps, S, as, R, fl, st', e, q⟩ => by
  rcases sIf_inv e with ⟨s1, e1, e2⟩ | ⟨s1, e1, e2⟩
  · exact ⟨st, ps, S, as, R, true, s1, e1, fun H1 S1 as1 R1 => iteT ⟨s1, ps, S1, as1, R1, fl, st', e2, q⟩⟩
  · exact ⟨st, ps, S, as, R, false, s1, e1, fun H1 S1 as1 R1 => iteF ⟨s1, ps, S1, as1, R1, fl, st', e2, q⟩⟩
theorem tg_name (i : Nat) {tg : Expr} (h : PG X tg (gName i)) : PG X tg (gOf X.K B (hName i)) := fun pins s σ H x u Q I r ⟨st, ps, S, as, t, R, st', e, q⟩ => h pins s σ H x u Q I r (by
  cases e
  exact q _ H S as (R.drop.put R.top))
theorem ts_set (i : Nat) {te : TE} {s : Stmt} (h : PS X s (tAsg te (gName i))) (hm : ∀ σ H Q, tOf X.K B m σ H Q → te σ H Q) : PS X s (sOf X.K B (sSet i m)) := h.imp fun D σ H ⟨st, ps, S, as, R, fl, st', e, q⟩ => by
  obtain ⟨t, s1, e1, rfl, rfl⟩ := sSet_inv e
  exact hm σ H _ ⟨st, ps, S, as, R, t, s1, e1, fun v H' S' as' R' => q _ H' S' as' (R'.drop.put R'.top)⟩
theorem ts_new (i : Nat) {te : TE} {s : Stmt} (h : PS X s (tAsg te (gName i))) (hm : ∀ σ H Q, fOf X.K B m σ H Q → te σ H Q) : PS X s (sOf X.K B (sNew i m)) := h.imp fun D σ H ⟨st, ps, S, as, R, fl, st', e, q⟩ => by
  obtain ⟨t, s1, e1, rfl, rfl⟩ := sNew_inv e
  exact hm σ H _ ⟨st, ps, S, as, R, t, s1, e1, fun p H' S' as' R' o n => q _ H' S' as' (R'.putOwn o n)⟩
end
end C
end
noncomputable section
set_option linter.all false
set_option maxRecDepth 100000
set_option maxHeartbeats 4000002
set_option autoImplicit false
namespace C
open PySem PySem.Spec PyProof.Rows L2
noncomputable section
variable {K : PySem.W.Frag} {B : Bas} {st : Sta} {σ : L2.St} {H H' S S' : Hp} {ps ps2 : List (V × T)} {as as' : List Addr}
theorem Own.more {p : Addr} {t : T} (hs : Same S S') (x : ∃ l, as' = as ++ l) (hh : H p = H' p) (o : Own K S as H p t) : Own K S' as' H' p t := by
  cases t with
  | lst ts => obtain ⟨vs, h, r⟩ := o; exact ⟨vs, hh ▸ h, r.mono hs x⟩
  | dic ts => obtain ⟨vs, h, r⟩ := o; exact ⟨vs, hh ▸ h, r.mono hs x⟩
  | _ => exact o.elim
theorem Rel.call {sto' : List SO} (r : Rel K B st σ H ps S as) (g : Grow ⟨S, as, H⟩ S' as' H') (sub : Same S' H') (so : StoOk K S' as' H' sto') : Rel K B { st with sto := sto' } σ H' ps S' as' where
  sub := sub
  grow := by
    refine ⟨r.grow.same.trans g.same, ?_, fun p o a b c => ?_⟩
    · obtain ⟨l, e⟩ := r.grow.more
      obtain ⟨l', e'⟩ := g.more
      exact ⟨l ++ l', by rw [e', e, List.append_assoc]⟩
    · obtain ⟨x, y, z⟩ := r.grow.keep p o a b c
      exact g.keep p o x y z
  slots := fun i t f e => by
    obtain ⟨v, h1, h2, h3⟩ := r.slots i t f e
    refine ⟨v, h1, fun q => (h2 q).mono g.same g.more, fun q => ?_⟩
    obtain ⟨p, rfl, o⟩ := h3 q
    obtain ⟨ob, ho⟩ := o.own.there
    obtain ⟨x, y, z⟩ := g.keep p ob ho o.out o.nas
    exact ⟨p, rfl, o.own.more g.same g.more (by rw [ho, x]), y, z, o.new⟩
  apart := r.apart
  sto := so
  pend := fun p hp => (r.pend p hp).mono g.same g.more
  len := r.len
end
noncomputable def spF (K : PySem.W.Frag) (ar : Nat) (F : Fn) : Sp := fun vs H Q _ => ∃ S as sto ts t sto', Same S H ∧ StoOk K S as H sto ∧ Reps K S as vs ts ∧ ts.length = ar ∧ F ts sto = some (t, sto') ∧
  ∀ v H' S' as', Grow ⟨S, as, H⟩ S' as' H' → Same S' H' → StoOk K S' as' H' sto' → Rep K S' as' v t → Q v H'
noncomputable section
variable {X : Cx} {B : Bas} {a b c e : Expr} {m m1 m2 : M T} {pos p : Pos} {u v : S} {es : List Expr} {ms : M (List T)} {k : Nat} {f : Addr} {fd : FuncData} {pn : List Str} {F : Fn} {x : Str}
theorem te_call (G : FnOk X.prog X.w X.K X.mg X.base CX0 k f fd pn (spF X.K pn.length F)) (hr : Room k X.A) (hg : Gl X x) (hm : X.mg x = some (.ref f)) (hk : PySem.W.keepIn X.K (.ref f) = true) (hb : Binds X.K fd pn [])
    (ha : PA X (e :: es) (aOf X.K B ms)) (hl : ∀ st ts st', ms st = some (ts, st') → ts.length = pn.length) (hdb : (x == ("__debug__" : Str)) = false := by decide)
    (he : starEach (e :: es) X.env = (false, eval e X.env) :: starEach es X.env := by rfl) (hpl : (backTo pos (starEach es X.env)).any (·.1) = false := by rfl) :
    PE X (.Call (.Name x p) (e :: es) [] pos) (tOf X.K B (mCall F ms)) :=
  (pe_call G hr hg hm hk hb .nil pass0 ha hdb he hpl).imp fun σ H Q ⟨st, ps, S, as, R, t, st', e, q⟩ => by
    obtain ⟨ts, s1, sto, e1, e2, rfl⟩ := mCall_inv e
    refine ⟨st, ps, S, as, R, ts, s1, e1, fun vs H1 S1 as1 R1 rs => ?_⟩
    show spF X.K pn.length F (vs ++ []) H1 Q E0
    rw [List.append_nil]
    exact ⟨S1, as1, s1.sto, ts, t, sto, R1.sub, R1.sto, rs, hl _ _ _ e1, e2, fun v H2 S2 as2 g sub so r => q v H2 S2 as2 ((R1.call g sub so).push r)⟩
theorem eq_nil : ∀ st ts st', mNil st = some (ts, st') → ts.length = 0 := fun st ts st' e => by cases e; rfl
theorem eq_cons {r : M (List T)} {n : Nat} (h : ∀ st ts st', r st = some (ts, st') → ts.length = n) : ∀ st ts st', mCons m r st = some (ts, st') → ts.length = n + 1 := fun st ts st' e => by
  obtain ⟨t, s1, us, e1, e2, rfl⟩ := mCons_inv e
  exact congrArg (· + 1) (h _ _ _ e2)
end
noncomputable section
variable {P : Program} {w : World} {K : PySem.W.Frag} {mg : Str → Option Value} {base : Heap}
theorem start_get {N : List Str} {vs : List V} {i : Nat} {v : V} (h : vs[i]? = some v) : (L2.start N vs)[i]? = some (some v) := by
  unfold L2.start
  have hi := (List.getElem?_eq_some_iff.mp h).1
  rw [List.getElem?_append_left (by rw [List.length_map]; exact hi), List.getElem?_map, h]; rfl
theorem rel_start {S H : Hp} {as : List Addr} {sto : List SO} {vs : List V} {ts : List T} {N : List Str} (h1 : Same S H) (h2 : StoOk K S as H sto) (h3 : Reps K S as vs ts) (hN : ts.length ≤ N.length) :
    Rel K ⟨S, as, H⟩ ⟨ts.map (fun t => some (t, false)) ++ List.replicate (N.length - ts.length) none, sto⟩ (L2.start N vs) H [] S as := by
  have key : ∀ (i : Nat) t fl, (ts.map (fun t => some (t, false)) ++ List.replicate (N.length - ts.length) (none : Slot))[i]? = some (some (t, fl)) → fl = false ∧ ts[i]? = some t := fun i t fl e => by
    by_cases hi : i < ts.length
    · rw [List.getElem?_append_left (by rw [List.length_map]; exact hi), List.getElem?_map] at e
      cases z : ts[i]? with
      | none => rw [z] at e; cases e
      | some t' => rw [z] at e; cases e; exact ⟨rfl, rfl⟩
    · rw [List.getElem?_append_right (by rw [List.length_map]; exact Nat.le_of_not_lt hi)] at e
      have := List.eq_of_mem_replicate (List.mem_of_getElem? e)
      cases this
  refine ⟨h1, ⟨Same.refl _, nol, fun p o a b c => ⟨a, b, c⟩⟩, fun i t fl e => ?_, fun i j t u p ei ej => ?_, h2, (fun p hp => by cases hp), ?_⟩
  · obtain ⟨rfl, e'⟩ := key i t fl e
    obtain ⟨v, hv, r⟩ := h3.get e'
    exact ⟨v, start_get hv, fun _ => r, fun z => by cases z⟩
  · obtain ⟨z, _⟩ := key i t true ei; cases z
  · unfold L2.start
    rw [List.length_append, List.length_append, List.length_map, List.length_map, List.length_replicate, List.length_replicate, h3.length]
theorem fn_tree {x qual : Str} {st : Stmt} {f : Addr} {fd : FuncData} {N ps : List Str} {k : Nat} {b : S} (F : Fun K x qual st f fd) (Sc : FnScope N ps (defScope st)) (hN : ps.length ≤ N.length)
    (hb : ∀ (cdv : Value) (A : Around) (outer : List Env) (s : Shared) (H : Hp) (E : XK) (B : Bas), Room k (A.deeper (envOfC qual (defScope st) s.heap.objs.size f cdv)) →
      PSs (cxOf CX0 P w K mg base N qual (defScope st) f cdv A outer s H E).nox (defBody st) (sOf K B b)) : FnOk P w K mg base CX0 (k + 1) f fd ps (spF K ps.length (runFn N.length b)) := by
  refine F.ok Sc (fun vs H Q E h => ?_) fun cdv A outer s H vs Q E hr h => ?_
  · obtain ⟨S, as, sto, ts, t, sto', h1, h2, h3, h4, _⟩ := h
    rw [h3.length, h4]
  · obtain ⟨S, as, sto, ts, t, sto', h1, h2, h3, h4, h5, q⟩ := h
    refine ⟨_, hb cdv A outer s H E ⟨S, as, H⟩ hr, ?_⟩
    have lv : vs.length = ps.length := by rw [h3.length, h4]
    have R : Rel K ⟨S, as, H⟩ ⟨ts.map (fun t => some (t, false)) ++ List.replicate (N.length - ts.length) none, sto⟩ (L2.start N vs) H [] S as := rel_start h1 h2 h3 (by rw [h4]; exact hN)
    unfold runFn at h5
    split at h5
    · rename_i t' s' e
      cases h5
      exact ⟨_, [], S, as, R, .ret t, s', e, fun v σ' H' S' as' R' => q v H' S' as' R'.grow R'.sub R'.sto R'.top⟩
    · rename_i s' e
      cases h5
      exact ⟨_, [], S, as, R, .next, s', e, fun σ' H' S' as' R' => q .non H' S' as' R'.grow R'.sub R'.sto .non⟩
    · cases h5
end
end C
end
noncomputable section
set_option linter.all false
set_option maxRecDepth 100000
set_option maxHeartbeats 4000002
set_option autoImplicit false
namespace C
open PySem PySem.Spec PyProof.Rows L2
theorem forL_inv {g : G} {b : S} {t : T} {r : List T} {s s' : Sta} {fl : Flow} (h : forL g b (t :: r) s = some (fl, s')) : ∃ s1 fb s2, g t s = some s1 ∧ b s1 = some (fb, s2) ∧
    (match fb with | .next => forL g b r s2 = some (fl, s') | .cont => forL g b r s2 = some (fl, s') | .brk => fl = .next ∧ s' = s2 | .ret v => fl = .ret v ∧ s' = s2) := by
  rw [forL] at h
  dsimp only at h
  split at h
  · rename_i s1 e1
    split at h
    · rename_i s2 e2; exact ⟨s1, .next, s2, e1, e2, h⟩
    · rename_i s2 e2; exact ⟨s1, .cont, s2, e1, e2, h⟩
    · rename_i s2 e2; cases h; exact ⟨s1, .brk, _, e1, e2, rfl, rfl⟩
    · rename_i v s2 e2; cases h; exact ⟨s1, .ret v, _, e1, e2, rfl, rfl⟩
    · cases h
  · cases h
structure ItFacts (K : PySem.W.Frag) (S : Hp) (as : List Addr) (H : Hp) (J : It) (ts : List T) : Prop where
  go : ∀ (i : Nat) t, ts[i]? = some t → J.go i H ∧ ∀ x H', J.yld i H x H' → ∃ S', Ext S H S' H' ∧ Rep K S' as x t
  stop : ∀ i, ts.length ≤ i → J.stop i H
noncomputable def iOf (K : PySem.W.Frag) (B : Bas) (m : M (List T)) : TI := fun σ H R => ∃ st ps S as, Rel K B st σ H ps S as ∧ ∃ ts st', m st = some (ts, st') ∧ ts.length ≤ sizeLine ∧
  ∀ J H' S' as' ps', Rel K B st' σ H' (ps' ++ ps) S' as' → (∀ S as H, (∀ p ∈ ps', Rep K S as p.1 p.2) → Same S H → ItFacts K S as H J ts) → R J H'
noncomputable section
variable {X : Cx} {tg l : Expr} {tl : TE}
noncomputable def iSq (K : PySem.W.Frag) (tl : TE) : TI := fun σ H R => tl σ H fun x H1 => ∃ a, x = .ref a ∧ (((∃ xs, SqL K H1 a xs) ∧ R (Itl K a) H1) ∨ ((∃ xs, SqT K H1 a xs) ∧ R (Itt K a) H1))
theorem pi_sq (hl : PE X l tl) : PI X tg l (iSq X.K tl) := by
  intro pins s σ H R I h
  refine thn (hl pins s σ H _ I h) fun v s1 ⟨x, H1, I1, r1, q1⟩ => ?_
  obtain ⟨a, e, q⟩ := q1
  subst e
  cases r1
  rcases q with ⟨⟨xs, hq⟩, q⟩ | ⟨⟨xs, hq⟩, q⟩
  · obtain ⟨its, rv, p, hz⟩ := I1.list hq
    refine wpAny_pyIter_list p.isList ?_
    refine ⟨s1.heap.objs.size, [s1.heap.objs.size], _, _, H1, rfl, I1.kept (t' := s1.toks) fun b o e => Heap.get?_push_of_some _ e, turn_list a _, ⟨_, Heap.get?_push_size _ rfl, rfl, rfl⟩, fun b hb => ?_, q⟩
    have e : b = s1.heap.objs.size := by simpa using hb
    subst e
    exact I1.fpOk (Nat.le_refl _) (I1.hok.fresh (Nat.le_refl _))
  · obtain ⟨its, rv, p, hz⟩ := I1.tuple hq
    refine wpAny_pyIter_tuple (show s1.heap.IsTuple a its.toArray from p) ?_
    refine ⟨s1.heap.objs.size, [s1.heap.objs.size], _, _, H1, rfl, I1.kept (t' := s1.toks) fun b o e => Heap.get?_push_of_some _ e, turn_tuple a _, ⟨_, Heap.get?_push_size _ rfl, rfl, rfl⟩, fun b hb => ?_, q⟩
    have e : b = s1.heap.objs.size := by simpa using hb
    subst e
    exact I1.fpOk (Nat.le_refl _) (I1.hok.fresh (Nat.le_refl _))
end
noncomputable section
variable {X : Cx} {B : Bas} {a b c e tg iter : Expr} {m m1 m2 : M T} {pos p : Pos} {u v : S} {g : G} {it : M (List T)} {body : List Stmt}
theorem itL {K : PySem.W.Frag} {S : Hp} {as : List Addr} {H : Hp} {p : Addr} {vs : List V} {ts : List T} (sub : Same S H) (h : SqL K H p vs) (r : Reps K S as vs ts) : ItFacts K S as H (Itl K p) ts where
  go := fun i t e => by
    obtain ⟨v, hv, rv⟩ := r.get e
    exact ⟨⟨vs, v, h, hv⟩, fun x H' y => ⟨S, by rw [y.1]; exact Ext.refl sub, by have := y.2 vs h; rw [hv] at this; cases this; exact rv⟩⟩
  stop := fun i hi => ⟨vs, h, by rw [r.length]; exact hi⟩
theorem itT {K : PySem.W.Frag} {S : Hp} {as : List Addr} {H : Hp} {p : Addr} {vs : List V} {ts : List T} (sub : Same S H) (h : SqT K H p vs) (r : Reps K S as vs ts) : ItFacts K S as H (Itt K p) ts where
  go := fun i t e => by
    obtain ⟨v, hv, rv⟩ := r.get e
    exact ⟨⟨vs, v, h, hv⟩, fun x H' y => ⟨S, by rw [y.1]; exact Ext.refl sub, by have := y.2 vs h; rw [hv] at this; cases this; exact rv⟩⟩
  stop := fun i hi => ⟨vs, h, by rw [r.length]; exact hi⟩
theorem lim_line : lim ≤ sizeLine := by rw [sizeLine_eq]; decide
theorem ti_seq (h : PE X iter (tOf X.K B m)) : PI X tg iter (iOf X.K B (iSeq m)) := by
  intro pins s σ H R I hw
  refine pi_sq h pins s σ H R I ?_
  obtain ⟨st, ps, S, as, Rl, ts, st', e, hz, q⟩ := hw
  unfold iSeq at e
  split at e
  · rename_i xs s1 e1
    split at e
    · rename_i hl
      cases e
      refine ⟨st, ps, S, as, Rl, _, _, e1, fun v H1 S1 as1 R1 => ?_⟩
      have top := R1.top
      cases top with
      | @lst a vs _ hs hr =>
        refine ⟨a, rfl, .inl ⟨⟨vs, sqL_mono R1.sub hs⟩, q _ H1 S1 as1 [(.ref a, .lst _)] R1 fun S2 as2 H2 hp hh => ?_⟩⟩
        have := hp _ List.mem_cons_self
        cases this with
        | @lst _ vs2 _ hs2 hr2 => exact itL hh (sqL_mono hh hs2) hr2
    · cases e
  · rename_i xs s1 e1
    split at e
    · rename_i hl
      cases e
      refine ⟨st, ps, S, as, Rl, _, _, e1, fun v H1 S1 as1 R1 => ?_⟩
      have top := R1.top
      cases top with
      | @tup a vs _ hs hr =>
        refine ⟨a, rfl, .inr ⟨⟨vs, sqT_mono R1.sub hs⟩, q _ H1 S1 as1 [(.ref a, .tup _)] R1 fun S2 as2 H2 hp hh => ?_⟩⟩
        have := hp _ List.mem_cons_self
        cases this with
        | @tup _ vs2 _ hs2 hr2 => exact itT hh (sqT_mono hh hs2) hr2
    · cases e
  · cases e
theorem iRange_inv {a : M T} {ts : List T} {s s' : Sta} (h : iRange a s = some (ts, s')) : ∃ n : Int, a s = some (.int n, s') ∧ (-1000000 < n ∧ n < 1000000) ∧ ts = rangeT n.toNat := by
  unfold iRange at h
  split at h
  · rename_i n s1 e
    split at h
    · rename_i hl; cases h; exact ⟨n, e, by have : n.natAbs < 1000000 := hl; omega, rfl⟩
    · cases h
  · cases h
theorem rangeT_get {n i : Nat} {t : T} (h : (rangeT n)[i]? = some t) : i < n ∧ t = .int (i : Int) := by
  unfold rangeT at h
  rw [List.getElem?_map] at h
  cases z : (List.range n)[i]? with
  | none => rw [z] at h; cases h
  | some k =>
    rw [z] at h; cases h
    obtain ⟨hi, e⟩ := List.getElem?_eq_some_iff.mp z
    rw [List.getElem_range] at e; subst e
    rw [List.length_range] at hi
    exact ⟨hi, rfl⟩
theorem ti_range (hg : Gl X "range") (hm : X.mg "range" = none) (h : PE X a (tOf X.K B m)) (hs : starEach [a] X.env = [(false, eval a X.env)] := by rfl) : PI X tg (.Call (.Name "range" p) [a] [] pos) (iOf X.K B (iRange m)) := by
  intro pins s σ H R I hw
  refine pi_range1 (ta := tCons (tOf X.K B m) tNil) hg hm (pa_cons h pa_nil hs) hs pins s σ H R I ?_
  obtain ⟨st, ps, S, as, Rl, ts, st', e, hz, q⟩ := hw
  obtain ⟨n, e1, hl, rfl⟩ := iRange_inv e
  refine ⟨st, ps, S, as, Rl, _, _, e1, fun v H1 S1 as1 R1 => ?_⟩
  cases R1.top
  refine ⟨n, rfl, by omega, by omega, q _ H1 S1 as1 [] R1.drop fun S2 as2 H2 _ hh => ⟨fun i t e => ?_, fun i hi => ?_⟩⟩
  · obtain ⟨hi, rfl⟩ := rangeT_get e
    refine ⟨hi, fun x H' y => ⟨S2, by rw [y.1]; exact Ext.refl hh, ?_⟩⟩
    have := y.2; subst this
    rw [Int.zero_add]; exact .int _
  · show n.toNat ≤ i
    unfold rangeT at hi
    rwa [List.length_map, List.length_range] at hi
theorem ts_for (hp : PassesOwn (model X.prog X.w) X.A X.env X.xe) (hc : X.calm = true) (hi : PI X tg iter (iOf X.K B it)) (hg : PG X tg (gOf X.K B g)) (hb : PSs X body (sOf X.K B u)) (hsz : ∀ st ts st', it st = some (ts, st') → ts.length ≤ sizeLine)
    (hs : ∀ x, foldedSetIterable iter X.env x = pure x := by intro _; rfl) : PS X (.For tg iter body [] pos) (sOf X.K B (sFor g it u)) := (ps_for hp hc hi hg hb hs).imp fun D σ H ⟨st, ps, S, as, R, fl, st', e, q⟩ => by
  obtain ⟨ts, s1, e1, e2⟩ := sFor_inv e
  refine ⟨st, ps, S, as, R, ts, s1, e1, hsz _ _ _ e1, fun J H1 S1 as1 ps' R1 facts => ?_⟩
  refine ⟨fun i m σ H => m = ts.length - i ∧ i ≤ ts.length ∧ ∃ sti Si asi, Rel X.K B sti σ H (ps' ++ ps) Si asi ∧ forL g u (ts.drop i) sti = some (fl, st'), ⟨ts.length, by simp, Nat.zero_le _, s1, S1, as1, R1, by simpa using e2⟩, ?_⟩
  rintro i m σ2 H2 ⟨rfl, hi, sti, Si, asi, Ri, ei⟩
  have F := facts Si asi H2 (fun p hp => Ri.pend p (List.mem_append_left _ hp)) Ri.sub
  have sub : ∀ p ∈ ps, p ∈ ps' ++ ps := fun p hp => List.mem_append_right _ hp
  by_cases hlt : i < ts.length
  · rw [List.drop_eq_getElem_cons hlt] at ei
    obtain ⟨s2, fb, s3, eg, eb, er⟩ := forL_inv ei
    have ht : ts[i]? = some ts[i] := List.getElem?_eq_getElem hlt
    refine .inr ⟨(F.go i _ ht).1, fun σ' H' => ∃ sti Si asi, Rel X.K B sti σ' H' (ps' ++ ps) Si asi ∧ forL g u (ts.drop (i + 1)) sti = some (fl, st'), fun σ' H' h => ⟨ts.length - (i + 1), by omega, rfl, hlt, h⟩, fun x H' y => ?_⟩
    obtain ⟨S', ex, rx⟩ := (F.go i _ ht).2 x H' y
    refine ⟨sti, ps' ++ ps, S', asi, _, (Ri.ext ex).push rx, s2, eg, fun σ3 H3 S3 as3 R3 => ⟨s2, ps' ++ ps, S3, as3, R3, fb, s3, eb, ?_⟩⟩
    cases fb with
    | next => exact fun σ' H' S' as' R' => ⟨s3, S', as', R', er⟩
    | cont => exact fun σ' H' S' as' R' => ⟨s3, S', as', R', er⟩
    | brk =>
      obtain ⟨rfl, rfl⟩ := er
      exact fun σ' H' S' as' R' => q σ' H' S' as' (R'.pick sub)
    | ret v =>
      obtain ⟨rfl, rfl⟩ := er
      exact fun v σ' H' S' as' R' => q v σ' H' S' as' (R'.pick fun p hp => by
        rcases List.mem_cons.mp hp with rfl | z
        · exact List.mem_cons_self
        · exact List.mem_cons_of_mem _ (sub p z))
  · have hie : i = ts.length := by omega
    subst hie
    rw [List.drop_length] at ei
    cases ei
    exact .inl ⟨F.stop _ (Nat.le_refl _), q σ2 H2 Si asi (Ri.pick sub)⟩
end
end C
end
noncomputable section
set_option linter.all false
set_option maxRecDepth 100000
set_option maxHeartbeats 4000002
set_option autoImplicit false
namespace C
open PySem PySem.Spec PyProof.Rows L2
noncomputable section
variable {K : PySem.W.Frag} {B : Bas} {st : Sta} {σ : L2.St} {H H' S S' : Hp} {ps ps2 : List (V × T)} {as as' : List Addr}
theorem Rel.freeze1 (r : Rel K B st σ H ps S as) {i : Nat} {t : T} (e : st.env[i]? = some (some (t, true))) : ∃ S', Rel K B { st with env := st.env.set i (some (t, false)) } σ H ps S' as := by
  obtain ⟨v, S', _, R⟩ := r.freeze e
  exact ⟨S', R.drop⟩
theorem Rel.freezeAt : ∀ (cap : List Nat) {st : Sta} {S : Hp}, Rel K B st σ H ps S as → ∃ S', Rel K B { st with env := freezeAt cap st.env } σ H ps S' as
  | [], st, S, r => ⟨S, r⟩
  | i :: l, st, S, r => by
    unfold C.freezeAt
    rw [List.foldl_cons]
    split
    · rename_i t f e
      cases f with
      | true =>
        obtain ⟨S1, R1⟩ := r.freeze1 e
        exact Rel.freezeAt l R1
      | false =>
        have e2 : st.env.set i (some (t, false)) = st.env := by
          apply List.ext_getElem?
          intro j
          by_cases hij : i = j
          · subst hij
            rw [List.getElem?_set_self (List.getElem?_eq_some_iff.mp e).1, e]
          · rw [List.getElem?_set_ne hij]
        rw [e2]
        exact Rel.freezeAt l r
    · exact Rel.freezeAt l r
noncomputable def thawN (env : List Slot) : Nat → List Slot
  | 0 => env
  | n + 1 => match (thawN env n)[n]? with
    | some (some (t, _)) => (thawN env n).set n (some (t, false))
    | _ => thawN env n
theorem thawN_len (env : List Slot) : ∀ n, (thawN env n).length = env.length
  | 0 => rfl
  | n + 1 => by
    rw [thawN]
    split
    · rw [List.length_set]; exact thawN_len env n
    · exact thawN_len env n
theorem thawN_get (env : List Slot) : ∀ (n j : Nat), (thawN env n)[j]? = if j < n then (env[j]?).map thaw else env[j]?
  | 0, j => by rw [if_neg (Nat.not_lt_zero _)]; rfl
  | n + 1, j => by
    have ihn := thawN_get env n n
    rw [if_neg (Nat.lt_irrefl _)] at ihn
    have ihj := thawN_get env n j
    rw [thawN, ihn]
    by_cases hj : j = n
    · subst hj
      rw [if_pos (Nat.lt_succ_self _)]
      cases z : env[j]? with
      | none => simp only [z, Option.map_none]; rw [ihn, z]
      | some s =>
        have hl : j < (thawN env j).length := by rw [thawN_len]; exact (List.getElem?_eq_some_iff.mp z).1
        cases s with
        | none => simp only [Option.map_some]; rw [ihn, z]; rfl
        | some p => obtain ⟨t, f⟩ := p; simp only [Option.map_some]; rw [List.getElem?_set_self hl]; rfl
    · have e1 : (if j < n + 1 then (env[j]?).map thaw else env[j]?) = (if j < n then (env[j]?).map thaw else env[j]?) := by
        by_cases hlt : j < n
        · rw [if_pos hlt, if_pos (Nat.lt_succ_of_lt hlt)]
        · rw [if_neg hlt, if_neg (by omega)]
      rw [e1, ← ihj]
      split
      · rw [List.getElem?_set_ne (Ne.symm hj)]
      · rfl
theorem thawN_all (env : List Slot) : thawN env env.length = env.map thaw := by
  apply List.ext_getElem?
  intro j
  rw [thawN_get, List.getElem?_map]
  by_cases hj : j < env.length
  · rw [if_pos hj]
  · rw [if_neg hj, List.getElem?_eq_none (Nat.le_of_not_lt hj)]; rfl
theorem Rel.thawN (r : Rel K B st σ H ps S as) : ∀ n, ∃ S', Rel K B { st with env := C.thawN st.env n } σ H ps S' as
  | 0 => ⟨S, r⟩
  | n + 1 => by
    obtain ⟨S1, R1⟩ := Rel.thawN r n
    rw [C.thawN]
    split
    · rename_i t f e
      cases f with
      | true => exact R1.freeze1 e
      | false =>
        have e2 : (C.thawN st.env n).set n (some (t, false)) = C.thawN st.env n := by
          apply List.ext_getElem?
          intro j
          by_cases hij : n = j
          · subst hij
            rw [List.getElem?_set_self (List.getElem?_eq_some_iff.mp e).1, e]
          · rw [List.getElem?_set_ne hij]
        rw [e2]
        exact ⟨S1, R1⟩
    · exact ⟨S1, R1⟩
theorem Rel.freezeAll (r : Rel K B st σ H ps S as) : ∃ S', Rel K B (freezeAll st) σ H ps S' as := by
  obtain ⟨S', R⟩ := r.thawN st.env.length
  rw [thawN_all] at R
  exact ⟨S', R⟩
noncomputable def NoOwn (st : Sta) : Prop := ∀ (i : Nat) t, st.env[i]? ≠ some (some (t, true))
theorem noOwn_freeze (st : Sta) : NoOwn (C.freezeAll st) := fun i t e => by
  unfold C.freezeAll at e
  rw [List.getElem?_map] at e
  cases z : st.env[i]? with
  | none => rw [z] at e; cases e
  | some s =>
    rw [z] at e
    cases s with
    | none => cases e
    | some p => obtain ⟨t, f⟩ := p; cases e
theorem Rel.rebase (r : Rel K B st σ H ps S as) (n : NoOwn st) : Rel K ⟨S, as, H⟩ st σ H ps S as :=
  ⟨r.sub, ⟨Same.refl _, nol, fun p o a b c => ⟨a, b, c⟩⟩, fun i t f e => by
    obtain ⟨v, h1, h2, _⟩ := r.slots i t f e
    exact ⟨v, h1, h2, fun z => by subst z; exact absurd e (n i t)⟩, r.apart, r.sto, r.pend, r.len⟩
end
theorem compL_inv {g : G} {c : M Bool} {e : M T} {t : T} {r acc us : List T} {s s' : Sta} (h : compL g c e (t :: r) s acc = some (us, s')) : ∃ s1 b s2, g t s = some s1 ∧ c s1 = some (b, s2) ∧
    ((b = true ∧ ∃ u s3, e s2 = some (u, s3) ∧ acc.length < lim ∧ compL g c e r (freezeAll s3) (acc ++ [u]) = some (us, s')) ∨ (b = false ∧ compL g c e r (freezeAll s2) acc = some (us, s'))) := by
  rw [compL] at h
  split at h
  · rename_i s1 e1
    split at h
    · rename_i s2 e2
      split at h
      · rename_i u s3 e3
        split at h
        · rename_i hl; exact ⟨s1, true, s2, e1, e2, .inl ⟨rfl, u, s3, e3, hl, h⟩⟩
        · cases h
      · cases h
    · rename_i s2 e2; exact ⟨s1, false, s2, e1, e2, .inr ⟨rfl, h⟩⟩
    · cases h
  · cases h
theorem mComp_inv {nv : Nat} {cap : List Nat} {g : G} {it : M (List T)} {c : M Bool} {e : M T} {s s' : Sta} {v : T} (h : mComp nv cap g it c e s = some (v, s')) : ∃ ts s1 us s2, it s = some (ts, s1) ∧
    compL g c e ts ⟨List.replicate nv none ++ cap.map (fun i => ((freezeAt cap s1.env)[i]?).getD none), s1.sto⟩ [] = some (us, s2) ∧ v = .lst us ∧ s' = ⟨freezeAt cap s1.env, s2.sto⟩ := by
  unfold mComp at h
  split at h
  · rename_i ts s1 e1
    dsimp only at h
    split at h
    · rename_i us s2 e2; cases h; exact ⟨ts, s1, us, s2, e1, e2, rfl, rfl⟩
    · cases h
  · cases h
noncomputable section
variable {K : PySem.W.Frag} {B : Bas} {st : Sta} {σ : L2.St} {H H' S S' : Hp} {ps ps2 : List (V × T)} {as as' : List Addr} {D : Addr} {ob : HO}
theorem StoOk.mem {sto : List SO} (r : StoOk K S as H sto) {a : Addr} (h : a ∈ as) : ∃ o, H a = some o := by
  obtain ⟨n, hn⟩ := List.getElem?_of_mem h
  have hl := (List.getElem?_eq_some_iff.mp hn).1
  rw [r.len] at hl
  obtain ⟨a', h1, h2, h3⟩ := r.at' n _ (List.getElem?_eq_getElem hl)
  rw [hn] at h1; cases h1
  exact h3.there
theorem Rel.fresh (r : Rel K B st σ H ps S as) (h : H D = none) : B.H D = none ∧ S D = none ∧ D ∉ as ∧ NoSlot st σ D := by
  have sD : S D = none := r.sub.free h
  have nD : D ∉ as := fun z => by obtain ⟨o, e⟩ := r.sto.mem z; rw [h] at e; cases e
  refine ⟨?_, sD, nD, fun j u e1 e2 => ?_⟩
  · cases q : B.H D with
    | none => rfl
    | some o =>
      have b1 : B.S D = none := by
        cases z : B.S D with
        | none => rfl
        | some u => have := r.grow.same _ _ z; rw [sD] at this; cases this
      have b2 : D ∉ B.as := fun z => by obtain ⟨l, e⟩ := r.grow.more; exact nD (by rw [e]; exact List.mem_append_left _ z)
      have := (r.grow.keep D o q b1 b2).1
      rw [h] at this; cases this
  · obtain ⟨v, h1, _, h3⟩ := r.slots j u true e1
    rw [e2] at h1; cases h1
    obtain ⟨p, ep, o⟩ := h3 rfl
    cases ep
    obtain ⟨ob, ho⟩ := o.own.there
    rw [h] at ho; cases ho
theorem Rel.poke (r : Rel K B st σ H ps S as) (bD : B.H D = none) (sD : S D = none) (nD : D ∉ as) (no : NoSlot st σ D) : Rel K B st σ (upd H D ob) ps S as := by
  have ne : ∀ b u, S b = some u → b ≠ D := fun b u e z => by subst z; rw [sD] at e; cases e
  refine ⟨fun b u e => by rw [upd_ne (ne b u e)]; exact r.sub _ _ e, ⟨r.grow.same, r.grow.more, fun p o x y z => ?_⟩, fun i t f e => ?_, r.apart, ⟨r.sto.len, r.sto.nd, fun n so e => ?_⟩, r.pend, r.len⟩
  · obtain ⟨a, b, c⟩ := r.grow.keep p o x y z
    exact ⟨by rw [upd_ne (fun w => by subst w; rw [bD] at x; cases x)]; exact a, b, c⟩
  · obtain ⟨v, h1, h2, h3⟩ := r.slots i t f e
    refine ⟨v, h1, h2, fun z => ?_⟩
    obtain ⟨p, rfl, o⟩ := h3 z
    have n : p ≠ D := fun w => by subst w; subst z; exact no i t e h1
    exact ⟨p, rfl, o.own.mono (Same.refl _) (upd_ne n).symm, o.out, o.nas, o.new⟩
  · obtain ⟨a, h1, h2, h3⟩ := r.sto.at' n so e
    exact ⟨a, h1, h2, h3.mono (Same.refl _) (upd_ne (fun w => by subst w; exact nD (List.mem_of_getElem? h1))).symm⟩
theorem Rel.poke0 (r : Rel K B st σ H ps S as) (no : NoOwn st) (sD : S D = none) (nD : D ∉ as) : Rel K ⟨S, as, upd H D ob⟩ st σ (upd H D ob) ps S as := by
  have ne : ∀ b u, S b = some u → b ≠ D := fun b u e z => by subst z; rw [sD] at e; cases e
  refine ⟨fun b u e => by rw [upd_ne (ne b u e)]; exact r.sub _ _ e, ⟨Same.refl _, nol, fun p o x y z => ⟨x, y, z⟩⟩, fun i t f e => ?_, r.apart, ⟨r.sto.len, r.sto.nd, fun n so e => ?_⟩, r.pend, r.len⟩
  · obtain ⟨v, h1, h2, _⟩ := r.slots i t f e
    exact ⟨v, h1, h2, fun z => by subst z; exact absurd e (no i t)⟩
  · obtain ⟨a, h1, h2, h3⟩ := r.sto.at' n so e
    exact ⟨a, h1, h2, h3.mono (Same.refl _) (upd_ne (fun w => by subst w; exact nD (List.mem_of_getElem? h1))).symm⟩
end
theorem freezeAt_keep : ∀ (cap : List Nat) (env : List Slot) (k : Nat), (∀ t, env[k]? ≠ some (some (t, true))) → ∀ t, (freezeAt cap env)[k]? ≠ some (some (t, true))
  | [], env, k, h => h
  | i :: l, env, k, h => by
    have e : freezeAt (i :: l) env = freezeAt l (match env[i]? with | some (some (t, _)) => env.set i (some (t, false)) | _ => env) := rfl
    rw [e]
    refine freezeAt_keep l _ k fun t => ?_
    split
    · rename_i t' f e'
      by_cases hk : i = k
      · subst hk
        rw [List.getElem?_set_self (List.getElem?_eq_some_iff.mp e').1]
        intro z; cases z
      · rw [List.getElem?_set_ne hk]; exact h t
    · exact h t
theorem freezeAt_no : ∀ (cap : List Nat) (env : List Slot) (k : Nat), k ∈ cap → ∀ t, (freezeAt cap env)[k]? ≠ some (some (t, true))
  | [], env, k, h => by simp at h
  | i :: l, env, k, h => by
    have e : freezeAt (i :: l) env = freezeAt l (match env[i]? with | some (some (t, _)) => env.set i (some (t, false)) | _ => env) := rfl
    rw [e]
    rcases List.mem_cons.mp h with rfl | h' -- here
    · refine freezeAt_keep l _ k fun t => ?_
      split
      · rename_i t' f e'
        rw [List.getElem?_set_self (List.getElem?_eq_some_iff.mp e').1]
        intro z; cases z
      · rename_i hx
        intro z
        exact hx _ _ z
    · exact freezeAt_no l _ k h'
noncomputable def gE (K : PySem.W.Frag) (g : G) : TG := fun v σ H Q => ∃ B, gOf K B g v σ H Q
noncomputable def cE (K : PySem.W.Frag) (c : M Bool) : TT := fun σ H Q => ∃ B, cOf K B c σ H Q
noncomputable def eE (K : PySem.W.Frag) (e : M T) : TE := fun σ H Q => ∃ B, tOf K B e σ H Q
theorem pgE {X : Cx} {tg : Expr} {g : G} (h : ∀ B, PG X tg (gOf X.K B g)) : PG X tg (gE X.K g) := fun pins s σ H x u Q I r ⟨B, q⟩ => h B pins s σ H x u Q I r q
theorem peE {X : Cx} {e : Expr} {m : M T} (h : ∀ B, PE X e (tOf X.K B m)) : PE X e (eE X.K m) := fun pins s σ H Q I ⟨B, q⟩ => h B pins s σ H Q I q
theorem ptsE_nil {X : Cx} : PTs X [] (cE X.K mTrue) := fun pins s σ H Q I ⟨B, st, ps, S, as, R, b, st', e, q⟩ => by
  cases e
  exact pts_nil pins s σ H Q I (q H S as R)
noncomputable section
variable {X : Cx} {scope : Scope} {N : List Str}
theorem comp_core {B : Bas} {nv : Nat} {cap : List Nat} {g : G} {c : M Bool} {e : M T} {ts us : List T} {env : List Slot} {sto1 : List SO} {s2 : Sta} {σ : L2.St} {H1 S1 : Hp} {as1 : List Addr} {ps ps' : List (V × T)} {J : It} {Q : VK}
    (hN : N.length = nv + cap.length) (hv : ∀ i x, i < nv → N[i]? = some x → True)
    (hcap : ∀ (j k : Nat), cap[j]? = some k → ∃ x, N[nv + j]? = some x ∧ X.N[k]? = some x ∧ CapK X scope x)
    (R1 : Rel X.K B ⟨env, sto1⟩ σ H1 (ps' ++ ps) S1 as1) (hno : ∀ k ∈ cap, ∀ t, env[k]? ≠ some (some (t, true)))
    (facts : ∀ S as H, Same B.S S → (∃ l, as = B.as ++ l) → (∀ p ∈ ps', Rep X.K S as p.1 p.2) → Same S H → ItFacts X.K S as H J ts)
    (hc : compL g c e ts ⟨List.replicate nv none ++ cap.map (fun i => (env[i]?).getD none), sto1⟩ [] = some (us, s2))
    (fin : ∀ D H' S' as', Rel X.K B ⟨env, s2.sto⟩ σ H' (ps' ++ ps) S' as' → OwnAt X.K B S' as' H' D (.lst us) → NoSlot ⟨env, s2.sto⟩ σ D → Q (.ref D) H') :
    tCompIn X scope N (gE X.K g) (cE X.K c) (eE X.K e) σ J H1 Q := by
  intro D hD
  obtain ⟨bD, sD1, nD1, noD⟩ := R1.fresh hD
  have capg : ∀ (i : Nat) s, (List.replicate nv (none : Slot) ++ cap.map (fun i => (env[i]?).getD none))[i]? = some (some s) → ∃ j k, i = nv + j ∧ cap[j]? = some k ∧ env[k]? = some (some s) := fun i s h => by
    by_cases hi : i < nv
    · rw [List.getElem?_append_left (by rw [List.length_replicate]; exact hi)] at h
      have := List.eq_of_mem_replicate (List.mem_of_getElem? h); cases this
    · rw [List.getElem?_append_right (by rw [List.length_replicate]; exact Nat.le_of_not_lt hi), List.length_replicate, List.getElem?_map] at h
      cases z : cap[i - nv]? with
      | none => rw [z] at h; cases h
      | some k =>
        rw [z] at h
        refine ⟨i - nv, k, by omega, z, ?_⟩
        cases w : env[k]? with
        | none => simp [w] at h
        | some s' => simp [w] at h; rw [h]
  have sig : ∀ (j k : Nat) v, cap[j]? = some k → σ[k]? = some (some v) → (List.replicate nv (none : Option V) ++ cap.map (fun i => (σ[i]?).getD none))[nv + j]? = some (some v) := fun j k v h1 h2 => by
    rw [List.getElem?_append_right (by rw [List.length_replicate]; omega), List.length_replicate, Nat.add_sub_cancel_left, List.getElem?_map, h1]
    simp [h2]
  refine ⟨List.replicate nv none ++ cap.map (fun i => (σ[i]?).getD none), by rw [List.length_append, List.length_replicate, List.length_map, hN], fun i v x h1 h2 _ => ?_, ?_⟩
  · by_cases hi : i < nv
    · rw [List.getElem?_append_left (by rw [List.length_replicate]; exact hi)] at h1
      have := List.eq_of_mem_replicate (List.mem_of_getElem? h1); cases this
    · rw [List.getElem?_append_right (by rw [List.length_replicate]; exact Nat.le_of_not_lt hi), List.length_replicate, List.getElem?_map] at h1
      cases z : cap[i - nv]? with
      | none => rw [z] at h1; cases h1
      | some k =>
        rw [z] at h1
        obtain ⟨y, n1, n2, ck⟩ := hcap _ _ z
        have e : nv + (i - nv) = i := by omega
        rw [e, h2] at n1; cases n1
        refine ⟨k, n2, ?_, ck⟩
        cases w : σ[k]? with
        | none => simp [w] at h1
        | some s' => simp [w] at h1; rw [h1]
  refine ⟨fun i m σ' H' => m = ts.length - i ∧ i ≤ ts.length ∧ ∃ sti Si asi acc accv, Rel X.K ⟨Si, asi, H'⟩ sti σ' H' [] Si asi ∧ NoOwn sti ∧ Rel X.K B ⟨env, sti.sto⟩ σ H' (ps' ++ ps) Si asi ∧ H' D = some (.lst accv) ∧ Si D = none ∧ D ∉ asi ∧
    Reps X.K Si asi accv acc ∧ compL g c e (ts.drop i) sti acc = some (us, s2), ⟨ts.length, by simp, Nat.zero_le _, _, S1, as1, [], [], ?_, ?_, ?_, upd_same, sD1, nD1, .nil, hc⟩, ?_⟩
  · refine Rel.poke0 (B := B) (H := H1) ⟨R1.sub, R1.grow, fun i t f h => ?_, fun i j t u p hi hj => ?_, R1.sto, (fun p hp => by cases hp), ?_⟩ (fun i t h => ?_) sD1 nD1
    · obtain ⟨j, k, rfl, hk, ek⟩ := capg i _ h
      obtain ⟨v, h1, h2, h3⟩ := R1.slots k t f ek
      exact ⟨v, sig j k v hk h1, h2, h3⟩
    · obtain ⟨j, k, rfl, hk, ek⟩ := capg i _ hi
      exact absurd ek (hno k (List.mem_of_getElem? hk) t)
    · show (List.replicate nv (none : Option V) ++ cap.map _).length = (List.replicate nv (none : Slot) ++ cap.map _).length
      rw [List.length_append, List.length_append, List.length_replicate, List.length_replicate, List.length_map, List.length_map]
    · obtain ⟨j, k, rfl, hk, ek⟩ := capg i _ h
      exact absurd ek (hno k (List.mem_of_getElem? hk) t)
  · intro i t h
    obtain ⟨j, k, rfl, hk, ek⟩ := capg i _ h
    exact absurd ek (hno k (List.mem_of_getElem? hk) t)
  · exact R1.poke bD sD1 nD1 noD
  rintro i m σ' H' ⟨rfl, hi, sti, Si, asi, acc, accv, Ri, no, Ro, hD', sD, nD, rA, ei⟩
  have F := facts Si asi H' Ro.grow.same Ro.grow.more (fun p hp => Ro.pend p (List.mem_append_left _ hp)) Ri.sub
  by_cases hlt : i < ts.length
  · rw [List.drop_eq_getElem_cons hlt] at ei
    obtain ⟨s3, b, s4, eg, ec, er⟩ := compL_inv ei
    have ht : ts[i]? = some ts[i] := List.getElem?_eq_getElem hlt
    refine .inr ⟨(F.go i _ ht).1, fun x H2 y => ?_⟩
    obtain ⟨S2, ex, rx⟩ := (F.go i _ ht).2 x H2 y
    refine ⟨⟨Si, asi, H'⟩, sti, [], S2, asi, _, (Ri.ext ex).push rx, s3, eg, fun σ3 H3 S3 as3 R3 => ⟨⟨Si, asi, H'⟩, s3, [], S3, as3, R3, b, s4, ec, fun H4 S4 as4 R4 => ?_⟩⟩
    rcases er with ⟨rfl, w, s5, ee, hlen, erest⟩ | ⟨rfl, erest⟩
    · refine iteT ⟨⟨Si, asi, H'⟩, s4, [], S4, as4, R4, w, s5, ee, fun y H5 S5 as5 R5 => ?_⟩
      obtain ⟨S6, R6⟩ := R5.freezeAll
      obtain ⟨k1, k2, k3⟩ := R6.grow.keep D _ hD' sD nD
      have Ro2 := Ro.call R6.grow R6.sub R6.sto
      refine ⟨accv, k1, ?_, ts.length - (i + 1), by omega, rfl, hlt, freezeAll s5, S6, as5, acc ++ [w], accv ++ [y], R6.drop.poke0 (noOwn_freeze _) k2 k3, noOwn_freeze _, Ro2.poke bD k2 k3 noD, upd_same, k2, k3, (rA.mono R6.grow.same R6.grow.more).append (.cons R6.top .nil), erest⟩
      rw [rA.length]; exact Nat.lt_of_lt_of_le hlen lim_line
    · refine iteF ?_
      obtain ⟨S6, R6⟩ := R4.freezeAll
      obtain ⟨k1, k2, k3⟩ := R6.grow.keep D _ hD' sD nD
      have Ro2 := Ro.call R6.grow R6.sub R6.sto
      exact ⟨ts.length - (i + 1), by omega, rfl, hlt, freezeAll s4, S6, as4, acc, accv, R6.rebase (noOwn_freeze _), noOwn_freeze _, Ro2, k1, k2, k3, rA.mono R6.grow.same R6.grow.more, erest⟩
  · have hie : i = ts.length := by omega
    subst hie
    rw [List.drop_length] at ei
    cases ei
    exact .inl ⟨F.stop _ (Nat.le_refl _), fin D H' Si asi Ro ⟨⟨accv, hD', rA⟩, sD, nD, bD⟩ noD⟩
theorem Rel.give {K : PySem.W.Frag} {B : Bas} {st : Sta} {σ : L2.St} {H S : Hp} {ps : List (V × T)} {as : List Addr} {p : Addr} {t : T} (r : Rel K B st σ H ps S as) (o : OwnAt K B S as H p t) (no : NoSlot st σ p) : ∃ S', Rel K B st σ H ((.ref p, t) :: ps) S' as := by
  obtain ⟨ob, ho⟩ := o.own.there
  have sS : Same S (upd S p ob) := Same.upd o.out ob
  have rep : Rep K (upd S p ob) as (.ref p) t := by
    have w := o.own
    cases t with
    | lst ts => obtain ⟨vs, h, q⟩ := w; rw [ho] at h; cases h; exact .lst (SqL.of upd_same) (q.mono sS nol)
    | dic ts => obtain ⟨vs, h, q⟩ := w; rw [ho] at h; cases h; exact .dic (.inl upd_same) (q.mono sS nol)
    | _ => exact w.elim
  have outs : ∀ q, S q = none → q ≠ p → upd S p ob q = none := fun q h n => by rw [upd_ne n]; exact h
  refine ⟨upd S p ob, Rel.push (v := .ref p) (t := t) ⟨?_, ?_, ?_, r.apart, ?_, fun q hq => (r.pend q hq).mono sS nol, r.len⟩ rep⟩
  · intro b u q
    by_cases z : b = p
    · subst z; rw [upd_same] at q; cases q; exact ho
    · rw [upd_ne z] at q; exact r.sub _ _ q
  · refine ⟨r.grow.same.trans sS, r.grow.more, fun q w a b c => ?_⟩
    obtain ⟨x, y, z⟩ := r.grow.keep q w a b c
    refine ⟨x, outs q y fun n => ?_, z⟩
    subst n; rw [o.new] at a; cases a
  · intro j u f ej
    obtain ⟨v', a1, a2, a3⟩ := r.slots j u f ej
    refine ⟨v', a1, fun z => (a2 z).mono sS nol, fun z => ?_⟩
    subst z
    obtain ⟨p', rfl, o'⟩ := a3 rfl
    refine ⟨p', rfl, o'.own.mono sS rfl, outs p' o'.out fun n => ?_, o'.nas, o'.new⟩
    subst n
    exact no j u ej a1
  · refine ⟨r.sto.len, r.sto.nd, fun n so en => ?_⟩
    obtain ⟨a, a1, a2, a3⟩ := r.sto.at' n so en
    refine ⟨a, a1, outs a a2 fun z => ?_, a3.mono sS rfl⟩
    subst z
    exact o.nas (List.mem_of_getElem? a1)
theorem f_of_t {K : PySem.W.Frag} {B : Bas} {m : M T} {σ : L2.St} {H : Hp} {Q : VK} (h : tOf K B m σ H Q) : fOf K B m σ H Q := by
  obtain ⟨st, ps, S, as, R, t, st', e, q⟩ := h
  refine ⟨st, ps, S, as, R, t, st', e, fun p H' S' as' R' o n => ?_⟩
  obtain ⟨S2, R2⟩ := R'.give o n
  exact q _ H' S2 as' R2
theorem te_fresh {e : Expr} {B : Bas} {m : M T} (h : PE X e (fOf X.K B m)) : PE X e (tOf X.K B m) := h.imp fun σ H Q => f_of_t
variable {B : Bas} {nv : Nat} {cap : List Nat} {g : G} {it : M (List T)} {c : M Bool} {e : M T} {tg iter elt : Expr} {ifs : List Expr} {pos : Pos}
structure CapOk (X : Cx) (scope : Scope) (N : List Str) (nv : Nat) (cap : List Nat) : Prop where
  len : N.length = nv + cap.length
  at' : ∀ (j k : Nat), cap[j]? = some k → ∃ x, N[nv + j]? = some x ∧ X.N[k]? = some x ∧ CapK X scope x
theorem comp_f (co : CapOk X scope N nv cap) (hsz : ∀ st ts st', it st = some (ts, st') → ts.length ≤ sizeLine) {σ : L2.St} {H : Hp} {Q : VK} (h : fOf X.K B (mComp nv cap g it c e) σ H Q) :
    tComp X scope N (iOf X.K B it) (gE X.K g) (cE X.K c) (eE X.K e) σ H Q := by
  obtain ⟨st, ps, S, as, R, t, st', e, q⟩ := h
  obtain ⟨ts, s1, us, s2, e1, e2, rfl, rfl⟩ := mComp_inv e
  refine ⟨st, ps, S, as, R, ts, s1, e1, hsz _ _ _ e1, fun J H1 S1 as1 ps' R1 facts => ?_⟩
  obtain ⟨S2, R2⟩ := R1.freezeAt cap
  exact comp_core co.len (fun _ _ _ _ => trivial) co.at' R2 (fun k hk => freezeAt_no cap s1.env k hk) (fun S as H _ _ => facts S as H) e2 fun D H' S' as' R' o n => q D H' S' as' (R'.pick fun p hp => List.mem_append_right _ hp) o n
theorem tf_comp (co : CapOk X scope N nv cap) (sc : CompSc X scope N) (calm : X.calm = true) (hi : PI X tg iter (iOf X.K B it)) (hsz : ∀ st ts st', it st = some (ts, st') → ts.length ≤ sizeLine)
    (hg : ∀ C s₀ H₀ ex pn, PG (compCx X scope N C s₀ H₀ ex pn) tg (gE X.K g)) (hc : ∀ C s₀ H₀ ex pn, PTs (compCx X scope N C s₀ H₀ ex pn) ifs (cE X.K c)) (he : ∀ C s₀ H₀ ex pn, PE (compCx X scope N C s₀ H₀ ex pn) elt (eE X.K e))
    (hs : ∀ x, foldedSetIterable iter X.env x = pure x := by intro _; rfl) : PE X (.ListComp elt [⟨tg, iter, ifs, 0⟩] scope pos) (fOf X.K B (mComp nv cap g it c e)) :=
  (pe_comp sc calm hi hg hc he hs).imp fun σ H Q h => comp_f co hsz h
end
end C
end
noncomputable section
set_option linter.all false
set_option maxRecDepth 100000
set_option maxHeartbeats 4000002
set_option autoImplicit false
namespace C
open PySem PySem.Spec PyProof.Rows L2
noncomputable section
variable {X : Cx}
theorem opInt {f : Value → Value → Sem Value} {g : T → T → Option T} {r : R2} (h : OpR X f r)
    (k : ∀ S as x y t u w, Rep X.K S as x t → Rep X.K S as y u → g t u = some w → ∀ (H : Hp) (Q : VK), Same S H → (∀ v H' S', Ext S H S' H' → Rep X.K S' as v w → Q v H') → r x y H Q) : OpT X f g := by
  intro pins s σ H x y v u Q I rx ry ⟨S, as, t, w, z, sub, ht, hu, hf, q⟩
  exact h pins s σ H x y v u Q I rx ry (k S as x y t w z ht hu hf H Q sub q)
theorem two_ints {K : PySem.W.Frag} {S : Hp} {as : List Addr} {x y : V} {t u w : T} {g : T → T → Option T} {P : Prop} (ht : Rep K S as x t) (hu : Rep K S as y u) (hf : g t u = some w)
    (n1 : ∀ t u, (∀ i, t ≠ .int i) → g t u = none) (n2 : ∀ i u, (∀ j, u ≠ .int j) → g (.int i) u = none) (k : ∀ i j, x = .int i → y = .int j → g (.int i) (.int j) = some w → P) : P := by
  by_cases h1 : ∃ i, t = .int i
  · obtain ⟨i, rfl⟩ := h1
    by_cases h2 : ∃ j, u = .int j
    · obtain ⟨j, rfl⟩ := h2
      cases ht; cases hu
      exact k i j rfl rfl hf
    · rw [n2 i u fun j e => h2 ⟨j, e⟩] at hf; cases hf
  · rw [n1 t u fun i e => h1 ⟨i, e⟩] at hf; cases hf
theorem opT_sub : OpT X (binaryOp .Sub) subT := opInt op_sub fun S as x y t u w ht hu hf H Q sub q =>
  two_ints (g := subT) ht hu hf (fun t u h => by cases t <;> first | rfl | exact absurd rfl (h _)) (fun i u h => by cases u <;> first | rfl | exact absurd rfl (h _)) fun i j ex ey hf => by
  subst ex ey; cases hf
  exact ⟨_, _, rfl, rfl, q _ H S (Ext.refl sub) (.int _)⟩
theorem opT_mod : OpT X (binaryOp .Mod) modT := opInt op_mod fun S as x y t u w ht hu hf H Q sub q =>
  two_ints (g := modT) ht hu hf (fun t u h => by cases t <;> first | rfl | exact absurd rfl (h _)) (fun i u h => by cases u <;> first | rfl | exact absurd rfl (h _)) fun i j ex ey hf => by
  subst ex ey
  simp only [modT] at hf
  split at hf
  · cases hf; exact ⟨_, _, rfl, rfl, by assumption, q _ H S (Ext.refl sub) (.int _)⟩
  · cases hf
noncomputable def CDivB (i j : Int) : Prop := 0 < j ∧ (j < 1073741824 ∨ j.natAbs < fdl)
theorem op_fdivB : OpR X (binaryOp .FloorDiv) (rI CDivB fun i j => .int (i / j)) := opI fun i j _ _ _ _ _ hc q => by
  have h1 : (0 : Int) < j := hc.1
  have h2 : j.natAbs < 2 ^ 200 := by
    rcases hc.2 with h | h
    · exact Nat.lt_trans (show j.natAbs < 1073741824 by omega) (by decide)
    · exact h
  exact floordiv_int (by omega) (by rw [Int.fdiv_eq_ediv_of_nonneg i (by omega)]; exact q) (.inl (PyProof.noPylong_of_log2 (Nat.lt_trans ((Nat.log2_lt (by omega)).mpr h2) (by decide))))
theorem opT_fdiv : OpT X (binaryOp .FloorDiv) fdivT := opInt op_fdivB fun S as x y t u w ht hu hf H Q sub q =>
  two_ints (g := fdivT) ht hu hf (fun t u h => by cases t <;> first | rfl | exact absurd rfl (h _)) (fun i u h => by cases u <;> first | rfl | exact absurd rfl (h _)) fun i j ex ey hf => by
  subst ex ey
  simp only [fdivT] at hf
  split at hf
  · rename_i hc; cases hf; exact ⟨_, _, rfl, rfl, hc, q _ H S (Ext.refl sub) (.int _)⟩
  · cases hf
theorem opT_pow : OpT X (binaryOp .Pow) powT := opInt op_pow fun S as x y t u w ht hu hf H Q sub q =>
  two_ints (g := powT) ht hu hf (fun t u h => by cases t <;> first | rfl | exact absurd rfl (h _)) (fun i u h => by cases u <;> first | rfl | exact absurd rfl (h _)) fun i j ex ey hf => by
  subst ex ey
  simp only [powT] at hf
  split at hf
  · rename_i h; cases hf; exact ⟨_, _, rfl, rfl, ⟨h.1, by omega, by omega⟩, q _ H S (Ext.refl sub) (.int _)⟩
  · cases hf
theorem opT_lt : OpT X (compareOp .Lt) ltT := opInt op_lt fun S as x y t u w ht hu hf H Q sub q =>
  two_ints (g := ltT) ht hu hf (fun t u h => by cases t <;> first | rfl | exact absurd rfl (h _)) (fun i u h => by cases u <;> first | rfl | exact absurd rfl (h _)) fun i j ex ey hf => by
  subst ex ey; cases hf
  exact ⟨_, _, rfl, rfl, q _ H S (Ext.refl sub) (.bl _)⟩
theorem opT_gt : OpT X (compareOp .Gt) gtT := opInt op_gt fun S as x y t u w ht hu hf H Q sub q =>
  two_ints (g := gtT) ht hu hf (fun t u h => by cases t <;> first | rfl | exact absurd rfl (h _)) (fun i u h => by cases u <;> first | rfl | exact absurd rfl (h _)) fun i j ex ey hf => by
  subst ex ey; cases hf
  exact ⟨_, _, rfl, rfl, q _ H S (Ext.refl sub) (.bl _)⟩
theorem unT_neg : UnT X (unaryOp .USub) negT := by
  intro pins s σ H x v Q I rx ⟨S, as, t, w, sub, ht, hf, q⟩
  cases ht <;> simp only [negT, reduceCtorEq] at hf
  cases hf
  exact un_neg pins s σ H _ v Q I rx ⟨_, rfl, q _ H S (Ext.refl sub) (.int _)⟩
noncomputable def rCatL (K : PySem.W.Frag) : R2 := fun x y H Q => ∃ l b xs zs, x = .ref l ∧ y = .ref b ∧ SqL K H l xs ∧ SqL K H b zs ∧ xs.length + zs.length ≤ sizeLine ∧ ∀ p, H p = none → Q (.ref p) (upd H p (.lst (xs ++ zs)))
theorem op_catL : OpR X (binaryOp .Add) (rCatL X.K) := by
  intro pins s σ H x y v u Q I rx ry h
  obtain ⟨l, b, xs, zs, rfl, rfl, hH, hB, hz, q⟩ := h
  cases rx
  cases ry
  obtain ⟨its, r, p1, hl⟩ := I.list hH
  obtain ⟨its2, r2, p2, hl2⟩ := I.list hB
  obtain ⟨⟨cls, dd, data, sl⟩, n, ho, hc, hd0, hd⟩ := id p1
  obtain ⟨⟨cls2, dd2, data2, sl2⟩, n2, ho2, hc2, hd02, hd2⟩ := id p2
  simp only at hc hd hc2 hd2
  subst hc hd hc2 hd2
  refine concat_meets ⟨_, ho, rfl⟩ ⟨_, ho2, rfl⟩ noFill_list_add seq_list_add PySem.F.slot_list_add PySem.F.entry_list_add (PySem.F.args_list_add_2 _ _)
      (list_addW l b its.toArray its2.toArray n n2 dd dd2 sl sl2 (by rw [List.size_toArray, List.size_toArray, ← r.length, ← r2.length]; exact hz)) ⟨ho, ho2, ?_⟩
  have ea : its.toArray ++ its2.toArray = (its ++ its2).toArray := by simp
  rw [ea]
  exact ⟨.ref _, _, I.lnew (t' := s.toks) (r.append r2) (by rw [List.length_append]; exact hz), rfl, q _ I.fresh⟩
noncomputable def rCatT0 (K : PySem.W.Frag) : R2 := fun x y H Q => ∃ a b ys, x = .ref a ∧ y = .ref b ∧ SqT K H a [] ∧ SqT K H b ys ∧ Q (.ref b) H
theorem op_catT0 : OpR X (binaryOp .Add) (rCatT0 X.K) := by
  intro pins s σ H x y v u Q I rx ry h
  obtain ⟨a, b, ys, rfl, rfl, ha, hb, q⟩ := h
  cases rx
  cases ry
  obtain ⟨its, r1, p1, _⟩ := I.tuple ha
  obtain ⟨its2, r2, p2, _⟩ := I.tuple hb
  cases r1
  obtain ⟨⟨cls, dd, data, sl⟩, ho, hc, n, hd⟩ := id p1
  obtain ⟨⟨cls2, dd2, data2, sl2⟩, ho2, hc2, n2, hd2⟩ := id p2
  simp only at hc hd hc2 hd2
  subst hc hd hc2 hd2
  exact concat_meets ⟨_, ho, rfl⟩ ⟨_, ho2, rfl⟩ noFill_tuple_add seq_tuple_add PySem.F.slot_tuple_add PySem.F.entry_tuple_add (PySem.F.args_tuple_add_2 _ _)
      (tuple_addW0 a b _ its2.toArray n n2 dd dd2 sl sl2 (by rfl)) ⟨ho, ho2, ⟨.ref b, H, I, rfl, q⟩⟩
theorem opT_add : OpT X (binaryOp .Add) addT := by
  intro pins s σ H x y v u Q I rx ry ⟨S, as, t, t2, w, sub, ht, hu, hf, q⟩
  cases ht <;> first | exact nomatch (show none = some w from hf) | cases hu <;> first | exact nomatch (show none = some w from hf) | simp only [addT] at hf
  · cases hf
    exact op_add pins s σ H _ _ v u Q I rx ry ⟨_, _, rfl, rfl, q _ H S (Ext.refl sub) (.int _)⟩
  · split at hf
    · rename_i hl; cases hf
      exact op_add_str pins s σ H _ _ v u Q I rx ry ⟨_, _, rfl, rfl, Nat.le_trans (Nat.le_of_lt hl) lim_line, q _ H S (Ext.refl sub) (.str _)⟩
    · cases hf
  · rename_i a vs ts hs hr b ws us hs2 hr2
    split at hf
    · rename_i hl; cases hf
      have hz : vs.length + ws.length ≤ sizeLine := by rw [hr.length, hr2.length]; exact Nat.le_trans (Nat.le_of_lt hl) lim_line
      cases hr with
      | nil => exact op_catT0 pins s σ H _ _ v u Q I rx ry ⟨_, _, _, rfl, rfl, sqT_mono sub hs, sqT_mono sub hs2, q _ H S (Ext.refl sub) (.tup hs2 hr2)⟩
      | @cons v0 t0 vs0 ts0 h1 h2 =>
        refine op_catT pins s σ H _ _ v u Q I rx ry ⟨_, _, _, _, rfl, rfl, sqT_mono sub hs, sqT_mono sub hs2, by simp, hz, fun z => ?_, fun z p hp => ?_⟩
        · subst z
          cases hr2
          rw [List.append_nil] at q
          exact q _ H S (Ext.refl sub) (.tup hs (.cons h1 h2))
        · have x := Ext.laid sub hp (.tup ((v0 :: vs0) ++ ws))
          exact q _ _ _ x (.tup (SqT.of upd_same) (((Reps.cons h1 h2).append hr2).mono x.s nol))
    · cases hf
  · rename_i a vs ts hs hr b ws us hs2 hr2
    split at hf
    · rename_i hl; cases hf
      have hz : vs.length + ws.length ≤ sizeLine := by rw [hr.length, hr2.length]; exact Nat.le_trans (Nat.le_of_lt hl) lim_line
      refine op_catL pins s σ H _ _ v u Q I rx ry ⟨_, _, _, _, rfl, rfl, sqL_mono sub hs, sqL_mono sub hs2, hz, fun p hp => ?_⟩
      have x := Ext.laid sub hp (.lst (vs ++ ws))
      exact q _ _ _ x (.lst (SqL.of upd_same) ((hr.append hr2).mono x.s nol))
    · cases hf
theorem txt_mul (x : Str) (n : Int) (h : 0 ≤ n) : Txt.mul x n = ⟨((List.replicate n.toNat x.cps.toList).flatten).toArray⟩ := by
  have key : ∀ (k : Nat) (acc : Array Nat), (List.replicate k x.cps).foldl (· ++ ·) acc = acc ++ ((List.replicate k x.cps.toList).flatten).toArray := by
    intro k
    induction k with
    | zero => intro acc; simp
    | succ k ih =>
      intro acc
      rw [List.replicate_succ, List.foldl_cons, ih, List.replicate_succ, List.flatten_cons]
      apply Array.ext'
      simp
  unfold Txt.mul
  by_cases h1 : n < 1
  · have : n = 0 := by omega
    subst this
    rw [if_pos h1]; rfl
  · rw [if_neg h1]
    by_cases h2 : (n == 1 || x.length == 0) = true
    · rw [if_pos h2]
      rw [Bool.or_eq_true] at h2
      rcases h2 with h2 | h2
      · have : n = 1 := by simpa using h2
        subst this
        cases x; simp
      · have h3 : x.cps.size = 0 := by simpa [Str.length] using h2
        obtain ⟨c⟩ := x
        have h4 : c = #[] := Array.eq_empty_of_size_eq_zero h3
        subst h4
        congr 1
        apply Array.ext'
        simp
    · rw [if_neg h2, key]
      congr 1
      apply Array.ext'
      simp
theorem opT_mul : OpT X (binaryOp .Mult) mulT := by
  intro pins s σ H x y v u Q I rx ry ⟨S, as, t, t2, w, sub, ht, hu, hf, q⟩
  cases ht <;> first | exact nomatch (show none = some w from hf) | cases hu <;> first | exact nomatch (show none = some w from hf) | simp only [mulT] at hf
  · split at hf
    · rename_i hb; cases hf
      refine op_mul pins s σ H _ _ v u Q I rx ry ⟨_, _, rfl, rfl, ?_, q _ H S (Ext.refl sub) (.int _)⟩
      rw [Bool.or_eq_true] at hb
      rcases hb with h | h
      · exact .inl (of_decide_eq_true h)
      · exact .inr (of_decide_eq_true h)
    · cases hf
  · rename_i z j
    split at hf
    · rename_i hb; cases hf
      obtain ⟨t', rfl⟩ := rx
      obtain ⟨t2', rfl⟩ := ry
      refine SB.mul ⟨?_, fun _ _ => ?_, fun _ _ => ?_⟩ fun t3 k => ⟨.str (Txt.mul z j), H, I.tok _, ⟨_, rfl⟩, ?_⟩
      · have h1 : ¬ j < -(2 ^ 63 : Int) := by omega
        have h2 : ¬ j ≥ 2 ^ 63 := by omega
        rw [decide_eq_false h1, decide_eq_false h2]; rfl
      · have h1 : (z.length : Int) ≤ 100 := by omega
        have h2 : (100 : Int) ≤ (2 ^ 63 - 1) / j := by
          have hj : 0 < j := by
            rcases Int.lt_or_le 0 j with h | h
            · exact h
            · exfalso
              have : j = 0 := by omega
              subst this
              rename_i a _; exact a (by decide)
          exact (Int.le_ediv_iff_mul_le hj).mpr (by omega)
        omega
      · have h3 : z.length * j.toNat ≤ 100 * 1000 := Nat.mul_le_mul hb.2.2 (by omega)
        unfold Builtin.Str.tooLong
        rw [sizeLine_eq]
        exact decide_eq_false (by omega)
      · rw [txt_mul z j hb.1]; exact q _ H S (Ext.refl sub) (.str _)
    · cases hf
end
end C
end
noncomputable section
set_option linter.all false
set_option maxRecDepth 100000
set_option maxHeartbeats 4000002
set_option autoImplicit false
namespace C
open PySem PySem.Spec PyProof.Rows L2
noncomputable section
variable {X : Cx} {B : Bas} {a b c e o : Expr} {m m1 m2 : M T} {pos p : Pos}
theorem ixI_eq (n : Nat) (i : Int) : ixI n i = ixN n i := rfl
theorem kV_of {K : PySem.W.Frag} {S : Hp} {as : List Addr} {y : V} {t : T} {q : L2.Key} (r : Rep K S as y t) (h : keyOf t = some q) : y = kV q := by
  cases r <;> simp only [keyOf, reduceCtorEq] at h <;> (cases h; rfl)
noncomputable def rDget : R2 := fun x y H Q => ∃ a v, x = .ref a ∧ DGet H a y (some v) ∧ Q v H
theorem ix_dict (hu : X.A.units + 1 < cLine) : IxR X rDget := by
  intro value slice pins s σ H x y v u Q I rx ry ⟨a, w, ex, g, q⟩ hs
  subst ex
  cases rx
  refine tail_any (dict_typeIs I g) slot_dict_getitem.lookup (d_getItem hu I g ry fun w' s' I' r' => ⟨w, H, I', r', q⟩) hs
theorem ixT_item (hu : X.A.units + 1 < cLine) : IxR X (r2 X.K itemT) := by
  intro value slice pins s σ H x y v u Q I rx ry ⟨S, as, t, t2, w, sub, ht, hu2, hf, q⟩ hs
  cases ht with
  | @tup a vs ts h1 h2 =>
    cases hu2 <;> simp only [itemT, reduceCtorEq] at hf
    rename_i i
    obtain ⟨j, e1, e2⟩ := Option.bind_eq_some_iff.mp hf
    obtain ⟨z, hz, rz⟩ := h2.get e2
    refine ix_tup value slice pins s σ H _ _ v u Q I rx ry ⟨a, vs, i, z, rfl, rfl, sqT_mono sub h1, ?_, q z H S (Ext.refl sub) rz⟩ hs
    rw [ixI_eq, ← h2.length] at e1
    unfold atI; rw [e1]; exact hz
  | @lst a vs ts h1 h2 =>
    cases hu2 <;> simp only [itemT, reduceCtorEq] at hf
    rename_i i
    obtain ⟨j, e1, e2⟩ := Option.bind_eq_some_iff.mp hf
    obtain ⟨z, hz, rz⟩ := h2.get e2
    refine ix_list value slice pins s σ H _ _ v u Q I rx ry ⟨a, vs, i, z, rfl, rfl, sqL_mono sub h1, ?_, q z H S (Ext.refl sub) rz⟩ hs
    rw [ixI_eq, ← h2.length] at e1
    unfold atI; rw [e1]; exact hz
  | str z =>
    cases hu2 <;> simp only [itemT, reduceCtorEq] at hf
    rename_i i
    split at hf
    · rename_i hl
      obtain ⟨j, e1, e2⟩ := Option.bind_eq_some_iff.mp hf
      obtain ⟨cc, e3, e4⟩ := Option.map_eq_some_iff.mp e2
      subst e4
      refine ix_str value slice pins s σ H _ _ v u Q I rx ry ⟨z, i, cc, rfl, rfl, Nat.le_trans (Nat.le_of_lt hl) lim_line, ?_, q _ H S (Ext.refl sub) (.str _)⟩ hs
      rw [ixI_eq] at e1
      unfold atI; rw [e1]; exact e3
    · cases hf
  | @dic a kvs ts h1 h2 =>
    simp only [itemT] at hf
    obtain ⟨k, e1, e2⟩ := Option.bind_eq_some_iff.mp hf
    have ey := kV_of hu2 e1
    subst ey
    rcases h2.get k with ⟨z, t', a1, a2, a3⟩ | ⟨_, a2⟩
    · rw [e2] at a2; cases a2
      exact ix_dict hu value slice pins s σ H _ _ v u Q I rx ry ⟨a, z, rfl, .inl ⟨kvs, k, rd_mono sub h1, rfl, a1.symm⟩, q z H S (Ext.refl sub) a3⟩ hs
    · rw [e2] at a2; cases a2
  | _ => simp only [itemT, reduceCtorEq] at hf
theorem te_ix (hu : X.A.units + 1 < cLine) (ha : PE X a (tOf X.K B m1)) (hb : PE X b (tOf X.K B m2)) (hs : PlainIx b) : PE X (.Subscript a b pos) (tOf X.K B (mOp itemT m1 m2)) := te_of_op (pe_ix (ixT_item hu) ha hb hs)
theorem callT_len : CallT X (.builtin "len") lenT := by
  intro pins s σ H xs us Q I rs ⟨S, as, ts, w, sub, hr, hf, q⟩
  cases hr with
  | nil => simp only [lenT, reduceCtorEq] at hf
  | @cons x t xs' ts' h1 h2 =>
    cases h2 with
    | cons h3 h4 => simp only [lenT, reduceCtorEq] at hf
    | nil =>
      cases h1 with
      | tup g1 g2 => simp only [lenT] at hf; cases hf; exact call_len_seq pins s σ H _ us Q I rs ⟨_, _, rfl, .inr (sqT_mono sub g1), by rw [g2.length]; exact q _ H S (Ext.refl sub) (.int _)⟩
      | lst g1 g2 => simp only [lenT] at hf; cases hf; exact call_len_seq pins s σ H _ us Q I rs ⟨_, _, rfl, .inl (sqL_mono sub g1), by rw [g2.length]; exact q _ H S (Ext.refl sub) (.int _)⟩
      | str z =>
        simp only [lenT] at hf
        split at hf
        · rename_i hl; cases hf; exact call_len_str pins s σ H _ us Q I rs ⟨_, rfl, Nat.le_trans (Nat.le_of_lt hl) lim_line, q _ H S (Ext.refl sub) (.int _)⟩
        · cases hf
      | @dic a kvs ts g1 g2 =>
        simp only [lenT] at hf; cases hf
        obtain ⟨u, rfl, ru⟩ := rs.one
        cases ru
        exact d_len I (rd_mono sub g1) fun t s' I' => ⟨.int kvs.length, H, I', ⟨t, rfl⟩, by rw [g2.length]; exact q _ H S (Ext.refl sub) (.int _)⟩
      | _ => simp only [lenT, reduceCtorEq] at hf
theorem callT_tuple : CallT X (.type "tuple") tupleT := by
  intro pins s σ H xs us Q I rs ⟨S, as, ts, w, sub, hr, hf, q⟩
  cases hr with
  | nil => simp only [tupleT, reduceCtorEq] at hf
  | @cons x t xs' ts' h1 h2 =>
    cases h2 with
    | cons h3 h4 => simp only [tupleT, reduceCtorEq] at hf
    | nil =>
      cases h1 with
      | @tup a vs ts g1 g2 => simp only [tupleT] at hf; cases hf; exact call_tuple_of pins s σ H _ us Q I rs ⟨_, _, rfl, .inr ⟨sqT_mono sub g1, q _ H S (Ext.refl sub) (.tup g1 g2)⟩⟩
      | @lst a vs ts g1 g2 =>
        simp only [tupleT] at hf; cases hf
        refine call_tuple_of pins s σ H _ us Q I rs ⟨_, _, rfl, .inl ⟨sqL_mono sub g1, fun p hp => ?_⟩⟩
        have x := Ext.laid sub hp (.tup vs)
        exact q _ _ _ x (.tup (SqT.of upd_same) (g2.mono x.s nol))
      | _ => simp only [tupleT, reduceCtorEq] at hf
theorem RepK.put {K : PySem.W.Frag} {S : Hp} {as : List Addr} {k : L2.Key} {v : V} {t : T} (r : Rep K S as v t) : ∀ {vs : List (L2.Key × V)} {ts : List (L2.Key × T)}, RepK K S as vs ts → RepK K S as (putK vs k v) (dPut k t ts) := by
  intro vs ts h
  have any : ∀ {vs : List (L2.Key × V)} {ts : List (L2.Key × T)}, RepK K S as vs ts → (vs.any fun kv => decide (kv.1 = k)) = (ts.any fun p => decide (p.1 = k)) := by
    intro vs ts h
    induction vs generalizing ts with
    | nil => cases h; rfl
    | cons p r ih => cases h with | cons h1 h2 => rw [List.any_cons, List.any_cons, ih h2]
  have mp : ∀ {vs : List (L2.Key × V)} {ts : List (L2.Key × T)}, RepK K S as vs ts → RepK K S as (vs.map fun kv => if kv.1 = k then (kv.1, v) else kv) (ts.map fun p => if p.1 = k then (p.1, t) else p) := by
    intro vs ts h
    induction vs generalizing ts with
    | nil => cases h; exact .nil
    | cons p rr ih =>
      cases h with
      | @cons q v0 t0 _ _ h1 h2 =>
        rw [List.map_cons, List.map_cons]
        by_cases e : q = k
        · rw [if_pos e, if_pos e]; exact .cons r (ih h2)
        · rw [if_neg e, if_neg e]; exact .cons h1 (ih h2)
  have ap : ∀ {vs : List (L2.Key × V)} {ts : List (L2.Key × T)}, RepK K S as vs ts → RepK K S as (vs ++ [(k, v)]) (ts ++ [(k, t)]) := by
    intro vs ts h
    induction vs generalizing ts with
    | nil => cases h; exact .cons r .nil
    | cons p rr ih => cases h with | cons h1 h2 => exact .cons h1 (ih h2)
  unfold putK dPut
  rw [any h]
  split
  · exact mp h
  · exact ap h
end
end C
end
noncomputable section
set_option linter.all false
set_option maxRecDepth 100000
set_option maxHeartbeats 4000002
set_option autoImplicit false
namespace C
open PySem PySem.Spec PyProof.Rows L2
theorem mObjItem_inv {o k : M T} {s s' : Sta} {t : T} (h : mObjItem o k s = some (t, s')) : ∃ n s1 kt kvs q, o s = some (.obj n, s1) ∧ k s1 = some (kt, s') ∧ s'.sto[n]? = some (.dic kvs) ∧ keyOf kt = some q ∧ dGet q kvs = some t := by
  unfold mObjItem at h
  split at h
  · rename_i n s1 e1
    split at h
    · rename_i kt s2 e2
      split at h
      · rename_i kvs e3
        split at h
        · rename_i t' e4
          cases h
          obtain ⟨q, e5, e6⟩ := Option.bind_eq_some_iff.mp e4
          exact ⟨n, s1, kt, kvs, q, e1, e2, e3, e5, e6⟩
        · cases h
      · cases h
    · cases h
  · cases h
theorem mOwnLen_inv {i : Nat} {s s' : Sta} {t : T} (h : mOwnLen i s = some (t, s')) : s' = s ∧ ((∃ xs f, s.env[i]? = some (some (.lst xs, f)) ∧ t = .int xs.length) ∨ (∃ xs f, s.env[i]? = some (some (.dic xs, f)) ∧ t = .int xs.length)) := by
  unfold mOwnLen at h
  split at h
  · rename_i xs f e; cases h; exact ⟨rfl, .inl ⟨xs, f, e, rfl⟩⟩
  · rename_i xs f e; cases h; exact ⟨rfl, .inr ⟨xs, f, e, rfl⟩⟩
  · cases h
noncomputable section
variable {K : PySem.W.Frag} {B : Bas} {st : Sta} {σ : L2.St} {H S : Hp} {ps : List (V × T)} {as : List Addr}
theorem Rel.dictAt (r : Rel K B st σ H ps S as) {i : Nat} {kvs : List (L2.Key × T)} {f : Bool} (e : st.env[i]? = some (some (.dic kvs, f))) : ∃ p vs, σ[i]? = some (some (.ref p)) ∧ Rd H p (.dK vs) ∧ RepK K S as vs kvs := by
  obtain ⟨v, h1, h2, h3⟩ := r.slots i _ f e
  cases f with
  | false =>
    have h := h2 rfl
    cases h with
    | dic a b => exact ⟨_, _, h1, rd_mono r.sub a, b⟩
  | true =>
    obtain ⟨p, rfl, o⟩ := h3 rfl
    obtain ⟨vs, h, q⟩ := o.own
    exact ⟨p, vs, h1, .inl h, q⟩
end
noncomputable section
variable {X : Cx} {B : Bas} {a b c e o k d : Expr} {m mo mk md mv : M T} {pos p : Pos}
theorem te_objItem (hu : X.A.units + 1 < cLine) (ho : PE X o (tOf X.K B mo)) (hk : PE X k (tOf X.K B mk)) (hs : NoSl k) : PE X (.Subscript o k pos) (tOf X.K B (mObjItem mo mk)) := (pe_dget hu ho hk hs).imp fun σ H Q ⟨st, ps, S, as, R, t, st', e, q⟩ => by
  obtain ⟨n, s1, kt, kvs, qk, e1, e2, e3, e4, e5⟩ := mObjItem_inv e
  refine ⟨st, ps, S, as, R, _, s1, e1, fun v H1 S1 as1 R1 => ⟨s1, _, S1, as1, R1, kt, st', e2, fun u H2 S2 as2 R2 => ?_⟩⟩
  have t2 := R2.top2
  cases t2 with
  | @obj _ a ha =>
    obtain ⟨a', h1, h2, vs, h3, h4⟩ := R2.sto.at' n _ e3
    rw [ha] at h1; cases h1
    have ey := kV_of R2.top e4
    subst ey
    rcases h4.get qk with ⟨z, t', a1, a2, a3⟩ | ⟨_, a2⟩
    · rw [e5] at a2; cases a2
      exact ⟨a, z, rfl, .inl ⟨vs, qk, .inl h3, rfl, a1.symm⟩, q z H2 S2 as2 (R2.drop.drop.push a3)⟩
    · rw [e5] at a2; cases a2
theorem lstAt_inv {i : Nat} {s : Sta} (h : lstAt i s = true) : ∃ kvs f, s.env[i]? = some (some (.lst kvs, f)) := by
  unfold lstAt at h
  split at h
  · rename_i kvs f e; exact ⟨kvs, f, e⟩
  · cases h
theorem ts_objPut {pos' : Pos} (hu : X.A.units + 1 < cLine) (ho : PE X o (tOf X.K B mo)) (hk : PE X k (tOf X.K B mk)) (hv : PE X e (tOf X.K B mv)) (hs : swapsWith e (some (.Subscript o k pos')) pos.line X.env = pure false) :
    PS X (.Assign [.Subscript o k pos'] e pos) (sOf X.K B (sObjPut mo mk mv)) := (ps_dput hu ho hk hv hs).imp fun D σ H ⟨st, ps, S, as, R, fl, st', e, q⟩ => by
  obtain ⟨t, s1, n, s2, kt, s3, kvs, qk, e1, e2, e3, e4, e5, hl, rfl, rfl⟩ := sObjPut_inv e
  refine ⟨st, ps, S, as, R, t, s1, e1, fun v H1 S1 as1 R1 => ⟨s1, _, S1, as1, R1, _, s2, e2, fun x H2 S2 as2 R2 => ⟨s2, _, S2, as2, R2, kt, s3, e3, fun y H3 S3 as3 R3 => ?_⟩⟩⟩
  have t2 := R3.top2
  cases t2 with
  | @obj _ a ha =>
    obtain ⟨a', h1, h2, vs, h3, h4⟩ := R3.sto.at' n _ e4
    rw [ha] at h1; cases h1
    have ey := kV_of R3.top e5
    subst ey
    have tv : Rep X.K S3 as3 v t := R3.pend _ (List.mem_cons_of_mem _ (List.mem_cons_of_mem _ List.mem_cons_self))
    refine ⟨a, _, rfl, DPut.k h3 (by rw [h4.length]; exact Nat.lt_of_lt_of_le hl lim_line), q _ _ S3 as3 (R3.drop.drop.drop.objPut e4 ha ⟨_, upd_same, h4.put tv⟩)⟩
end
end C
end
noncomputable section
set_option linter.all false
set_option maxRecDepth 100000
set_option maxHeartbeats 4000002
set_option autoImplicit false
namespace C
open PySem PySem.Spec PyProof.Rows L2
theorem le1000 {ms : M (List T)} {n : Nat} (h : ∀ st ts st', ms st = some (ts, st') → ts.length ≤ n) (hn : n ≤ 1000) : ∀ st ts st', ms st = some (ts, st') → ts.length ≤ 1000 := fun st ts st' e => Nat.le_trans (h st ts st' e) hn
theorem sz_seq {m : M T} : ∀ st ts st', iSeq m st = some (ts, st') → ts.length ≤ sizeLine := fun st ts st' e => by
  unfold iSeq at e
  split at e
  · split at e
    · rename_i h; cases e; exact Nat.le_trans (Nat.le_of_lt h) lim_line
    · cases e
  · split at e
    · rename_i h; cases e; exact Nat.le_trans (Nat.le_of_lt h) lim_line
    · cases e
  · cases e
theorem sz_range {m : M T} : ∀ st ts st', iRange m st = some (ts, st') → ts.length ≤ sizeLine := fun st ts st' e => by
  obtain ⟨n, _, h, rfl⟩ := iRange_inv e
  unfold rangeT
  rw [List.length_map, List.length_range]
  refine Nat.le_trans ?_ lim_line
  show n.toNat ≤ 1000000
  omega
noncomputable def DefOk (P : Program) (w : World) (K : PySem.W.Frag) (mg : Str → Option Value) (base : Heap) (x : Str) (k : Nat) (ps : List Str) (F : Fn) : Prop :=
  ∃ f fd, FnOk P w K mg base CX0 k f fd ps (spF K ps.length F) ∧ Binds K fd ps [] ∧ PySem.W.keepIn K (.ref f) = true ∧ mg x = some (.ref f)
theorem DefOk.mono {P : Program} {w : World} {K : PySem.W.Frag} {mg : Str → Option Value} {base : Heap} {x : Str} {j k : Nat} {ps : List Str} {F : Fn} (d : DefOk P w K mg base x j ps F) (h : j ≤ k) : DefOk P w K mg base x k ps F := by
  obtain ⟨f, fd, h1, h2⟩ := d
  exact ⟨f, fd, h1.mono h, h2⟩
noncomputable section
variable {X : Cx} {B : Bas} {a b c e o k : Expr} {m m1 m2 : M T} {pos p : Pos} {es : List Expr} {ms : M (List T)} {F : Fn} {x : Str} {n : Nat} {pn : List Str}
theorem te_callD (D : DefOk X.prog X.w X.K X.mg X.base x n pn F) (hr : Room n X.A) (hg : Gl X x)
    (ha : PA X (e :: es) (aOf X.K B ms)) (hl : ∀ st ts st', ms st = some (ts, st') → ts.length = pn.length) (hdb : (x == ("__debug__" : Str)) = false := by decide)
    (he : starEach (e :: es) X.env = (false, eval e X.env) :: starEach es X.env := by rfl) (hpl : (backTo pos (starEach es X.env)).any (·.1) = false := by rfl) :
    PE X (.Call (.Name x p) (e :: es) [] pos) (tOf X.K B (mCall F ms)) := by
  obtain ⟨f, fd, h1, h2, h3, h4⟩ := D
  exact te_call h1 hr hg h4 h3 h2 ha hl hdb he hpl
theorem tf_lst (h : PA X es (aOf X.K B ms)) (hm : ∀ st ts st', ms st = some (ts, st') → ts.length ≤ 1000) : PE X (.List es pos) (fOf X.K B (mMap (fun l => some (.lst l)) ms)) :=
  (pe_lst h).imp fun σ H Q ⟨st, ps, S, as, R, t, st', e, q⟩ => by
    obtain ⟨ts, e1, e2⟩ := mMap_inv e
    cases e2
    refine ⟨st, ps, S, as, R, ts, st', e1, fun vs H1 S1 as1 R1 rs => ⟨?_, fun p hp => ?_⟩⟩
    · rw [rs.length]; exact Nat.le_of_lt (small1000 (hm _ _ _ e1))
    · obtain ⟨bD, sD, nD, no⟩ := R1.fresh hp
      exact q p _ S1 as1 (R1.poke bD sD nD no) ⟨⟨vs, upd_same, rs⟩, sD, nD, bD⟩ no
theorem Rel.listAt {K : PySem.W.Frag} {B : Bas} {st : Sta} {σ : L2.St} {H S : Hp} {ps : List (V × T)} {as : List Addr} (r : Rel K B st σ H ps S as) {i : Nat} {xs : List T} {f : Bool} (e : st.env[i]? = some (some (.lst xs, f))) : ∃ p vs, σ[i]? = some (some (.ref p)) ∧ SqL K H p vs ∧ Reps K S as vs xs := by
  obtain ⟨v, h1, h2, h3⟩ := r.slots i _ f e
  cases f with
  | false =>
    have h := h2 rfl
    cases h with
    | lst a b => exact ⟨_, _, h1, sqL_mono r.sub a, b⟩
  | true =>
    obtain ⟨p, rfl, o⟩ := h3 rfl
    obtain ⟨vs, h, q⟩ := o.own
    exact ⟨p, vs, h1, SqL.of h, q⟩
theorem ts_append (i : Nat) {st : Stmt} (h : PS X st (tDrop (tBM X.K "list" rAppend (tVar i) (tCons (tOf X.K B m) tNil)))) : PS X st (sOf X.K B (sAppend i m)) := h.imp fun D σ H ⟨st, ps, S, as, R, fl, st', e, q⟩ => by
  obtain ⟨hd, t, s1, xs, e1, e2, hl, rfl, rfl⟩ := sAppend_inv e
  obtain ⟨xs0, f0, e0⟩ := lstAt_inv hd
  obtain ⟨p0, vs0, s0, q0, _⟩ := R.listAt e0
  refine ⟨_, s0, .inl ⟨rfl, _, q0⟩, st, ps, S, as, R, t, s1, e1, fun v H1 S1 as1 R1 => ?_⟩
  obtain ⟨w, h1, _, h3⟩ := R1.slots i _ true e2
  rw [s0] at h1; cases h1
  obtain ⟨p', ep, ow⟩ := h3 rfl
  cases ep
  obtain ⟨vs, hH, h4⟩ := ow.own
  exact ⟨p0, vs, v, rfl, rfl, hH, by rw [h4.length]; exact Nat.lt_of_lt_of_le hl lim_line, q _ _ S1 as1 (R1.drop.turn e2 s0 ⟨_, upd_same, h4.append (.cons R1.top .nil)⟩)⟩
end
end C
end
noncomputable section
set_option linter.all false
set_option maxRecDepth 100000
set_option maxHeartbeats 4000002
set_option autoImplicit false
namespace C
open PySem PySem.Spec PyProof.Rows L2
noncomputable section
variable {X : Cx} {B : Bas} {a b c e o k : Expr} {m m1 m2 : M T} {pos p : Pos}
theorem strs_vals {K : PySem.W.Frag} {S : Hp} {as : List Addr} : ∀ {vs : List V} {ts : List T} {l : List Str}, Reps K S as vs ts → strsT ts = some l → vs = l.map V.str
  | _, _, l, .nil, h => by cases h; rfl
  | _, _, l, .cons (t := t) h1 h2, h => by
    cases h1 <;> simp only [strsT, reduceCtorEq] at h
    obtain ⟨l', e1, e2⟩ := Option.map_eq_some_iff.mp h
    subst e2
    rw [strs_vals h2 e1]; rfl
theorem Inv.lstAt {pins : List (Addr × Obj)} {σ : L2.St} {H : Hp} {s : Shared} {a : Addr} {xs : List V} (I : L2.Inv X pins σ H s) (h : SqL X.K H a xs) : a < s.heap.objs.size := by
  obtain ⟨its, _, ⟨o, n, h1, _⟩, _⟩ := I.list h
  exact Heap.lt_size h1
theorem strsAre_of : ∀ {l : List Str} {us : List Value}, Vals (l.map V.str) us → StrsAre us l
  | [], _, r => by cases r; exact .nil
  | x :: l, _, r => by
    rw [List.map_cons] at r
    cases r with
    | cons r1 r2 => obtain ⟨t, rfl⟩ := r1; exact .cons x t (strsAre_of r2)
theorem vals_strs : ∀ {l : List Str} {us : List Value}, StrsAre us l → Vals (l.map V.str) us
  | _, _, .nil => .nil
  | _, _, .cons x t h => .cons ⟨t, rfl⟩ (vals_strs h)
noncomputable abbrev leStr (a b : Str) : Prop := ¬ b.cps.toList < a.cps.toList
theorem leStr_trans {a b c : Str} (h1 : leStr a b) (h2 : leStr b c) : leStr a c := fun h => by
  have h3 : a.cps.toList ≤ b.cps.toList := List.not_lt.mp h1
  have h4 : b.cps.toList ≤ c.cps.toList := List.not_lt.mp h2
  exact List.not_lt.mpr (List.le_trans h3 h4) h
theorem leStr_anti {a b : Str} (h1 : leStr a b) (h2 : leStr b a) : a = b := by
  have h3 : a.cps.toList ≤ b.cps.toList := List.not_lt.mp h1
  have h4 : b.cps.toList ≤ a.cps.toList := List.not_lt.mp h2
  have h5 := List.le_antisymm h3 h4
  cases a; cases b
  simp at h5; subst h5; rfl
theorem rising_pair : ∀ (p : Str) (l : List Str), risingS p l = true → (p :: l).Pairwise leStr
  | p, [], _ => by simp
  | p, x :: r, h => by
    rw [risingS, Bool.and_eq_true] at h
    have ih := rising_pair x r h.2
    have hx : leStr p x := fun z => by
      have := h.1
      rw [ltCps_eq, decide_eq_true z] at this
      cases this
    refine List.pairwise_cons.mpr ⟨fun y hy => ?_, ih⟩
    rcases List.mem_cons.mp hy with rfl | hy -- here
    · exact hx
    · exact leStr_trans hx (List.rel_of_pairwise_cons ih hy)
theorem sorted_pair (l : List Str) (h : sortedS l = true) : l.Pairwise leStr := by
  cases l with
  | nil => exact .nil
  | cons x r => exact rising_pair x r h
theorem ins1_perm (x : Str) : ∀ l, (ins1 x l).Perm (x :: l)
  | [] => .refl _
  | y :: r => by
    rw [ins1]
    split
    · exact .refl _
    · exact ((ins1_perm x r).cons y).trans (.swap x y r)
theorem ins1_pair (x : Str) : ∀ l : List Str, l.Pairwise leStr → (ins1 x l).Pairwise leStr
  | [], _ => by simp [ins1]
  | y :: r, h => by
    rw [ins1]
    split
    · rename_i hx
      have hx := of_decide_eq_true hx
      have hxy : leStr x y := fun z => List.lt_irrefl _ (List.lt_trans hx z)
      refine List.pairwise_cons.mpr ⟨fun z hz => ?_, h⟩
      rcases List.mem_cons.mp hz with rfl | hz -- here
      · exact hxy
      · exact leStr_trans hxy (List.rel_of_pairwise_cons h hz)
    · rename_i hx
      have hx : leStr y x := fun z => hx (decide_eq_true z)
      refine List.pairwise_cons.mpr ⟨fun z hz => ?_, ins1_pair x r (List.pairwise_cons.mp h).2⟩
      rcases List.mem_cons.mp ((ins1_perm x r).mem_iff.mp hz) with rfl | hz
      · exact hx
      · exact List.rel_of_pairwise_cons h hz
theorem isort_fold : ∀ (l acc : List Str), acc.Pairwise leStr → (l.foldl (fun acc x => ins1 x acc) acc).Pairwise leStr ∧ (l.foldl (fun acc x => ins1 x acc) acc).Perm (l ++ acc)
  | [], acc, h => ⟨h, .refl _⟩
  | x :: l, acc, h => by
    obtain ⟨h1, h2⟩ := isort_fold l (ins1 x acc) (ins1_pair x acc h)
    exact ⟨h1, h2.trans (((ins1_perm x acc).append_left l).trans (List.perm_middle))⟩
theorem isort_pair (l : List Str) : (isort l).Pairwise leStr := (isort_fold l [] .nil).1
theorem isort_perm (l : List Str) : (isort l).Perm l := by
  have := (isort_fold l [] .nil).2
  rwa [List.append_nil] at this
theorem isort_eq {l l' : List Str} (h1 : sortedS l' = true) (h2 : l'.Perm l) : l' = isort l :=
  List.Perm.eq_of_pairwise (le := leStr) (fun _ _ _ _ => leStr_anti) (sorted_pair l' h1) (isort_pair l) (h2.trans (isort_perm l).symm)
theorem reps_strs {K : PySem.W.Frag} {S : Hp} {as : List Addr} : ∀ l : List Str, Reps K S as (l.map V.str) (l.map T.str)
  | [] => .nil
  | x :: l => .cons (.str x) (reps_strs l)
theorem sortedL_ok {pins : List (Addr × Obj)} {σ : L2.St} {H S : Hp} {s : Shared} {as : List Addr} {a : Addr} {l : List Str} {Q : VK} (I : L2.Inv X pins σ H s) (sub : Same S H) (g1 : SqL X.K H a (l.map V.str)) (h64 : l.length < 64)
    (q : ∀ v H' S', Ext S H S' H' → Rep X.K S' as v (.lst ((isort l).map .str)) → Q v H') : wpAny (model X.prog X.w) X.A (call (.builtin "sorted") [.ref a]) (EP X pins σ Q) X.xe s := by
  obtain ⟨its, r, p, hz⟩ := I.list g1
  refine sorted_strs p.isList (strsAre_of r) (by rw [← r.length, List.length_map]; exact h64) fun out ss' a1 a2 a3 => ?_
  have es := isort_eq a3 a2
  subst es
  obtain ⟨e, he⟩ := sortedAll_at s.heap its out
  have hl : (List.map V.str (isort l)).length ≤ sizeLine := by
    rw [List.length_map, (isort_perm l).length_eq]
    exact Nat.le_trans (Nat.le_of_lt h64) (by rw [sizeLine_eq]; decide)
  have hn : H (s.heap.objs.size + 1) = none := I.hok.fresh (Nat.le_succ _)
  have x := Ext.laid sub hn (.lst ((isort l).map V.str))
  refine ⟨.ref (s.heap.objs.size + 1), _, I.laid (a := s.heap.objs.size + 1) (o := .lst ((isort l).map V.str)) (h' := sortedAll s.heap its out) (t' := s.toks) (fun _ _ => sortedAll_old) (Nat.le_succ _) ⟨hl, out.toList, e, vals_strs a1, he⟩, rfl, q _ _ _ x (.lst (SqL.of upd_same) (reps_strs _))⟩
theorem callT_sortedL : CallR X (.builtin "sorted") (fun xs H Q => ∃ S as ts l, Same S H ∧ Reps X.K S as xs [.lst ts] ∧ ts.length < 64 ∧ strsT ts = some l ∧ ∀ v H' S', Ext S H S' H' → Rep X.K S' as v (.lst ((isort l).map .str)) → Q v H') := by
  intro pins s σ H xs us Q I rs ⟨S, as, ts, l, sub, hr, h64, e1, q⟩
  cases hr with
  | cons h1 h2 =>
    cases h2
    cases h1 with
    | @lst a vs _ g1 g2 =>
      have ev := strs_vals g2 e1
      subst ev
      obtain ⟨u, rfl, ru⟩ := rs.one
      cases ru
      have hl := g2.length
      rw [List.length_map] at hl
      exact sortedL_ok I sub (sqL_mono sub g1) (by omega) q
noncomputable def tyOf : T → Option Value
  | .non => some (.type "NoneType")
  | .bl _ => some (.type "bool")
  | .int _ => some (.type "int")
  | .str _ => some (.type "str")
  | .tup _ => some (.type "tuple")
  | .lst _ => some (.type "list")
  | .dic _ => some (.type "dict")
  | .obj _ => none
theorem isi_ok {pins : List (Addr × Obj)} {σ : L2.St} {H S : Hp} {s : Shared} {as : List Addr} {x : V} {u c : Value} {t : T} {ty : Value} {b : Bool} {Q : Value → Shared → Prop} {E : Value → Shared → Prop} (I : L2.Inv X pins σ H s) (sub : Same S H) (rx : RelV x u) (r : Rep X.K S as x t) (hty : tyOf t = some ty)
    (e : PySem.W.kitOne X.K ty c = some b) (h : ∀ tk, Q (.bool b) { s with toks := tk }) : wpAny (model X.prog X.w) X.A (call (.builtin "isinstance") [u, c]) Q E s := by
  cases r with
  | non => cases hty; exact isinst_ok I rx .non e h
  | bl y => cases hty; exact isinst_ok I rx (.bl y) e h
  | int y => cases hty; exact isinst_ok I rx (.int y) e h
  | str y => cases hty; exact isinst_ok I rx (.str y) e h
  | @tup a vs ts g1 g2 =>
    cases hty
    cases (show u = Value.ref a from rx)
    obtain ⟨its, _, ⟨o, h1, h2, _⟩, _⟩ := I.tuple (sqT_mono sub g1)
    exact PySem.W.kia_one PySem.W.kitx_tuple I.kIn ⟨o, h1, h2⟩ e (fun z => nomatch z) h
  | @lst a vs ts g1 g2 =>
    cases hty
    cases (show u = Value.ref a from rx)
    obtain ⟨its, _, ⟨o, n, h1, h2, _⟩, _⟩ := I.list (sqL_mono sub g1)
    exact PySem.W.kia_one PySem.W.kitx_list I.kIn ⟨o, h1, h2⟩ e (fun z => nomatch z) h
  | @dic a kvs ts g1 g2 =>
    cases hty
    cases (show u = Value.ref a from rx)
    obtain ⟨_, _, vs, _, o, es, ep, h1, h2, _⟩ := dk_rd I.hok (rd_mono sub g1)
    exact PySem.W.kia_one PySem.W.kitx_dict I.kIn ⟨o, h1, h2.1⟩ e (fun z => nomatch z) h
  | obj h => cases hty
noncomputable def isiT (f : Value → Bool) : List T → Option T
  | [t] => (tyOf t).map fun ty => .bl (f ty)
  | _ => none
theorem te_isi {cn : String} {f : Value → Bool} {pc : Pos} (hg : Gl X "isinstance") (hm : X.mg "isinstance" = none) (hg2 : Gl X (Str.ofString cn)) (hm2 : X.mg (Str.ofString cn) = none) (hv : bootBuiltins (Str.ofString cn) = some (.type cn))
    (hf : ∀ t ty, tyOf t = some ty → PySem.W.kitOne X.K ty (.type cn) = some (f ty)) (ha : PE X a (tOf X.K B m)) (hd : ((Str.ofString cn) == ("__debug__" : Str)) = false) (hn : (Str.ofString cn) ≠ "__name__")
    (he : starEach [a, .Name (Str.ofString cn) pc] X.env = (false, eval a X.env) :: starEach [.Name (Str.ofString cn) pc] X.env := by rfl) (he2 : starEach [.Name (Str.ofString cn) pc] X.env = (false, eval (.Name (Str.ofString cn) pc) X.env) :: starEach [] X.env := by rfl)
    (hpl : (backTo pos (starEach [.Name (Str.ofString cn) pc] X.env)).any (·.1) = false := by rfl) :
    PE X (.Call (.Name "isinstance" p) [a, .Name (Str.ofString cn) pc] [] pos) (tOf X.K B (mMap (isiT f) (mCons m mNil))) := by
  have hc : CallR X (.builtin "isinstance") (fun xs H Q => ∃ S as x t ty, xs = [x, .ty cn] ∧ Same S H ∧ Rep X.K S as x t ∧ tyOf t = some ty ∧ Q (.bl (f ty)) H) := by
    intro pins s σ H xs us Q I rs ⟨S, as, x, t, ty, ex, sub, r, hty, q⟩
    subst ex
    obtain ⟨u, w, rfl, r1, r2⟩ := rs.two
    cases r2
    exact isi_ok I sub r1 r hty (hf t ty hty) fun tk => ⟨.bl (f ty), H, I.tok _, rfl, q⟩
  have hnm : PE X (.Name (Str.ofString cn) pc) (tC (.ty cn)) := pe_bltn hg2 hm2 hv rfl hn hd
  refine (pe_callB hc hg hm PyProof.Rows.boot_isinstance (pa_cons ha (pa_cons hnm pa_nil he2) he) (by decide) (by decide) he hpl).imp fun σ H Q ⟨st, ps, S, as, R, t, st', e, q⟩ => ?_
  obtain ⟨ts, e1, e2⟩ := mMap_inv e
  obtain ⟨t1, s1, us, ea, en, rfl⟩ := mCons_inv e1
  cases en
  simp only [isiT] at e2
  obtain ⟨ty, e3, e4⟩ := Option.map_eq_some_iff.mp e2
  subst e4
  exact ⟨st, ps, S, as, R, t1, _, ea, fun v H1 S1 as1 R1 => ⟨S1, as1, v, t1, ty, rfl, R1.sub, R1.top, e3, q _ H1 S1 as1 (R1.drop.push (.bl _))⟩⟩
example (K : PySem.W.Frag) : PySem.W.kitOne K (.type "bool") (.type "int") = some true := by rfl
example (K : PySem.W.Frag) : PySem.W.kitOne K (.type "str") (.type "int") = some false := by rfl
end
end C
end
noncomputable section
set_option linter.all false
set_option maxRecDepth 100000
set_option maxHeartbeats 4000002
set_option autoImplicit false
namespace C
open PySem PySem.Spec PyProof.Rows L2
noncomputable section
variable {X : Cx} {B : Bas} {m : M T}
end
end C
end
noncomputable section
set_option linter.all false
set_option maxRecDepth 100000
set_option maxHeartbeats 4000002
set_option autoImplicit false
namespace C
open PySem PySem.Spec PyProof.Rows L2
theorem Rel.newObj {K : PySem.W.Frag} {B : Bas} {st : Sta} {σ : L2.St} {H S : Hp} {ps : List (V × T)} {as : List Addr} {p : Addr} {ob : HO} {so : SO} (r : Rel K B st σ H ps S as) (hp : H p = none) (h : SRep K S (as ++ [p]) (upd H p ob) p so) :
    Rel K B { st with sto := st.sto ++ [so] } σ (upd H p ob) ((.ref p, .obj st.sto.length) :: ps) S (as ++ [p]) := by
  obtain ⟨bD, sD, nD, no⟩ := r.fresh hp
  have mo : ∃ l, as ++ [p] = as ++ l := ⟨[p], rfl⟩
  have other : ∀ q, q ≠ p → H q = upd H p ob q := fun q n => (upd_ne n).symm
  refine Rel.push (st := { st with sto := st.sto ++ [so] }) (H := upd H p ob) (v := .ref p) (t := .obj st.sto.length) ⟨fun b u e => ?_, ⟨r.grow.same, ?_, fun q o a b c => ?_⟩, fun i t f e => ?_, r.apart, ⟨?_, ?_, fun n so2 e => ?_⟩, fun q hq => (r.pend q hq).mono (Same.refl _) mo, r.len⟩ (.obj ?_)
  · rw [upd_ne (fun z => by subst z; rw [sD] at e; cases e)]; exact r.sub _ _ e
  · obtain ⟨l, e⟩ := r.grow.more
    exact ⟨l ++ [p], by rw [e, List.append_assoc]⟩
  · obtain ⟨x, y, z⟩ := r.grow.keep q o a b c
    have n : q ≠ p := fun w => by subst w; rw [bD] at a; cases a
    refine ⟨by rw [upd_ne n]; exact x, y, fun m => ?_⟩
    rcases List.mem_append.mp m with m | m
    · exact z m
    · exact n (List.mem_singleton.mp m)
  · obtain ⟨v, h1, h2, h3⟩ := r.slots i t f e
    refine ⟨v, h1, fun z => (h2 z).mono (Same.refl _) mo, fun z => ?_⟩
    obtain ⟨q, rfl, o⟩ := h3 z
    have n : q ≠ p := fun w => by subst w; subst z; exact no i t e h1
    refine ⟨q, rfl, o.own.more (Same.refl _) mo (other q n), o.out, fun m => ?_, o.new⟩
    rcases List.mem_append.mp m with m | m
    · exact o.nas m
    · exact n (List.mem_singleton.mp m)
  · show (as ++ [p]).length = (st.sto ++ [so]).length
    rw [List.length_append, List.length_append, r.sto.len]; rfl
  · refine List.nodup_append.mpr ⟨r.sto.nd, by simp, fun a ha b hb => ?_⟩
    rw [List.mem_singleton.mp hb]
    intro z; subst z; exact nD ha
  · have e : (st.sto ++ [so])[n]? = some so2 := e
    by_cases hn : n < st.sto.length
    · rw [List.getElem?_append_left hn] at e
      obtain ⟨a, h1, h2, h3⟩ := r.sto.at' n so2 e
      have na : a ≠ p := fun z => by subst z; exact nD (List.mem_of_getElem? h1)
      refine ⟨a, get_app h1, h2, ?_⟩
      cases so2 with
      | dic ts => obtain ⟨vs, x, y⟩ := h3; exact ⟨vs, by rw [upd_ne na]; exact x, y.mono (Same.refl _) mo⟩
      | lst ts => obtain ⟨vs, x, y⟩ := h3; exact ⟨vs, by rw [upd_ne na]; exact x, y.mono (Same.refl _) mo⟩
      | ins _ _ => exact h3.elim
    · rw [List.getElem?_append_right (Nat.le_of_not_lt hn)] at e
      have hn0 : n - st.sto.length = 0 := by
        have := (List.getElem?_eq_some_iff.mp e).1
        simp at this; omega
      rw [hn0] at e; cases e
      have hne : n = as.length := by rw [r.sto.len]; omega
      subst hne
      exact ⟨p, by rw [List.getElem?_append_right (Nat.le_refl _), Nat.sub_self]; rfl, sD, h⟩
  · rw [← r.sto.len, List.getElem?_append_right (Nat.le_refl _), Nat.sub_self]; rfl
noncomputable def PN (X : Cx) (e : Expr) (N : L2.St → V → Prop) : Prop := PE X e (fun σ H Q => ∃ v, N σ v ∧ Q v H)
noncomputable def MN (K : PySem.W.Frag) (m : M T) (N : L2.St → V → Prop) : Prop := ∀ (B : Bas) (st : Sta) (σ : L2.St) (H : Hp) (ps : List (V × T)) (S : Hp) (as : List Addr) (t : T) (st' : Sta), Rel K B st σ H ps S as → m st = some (t, st') → st' = st ∧ ∃ v, N σ v ∧ Rep K S as v t
structure PM (X : Cx) (e : Expr) (m : M T) (N : L2.St → V → Prop) : Prop where
  p : PN X e N
  m : MN X.K m N
noncomputable section
variable {X : Cx} {B : Bas} {a b e e1 e2 : Expr} {m m1 m2 : M T} {N N1 N2 : L2.St → V → Prop} {pos p : Pos}
theorem pn_var (i : Nat) (h : PE X e (tVar i)) : PN X e (fun σ v => σ[i]? = some (some v)) := h
theorem pn_int {i : Int} {j : Nat} : PN X (.Constant (.int i) j pos) (fun _ v => v = .int i) := pe_int.imp fun σ H Q ⟨v, e, q⟩ => by subst e; exact q
theorem pn_bl {i : Bool} {j : Nat} : PN X (.Constant (.bool i) j pos) (fun _ v => v = .bl i) := pe_bl.imp fun σ H Q ⟨v, e, q⟩ => by subst e; exact q
theorem mn_var {K : PySem.W.Frag} (i : Nat) : MN K (mShr i) (fun σ v => σ[i]? = some (some v)) := fun B st σ H ps S as t st' R e => by
  unfold mShr at e
  split at e
  · rename_i t' e'
    cases e
    obtain ⟨v, h1, h2, _⟩ := R.slots i t false e'
    exact ⟨rfl, v, h1, h2 rfl⟩
  · cases e
theorem mn_int {K : PySem.W.Frag} {i : Int} : MN K (mPure (.int i)) (fun _ v => v = .int i) := fun B st σ H ps S as t st' R e => by cases e; exact ⟨rfl, _, rfl, .int i⟩
theorem mn_bl {K : PySem.W.Frag} {i : Bool} : MN K (mPure (.bl i)) (fun _ v => v = .bl i) := fun B st σ H ps S as t st' R e => by cases e; exact ⟨rfl, _, rfl, .bl i⟩
theorem pn_op {op : Operator} {f : T → T → Option T} {g : Int → Int → Int} {C : Int → Int → Prop} (ho : OpR X (binaryOp op) (rI C fun i j => .int (g i j))) (hf : ∀ t u w, f t u = some w → ∃ i j, t = .int i ∧ u = .int j ∧ C i j ∧ w = .int (g i j))
    (h1 : PM X a m1 N1) (h2 : PM X b m2 N2) : PM X (.BinOp a op b pos) (mOp f m1 m2) (fun σ v => ∃ i j, N1 σ (.int i) ∧ N2 σ (.int j) ∧ C i j ∧ v = .int (g i j)) where
  p := (pe_op ho h1.p h2.p).imp fun σ H Q ⟨v, ⟨i, j, n1, n2, c, ev⟩, q⟩ => by subst ev; exact ⟨_, n1, _, n2, i, j, rfl, rfl, c, q⟩
  m := fun B st σ H ps S as t st' R e => by
    obtain ⟨t1, s1, t2, e1, e2, e3⟩ := mOp_inv e
    obtain ⟨rfl, v1, n1, r1⟩ := h1.m B st σ H ps S as t1 s1 R e1
    obtain ⟨rfl, v2, n2, r2⟩ := h2.m B _ σ H ps S as t2 _ R e2
    obtain ⟨i, j, rfl, rfl, c, rfl⟩ := hf _ _ _ e3
    cases r1; cases r2
    exact ⟨rfl, _, ⟨i, j, n1, n2, c, rfl⟩, .int _⟩
theorem pn_add (h1 : PM X a m1 N1) (h2 : PM X b m2 N2) : PM X (.BinOp a .Add b pos) (mOp addI m1 m2) (fun σ v => ∃ i j, N1 σ (.int i) ∧ N2 σ (.int j) ∧ True ∧ v = .int (i + j)) :=
  pn_op (C := fun _ _ => True) (fun pins s σ H x y v u Q I rx ry ⟨i, j, h1, h2, _, q⟩ => op_add pins s σ H x y v u Q I rx ry ⟨i, j, h1, h2, q⟩) (fun t u w h => by
    cases t <;> cases u <;> simp only [addI, reduceCtorEq] at h
    cases h; exact ⟨_, _, rfl, rfl, trivial, rfl⟩) h1 h2
theorem pn_mod (h1 : PM X a m1 N1) (h2 : PM X b m2 N2) : PM X (.BinOp a .Mod b pos) (mOp modT m1 m2) (fun σ v => ∃ i j, N1 σ (.int i) ∧ N2 σ (.int j) ∧ 0 < j ∧ v = .int (i % j)) :=
  pn_op op_mod (fun t u w h => by
    cases t <;> cases u <;> simp only [modT, reduceCtorEq] at h
    split at h
    · cases h; exact ⟨_, _, rfl, rfl, by assumption, rfl⟩
    · cases h) h1 h2
theorem te_disp2 {k1 k2 : Str} {j1 j2 : Nat} {p1 p2 : Pos} (h1 : PM X e1 m1 N1) (h2 : PM X e2 m2 N2) (hk : k1 ≠ k2) :
    PE X (.Dict [some (.Constant (.str k1) j1 p1), some (.Constant (.str k2) j2 p2)] [e1, e2] pos) (tOf X.K B (mNewObj [.inr k1, .inr k2] (mCons m1 (mCons m2 mNil)))) :=
  (pe_disp (pps_cons pe_str h1.p (pps_cons pe_str h2.p pps_nil)) rfl rfl (by simp) (by simp)).imp fun σ H Q ⟨st, ps, S, as, R, t, st', e, q⟩ => by
    intro p hp
    unfold mNewObj at e
    split at e
    · rename_i ts s1 ea
      cases e
      obtain ⟨t1, s2, us, e1, er, rfl⟩ := mCons_inv ea
      obtain ⟨t2, s3, us2, e2, er2, rfl⟩ := mCons_inv er
      cases er2
      obtain ⟨rfl, v1, n1, r1⟩ := h1.m B st σ H ps S as t1 s2 R e1
      obtain ⟨rfl, v2, n2, r2⟩ := h2.m B _ σ H ps S as t2 _ R e2
      refine ⟨v1, n1, v2, n2, upd_same, [(.inr k1, v1), (.inr k2, v2)], rfl, by simp, ?_⟩
      have em : mergeK [] [((.inr k1 : L2.Key), v1), (.inr k2, v2)] = [(.inr k1, v1), (.inr k2, v2)] := by
        have hne : ¬ ((.inr k1 : L2.Key) = .inr k2) := fun z => hk (Sum.inr.inj z)
        simp [mergeK, putK, hne]
      rw [em, upd_upd]
      exact q _ _ S (as ++ [p]) (R.newObj hp ⟨_, upd_same, .cons (r1.mono (Same.refl _) ⟨[p], rfl⟩) (.cons (r2.mono (Same.refl _) ⟨[p], rfl⟩) .nil)⟩)
    · cases e
end
end C
end
noncomputable section
set_option linter.all false
set_option autoImplicit false
namespace C
open PySem PySem.Spec PyProof.Rows L2
inductive StrEs : List Expr → List Str → Prop where
  | nil : StrEs [] []
  | cons {x : Str} {k : Nat} {q : Pos} {es : List Expr} {xs : List Str} : StrEs es xs → StrEs (.Constant (.str x) k q :: es) (x :: xs)
theorem ta_strs {X : Cx} {B : Bas} : ∀ {es : List Expr} {xs : List Str}, StrEs es xs → PA X es (aOf X.K B (mStrs xs))
  | _, _, .nil => ta_nil
  | _, _, .cons h => ta_cons te_str (ta_strs h)
theorem len_strs : ∀ (xs : List Str) (st : Sta) (ts : List T) (st' : Sta), mStrs xs st = some (ts, st') → ts.length ≤ xs.length
  | [], st, ts, st', e => len_nil st ts st' e
  | _ :: xs, st, ts, st', e => len_cons (len_strs xs) st ts st' e
noncomputable section
variable {X : Cx} {B : Bas} {a b c e o k : Expr} {m m1 m2 : M T} {pos p p2 : Pos}
theorem isStr_eq (l : List T) : isStr l = isiT (fun ty => ty == .type "str") l := by
  match l with
  | [] => rfl
  | [t] => cases t <;> rfl
  | x :: y :: r => cases x <;> rfl
theorem boot_str' : bootBuiltins "str" = some (.type "str") := by decide +kernel
theorem te_ownLen (i : Nat) (hm : X.mg "len" = none) {es : Expr} (hg : Gl X "len") (h : PE X es (tVar i)) (he : starEach [es] X.env = (false, eval es X.env) :: starEach [] X.env := by rfl) (hpl : (backTo pos (starEach [] X.env)).any (·.1) = false := by rfl) :
    PE X (.Call (.Name "len" p) [es] [] pos) (tOf X.K B (mOwnLen i)) := by
  have hc : CallR X (.builtin "len") (fun xs H Q => ∃ q, xs = [.ref q] ∧ ((∃ ys, SqL X.K H q ys ∧ Q (.int ys.length) H) ∨ (∃ kvs, Rd H q (.dK kvs) ∧ Q (.int kvs.length) H))) := by
    intro pins s σ H xs us Q I rs ⟨q, ex, h⟩
    rcases h with ⟨ys, h1, h2⟩ | ⟨kvs, h1, h2⟩
    · exact call_len_seq pins s σ H xs us Q I rs ⟨q, ys, ex, .inl h1, h2⟩
    · subst ex
      obtain ⟨u, rfl, ru⟩ := rs.one
      cases ru
      exact d_len I h1 fun t s' I' => ⟨.int kvs.length, H, I', ⟨t, rfl⟩, h2⟩
  refine (pe_callB hc hg hm PySem.boot_len (pa_cons h pa_nil he) (by decide) (by decide) he hpl).imp fun σ H Q ⟨st, ps, S, as, R, t, st', e, q⟩ => ?_
  obtain ⟨rfl, h⟩ := mOwnLen_inv e
  rcases h with ⟨xs, f, e1, rfl⟩ | ⟨xs, f, e1, rfl⟩
  · obtain ⟨p0, vs, s0, h1, h2⟩ := R.listAt e1
    exact ⟨_, s0, p0, rfl, .inl ⟨vs, h1, by rw [h2.length]; exact q _ H S as (R.push (.int _))⟩⟩
  · obtain ⟨p0, vs, s0, h1, h2⟩ := R.dictAt e1
    exact ⟨_, s0, p0, rfl, .inr ⟨vs, h1, by rw [h2.length]; exact q _ H S as (R.push (.int _))⟩⟩
end
end C
end
noncomputable section
set_option linter.all false
set_option autoImplicit false
namespace C
open PySem
mutual
theorem dat_lay : ∀ (t : T) {d : PyData}, dat t = some d → d.canLay0 = true
  | .non, _, h => by simp only [dat] at h; cases h; simp only [PyData.canLay0]
  | .bl b, _, h => by simp only [dat] at h; cases h; simp only [PyData.canLay0]
  | .int i, _, h => by simp only [dat] at h; cases h; simp only [PyData.canLay0]
  | .str x, _, h => by
    simp only [dat] at h
    split at h
    · rename_i hx; cases h; exact hx
    · cases h
  | .tup xs, _, h => by
    simp only [dat] at h
    obtain ⟨l, e1, e2⟩ := Option.map_eq_some_iff.mp h
    subst e2
    simp only [PyData.canLay0]
    exact dats_lay xs e1
  | .lst xs, _, h => by
    simp only [dat] at h
    obtain ⟨l, e1, e2⟩ := Option.map_eq_some_iff.mp h
    subst e2
    simp only [PyData.canLay0]
    exact dats_lay xs e1
  | .dic _, _, h => by simp only [dat] at h; cases h
  | .obj _, _, h => by simp only [dat] at h; cases h
theorem dats_lay : ∀ (ts : List T) {l : List PyData}, dats ts = some l → PyData.canLayAll0 l = true
  | [], _, h => by simp only [dats] at h; cases h; simp only [PyData.canLayAll0]
  | x :: r, _, h => by
    simp only [dats] at h
    split at h
    · rename_i a ea
      obtain ⟨l, e1, e2⟩ := Option.map_eq_some_iff.mp h
      subst e2
      simp only [PyData.canLayAll0]
      rw [dat_lay x ea, dats_lay r e1]; rfl
    · cases h
end
theorem dats_cons {x : T} {r : List T} {l : List PyData} (h : dats (x :: r) = some l) : ∃ a l', dat x = some a ∧ dats r = some l' ∧ l = a :: l' := by
  simp only [dats] at h
  split at h
  · rename_i a ea
    obtain ⟨l, e1, e2⟩ := Option.map_eq_some_iff.mp h
    exact ⟨a, l, ea, e1, e2.symm⟩
  · cases h
theorem eqD_inv {t u : T} {b : Bool} (h : eqD t u = some b) : ∃ x y, dat t = some x ∧ dat u = some y ∧ x.depth ≤ 40 ∧ b = PyData.eqv x y := by
  unfold eqD at h
  split at h
  · rename_i x ex
    split at h
    · rename_i y ey
      split at h
      · rename_i hd; cases h; exact ⟨x, y, ex, ey, hd, rfl⟩
      · cases h
    · cases h
  · cases h
theorem eqT_inv {t u : T} {b : Bool} (h : eqT t u = some b) : (∃ x y, t = .dic x ∧ u = .dic y ∧ ((x.length = y.length ∧ eqKs x y = some b) ∨ (x.length ≠ y.length ∧ b = false))) ∨ eqD t u = some b := by
  unfold eqT at h
  split at h
  · split at h
    · rename_i hl; exact .inl ⟨_, _, rfl, rfl, .inl ⟨hl, h⟩⟩
    · rename_i hl; cases h; exact .inl ⟨_, _, rfl, rfl, .inr ⟨hl, rfl⟩⟩
  · exact .inr h
end C
end
noncomputable section
set_option linter.all false
set_option maxRecDepth 100000
set_option maxHeartbeats 4000002
set_option autoImplicit false
namespace C
open PySem PySem.Spec PyProof.Rows L2
noncomputable section
variable {X : Cx} {pins : List (Addr × Obj)} {σ : L2.St} {H S : Hp} {s : Shared} {as : List Addr}
mutual
theorem Rep.reads (I : L2.Inv X pins σ H s) (sub : Same S H) : ∀ {v : V} {t : T}, Rep X.K S as v t → ∀ {d : PyData} {u : Value}, dat t = some d → RelV v u → ∃ bs, Reads s.heap u d bs
  | _, _, .non, _, _, e, r => by simp only [dat] at e; cases e; cases r; exact ⟨_, .none⟩
  | _, _, .bl b, _, _, e, r => by simp only [dat] at e; cases e; cases r; exact ⟨_, .bool b⟩
  | _, _, .int i, _, _, e, r => by simp only [dat] at e; cases e; obtain ⟨t, rfl⟩ := r; exact ⟨_, .int i t⟩
  | _, _, .str x, _, _, e, r => by
    simp only [dat] at e
    split at e
    · cases e; obtain ⟨t, rfl⟩ := r; exact ⟨_, .str x t⟩
    · cases e
  | _, _, .tup h q, _, _, e, r => by
    simp only [dat] at e
    obtain ⟨l, e1, e2⟩ := Option.map_eq_some_iff.mp e
    subst e2
    cases r
    obtain ⟨its, rv, ⟨o, h1, h2, n, h3⟩, _⟩ := I.tuple (sqT_mono sub h)
    obtain ⟨bs, rb⟩ := Reps.reads I sub q e1 rv
    exact ⟨_, .tuple h1 h2 h3 rb⟩
  | _, _, .lst h q, _, _, e, r => by
    simp only [dat] at e
    obtain ⟨l, e1, e2⟩ := Option.map_eq_some_iff.mp e
    subst e2
    cases r
    obtain ⟨its, rv, ⟨o, n, h1, h2, _, h3⟩, _⟩ := I.list (sqL_mono sub h)
    obtain ⟨bs, rb⟩ := Reps.reads I sub q e1 rv
    exact ⟨_, .list h1 h2 h3 rb⟩
  | _, _, .dic _ _, _, _, e, _ => by simp only [dat] at e; cases e
  | _, _, .obj _, _, _, e, _ => by simp only [dat] at e; cases e
theorem Reps.reads (I : L2.Inv X pins σ H s) (sub : Same S H) : ∀ {vs : List V} {ts : List T}, Reps X.K S as vs ts → ∀ {ds : List PyData} {us : List Value}, dats ts = some ds → Vals vs us → ∃ bs, ReadsAll s.heap us ds bs
  | _, _, .nil, _, _, e, r => by simp only [dats] at e; cases e; cases r; exact ⟨_, .nil⟩
  | _, _, .cons h q, _, _, e, r => by
    obtain ⟨a, l, e1, e2, e3⟩ := dats_cons e
    subst e3
    cases r with
    | cons r1 r2 =>
      obtain ⟨b1, x1⟩ := Rep.reads I sub h e1 r1
      obtain ⟨b2, x2⟩ := Reps.reads I sub q e2 r2
      exact ⟨_, .cons x1 x2⟩
end
theorem eqD_at (I : L2.Inv X pins σ H s) (sub : Same S H) {x y : V} {t u : T} {v w : Value} {b : Bool} {A : Around} (hx : Rep X.K S as x t) (hy : Rep X.K S as y u) (rx : RelV x v) (ry : RelV y w) (e : eqD t u = some b) (hu : A.units + 40 < cLine) : SeqAt.EqAt A s v w b := by
  obtain ⟨dx, dy, e1, e2, hd, rfl⟩ := eqD_inv e
  obtain ⟨b1, x1⟩ := hx.reads I sub e1 rx
  obtain ⟨b2, x2⟩ := hy.reads I sub e2 ry
  exact SeqAt.eqAt_reads dx dy A s v w b1 b2 x1 x2 (dat_lay _ e1) (dat_lay _ e2) (by have := Nat.min_le_left dx.depth dy.depth; omega)
theorem keqHits (I : L2.Inv X pins σ H s) (sub : Same S H) {A : Around} (hu : A.units + 40 < cLine) {kb : List (L2.Key × V)} {ub : List (L2.Key × T)} {wb : List (L2.Key × Value)} (rb : RepK X.K S as kb ub) (vb : KV kb wb) :
    ∀ {ka : List (L2.Key × V)} {ua : List (L2.Key × T)} {wa : List (L2.Key × Value)} {r : Bool}, RepK X.K S as ka ua → KV ka wa → eqKs ua ub = some r → PySem.W.KeqHits A s wb wa r
  | _, _, _, _, .nil, va, e => by
    simp only [eqKs] at e; cases e
    cases va
    exact .nil
  | _, _, _, _, .cons (k := k) h q, va, e => by
    simp only [eqKs] at e
    cases va with
    | @cons _ p2 _ _ hp hr =>
      obtain ⟨pk, pv⟩ := p2
      obtain ⟨ek, rv⟩ := hp
      dsimp only at ek rv
      subst ek
      rcases rb.get k with ⟨z, t', a1, a2, a3⟩ | ⟨a1, a2⟩
      · rw [a2] at e
        dsimp only at e
        have rel := KV.val vb k
        rw [a1] at rel
        obtain ⟨w', hw, rw'⟩ := RelO.some_of rel
        split at e
        · rename_i eb he
          obtain ⟨b', e1, e2⟩ := Option.map_eq_some_iff.mp e
          subst e2
          exact .hit hw (eqD_at I sub h a3 rv rw' he hu) (keqHits I sub hu rb vb q hr e1)
        · cases e
      · rw [a2] at e
        cases e
        have rel := KV.val vb k
        rw [a1] at rel
        exact .miss (RelO.none_of rel)
end
noncomputable section
variable {X : Cx}
theorem opT_eqGen {op : CmpOp} {neg : Bool} (hop : (op = .Eq ∧ neg = false) ∨ (op = .NotEq ∧ neg = true)) {g : T → T → Option T} (hg : ∀ t u w, g t u = some w → ∃ b, eqT t u = some b ∧ w = .bl (xor neg b)) (hu : X.A.units + 64 < cLine) : OpT X (compareOp op) g := by
  intro pins s σ H x y v u Q I rx ry ⟨S, as, t, t2, w, sub, ht, hu2, hf, q⟩
  obtain ⟨b, e, rfl⟩ := hg _ _ _ hf
  have fin : EP X pins σ Q (.bool (xor neg b)) s := ⟨.bl (xor neg b), H, I, rfl, q _ H S (Ext.refl sub) (.bl _)⟩
  rcases eqT_inv e with ⟨xs, ys, rfl, rfl, hd⟩ | he
  · cases ht with
    | @dic a kvs _ g1 g2 =>
      cases hu2 with
      | @dic a' kvs' _ k1 k2 =>
        cases rx
        cases ry
        obtain ⟨z, hs, vs, rel, dd⟩ := dk_rd I.hok (rd_mono sub g1)
        obtain ⟨z', hs', vs', rel', dd'⟩ := dk_rd I.hok (rd_mono sub k1)
        have l1 : vs.length = xs.length := by rw [← rel.length]; exact g2.length
        have l2 : vs'.length = ys.length := by rw [← rel'.length]; exact k2.length
        have hu1 : X.A.in1.units + 40 < cLine := by show X.A.units + 1 + 40 < cLine; omega
        rcases hd with ⟨hl, eb⟩ | ⟨hl, rfl⟩
        · have hits : vs.length = vs'.length → PySem.W.KeqHits X.A.in1 s vs' vs b := fun _ => keqHits I sub hu1 k2 rel' g2 rel eb
          have el : (vs.length == vs'.length) = true := by rw [l1, l2, hl]; exact beq_self_eq_true _
          rcases hop with ⟨rfl, rfl⟩ | ⟨rfl, rfl⟩
          · refine PySem.W.keq_eq hs hs' dd dd' (by omega) hits ?_
            rw [el]; simpa using fin
          · refine PySem.W.keq_ne hs hs' dd dd' (by omega) hits ?_
            rw [el]; simpa using fin
        · have hits : vs.length = vs'.length → PySem.W.KeqHits X.A.in1 s vs' vs true := fun h => absurd (by rw [← l1, ← l2]; exact h) hl
          have el : (vs.length == vs'.length) = false := by rw [l1, l2]; exact beq_eq_false_iff_ne.mpr hl
          rcases hop with ⟨rfl, rfl⟩ | ⟨rfl, rfl⟩
          · refine PySem.W.keq_eq hs hs' dd dd' (by omega) hits ?_
            rw [el]; simpa using fin
          · refine PySem.W.keq_ne hs hs' dd dd' (by omega) hits ?_
            rw [el]; simpa using fin
  · obtain ⟨dx, dy, e1, e2, hd, rfl⟩ := eqD_inv he
    obtain ⟨b1, x1⟩ := ht.reads I sub e1 rx
    obtain ⟨b2, x2⟩ := hu2.reads I sub e2 ry
    have hm : X.A.units + min dx.depth dy.depth < cLine := by have := Nat.min_le_left dx.depth dy.depth; omega
    rcases hop with ⟨rfl, rfl⟩ | ⟨rfl, rfl⟩
    · exact SeqAt.compareEq_reads x1 x2 (dat_lay _ e1) (dat_lay _ e2) hm (by simpa using fin)
    · exact SeqAt.compareNe_reads x1 x2 (dat_lay _ e1) (dat_lay _ e2) hm (by simpa using fin)
theorem opT_eq (hu : X.A.units + 64 < cLine) : OpT X (compareOp .Eq) eqO := opT_eqGen (.inl ⟨rfl, rfl⟩) (fun t u w h => by
  unfold eqO at h
  split at h
  · rename_i b e; cases h; exact ⟨b, e, by simp⟩
  · cases h) hu
theorem opT_ne (hu : X.A.units + 64 < cLine) : OpT X (compareOp .NotEq) neO := opT_eqGen (.inr ⟨rfl, rfl⟩) (fun t u w h => by
  unfold neO at h
  split at h
  · rename_i b e; cases h; exact ⟨b, e, by simp⟩
  · cases h) hu
open Classical in
noncomputable def eqBy (h : Heap) (dx : PyData) (y : Value) : Bool := if e : ∃ d bs, Reads h y d bs ∧ d.canLay0 = true then PyData.eqv (Classical.choose e) dx else false
theorem eqBy_eq {h : Heap} {dx d : PyData} {y : Value} {bs : List Addr} (r : Reads h y d bs) (l : d.canLay0 = true) : eqBy h dx y = PyData.eqv d dx := by
  have e : ∃ d bs, Reads h y d bs ∧ d.canLay0 = true := ⟨d, bs, r, l⟩
  unfold eqBy
  rw [dif_pos e]
  obtain ⟨bs', r', l'⟩ := Classical.choose_spec e
  rw [SeqAt.Reads.unique _ _ _ _ _ l' r' r]
theorem inL_at {pins : List (Addr × Obj)} {σ : L2.St} {H S : Hp} {s : Shared} {as : List Addr} {A : Around} (I : L2.Inv X pins σ H s) (sub : Same S H) (hu : A.units + 40 < cLine) {x : V} {t : T} {v : Value} {dx : PyData} (hx : Rep X.K S as x t) (rx : RelV x v) (ex : dat t = some dx) :
    ∀ {vs : List V} {ts : List T} {us : List Value} {b : Bool}, Reps X.K S as vs ts → Vals vs us → inL t ts = some b → (∀ y ∈ us, SeqAt.EqAt A s y v (eqBy s.heap dx y)) ∧ us.any (eqBy s.heap dx) = b
  | _, _, _, _, .nil, r, e => by simp only [inL] at e; cases e; cases r; exact ⟨fun y h => (nomatch h), rfl⟩
  | _, _, _, _, .cons h q, r, e => by
    simp only [inL] at e
    cases r with
    | @cons _ u1 _ us1 r1 r2 =>
      split at e
      · rename_i eb he
        obtain ⟨b', e1, e2⟩ := Option.map_eq_some_iff.mp e
        subst e2
        obtain ⟨i1, i2⟩ := inL_at I sub hu hx rx ex q r2 e1
        obtain ⟨dy, dx', f1, f2, hd, rfl⟩ := eqD_inv he
        rw [ex] at f2; cases f2
        obtain ⟨b1, x1⟩ := h.reads I sub f1 r1
        have hb := eqBy_eq (dx := dx) x1 (dat_lay _ f1)
        refine ⟨fun y hy => ?_, by rw [List.any_cons, i2, hb]⟩
        rcases List.mem_cons.mp hy with rfl | hy -- here
        · rw [hb]; exact eqD_at I sub h hx r1 rx he hu
        · exact i1 y hy
      · cases e
theorem inT_inv {t u w : T} (h : inT t u = some w) : (∃ ys b, (u = .tup ys ∨ u = .lst ys) ∧ inL t ys = some b ∧ (dat t).isSome = true ∧ w = .bl b) ∨ (∃ kvs q, u = .dic kvs ∧ keyOf t = some q ∧ w = .bl (dGet q kvs).isSome) := by
  unfold inT at h
  split at h
  · obtain ⟨q, e1, e2⟩ := Option.map_eq_some_iff.mp h
    exact .inr ⟨_, q, rfl, e1, e2.symm⟩
  · split at h
    · rename_i hd
      split at h
      · obtain ⟨b, e1, e2⟩ := Option.map_eq_some_iff.mp h; exact .inl ⟨_, b, .inl rfl, e1, hd, e2.symm⟩
      · obtain ⟨b, e1, e2⟩ := Option.map_eq_some_iff.mp h; exact .inl ⟨_, b, .inr rfl, e1, hd, e2.symm⟩
      · cases h
    · cases h
theorem opT_inGen {op : CmpOp} {neg : Bool} (hop : (op = .In ∧ neg = false) ∨ (op = .NotIn ∧ neg = true)) {g : T → T → Option T} (hg : ∀ t u w, g t u = some w → ∃ w', inT t u = some w' ∧ ∃ b, w' = .bl b ∧ w = .bl (xor neg b)) (hu : X.A.units + 64 < cLine) : OpT X (compareOp op) g := by
  intro pins s σ H x y v u Q I rx ry ⟨S, as, t, t2, w, sub, ht, hu2, hf, q⟩
  obtain ⟨w', ei, b0, rfl, rfl⟩ := hg _ _ _ hf
  rcases inT_inv ei with ⟨ys, b, hy, e, hdt, eb⟩ | ⟨kvs, qk, rfl, ek, eb⟩
  · cases eb
    obtain ⟨dx, ex⟩ := Option.isSome_iff_exists.mp hdt
    have fin : EP X pins σ Q (.bool (xor neg b0)) s := ⟨.bl (xor neg b0), H, I, rfl, q _ H S (Ext.refl sub) (.bl _)⟩
    have hu1 : X.A.in1.units + 40 < cLine := by show X.A.units + 1 + 40 < cLine; omega
    rcases hy with rfl | rfl
    · cases hu2 with
      | @tup a vs _ g1 g2 =>
        cases ry
        obtain ⟨its, r, p, hz⟩ := I.tuple (sqT_mono sub g1)
        obtain ⟨i1, i2⟩ := inL_at I sub hu1 ht rx ex g2 r e
        have he : ∀ y, y ∈ its.toArray → SeqAt.EqAt X.A.in1 s y v (eqBy s.heap dx y) := fun y hy => i1 y (by simpa using hy)
        have ha : its.toArray.any (eqBy s.heap dx) = b0 := by rw [← i2]; simp
        rcases hop with ⟨rfl, rfl⟩ | ⟨rfl, rfl⟩
        · exact SeqAt.in_tupleAt _ (show s.heap.IsTuple a its.toArray from p) he (by rw [ha]; simpa using fin)
        · exact SeqAt.notIn_tupleAt _ (show s.heap.IsTuple a its.toArray from p) he (by rw [ha]; simpa using fin)
    · cases hu2 with
      | @lst a vs _ g1 g2 =>
        cases ry
        obtain ⟨its, r, p, hz⟩ := I.list (sqL_mono sub g1)
        obtain ⟨i1, i2⟩ := inL_at I sub hu1 ht rx ex g2 r e
        have he : ∀ y, y ∈ its.toArray → SeqAt.EqAt X.A.in1 s y v (eqBy s.heap dx y) := fun y hy => i1 y (by simpa using hy)
        have ha : its.toArray.any (eqBy s.heap dx) = b0 := by rw [← i2]; simp
        rcases hop with ⟨rfl, rfl⟩ | ⟨rfl, rfl⟩
        · exact SeqAt.in_listAt _ p.isList he (by rw [ha]; simpa using fin)
        · exact SeqAt.notIn_listAt _ p.isList he (by rw [ha]; simpa using fin)
  · cases eb
    cases hu2 with
    | @dic a kv _ g1 g2 =>
      cases ry
      have ey := kV_of ht ek
      subst ey
      have hs : (dGet qk kvs).isSome = (valV kv qk).isSome := by
        rcases g2.get qk with ⟨z, t', a1, a2, _⟩ | ⟨a1, a2⟩
        · simp [a1, a2]
        · simp [a1, a2]
      rw [hs] at q
      have gd : DGet H a (kV qk) (valV kv qk) := .inl ⟨kv, qk, rd_mono sub g1, rfl, rfl⟩
      rcases hop with ⟨rfl, rfl⟩ | ⟨rfl, rfl⟩
      · exact d_in (by omega) I gd rx fun s' I' => ⟨.bl _, H, I', rfl, by simpa using q _ H S (Ext.refl sub) (.bl _)⟩
      · exact d_notIn (by omega) I gd rx fun s' I' => ⟨.bl _, H, I', rfl, by simpa using q _ H S (Ext.refl sub) (.bl _)⟩
theorem opT_in (hu : X.A.units + 64 < cLine) : OpT X (compareOp .In) inT := opT_inGen (.inl ⟨rfl, rfl⟩) (fun t u w h => by
  rcases inT_inv h with ⟨ys, b, h1, h2, h3, rfl⟩ | ⟨kvs, q, rfl, h2, rfl⟩
  · exact ⟨_, h, b, rfl, by simp⟩
  · exact ⟨_, h, _, rfl, by simp⟩) hu
end
end C
end
noncomputable section
set_option linter.all false
set_option maxRecDepth 100000
set_option maxHeartbeats 4000002
set_option autoImplicit false
namespace C
open PySem PySem.Spec PyProof.Rows L2
noncomputable def spFF (K : PySem.W.Frag) (ar : Nat) (F : Fn) : Sp := fun vs H Q _ => ∃ S as sto ts t sto', Same S H ∧ StoOk K S as H sto ∧ Reps K S as vs ts ∧ ts.length = ar ∧ F ts sto = some (t, sto') ∧
  ∀ p H' S' as', Grow ⟨S, as, H⟩ S' as' H' → Same S' H' → StoOk K S' as' H' sto' → OwnAt K ⟨S, as, H⟩ S' as' H' p t → Q (.ref p) H'
noncomputable section
variable {X : Cx} {B : Bas} {a b c e : Expr} {m m1 m2 : M T} {pos p : Pos} {u v : S} {es : List Expr} {ms : M (List T)} {k n : Nat} {f : Addr} {fd : FuncData} {pn : List Str} {F : Fn} {x : Str}
end
noncomputable def DefOkF (P : Program) (w : World) (K : PySem.W.Frag) (mg : Str → Option Value) (base : Heap) (x : Str) (k : Nat) (ps : List Str) (F : Fn) : Prop :=
  ∃ f fd, FnOk P w K mg base CX0 k f fd ps (spFF K ps.length F) ∧ Binds K fd ps [] ∧ PySem.W.keepIn K (.ref f) = true ∧ mg x = some (.ref f)
theorem DefOkF.mono {P : Program} {w : World} {K : PySem.W.Frag} {mg : Str → Option Value} {base : Heap} {x : Str} {j k : Nat} {ps : List Str} {F : Fn} (d : DefOkF P w K mg base x j ps F) (h : j ≤ k) : DefOkF P w K mg base x k ps F := by
  obtain ⟨f, fd, h1, h2⟩ := d
  exact ⟨f, fd, h1.mono h, h2⟩
noncomputable section
variable {X : Cx} {B : Bas} {a b c e : Expr} {m m1 m2 : M T} {pos p : Pos} {es : List Expr} {ms : M (List T)} {n : Nat} {pn : List Str} {F : Fn} {x : Str}
end
noncomputable section
variable {P : Program} {w : World} {K : PySem.W.Frag} {mg : Str → Option Value} {base : Heap}
end
end C
end
noncomputable section
set_option linter.all false
set_option maxRecDepth 100000
set_option maxHeartbeats 4000002
set_option autoImplicit false
namespace C
open PySem PySem.Spec PyProof.Rows L2
noncomputable section
variable {X : Cx} {B : Bas} {a b c e : Expr} {m m1 m2 : M T} {pos p p2 pos2 : Pos}
theorem callT_abs : CallT X (.builtin "abs") absT := by
  intro pins s σ H xs us Q I rs ⟨S, as, ts, w, sub, hr, hf, q⟩
  cases hr with
  | nil => simp only [absT, reduceCtorEq] at hf
  | @cons x t xs' ts' h1 h2 =>
    cases h2 with
    | cons h3 h4 => cases h1 <;> simp only [absT, reduceCtorEq] at hf
    | nil =>
      cases h1 <;> simp only [absT, reduceCtorEq] at hf
      cases hf
      exact call_abs pins s σ H _ us Q I rs ⟨_, rfl, q _ H S (Ext.refl sub) (.int _)⟩
noncomputable def gNames : List Nat → TGs
  | [] => gNil
  | i :: is => gCons (gName i) (gNames is)
theorem names_ok {K : PySem.W.Frag} {H S : Hp} {as : List Addr} {ps : List (V × T)} : ∀ (is : List Nat) {vs : List V} {xs : List T} {st : Sta} {σ : L2.St} {Q : L2.St → Hp → Prop}, Rel K B st σ H ps S as → Reps K S as vs xs → xs.length = is.length →
    (∀ σ', Rel K B ((is.zip xs).foldl (fun s p => putSlot p.1 p.2 false s) st) σ' H ps S as → Q σ' H) → gNames is vs σ H Q
  | [], _, _, _, _, _, R, .nil, _, q => ⟨rfl, q _ R⟩
  | i :: is, _, _, _, _, _, R, .cons r rs, hl, q => ⟨_, _, rfl, names_ok is (R.put (i := i) r) rs (by simpa using hl) q⟩
  | [], _, _, _, _, _, _, .cons _ _, hl, _ => by simp at hl
  | _ :: _, _, _, _, _, _, _, .nil, hl, _ => by simp at hl
theorem tg_tup {is : List Nat} {tg : Expr} (h : PG X tg (gTup X.K is.length (gNames is))) : PG X tg (gOf X.K B (hTup is)) := fun pins s σ H x u Q I r ⟨st, ps, S, as, t, R, st', e, q⟩ => h pins s σ H x u Q I r (by
  have top := R.top
  cases t with
  | tup xs =>
    cases top with
    | @tup a vs _ g1 g2 =>
      simp only [hTup] at e
      split at e
      · rename_i hl
        cases e
        exact ⟨a, vs, rfl, sqT_mono R.sub g1, by rw [g2.length]; exact hl, names_ok is R.drop g2 hl fun σ' R' => q σ' H S as R'⟩
      · cases e
  | _ => simp only [hTup, reduceCtorEq] at e)
end
end C
namespace C
open PySem PySem.Spec PyProof.Rows L2
end C
end
noncomputable section
set_option linter.all false
set_option maxRecDepth 100000
set_option maxHeartbeats 4000002
set_option autoImplicit false
namespace C
open PySem PySem.Spec PyProof.Rows L2
noncomputable section
variable {X : Cx} {B : Bas} {a b c e lo hi : Expr} {m m1 m2 ml mh : M T} {pos p p2 : Pos}
theorem Reps.take {K : PySem.W.Frag} {S : Hp} {as : List Addr} : ∀ (n : Nat) {vs : List V} {ts : List T}, Reps K S as vs ts → Reps K S as (vs.take n) (ts.take n)
  | 0, _, _, _ => .nil
  | _ + 1, _, _, .nil => .nil
  | n + 1, _, _, .cons h r => .cons h (Reps.take n r)
end
end C
end
noncomputable section
set_option linter.all false
set_option maxRecDepth 100000
set_option maxHeartbeats 4000002
set_option autoImplicit false
namespace C
open PySem PySem.Spec PyProof.Rows L2
noncomputable section
variable {X : Cx} {B : Bas} {a b c e o k : Expr} {m mo mk mv : M T} {pos p : Pos}
end
end C
end
noncomputable section
set_option linter.all false
set_option maxRecDepth 100000
set_option maxHeartbeats 4000002
set_option autoImplicit false
namespace C
open PySem PySem.Spec PyProof.Rows L2
noncomputable section
variable {X : Cx} {B : Bas} {pins : List (Addr × Obj)} {σ : L2.St} {H S : Hp} {s : Shared} {as : List Addr} {Q : VK}
theorem gather {R : List Value → Shared → Prop} {A : Around} {E : Value → Shared → Prop} {T : String} {r d : Addr} {n : Nat} {P : Nat → Value → Prop} {OK : Heap → Prop} (KS : PySem.W.KdlSrc X.prog X.w T r d n P OK) (nh : A.handled = none) (ok0 : OK s.heap) (sz : n ≤ sizeLine)
    (k : ∀ (h1 : Heap) (tk : Nat) (got : Array Value), s.heap.objs.size < h1.objs.size → (∀ b o, s.heap.get? b = some o → h1.get? b = some o) → ItemsOf P got n → R got.toList { s with heap := h1, toks := tk }) :
    wpAny (model X.prog X.w) A (collect (.ref r)) R E s := by
  have lt0 := KS.there _ ok0
  unfold collect
  refine wpAny_bind (wpAny_runValue
    (codeAny_builtin entry_proto_collect' ?_))
  rw [Around.under_plainId
    PySem.F.plain_proto_collect _]
  show wpAny _ A.in1 (newList [] >>= fun z => again (.builtin "list.__iadd__" ⟨[z, .ref r], []⟩)) _ _ s
  refine wpAny_bind (wpAny_newObj_type (wpAny_pure ⟨plainId_quiet PySem.F.plain_list_iadd _, codeAny_builtin entry_list_iadd' ?_⟩))
  rw [Around.under_plainId
    PySem.F.plain_list_iadd _]
  change wpAny _ A.in1 (Builtin.List.listExtendWith (.ref s.heap.objs.size) (.ref r) (.ref s.heap.objs.size)) _ _ _
  have new0 : (s.heap.push { cls := .type "list", data := .seq ([] : List Value).toArray }).get? s.heap.objs.size = some { cls := .type "list", data := .seq #[] } := Heap.get?_push_size _ rfl
  have walk := PySem.W.kdl_extend (A := A) (s := { s with heap := s.heap.push { cls := .type "list", data := .seq ([] : List Value).toArray } })
    (R := fun (f : Result) (s1 : Shared) => ∃ (h1 : Heap) (tk : Nat) (got : Array Value) (c1 : Nat), f = .ok (.ret (.ref s.heap.objs.size)) ∧ s1 = { s with heap := h1, toks := tk } ∧ (∀ b o, s.heap.get? b = some o → h1.get? b = some o) ∧
      h1.get? s.heap.objs.size = some { cls := .type "list", dict := none, data := .seq got c1, slots := #[] } ∧ ItemsOf P got n)
    KS nh (KS.keep _ _ ok0 fun b _ o e => Heap.get?_push_of_some _ e) s.heap.objs.size (Nat.ne_of_gt lt0.1) (Nat.ne_of_gt lt0.2) (.ref s.heap.objs.size) 0 new0
    (fun h1 tk got c1 old at1 its => ⟨h1, tk, got, c1, rfl, rfl, fun b o e => old b o (Nat.ne_of_lt (Heap.lt_size e)) (Heap.get?_push_of_some _ e), at1, its⟩) sz
  have last : ∀ (h1 : Heap) (tk : Nat) (got : Array Value) (c1 : Nat), (∀ b o, s.heap.get? b = some o → h1.get? b = some o) → h1.get? s.heap.objs.size = some { cls := .type "list", dict := none, data := .seq got c1, slots := #[] } → ItemsOf P got n →
      wpAny (model X.prog X.w) A (load s.heap.objs.size >>= fun o => match o.data with | .seq xs _ => pure xs.toList | _ => unsupported "internal:collect") R E { s with heap := h1, toks := tk } :=
    fun h1 tk got c1 old at1 its => wpAny_bind (wpAny_load at1 (wpAny_pure (k h1 tk got (Heap.lt_size at1) old its)))
  refine wpAny_mono walk (fun fin s1 x => ?_) fun e s1 x => ?_
  · cases fin with
    | done f =>
      obtain ⟨h1, tk, got, c1, ef, rfl, old, at1, its⟩ := x
      cases ef
      exact last h1 tk got c1 old at1 its
    | again c =>
      refine ⟨x.1, codeAny_mono x.2 fun f s2 y => ?_⟩
      obtain ⟨h1, tk, got, c1, rfl, rfl, old, at1, its⟩ := y
      exact last h1 tk got c1 old at1 its
  · obtain ⟨_, _, _, _, ef, _⟩ := x
    cases ef
theorem sortedSrc {T : String} {r d : Addr} {n : Nat} {P : Nat → Value → Prop} {OK : Heap → Prop} {l : List Str} (KS : PySem.W.KdlSrc X.prog X.w T r d n P OK) (hc : X.calm = true) (I : L2.Inv X pins σ H s) (sub : Same S H) (hok : OK s.heap) (h64 : n < 64)
    (hi : ∀ vs : List Value, vs.length = n → (∀ (j : Nat) (v : Value), vs[j]? = some v → P j v) → ∃ l', StrsAre vs l' ∧ l'.Perm l)
    (q : ∀ v H' S', Ext S H S' H' → Rep X.K S' as v (.lst ((isort l).map .str)) → Q v H') : wpAny (model X.prog X.w) X.A (call (.builtin "sorted") [.ref r]) (EP X pins σ Q) X.xe s := by
  have hn : n ≤ sizeLine := Nat.le_trans (Nat.le_of_lt h64) (by rw [sizeLine_eq]; decide)
  refine Calls.call_function_entry kind_sorted plain_sorted
    entry_sorted (args_sorted1 _) ?_
  unfold Builtin.«sorted»
  refine wpAny_bind (m := checkCount "sorted" 1 1 _) (wpAny_pure (wpAny_bind ?_))
  refine (gather (A := X.A.in1) KS (show X.A.in1.handled = none from I.ok.hd hc) hok hn fun h' tk acc hlt hk hacc => ?_)
  have hl : acc.toList.length = n := Array.length_toList.trans hacc.1
  obtain ⟨l', hS, hp⟩ := hi acc.toList hl fun j v e => hacc.2 j v (by rw [← Array.getElem?_toList]; exact e)
  refine wpAny_bind (wpAny_newList ?_ (hl ▸ hn))
  have hoL : (h'.push (seqObj "list" acc.toList.toArray 0)).get? h'.objs.size = some (seqObj "list" acc.toList.toArray 0) := Heap.get?_push_size _ rfl
  refine wpAny_bind (wpAny_holding (wpAny_call_entry slot_list_sort ⟨_, hoL, rfl⟩ entry_list_sort (list_sort_treeK strKind_oneLt hoL hS.keysOf (fun v₁ v₂ rest e => keyKind_strs (by rw [← e]; exact hS)) (by rw [hl]; exact h64) fun st' a1 a2 => ⟨_, rfl, ?_⟩) (args_list_sort _)))
  refine wpAny_pure ⟨_, rfl, (?_ : EP X pins σ Q _ _)⟩
  obtain ⟨ss', b1, b2, b3⟩ := sorted_out_str hS a1 a2
  have es := isort_eq b3 (b2.trans hp)
  subst es
  have hle := Nat.le_of_lt hlt
  obtain ⟨e, he⟩ := sortedHeap_at (out := (arrOf st').map (·.2)) hoL
  have hsz : (List.map V.str (isort l)).length ≤ sizeLine := by
    rw [List.length_map, (isort_perm l).length_eq, ← hp.length_eq, ← hS.length, hl]
    exact hn
  have hnn : H h'.objs.size = none := I.hok.fresh hle
  have x := Ext.laid sub hnn (.lst ((isort l).map V.str))
  refine ⟨.ref h'.objs.size, _, I.laid (a := h'.objs.size) (o := .lst ((isort l).map V.str)) (t' := tk) (fun b u eb => ?_) hle ⟨hsz, _, e, vals_strs b1, he⟩, rfl, q _ _ _ x (.lst (SqL.of upd_same) (reps_strs _))⟩
  have hb := Heap.lt_size (hk _ _ eb)
  rw [sortedHeap_old (Nat.ne_of_lt hb) (by rw [Heap.size_push]; exact Nat.lt_succ_of_lt hb)]
  exact Heap.get?_push_of_some _ (hk _ _ eb)
theorem keys_strs : ∀ {kvs : List (L2.Key × V)} {ts : List (L2.Key × T)} {l : List Str}, kvs.map (·.1) = ts.map (·.1) → strsT (ts.map fun p => ofKey p.1) = some l → kvs.map (·.1) = l.map Sum.inr
  | [], [], l, _, h => by simp only [List.map_nil, strsT] at h; cases h; rfl
  | (k, v) :: kvs, (k2, t) :: ts, l, e, h => by
    simp only [List.map_cons, List.cons.injEq] at e
    obtain ⟨e1, e2⟩ := e
    subst e1
    cases k with
    | inl i => simp only [List.map_cons, ofKey, strsT, reduceCtorEq] at h
    | inr x =>
      simp only [List.map_cons, ofKey, strsT] at h
      obtain ⟨l', h1, h2⟩ := Option.map_eq_some_iff.mp h
      subst h2
      rw [List.map_cons, List.map_cons, keys_strs e2 h1]
theorem RepK.keys {K : PySem.W.Frag} {S : Hp} {as : List Addr} : ∀ {kvs : List (L2.Key × V)} {ts : List (L2.Key × T)}, RepK K S as kvs ts → kvs.map (·.1) = ts.map (·.1)
  | _, _, .nil => rfl
  | _, _, .cons h q => by rw [List.map_cons, List.map_cons, RepK.keys q]
theorem strs_of_keys {prog : Program} {w : World} : ∀ {vs : List (L2.Key × Value)} {us : List Value} {l : List Str}, vs.map (·.1) = l.map Sum.inr → us.length = vs.length → (∀ (j : Nat) (v : Value), us[j]? = some v → ∃ k x, vs[j]? = some (k, x) ∧ (mixKind prog w).is k v = true) → StrsAre us l
  | [], us, l, e, hl, h => by
    cases us with
    | cons _ _ => simp at hl
    | nil => cases l with
      | nil => exact .nil
      | cons _ _ => simp at e
  | (k, x) :: vs, us, l, e, hl, h => by
    cases us with
    | nil => simp at hl
    | cons u us =>
      cases l with
      | nil => simp at e
      | cons y l =>
        simp only [List.map_cons, List.cons.injEq] at e
        obtain ⟨e1, e2⟩ := e
        subst e1
        obtain ⟨k', x', h1, h2⟩ := h 0 u rfl
        simp only [List.getElem?_cons_zero, Option.some.injEq, Prod.mk.injEq] at h1
        obtain ⟨rfl, rfl⟩ := h1
        rw [mixKind_is] at h2
        have hu : ∃ t, u = .str y t := by
          rcases keyIs_shape h2 with ⟨i, t, e', _⟩ | ⟨z, t, e', hz⟩
          · cases e'
          · cases e'; exact ⟨t, hz⟩
        obtain ⟨t, rfl⟩ := hu
        exact .cons y t (strs_of_keys e2 (by simpa using hl) fun j v ev => by simpa using h (j + 1) v (by simpa using ev))
theorem callT_sorted (hc : X.calm = true) : CallT X (.builtin "sorted") sortedT := by
  intro pins s σ H xs us Q I rs ⟨S, as, ts, w, sub, hr, hf, q⟩
  cases hr with
  | nil => simp only [sortedT, reduceCtorEq] at hf
  | @cons x t xs' ts' h1 h2 =>
    cases h2 with
    | cons h3 h4 => cases h1 <;> simp only [sortedT, reduceCtorEq] at hf
    | nil =>
      cases h1 with
      | @lst a vs ts g1 g2 =>
        simp only [sortedT] at hf
        split at hf
        · rename_i h64
          obtain ⟨l, e1, e2⟩ := Option.map_eq_some_iff.mp hf
          subst e2
          exact callT_sortedL pins s σ H _ us Q I rs ⟨S, as, ts, l, sub, .cons (.lst g1 g2) .nil, h64, e1, q⟩
        · cases hf
      | @dic a kvs ts g1 g2 =>
        simp only [sortedT] at hf
        split at hf
        · rename_i h64
          obtain ⟨l, e1, e2⟩ := Option.map_eq_some_iff.mp hf
          subst e2
          obtain ⟨u, rfl, ru⟩ := rs.one
          cases ru
          obtain ⟨z, hd, vs, rel, dd⟩ := dk_rd I.hok (rd_mono sub g1)
          obtain ⟨ep, hat⟩ := dd.dictAt
          have hlen : vs.length = ts.length := by rw [← rel.length]; exact g2.length
          have hk := keys_strs g2.keys e1
          rw [KV.keys rel] at hk
          exact sortedSrc (PySem.W.kdl_dict (knd := mixKind X.prog X.w) (kvs := vs) (ep := ep) hd) hc I sub hat (by rw [hlen]; exact h64) (fun us hl hp => ⟨l, strs_of_keys hk hl hp, .refl _⟩) q
        · cases hf
      | _ => simp only [sortedT, reduceCtorEq] at hf
end
end C
end
noncomputable section
set_option linter.all false
set_option maxRecDepth 100000
set_option maxHeartbeats 4000002
set_option autoImplicit false
namespace C
open PySem PySem.Spec PyProof.Rows L2
noncomputable section
variable {prog : Program} {w : World} {A : Around} {E : Value → Shared → Prop} {s : Shared}
end
end C
end
noncomputable section
set_option linter.all false
set_option maxRecDepth 100000
set_option maxHeartbeats 4000002
set_option autoImplicit false
namespace C
open PySem PySem.Spec PyProof.Rows L2
noncomputable section
variable {prog : Program} {w : World} {A : Around} {R : Result → Shared → Prop} {I : Addr} {fp wr : List Addr} {G : Array GenState → Array GenState → Prop} {n : Nat} {P : Nat → Value → Prop} {St : Nat → Shared → Prop} {κ : Type} [DecidableEq κ] {knd : PySem.KeyKind prog w κ}
end
end C
end
noncomputable section
set_option linter.all false
set_option maxRecDepth 100000
set_option maxHeartbeats 4000002
set_option autoImplicit false
namespace C
open PySem PySem.Spec PyProof.Rows L2
noncomputable section
variable {prog : Program} {w : World} {A : Around} {E : Value → Shared → Prop} {s : Shared} {κ : Type} [DecidableEq κ] {knd : PySem.KeyKind prog w κ}
end
end C
end
noncomputable section
set_option linter.all false
set_option maxRecDepth 100000
set_option maxHeartbeats 4000002
set_option autoImplicit false
namespace C
open PySem PySem.Spec PyProof.Rows L2
noncomputable section
variable {X : Cx} {pins : List (Addr × Obj)} {σ : L2.St} {H S : Hp} {s : Shared} {as : List Addr}
inductive PairsAt (h : Heap) (prog : Program) (w : World) : List Value → List L2.Key → List Value → Prop where
  | nil : PairsAt h prog w [] [] []
  | cons {t : Addr} {kx wv : Value} {o : Obj} {n : Nat} {q : L2.Key} {us : List Value} {qs : List L2.Key} {ws : List Value} : h.get? t = some o → o.cls = .type "tuple" → o.data = .seq #[kx, wv] n → (mixKind prog w).is q kx = true →
      PairsAt h prog w us qs ws → PairsAt h prog w (.ref t :: us) (q :: qs) (wv :: ws)
theorem PairsAt.len {h : Heap} {prog : Program} {w : World} : ∀ {us : List Value} {qs : List L2.Key} {ws : List Value}, PairsAt h prog w us qs ws → us.length = qs.length ∧ us.length = ws.length
  | _, _, _, .nil => ⟨rfl, rfl⟩
  | _, _, _, .cons _ _ _ _ r => ⟨congrArg (· + 1) r.len.1, congrArg (· + 1) r.len.2⟩
end
noncomputable section
variable {X : Cx} {B : Bas} {a : Expr} {m : M T} {pos p : Pos}
end
end C
end
noncomputable section
set_option linter.all false
set_option autoImplicit false
namespace C
open PySem PySem.Spec PyProof.Rows L2
theorem DefOk.zero {P : Program} {w : World} {K : PySem.W.Frag} {mg : Str → Option Value} {base : Heap} {x qual : Str} {st : Stmt} {f : Addr} {fd : FuncData} {ps : List Str} {k : Nat} (F : Fun K x qual st f fd) (h : mg x = some (.ref f)) (b : Binds K fd ps []) : DefOk P w K mg base x k ps (fun _ _ => none) := by
  have no : ∀ vs H Q E, ¬ spF K ps.length (fun _ _ => none) vs H Q E := fun vs H Q E z => by
    obtain ⟨S, as, sto, ts, t, sto', _, _, _, _, e, _⟩ := z
    cases e
  exact ⟨f, fd, ⟨fun vs H Q E z => absurd z (no vs H Q E), fun A outer s H args us vs Q E _ _ _ _ z => absurd z (no vs H Q E)⟩, b, F.kp, h⟩
end C
end
noncomputable section
set_option autoImplicit false
namespace C
open PySem
noncomputable def intT : List T → Option T
  | [.int i] => some (.int i)
  | [.bl k] => some (.int (if k then 1 else 0))
  | _ => none
end C
end
noncomputable section
set_option linter.all false
set_option maxRecDepth 100000
set_option maxHeartbeats 4000002
set_option autoImplicit false
namespace C
open PySem PySem.Spec PyProof.Rows L2
noncomputable section
variable {X : Cx} {B : Bas} {c e : Expr} {m : M T} {pos p : Pos} {u : S} {body : List Stmt}
theorem callT_int : CallT X (.type "int") intT := by
  intro pins s σ H xs us Q I rs ⟨S, as, ts, w, sub, hr, hf, q⟩
  cases hr with
  | nil => simp only [intT, reduceCtorEq] at hf
  | @cons x t xs' ts' h1 h2 =>
    cases h2 with
    | cons h3 h4 => cases h1 <;> simp only [intT, reduceCtorEq] at hf
    | nil =>
      cases h1 <;> simp only [intT, reduceCtorEq] at hf
      · cases hf
        exact call_int1 pins s σ H _ us Q I rs (.inr ⟨_, rfl, q _ H S (Ext.refl sub) (.int _)⟩)
      · cases hf
        exact call_int1 pins s σ H _ us Q I rs (.inl ⟨_, rfl, q _ H S (Ext.refl sub) (.int _)⟩)
end
end C
end
noncomputable section
set_option linter.all false
set_option maxRecDepth 100000
set_option maxHeartbeats 4000002
set_option autoImplicit false
namespace C
open PySem PySem.Spec PyProof.Rows L2
noncomputable section
variable {X : Cx} {B : Bas} {e st : Expr} {te : TE} {m : M T} {pos p2 p3 p4 : Pos} {j : Nat}
end
end C
end
noncomputable section
set_option linter.all false
set_option maxRecDepth 100000
set_option maxHeartbeats 4000002
set_option autoImplicit false
namespace C
open PySem PySem.Spec PyProof.Rows L2
noncomputable section
variable {X : Cx} {B : Bas} {a : Expr} {m : M T} {pos p : Pos}
end
end C
end
noncomputable section
set_option autoImplicit false
namespace C
open PySem
noncomputable def zipT (xs ys : List T) : List T := (xs.zip ys).map fun p => .tup [p.1, p.2]
noncomputable def iZip (a b : M T) : M (List T) := fun s => match a s with
  | some (t, s1) => match b s1 with
    | some (u, s2) => match seqOf t, seqOf u with
      | some xs, some ys => if xs.length < lim ∧ ys.length < lim then some (zipT xs ys, s2) else none
      | _, _ => none
    | none => none
  | none => none
noncomputable def sIx (n d : Nat) : Option Int → Nat
  | none => d
  | some v => if v < 0 then (v + (n : Int)).toNat else min v.toNat n
noncomputable def cutl (xs : List T) (lo hi : Option Int) : List T := (xs.drop (sIx xs.length 0 lo)).take (sIx xs.length xs.length hi - sIx xs.length 0 lo)
noncomputable def cutX (lo hi : Option Int) : T → Option T
  | .lst xs => some (.lst (cutl xs lo hi))
  | .tup xs => if sIx xs.length 0 lo = 0 ∧ sIx xs.length xs.length hi = xs.length then none else some (.tup (cutl xs lo hi))
  | _ => none
noncomputable def oNone : M (Option Int) := fun s => some (none, s)
noncomputable def oSome (e : M T) : M (Option Int) := fun s => match e s with
  | some (.int i, s1) => some (some i, s1)
  | _ => none
noncomputable def mSlice (m : M T) (lo hi : M (Option Int)) : M T := fun s => match m s with
  | some (t, s1) => match lo s1 with
    | some (l, s2) => match hi s2 with
      | some (h, s3) => match cutX l h t with
        | some u => some (u, s3)
        | none => none
      | none => none
    | none => none
  | none => none
end C
end
noncomputable section
set_option linter.all false
set_option autoImplicit false
namespace C
open PySem PySem.Sem
noncomputable def ItAt : Bool → Heap → Addr → Addr → Nat → Prop
  | true, h, it, a, i => h.IsListIter it a i
  | false, h, it, a, i => h.IsTupleIter it a i
noncomputable def RowAt : Bool → Heap → Addr → Array Value → Prop
  | true, h, a, xs => h.IsList a xs
  | false, h, a, xs => h.IsTuple a xs
theorem ItAt.to {k : Bool} {h h' : Heap} {it a : Addr} {i : Nat} (x : ItAt k h it a i) (e : ∀ o, h.get? it = some o → h'.get? it = some o) : ItAt k h' it a i := by
  cases k <;> obtain ⟨o, ho, r⟩ := x <;> exact ⟨o, e o ho, r⟩
theorem ItAt.obj {k : Bool} {h : Heap} {it a : Addr} {i : Nat} (x : ItAt k h it a i) : ∃ o, h.get? it = some o ∧ ∀ v, o.data ≠ .cell v := by
  cases k <;> obtain ⟨o, ho, _, d⟩ := x <;> exact ⟨o, ho, fun v z => by rw [d] at z; cases z⟩
theorem RowAt.to {k : Bool} {h h' : Heap} {a : Addr} {xs : Array Value} (x : RowAt k h a xs) (e : ∀ o, h.get? a = some o → h'.get? a = some o) : RowAt k h' a xs := by
  cases k <;> obtain ⟨o, ho, r⟩ := x <;> exact ⟨o, e o ho, r⟩
noncomputable section
variable {prog : Program} {w : World} {A : Around} {E : Value → Shared → Prop} {s : Shared}
theorem nextT {it t : Addr} {i : Nat} {xs : Array Value} {x : Value} {Q : Value → Shared → Prop} (h1 : s.heap.IsTupleIter it t i) (h2 : s.heap.IsTuple t xs) (h3 : xs[i]? = some x)
    (q : ∀ h', h'.IsTupleIter it t (i + 1) → Heap.SameBut it s.heap h' → Q x { s with heap := h' }) : wpAny (model prog w) A (Builtin.SmallTypes.nextOf (.ref it)) Q E s := by
  have ty : s.TypeIs (.ref it) "tuple_iterator" := h1.typeIs
  obtain ⟨oi, gi, ci, di⟩ := h1
  obtain ⟨ot, gt, _, m, dt⟩ := h2
  have upd : ∀ (h' : Heap), h' = s.heap.update it (Obj.mapFields (·.setIfInBounds 1 (rawInt ((i : Int) + 1)))) → h'.IsTupleIter it t (i + 1) := fun h' e => by
    subst e
    refine ⟨_, Heap.get?_update_self _ gi (Obj.isFreed_of_fields (Obj.data_mapFields di _)), (Obj.cls_mapFields ..).trans ci, ?_⟩
    rw [Obj.data_mapFields di]; rfl
  unfold Builtin.SmallTypes.nextOf -- here
  refine wpAny_bind (wpAny_callSpecial?_slot (name := Str.ofString "__next__") ty F.slot_tuple_iterator_next (wpAny_call_entry F.slot_tuple_iterator_next ty F.entry_tuple_iterator_next ?_ (F.args_tuple_iterator_next_1 _)))
  refine (show wpAny _ _ (field (.ref it) 0 >>= _) _ _ s from wpAny_bind (wpAny_field gi di (x := .ref t) rfl ?_))
  dsimp only
  rw [if_neg (by intro z; cases z)]
  refine (show wpAny _ _ (field (.ref it) 1 >>= _) _ _ s from wpAny_bind (wpAny_field gi di (x := .int i 0) rfl ?_))
  refine (show wpAny _ _ (seqItems? (.ref t) >>= _) _ _ s from wpAny_bind (wpAny_seqItems gt dt ?_))
  dsimp only
  rw [Int.toNat_natCast, h3]
  exact wpAny_bind (wpAny_setField gi di (by simp) (wpAny_pure ⟨x, rfl, wpAny_pure (q _ (upd _ rfl) (Heap.SameBut.update ..))⟩))
theorem nextT_end {it t : Addr} {i : Nat} {xs : Array Value} {Q : Value → Shared → Prop} (hh : A.handled = none) (h1 : s.heap.IsTupleIter it t i) (h2 : s.heap.IsTuple t xs) (h3 : xs[i]? = none)
    (q : ∀ h' e, Heap.ExtBut it s.heap h' → (∃ o, h'.get? e = some o ∧ o.cls = .type "StopIteration") → E (.ref e) { s with heap := h' }) : wpAny (model prog w) A (Builtin.SmallTypes.nextOf (.ref it)) Q E s := by
  have ty : s.TypeIs (.ref it) "tuple_iterator" := h1.typeIs
  obtain ⟨oi, gi, ci, di⟩ := h1
  obtain ⟨ot, gt, _, m, dt⟩ := h2
  unfold Builtin.SmallTypes.nextOf -- here
  refine wpAny_bind (wpAny_callSpecial?_slot (name := Str.ofString "__next__") ty F.slot_tuple_iterator_next (wpAny_call_entry F.slot_tuple_iterator_next ty F.entry_tuple_iterator_next ?_ (F.args_tuple_iterator_next_1 _)))
  refine (show wpAny _ _ (field (.ref it) 0 >>= _) _ _ s from wpAny_bind (wpAny_field gi di (x := .ref t) rfl ?_))
  dsimp only
  rw [if_neg (by intro z; cases z)]
  refine (show wpAny _ _ (field (.ref it) 1 >>= _) _ _ s from wpAny_bind (wpAny_field gi di (x := .int i 0) rfl ?_))
  refine (show wpAny _ _ (seqItems? (.ref t) >>= _) _ _ s from wpAny_bind (wpAny_seqItems gt dt ?_))
  dsimp only
  rw [Int.toNat_natCast, h3]
  refine wpAny_bind (wpAny_rule (wpAny_bind (wpAny_setField gi di (by simp) ?_)))
  refine (show wpAny _ _ (newExc (.type "StopIteration") [] >>= _) _ _ _ from wpAny_bind ?_)
  simp only [newExc, newTuple]
  refine wpAny_bind (wpAny_newObj_type (wpAny_bind (m := firstArgMember _ _) (wpAny_of_eq (a := Value.none) (by first | rfl | (simp only [firstArgMember]; rfl)) (wpAny_newObj_type ?_ (by size_fits)))) (by size_fits))
  simp only [raiseNew]
  refine wpAny_bind (wpAny_handled ?_) -- here
  rw [show A.in1.handled = none from hh] -- here
  exact wpAny_bind (wpAny_pure (wpAny_throw (q _ _ (((Heap.SameBut.update ..).extBut.push _).push _) ⟨_, Heap.get?_push_size _ rfl, rfl⟩)))
theorem next_row {k : Bool} {it a : Addr} {i : Nat} {xs : Array Value} {x : Value} {Q : Value → Shared → Prop} (h1 : ItAt k s.heap it a i) (h2 : RowAt k s.heap a xs) (h3 : xs[i]? = some x)
    (q : ∀ h', ItAt k h' it a (i + 1) → Heap.SameBut it s.heap h' → Q x { s with heap := h' }) : wpAny (model prog w) A (Builtin.SmallTypes.nextOf (.ref it)) Q E s := by
  cases k with
  | true => exact wpAny_nextOf_list_item h1 h2 h3 q
  | false => exact nextT h1 h2 h3 q
theorem next_row_end {k : Bool} {it a : Addr} {i : Nat} {xs : Array Value} {Q : Value → Shared → Prop} (hh : A.handled = none) (h1 : ItAt k s.heap it a i) (h2 : RowAt k s.heap a xs) (h3 : xs[i]? = none)
    (q : ∀ h' e, Heap.ExtBut it s.heap h' → (∃ o, h'.get? e = some o ∧ o.cls = .type "StopIteration") → E (.ref e) { s with heap := h' }) : wpAny (model prog w) A (Builtin.SmallTypes.nextOf (.ref it)) Q E s := by
  cases k with
  | true => exact wpAny_nextOf_list_end hh h1 h2 h3 q
  | false => exact nextT_end hh h1 h2 h3 q
end
structure ZipAt (h : Heap) (z ti to' i1 i2 : Addr) (f : Value) : Prop where
  zip : IsZip h z ti to' f
  its : IsPair h ti (.ref i1) (.ref i2)
  kept : ∃ a b, IsPair h to' a b
structure Far (z ti to' i1 i2 : Addr) : Prop where
  nd : [z, ti, to', i1, i2].Nodup
theorem Far.all {z ti to' i1 i2 : Addr} (f : Far z ti to' i1 i2) : ti ≠ z ∧ to' ≠ z ∧ i1 ≠ z ∧ i2 ≠ z ∧ ti ≠ to' ∧ ti ≠ i1 ∧ ti ≠ i2 ∧ to' ≠ i1 ∧ to' ≠ i2 ∧ i1 ≠ i2 := by
  have := f.nd
  simp only [List.nodup_cons, List.mem_cons, List.not_mem_nil, or_false, not_or] at this
  obtain ⟨⟨a, b, c, d⟩, ⟨e, f, g⟩, ⟨h, i⟩, j, _⟩ := this
  exact ⟨Ne.symm a, Ne.symm b, Ne.symm c, Ne.symm d, e, f, g, h, i, j⟩
noncomputable def Kept4 (z to' i1 i2 : Addr) (h h' : Heap) : Prop := ∀ c o, c ≠ z → c ≠ to' → c ≠ i1 → c ≠ i2 → h.get? c = some o → h'.get? c = some o
noncomputable section
variable {prog : Program} {w : World} {A : Around} {E : Value → Shared → Prop} {s : Shared}
theorem zip_item {k1 k2 : Bool} {z ti to' i1 i2 a1 a2 : Addr} {j1 j2 : Nat} {xs ys : Array Value} {x y : Value} {Q : Value → Shared → Prop} (D : Far z ti to' i1 i2) (Z : ZipAt s.heap z ti to' i1 i2 .none)
    (h1 : ItAt k1 s.heap i1 a1 j1) (h2 : ItAt k2 s.heap i2 a2 j2) (r1 : RowAt k1 s.heap a1 xs) (r2 : RowAt k2 s.heap a2 ys) (n2 : a2 ≠ z ∧ a2 ≠ to' ∧ a2 ≠ i1 ∧ a2 ≠ i2) (n1 : a1 ≠ z) (hx : xs[j1]? = some x) (hy : ys[j2]? = some y)
    (q : ∀ h', ZipAt h' z ti to' i1 i2 (rawInt s.heap.objs.size) → ItAt k1 h' i1 a1 (j1 + 1) → ItAt k2 h' i2 a2 (j2 + 1) → IsPair h' s.heap.objs.size x y → Kept4 z to' i1 i2 s.heap h' → Q (.ref s.heap.objs.size) { s with heap := h' }) :
    wpAny (model prog w) A (Builtin.«zip.__next__» ⟨[.ref z], []⟩) (fun fin s' => ∃ v, fin = .done (.ret v) ∧ Q v s') E s := by -- here
  obtain ⟨hz, hI, a, b, hO⟩ := Z
  obtain ⟨d1, d2, d3, d4, d5, d6, d7, d8, d9, d10⟩ := D.all
  refine (show wpAny _ _ (field (.ref z) 2 >>= _) _ _ _ from wpAny_bind (wpAny_field hz rfl (x := .bool false) rfl ?_))
  refine (show wpAny _ _ (field (.ref z) 3 >>= _) _ _ _ from wpAny_bind (wpAny_field hz rfl (x := .ref ti) rfl (wpAny_bind (wpAny_seqItems hI rfl ?_))))
  refine (show wpAny _ _ (Builtin.SmallTypes.ownedTupleIsFree (.ref z) >>= _) _ _ _ from wpAny_bind ?_)
  unfold Builtin.SmallTypes.ownedTupleIsFree -- here
  refine wpAny_bind (wpAny_field hz rfl (x := .none) rfl (wpAny_pure ?_)) -- here
  dsimp only
  rw [if_pos rfl]
  refine wpAny_bind (wpAny_rule (wpAny_bind (wpAny_field hz rfl (x := .ref to') rfl (wpAny_bind (wpAny_setField_rec hz (by simp) fun g1 z1 s1 => wpAny_bind ?_)))))
  have z1 : IsZip g1 z ti to' .ellipsis := z1
  simp only [List.zipIdx_cons, List.zipIdx_nil, List.forIn_cons, List.forIn_nil] -- here
  refine wpAny_bind (wpAny_bind (wpAny_onRaise (show wpAny _ _ (Builtin.SmallTypes.nextOf (.ref i1) >>= _) _ _ _ from wpAny_bind (next_row (h1.to fun o e => s1.extBut _ _ d3 e) (r1.to fun o e => s1.extBut _ _ n1 e) hx fun g2 t2 s2 => wpAny_pure ?_))))
  have o2 : IsPair g2 to' a b := s2.extBut _ _ d8 (s1.extBut _ _ d2 hO)
  refine wpAny_bind (wpAny_seqItems o2 rfl (wpAny_bind (wpAny_updateSeq_pair o2 fun g3 o3 s3 => wpAny_bind (wpAny_letGo (wpAny_pure ?_)))))
  have o3 : IsPair g3 to' x b := o3
  have e3 : ∀ c o, c ≠ z → c ≠ i1 → c ≠ to' → s.heap.get? c = some o → g3.get? c = some o := fun c o c1 c2 c3 e => s3.extBut _ _ c3 (s2.extBut _ _ c2 (s1.extBut _ _ c1 e))
  refine wpAny_bind (wpAny_bind (wpAny_onRaise (show wpAny _ _ (Builtin.SmallTypes.nextOf (.ref i2) >>= _) _ _ _ from wpAny_bind (next_row (h2.to fun o e => e3 _ o d4 (Ne.symm d10) (Ne.symm d9) e) (r2.to fun o e => e3 _ o n2.1 n2.2.2.1 n2.2.1 e) hy fun g4 t4 s4 => wpAny_pure ?_))))
  have o4 : IsPair g4 to' x b := s4.extBut _ _ d9 o3
  refine wpAny_bind (wpAny_seqItems o4 rfl (wpAny_bind (wpAny_updateSeq_pair o4 fun g5 o5 s5 => wpAny_bind (wpAny_letGo (wpAny_pure (wpAny_pure ?_))))))
  have o5 : IsPair g5 to' x y := o5
  have sz : g5.objs.size = s.heap.objs.size := by rw [s5.1, s4.1, s3.1, s2.1, s1.1]
  have z5 : IsZip g5 z ti to' .ellipsis := s5.extBut _ _ (Ne.symm d2) (s4.extBut _ _ (Ne.symm d4) (s3.extBut _ _ (Ne.symm d2) (s2.extBut _ _ (Ne.symm d3) z1)))
  have t5 : ItAt k1 g5 i1 a1 (j1 + 1) := t2.to fun o e => s5.extBut _ _ (Ne.symm d8) (s4.extBut _ _ d10 (s3.extBut _ _ (Ne.symm d8) e))
  have u5 : ItAt k2 g5 i2 a2 (j2 + 1) := t4.to fun o e => s5.extBut _ _ (Ne.symm d9) e
  refine wpAny_bind (wpAny_seqItems o5 rfl (wpAny_bind (wpAny_newTuple ?_)))
  refine (show wpAny _ _ (Builtin.SmallTypes.ownedTupleHandOut (.ref z) (.ref g5.objs.size) >>= _) _ _ _ from wpAny_bind ?_)
  unfold Builtin.SmallTypes.ownedTupleHandOut -- here
  have z6 : IsZip (g5.push { cls := .type "tuple", data := .seq #[x, y] }) z ti to' .ellipsis := Heap.get?_push_of_some _ z5
  refine wpAny_bind (wpAny_setField_rec z6 (by simp) fun g7 z7 s7 => ?_)
  have z7 : IsZip g7 z ti to' (rawInt g5.objs.size) := z7
  refine wpAny_setField_rec z7 (by simp) fun g8 z8 s8 => wpAny_pure ⟨_, rfl, ?_⟩
  have z8 : IsZip g8 z ti to' (rawInt g5.objs.size) := z8
  have e8 : ∀ c o, c ≠ z → g5.get? c = some o → g8.get? c = some o := fun c o c1 e => s8.extBut _ _ c1 (s7.extBut _ _ c1 (Heap.get?_push_of_some _ e))
  have p8 : IsPair g8 g5.objs.size x y := s8.extBut _ _ (Nat.ne_of_gt (Heap.lt_size z5)) (s7.extBut _ _ (Nat.ne_of_gt (Heap.lt_size z5)) (Heap.get?_push_size _ rfl))
  have all : ∀ c o, c ≠ z → c ≠ to' → c ≠ i1 → c ≠ i2 → s.heap.get? c = some o → g8.get? c = some o := fun c o c1 c2 c3 c4 e => e8 c o c1 (s5.extBut _ _ c2 (s4.extBut _ _ c4 (e3 c o c1 c3 c2 e)))
  rw [sz] at z8 p8
  show Q (.ref g5.objs.size) _
  rw [sz]
  exact q g8 ⟨z8, all _ _ d1 d5 d6 d7 hI, x, y, e8 _ _ d2 o5⟩ (t5.to fun o e => e8 _ o d3 e) (u5.to fun o e => e8 _ o d4 e) p8 all
theorem zip_stop {k1 k2 : Bool} {z ti to' i1 i2 a1 a2 : Addr} {j1 j2 : Nat} {xs ys : Array Value} {Q : PySem.Fin → Shared → Prop} (hh : A.handled = none) (D : Far z ti to' i1 i2) (Z : ZipAt s.heap z ti to' i1 i2 .none)
    (h1 : ItAt k1 s.heap i1 a1 j1) (h2 : ItAt k2 s.heap i2 a2 j2) (r1 : RowAt k1 s.heap a1 xs) (r2 : RowAt k2 s.heap a2 ys) (n2 : a2 ≠ z ∧ a2 ≠ to' ∧ a2 ≠ i1 ∧ a2 ≠ i2) (n1 : a1 ≠ z) (hend : xs[j1]? = none ∨ ys[j2]? = none)
    (q : ∀ h' e, Kept4 z to' i1 i2 s.heap h' → (∃ o, h'.get? e = some o ∧ o.cls = .type "StopIteration") → E (.ref e) { s with heap := h' }) :
    wpAny (model prog w) A (Builtin.«zip.__next__» ⟨[.ref z], []⟩) Q E s := by -- here
  obtain ⟨hz, hI, a, b, hO⟩ := Z
  obtain ⟨d1, d2, d3, d4, d5, d6, d7, d8, d9, d10⟩ := D.all
  refine (show wpAny _ _ (field (.ref z) 2 >>= _) _ _ _ from wpAny_bind (wpAny_field hz rfl (x := .bool false) rfl ?_))
  refine (show wpAny _ _ (field (.ref z) 3 >>= _) _ _ _ from wpAny_bind (wpAny_field hz rfl (x := .ref ti) rfl (wpAny_bind (wpAny_seqItems hI rfl ?_))))
  refine (show wpAny _ _ (Builtin.SmallTypes.ownedTupleIsFree (.ref z) >>= _) _ _ _ from wpAny_bind ?_)
  unfold Builtin.SmallTypes.ownedTupleIsFree -- here
  refine wpAny_bind (wpAny_field hz rfl (x := .none) rfl (wpAny_pure ?_)) -- here
  dsimp only
  rw [if_pos rfl]
  refine wpAny_bind (wpAny_rule (wpAny_bind (wpAny_field hz rfl (x := .ref to') rfl (wpAny_bind (wpAny_setField_rec hz (by simp) fun g1 z1 s1 => wpAny_bind ?_)))))
  have z1 : IsZip g1 z ti to' .ellipsis := z1
  simp only [List.zipIdx_cons, List.zipIdx_nil, List.forIn_cons, List.forIn_nil] -- here
  have fin : ∀ (g : Heap) (e : Addr) (zg : IsZip g z ti to' .ellipsis) (he : ∃ o, g.get? e = some o ∧ o.cls = .type "StopIteration") (kg : Kept4 z to' i1 i2 s.heap g), wpAny (model prog w) A (setField (.ref z) 0 .none) (fun _ s' => E (.ref e) s') E { s with heap := g } := fun g e zg ⟨o, ho, hc⟩ kg => by
    have ne : e ≠ z := fun x => by subst x; rw [zg] at ho; cases ho; simp at hc
    exact wpAny_setField_rec zg (by simp) fun g' _ s' => q g' e (fun c o c1 c2 c3 c4 x => s'.extBut _ _ c1 (kg c o c1 c2 c3 c4 x)) ⟨o, s'.extBut _ _ ne ho, hc⟩
  cases hx : xs[j1]? with
  | none =>
    refine wpAny_bind (wpAny_bind (wpAny_onRaise (show wpAny _ _ (Builtin.SmallTypes.nextOf (.ref i1) >>= _) _ _ _ from wpAny_bind (next_row_end hh (h1.to fun o e => s1.extBut _ _ d3 e) (r1.to fun o e => s1.extBut _ _ n1 e) hx fun g2 e s2 he => ?_))))
    exact fin g2 e (s2 _ _ (Ne.symm d3) z1) he fun c o c1 _ c3 _ x => s2 _ _ c3 (s1.extBut _ _ c1 x)
  | some x =>
    have hy : ys[j2]? = none := hend.resolve_left fun h => by rw [hx] at h; cases h
    refine wpAny_bind (wpAny_bind (wpAny_onRaise (show wpAny _ _ (Builtin.SmallTypes.nextOf (.ref i1) >>= _) _ _ _ from wpAny_bind (next_row (h1.to fun o e => s1.extBut _ _ d3 e) (r1.to fun o e => s1.extBut _ _ n1 e) hx fun g2 t2 s2 => wpAny_pure ?_))))
    have o2 : IsPair g2 to' a b := s2.extBut _ _ d8 (s1.extBut _ _ d2 hO)
    refine wpAny_bind (wpAny_seqItems o2 rfl (wpAny_bind (wpAny_updateSeq_pair o2 fun g3 o3 s3 => wpAny_bind (wpAny_letGo (wpAny_pure ?_)))))
    have e3 : ∀ c o, c ≠ z → c ≠ i1 → c ≠ to' → s.heap.get? c = some o → g3.get? c = some o := fun c o c1 c2 c3 e => s3.extBut _ _ c3 (s2.extBut _ _ c2 (s1.extBut _ _ c1 e))
    refine wpAny_bind (wpAny_bind (wpAny_onRaise (show wpAny _ _ (Builtin.SmallTypes.nextOf (.ref i2) >>= _) _ _ _ from wpAny_bind (next_row_end hh (h2.to fun o e => e3 _ o d4 (Ne.symm d10) (Ne.symm d9) e) (r2.to fun o e => e3 _ o n2.1 n2.2.2.1 n2.2.1 e) hy fun g4 e s4 he => ?_))))
    exact fin g4 e (s4 _ _ (Ne.symm d4) (s3.extBut _ _ (Ne.symm d2) (s2.extBut _ _ (Ne.symm d3) z1))) he fun c o c1 c2 c3 c4 x => s4 _ _ c4 (e3 c o c1 c3 c2 x)
theorem zip_next {k1 k2 : Bool} {z ti to' i1 i2 a1 a2 : Addr} {j1 j2 : Nat} {xs ys : Array Value} {x y : Value} {Q : Option Value → Shared → Prop} (D : Far z ti to' i1 i2) (Z : ZipAt s.heap z ti to' i1 i2 .none)
    (h1 : ItAt k1 s.heap i1 a1 j1) (h2 : ItAt k2 s.heap i2 a2 j2) (r1 : RowAt k1 s.heap a1 xs) (r2 : RowAt k2 s.heap a2 ys) (n2 : a2 ≠ z ∧ a2 ≠ to' ∧ a2 ≠ i1 ∧ a2 ≠ i2) (n1 : a1 ≠ z) (hx : xs[j1]? = some x) (hy : ys[j2]? = some y)
    (q : ∀ h', ZipAt h' z ti to' i1 i2 (rawInt s.heap.objs.size) → ItAt k1 h' i1 a1 (j1 + 1) → ItAt k2 h' i2 a2 (j2 + 1) → IsPair h' s.heap.objs.size x y → Kept4 z to' i1 i2 s.heap h' → Q (some (.ref s.heap.objs.size)) { s with heap := h' }) :
    wpAny (model prog w) A (pyNext (.ref z)) Q E s := by -- here
  have ty : s.TypeIs (.ref z) "zip" := ⟨_, Z.zip, rfl⟩
  unfold pyNext
  exact wpAny_bind (wpAny_attempt (wpAny_callSpecial?_slot (name := Str.ofString "__next__") ty F.slot_zip_next (wpAny_call_entry F.slot_zip_next ty F.entry_zip_next
    (zip_item D Z h1 h2 r1 r2 n2 n1 hx hy fun h' a b c d e => wpAny_pure (q h' a b c d e)) (F.args_zip_next_1 _))))
theorem zip_none {k1 k2 : Bool} {z ti to' i1 i2 a1 a2 : Addr} {j1 j2 : Nat} {xs ys : Array Value} {Q : Option Value → Shared → Prop} (hh : A.handled = none) (D : Far z ti to' i1 i2) (Z : ZipAt s.heap z ti to' i1 i2 .none)
    (h1 : ItAt k1 s.heap i1 a1 j1) (h2 : ItAt k2 s.heap i2 a2 j2) (r1 : RowAt k1 s.heap a1 xs) (r2 : RowAt k2 s.heap a2 ys) (n2 : a2 ≠ z ∧ a2 ≠ to' ∧ a2 ≠ i1 ∧ a2 ≠ i2) (n1 : a1 ≠ z) (hend : xs[j1]? = none ∨ ys[j2]? = none)
    (q : ∀ h', Kept4 z to' i1 i2 s.heap h' → Q none { s with heap := h' }) : wpAny (model prog w) A (pyNext (.ref z)) Q E s := by
  have ty : s.TypeIs (.ref z) "zip" := ⟨_, Z.zip, rfl⟩
  unfold pyNext
  refine wpAny_bind (wpAny_attempt (wpAny_callSpecial?_slot (name := Str.ofString "__next__") ty F.slot_zip_next (wpAny_call_entry F.slot_zip_next ty F.entry_zip_next
    (zip_stop hh D Z h1 h2 r1 r2 n2 n1 hend fun h' e kp he => ?_) (F.args_zip_next_1 _))))
  obtain ⟨o, ho, hc⟩ := he
  exact wpAny_bind (wpAny_isInstance (T := "StopIteration") (b := true) ⟨o, ho, hc⟩ isSubtype_stop (wpAny_pure (q _ kp)))
end
noncomputable abbrev itObj (k : Bool) (a : Addr) : Obj := { cls := .type (if k then "list_iterator" else "tuple_iterator"), data := .fields #[.ref a, .int 0 0] }
noncomputable abbrev zh1 (h : Heap) (k1 : Bool) (a1 : Addr) : Heap := h.push (itObj k1 a1)
noncomputable abbrev zh2 (h : Heap) (k1 k2 : Bool) (a1 a2 : Addr) : Heap := (zh1 h k1 a1).push (itObj k2 a2)
noncomputable abbrev zh3 (h : Heap) (k1 k2 : Bool) (a1 a2 : Addr) : Heap := (zh2 h k1 k2 a1 a2).push { cls := .type "tuple", data := .seq #[.ref h.objs.size, .ref (zh1 h k1 a1).objs.size] }
noncomputable abbrev zh4 (h : Heap) (k1 k2 : Bool) (a1 a2 : Addr) : Heap := (zh3 h k1 k2 a1 a2).push { cls := .type "tuple", data := .seq #[.none, .none] }
noncomputable abbrev zh5 (h : Heap) (k1 k2 : Bool) (a1 a2 : Addr) : Heap := (zh4 h k1 k2 a1 a2).push { cls := .type "zip", data := .fields #[.none, .bool false, .bool false, .ref (zh2 h k1 k2 a1 a2).objs.size, .ref (zh3 h k1 k2 a1 a2).objs.size] }
set_option maxHeartbeats 4000000 in
theorem zip_made_ff (a1 a2 : Addr) (xs ys : Array Value) : Meets (Builtin.«zip.__new__» ⟨[.type "zip", .ref a1, .ref a2], []⟩) (fun _ R s => s.heap.IsTuple a1 xs ∧ s.heap.IsTuple a2 ys ∧
      R (.ok (.ret (.ref (zh4 s.heap false false a1 a2).objs.size))) { s with heap := zh5 s.heap false false a1 a2 }) :=
  .of_wp fun prog w A R s ⟨r1, r2, fin⟩ => by
    obtain ⟨hp, g, d, tk, os⟩ := s -- here
    have hsub := sub_zip
    have q1 : Heap.IsTuple (Shared.heap ⟨hp, g, d, tk, os⟩) a1 xs := r1
    have q2 : Heap.IsTuple (Shared.heap ⟨hp.push { cls := .type "tuple_iterator", data := .fields #[.ref a1, .int 0 0] }, g, d, tk, os⟩) a2 ys := Heap.IsTuple.push r2 _
    wp_walk using wpAny_pyIter_tuple q1, wpAny_pyIter_tuple q2
    exact ⟨_, rfl, fin⟩
set_option maxHeartbeats 4000000 in
theorem zip_made_ft (a1 a2 : Addr) (xs ys : Array Value) : Meets (Builtin.«zip.__new__» ⟨[.type "zip", .ref a1, .ref a2], []⟩) (fun _ R s => s.heap.IsTuple a1 xs ∧ s.heap.IsList a2 ys ∧
      R (.ok (.ret (.ref (zh4 s.heap false true a1 a2).objs.size))) { s with heap := zh5 s.heap false true a1 a2 }) :=
  .of_wp fun prog w A R s ⟨r1, r2, fin⟩ => by
    obtain ⟨hp, g, d, tk, os⟩ := s -- here
    have hsub := sub_zip
    have q1 : Heap.IsTuple (Shared.heap ⟨hp, g, d, tk, os⟩) a1 xs := r1
    have q2 : Heap.IsList (Shared.heap ⟨hp.push { cls := .type "tuple_iterator", data := .fields #[.ref a1, .int 0 0] }, g, d, tk, os⟩) a2 ys := Heap.IsList.push r2 _
    wp_walk using wpAny_pyIter_tuple q1, wpAny_pyIter_list q2
    exact ⟨_, rfl, fin⟩
set_option maxHeartbeats 4000000 in
theorem zip_made_tf (a1 a2 : Addr) (xs ys : Array Value) : Meets (Builtin.«zip.__new__» ⟨[.type "zip", .ref a1, .ref a2], []⟩) (fun _ R s => s.heap.IsList a1 xs ∧ s.heap.IsTuple a2 ys ∧
      R (.ok (.ret (.ref (zh4 s.heap true false a1 a2).objs.size))) { s with heap := zh5 s.heap true false a1 a2 }) :=
  .of_wp fun prog w A R s ⟨r1, r2, fin⟩ => by
    obtain ⟨hp, g, d, tk, os⟩ := s -- here
    have hsub := sub_zip
    have q1 : Heap.IsList (Shared.heap ⟨hp, g, d, tk, os⟩) a1 xs := r1
    have q2 : Heap.IsTuple (Shared.heap ⟨hp.push { cls := .type "list_iterator", data := .fields #[.ref a1, .int 0 0] }, g, d, tk, os⟩) a2 ys := Heap.IsTuple.push r2 _
    wp_walk using wpAny_pyIter_list q1, wpAny_pyIter_tuple q2
    exact ⟨_, rfl, fin⟩
set_option maxHeartbeats 4000000 in
theorem zip_made_tt (a1 a2 : Addr) (xs ys : Array Value) : Meets (Builtin.«zip.__new__» ⟨[.type "zip", .ref a1, .ref a2], []⟩) (fun _ R s => s.heap.IsList a1 xs ∧ s.heap.IsList a2 ys ∧
      R (.ok (.ret (.ref (zh4 s.heap true true a1 a2).objs.size))) { s with heap := zh5 s.heap true true a1 a2 }) :=
  .of_wp fun prog w A R s ⟨r1, r2, fin⟩ => by
    obtain ⟨hp, g, d, tk, os⟩ := s -- here
    have hsub := sub_zip
    have q1 : Heap.IsList (Shared.heap ⟨hp, g, d, tk, os⟩) a1 xs := r1
    have q2 : Heap.IsList (Shared.heap ⟨hp.push { cls := .type "list_iterator", data := .fields #[.ref a1, .int 0 0] }, g, d, tk, os⟩) a2 ys := Heap.IsList.push r2 _
    wp_walk using wpAny_pyIter_list q1, wpAny_pyIter_list q2
    exact ⟨_, rfl, fin⟩
theorem zip_made (k1 k2 : Bool) (a1 a2 : Addr) (xs ys : Array Value) : Meets (Builtin.«zip.__new__» ⟨[.type "zip", .ref a1, .ref a2], []⟩) (fun _ R s => RowAt k1 s.heap a1 xs ∧ RowAt k2 s.heap a2 ys ∧
      R (.ok (.ret (.ref (zh4 s.heap k1 k2 a1 a2).objs.size))) { s with heap := zh5 s.heap k1 k2 a1 a2 }) := by
  cases k1 <;> cases k2
  · exact zip_made_ff a1 a2 xs ys
  · exact zip_made_ft a1 a2 xs ys
  · exact zip_made_tf a1 a2 xs ys
  · exact zip_made_tt a1 a2 xs ys
theorem itObj_at {k : Bool} {h : Heap} {p a : Addr} (e : h.get? p = some (itObj k a)) : ItAt k h p a 0 := by
  cases k <;> exact ⟨_, e, rfl, rfl⟩
noncomputable section
variable {prog : Program} {w : World} {A : Around} {E : Value → Shared → Prop} {s : Shared}
theorem call_zip {k1 k2 : Bool} {a1 a2 : Addr} {xs ys : Array Value} {Q : Value → Shared → Prop} (r1 : RowAt k1 s.heap a1 xs) (r2 : RowAt k2 s.heap a2 ys)
    (q : ∀ h', ZipAt h' (s.heap.objs.size + 4) (s.heap.objs.size + 2) (s.heap.objs.size + 3) s.heap.objs.size (s.heap.objs.size + 1) .none → ItAt k1 h' s.heap.objs.size a1 0 → ItAt k2 h' (s.heap.objs.size + 1) a2 0 →
      (∀ c o, s.heap.get? c = some o → h'.get? c = some o) → Q (.ref (s.heap.objs.size + 4)) { s with heap := h' }) : wpAny (model prog w) A (call (.type "zip") [.ref a1, .ref a2]) Q E s := by
  refine callType_new F.called_zip (by decide) (F.typeCall_zip_2 _ _) (F.newCall_zip_2 _ _) (fun obj => F.args_object_init_3 obj _ _) F.entry_zip_new (zip_made k1 k2 a1 a2 xs ys) ⟨r1, r2, ?_⟩
  have y1 : (zh1 s.heap k1 a1).objs.size = s.heap.objs.size + 1 := Heap.size_push ..
  have y2 : (zh2 s.heap k1 k2 a1 a2).objs.size = s.heap.objs.size + 2 := by rw [Heap.size_push, y1]
  have y3 : (zh3 s.heap k1 k2 a1 a2).objs.size = s.heap.objs.size + 3 := by rw [Heap.size_push, y2]
  have y4 : (zh4 s.heap k1 k2 a1 a2).objs.size = s.heap.objs.size + 4 := by rw [Heap.size_push, y3]
  have up : ∀ {h : Heap} {o : Obj} {c : Addr} {u : Obj}, h.get? c = some u → (h.push o).get? c = some u := fun e => Heap.get?_push_of_some _ e
  have g5 : (zh5 s.heap k1 k2 a1 a2).get? (zh4 s.heap k1 k2 a1 a2).objs.size = some _ := Heap.get?_push_size _ rfl
  have g4 : (zh5 s.heap k1 k2 a1 a2).get? (zh3 s.heap k1 k2 a1 a2).objs.size = some _ := up (Heap.get?_push_size _ rfl)
  have g3 : (zh5 s.heap k1 k2 a1 a2).get? (zh2 s.heap k1 k2 a1 a2).objs.size = some _ := up (up (Heap.get?_push_size _ rfl))
  have g2 : (zh5 s.heap k1 k2 a1 a2).get? (zh1 s.heap k1 a1).objs.size = some (itObj k2 a2) := up (up (up (Heap.get?_push_size _ rfl)))
  have g1 : (zh5 s.heap k1 k2 a1 a2).get? s.heap.objs.size = some (itObj k1 a1) := up (up (up (up (Heap.get?_push_size _ rfl))))
  show _ ∧ _
  rw [y2, y3, y4] at g5
  rw [y1, y2] at g3
  rw [y3] at g4
  rw [y1] at g2
  rw [y4]
  exact ⟨⟨_, g5, rfl⟩, q _ ⟨g5, g3, _, _, g4⟩ (itObj_at g1) (itObj_at g2) fun c o x => up (up (up (up (up x))))⟩
end
end C
end
noncomputable section
set_option linter.all false
set_option maxRecDepth 100000
set_option maxHeartbeats 4000002
set_option autoImplicit false
namespace C
open PySem PySem.Spec PyProof.Rows L2
theorem Inv.turnedN {X : Cx} {pins : List (Addr × Obj)} {σ : L2.St} {H : Hp} {s : Shared} {h' : Heap} {t' : Nat} {ch : List Addr} {n : Addr} {o : HO} (I : L2.Inv X pins σ H s) (hch : ∀ b ∈ ch, FpOk X pins H b)
    (k : ∀ b u, b ∉ ch → s.heap.get? b = some u → h'.get? b = some u) (hp : s.heap.objs.size ≤ n) (new : ObjOk X.prog X.w (upd H n o) h' n o) : L2.Inv X pins σ (upd H n o) { s with heap := h', toks := t' } := by
  have fr := I.hok.fresh hp
  have nn : ∀ b u, s.heap.get? b = some u → b ≠ n := fun b u e => Nat.ne_of_lt (Nat.lt_of_lt_of_le (Heap.lt_size e) hp)
  have nch : ∀ b u, H b = some u → b ∉ ch := fun b u e z => by rw [(hch b z).1] at e; cases e
  refine I.step (g' := s.gens) (d' := s.drawn) (ch := ch) (fun b hb => ?_) (fun b u _ _ hc e _ => k b u hc e) (fun b u _ _ hc e _ => ⟨u.slots, k b u hc e⟩) (fun b u _ e z => by rw [upd_ne (nn b u e)]; exact z)
    (fun b u hc e => ⟨u, k b u hc e⟩) (fun b xs e => by rw [upd_ne (ne_of_none e fr)]; exact e) (fun b u xs e => by rw [upd_ne (ne_of_none e fr)]; exact e) (fun b ps e => ⟨#[], by rw [upd_ne (ne_of_none e fr), e]; simp⟩) (fun m hm => ?_) (fun b u e => ?_) I.bare
  · obtain ⟨f0, f1, f2, f3, f4, f5⟩ := hch b hb
    exact ⟨f3, f1, f4, f5⟩
  · obtain ⟨ob, es, ep, ho, r⟩ := hm
    exact ⟨ob, es, ep, k _ ob (fun z => (hch _ z).2.1 rfl) ho, r⟩
  · by_cases hb : b = n
    · subst hb; rw [upd_same] at e; cases e; exact new
    · rw [upd_ne hb] at e
      refine (I.hok b u e).stay (fun c v hc q => k c v ?_ q) (fun c q => by rw [upd_ne (ne_of_none q fr)]; exact q) fun c xs q => by rw [upd_ne (ne_of_none q fr)]; exact q
      rcases hc with rfl | hc
      · exact nch _ _ e
      · exact nch _ _ hc
theorem Inv.turnedL {X : Cx} {pins : List (Addr × Obj)} {σ : L2.St} {H : Hp} {s : Shared} {h' : Heap} {t' : Nat} {ch : List Addr} (I : L2.Inv X pins σ H s) (hch : ∀ b ∈ ch, FpOk X pins H b)
    (k : ∀ b u, b ∉ ch → s.heap.get? b = some u → h'.get? b = some u) : L2.Inv X pins σ H { s with heap := h', toks := t' } := by
  have nch : ∀ b u, H b = some u → b ∉ ch := fun b u e z => by rw [(hch b z).1] at e; cases e
  refine I.step (g' := s.gens) (d' := s.drawn) (ch := ch) (fun b hb => ?_) (fun b u _ _ hc e _ => k b u hc e) (fun b u _ _ hc e _ => ⟨u.slots, k b u hc e⟩) (fun b u _ e z => z)
    (fun b u hc e => ⟨u, k b u hc e⟩) (fun b xs e => e) (fun b u xs e => e) (fun b ps e => ⟨#[], by rw [e]; simp⟩) (fun m hm => ?_) (fun b u e => ?_) I.bare
  · obtain ⟨f0, f1, f2, f3, f4, f5⟩ := hch b hb
    exact ⟨f3, f1, f4, f5⟩
  · obtain ⟨ob, es, ep, ho, r⟩ := hm
    exact ⟨ob, es, ep, k _ ob (fun z => (hch _ z).2.1 rfl) ho, r⟩
  · refine (I.hok b u e).stay (fun c v hc q => k c v ?_ q) (fun c q => q) fun c xs q => q
    rcases hc with rfl | hc
    · exact nch _ _ e
    · exact nch _ _ hc
noncomputable def Sq : Bool → PySem.W.Frag → Hp → Addr → List V → Prop
  | true, K, H, a, xs => SqL K H a xs
  | false, K, H, a, xs => SqT K H a xs
noncomputable section
variable {X : Cx} {pins : List (Addr × Obj)} {σ : L2.St} {H : Hp} {s : Shared} {a : Addr} {xs ys : List V} {k : Bool}
theorem Sq.row (I : L2.Inv X pins σ H s) (h : Sq k X.K H a xs) : ∃ its : List Value, Vals xs its ∧ RowAt k s.heap a its.toArray := by
  cases k with
  | true => obtain ⟨its, r, p, _⟩ := I.list h; exact ⟨its, r, p.isList⟩
  | false => obtain ⟨its, r, p, _⟩ := I.tuple h; exact ⟨its, r, p⟩
theorem Sq.inj (I : L2.Inv X pins σ H s) (h : Sq k X.K H a xs) (h' : Sq k X.K H a ys) : xs = ys := by
  cases k with
  | true => exact I.list_inj h h'
  | false => exact I.tuple_inj h h'
theorem Sq.far (I : L2.Inv X pins σ H s) {b : Addr} (h : Sq k X.K H a xs) (f : FpOk X pins H b) : a ≠ b := by
  have held : ∀ o, X.K.lookup a = some o → a ≠ b := fun o e z => by
    subst z
    have eb := I.mod.kin a o e
    rcases f.2.2.2.1 with q | q
    · exact I.ok.noex a o eb q
    · exact absurd (Nat.lt_of_lt_of_le (Heap.lt_size (I.ok.bs a o eb).1) q) (Nat.lt_irrefl _)
  have there : ∀ u, Rd H a u → a ≠ b := fun u e z => by
    subst z
    rcases e with e | ⟨o, e⟩ <;> rw [f.1] at e <;> cases e
  cases k with
  | true =>
    rcases h with h | ⟨o, _, _, e, _⟩
    · exact there _ h
    · exact held o e
  | false =>
    rcases h with h | ⟨o, _, _, e, _⟩
    · exact there _ h
    · exact held o e
end
noncomputable def Itz (K : PySem.W.Frag) (k1 k2 : Bool) (a1 a2 : Addr) : It :=
  ⟨fun i H => ∃ xs ys x y, Sq k1 K H a1 xs ∧ Sq k2 K H a2 ys ∧ xs[i]? = some x ∧ ys[i]? = some y,
   fun i H v H' => ∃ p x y, H p = none ∧ v = .ref p ∧ H' = upd H p (.tup [x, y]) ∧ (∀ xs, Sq k1 K H a1 xs → xs[i]? = some x) ∧ ∀ ys, Sq k2 K H a2 ys → ys[i]? = some y,
   fun i H => ∃ xs ys, Sq k1 K H a1 xs ∧ Sq k2 K H a2 ys ∧ (xs.length ≤ i ∨ ys.length ≤ i)⟩
theorem turn_zip {P : Program} {w : World} {K : PySem.W.Frag} {elts : List Expr} {x1 : Nat} {pos : Pos} {k1 k2 : Bool} {a1 a2 z ti to' i1 i2 : Addr} (D : Far z ti to' i1 i2) :
    Turn P w K (.Tuple elts x1 pos) (Itz K k1 k2 a1 a2) [z, ti, to', i1, i2] z (fun i h => ZipAt h z ti to' i1 i2 .none ∧ ItAt k1 h i1 a1 i ∧ ItAt k2 h i2 a2 i) where
  mem := by simp
  obj := fun i h ⟨Z, t1, t2⟩ b hb => by
    simp only [List.mem_cons, List.not_mem_nil, or_false] at hb -- here
    obtain ⟨zz, its, a, b, kp⟩ := Z
    rcases hb with rfl | rfl | rfl | rfl | rfl
    · exact ⟨_, zz, fun v q => by cases q⟩
    · exact ⟨_, its, fun v q => by cases q⟩
    · exact ⟨_, kp, fun v q => by cases q⟩
    · exact t1.obj
    · exact t2.obj
  keep := fun i h h' ⟨⟨zz, its, a, b, kp⟩, t1, t2⟩ e => ⟨⟨e z (by simp) _ zz, e ti (by simp) _ its, a, b, e to' (by simp) _ kp⟩, t1.to fun o q => e i1 (by simp) o q, t2.to fun o q => e i2 (by simp) o q⟩
  item := by
    intro X hP hw hK hc i pins s σ H E I hf ⟨Z, t1, t2⟩ ⟨xs, ys, x, y, q1, q2, e1, e2⟩
    subst hP hw hK
    obtain ⟨its1, v1, r1⟩ := q1.row I
    obtain ⟨its2, v2, r2⟩ := q2.row I
    obtain ⟨u1, g1, ru1⟩ := v1.get e1
    obtain ⟨u2, g2, ru2⟩ := v2.get e2
    have f1 : ∀ b ∈ [z, ti, to', i1, i2], a1 ≠ b := fun b hb => q1.far I (hf b hb)
    have f2 : ∀ b ∈ [z, ti, to', i1, i2], a2 ≠ b := fun b hb => q2.far I (hf b hb)
    refine zip_next D Z t1 t2 r1 r2 ⟨f2 z (by simp), f2 to' (by simp), f2 i1 (by simp), f2 i2 (by simp)⟩ (f1 z (by simp)) (by simpa using g1) (by simpa using g2) fun h' Z' t1' t2' hp kp => ?_
    refine ⟨_, rfl, wpAny_letOwnedTupleGo_zip (s := { s with heap := h' }) Z'.zip fun h2 z2 s2 => ?_⟩
    obtain ⟨d1, d2, d3, d4, d5, d6, d7, d8, d9, d10⟩ := D.all
    have lt : ∀ b ∈ [z, ti, to', i1, i2], s.heap.objs.size ≠ b := fun b hb => by
      have ob : ∃ o, s.heap.get? b = some o := by
        simp only [List.mem_cons, List.not_mem_nil, or_false] at hb -- here
        obtain ⟨zz, its, a, b', kp⟩ := Z
        rcases hb with rfl | rfl | rfl | rfl | rfl
        · exact ⟨_, zz⟩
        · exact ⟨_, its⟩
        · exact ⟨_, kp⟩
        · exact ⟨_, t1.obj.choose_spec.1⟩
        · exact ⟨_, t2.obj.choose_spec.1⟩
      obtain ⟨o, e⟩ := ob
      exact Nat.ne_of_gt (Heap.lt_size e)
    have pair : IsPair h2 s.heap.objs.size u1 u2 := s2.extBut _ _ (lt z (by simp)) hp
    have J : L2.Inv X pins σ (upd H s.heap.objs.size (.tup [x, y])) { s with heap := h2, toks := s.toks } := Inv.turnedN (ch := [z, ti, to', i1, i2]) I hf (fun b u hb e => by
      simp only [List.mem_cons, List.not_mem_nil, or_false, not_or] at hb
      exact s2.extBut _ _ hb.1 (kp b u hb.1 hb.2.2.1 hb.2.2.2.1 hb.2.2.2.2 e)) (Nat.le_refl _) ⟨by show 2 ≤ sizeLine; rw [sizeLine_eq]; decide, [u1, u2], .cons ru1 (.cons ru2 .nil), ⟨_, pair, rfl, rfl, 0, rfl⟩⟩
    refine ⟨.ref s.heap.objs.size, _, J, rfl, ⟨s.heap.objs.size, x, y, I.hok.fresh (Nat.le_refl _), rfl, rfl, fun xs' h => by rw [h.inj I q1]; exact e1, fun ys' h => by rw [h.inj I q2]; exact e2⟩, ?_, fun b hb => ?_⟩
    · obtain ⟨_, its, a, b, kk⟩ := Z'
      exact ⟨⟨z2, s2.extBut _ _ d1 its, a, b, s2.extBut _ _ d2 kk⟩, t1'.to fun o q => s2.extBut _ _ d3 q, t2'.to fun o q => s2.extBut _ _ d4 q⟩
    · rw [upd_ne (Ne.symm (lt b hb))]; exact (hf b hb).1
  done := by
    intro X hP hw hK hc i pins s σ H E I hf ⟨Z, t1, t2⟩ ⟨xs, ys, q1, q2, e⟩
    subst hP hw hK
    obtain ⟨its1, v1, r1⟩ := q1.row I
    obtain ⟨its2, v2, r2⟩ := q2.row I
    have f1 : ∀ b ∈ [z, ti, to', i1, i2], a1 ≠ b := fun b hb => q1.far I (hf b hb)
    have f2 : ∀ b ∈ [z, ti, to', i1, i2], a2 ≠ b := fun b hb => q2.far I (hf b hb)
    refine zip_none (I.ok.hd hc) D Z t1 t2 r1 r2 ⟨f2 z (by simp), f2 to' (by simp), f2 i1 (by simp), f2 i2 (by simp)⟩ (f1 z (by simp)) ?_ fun h' kp => ⟨rfl, Inv.turnedL (t' := s.toks) (ch := [z, ti, to', i1, i2]) I hf fun b u hb e => ?_⟩
    · have l1 := v1.length
      have l2 := v2.length
      rcases e with e | e
      · exact .inl (by simp; omega)
      · exact .inr (by simp; omega)
    · simp only [List.mem_cons, List.not_mem_nil, or_false, not_or] at hb
      exact kp b u hb.1 hb.2.2.1 hb.2.2.2.1 hb.2.2.2.2 e
  self := fun _ _ _ _ _ ⟨Z, _⟩ h => wpAny_pyIter_zip Z.zip h
theorem far_new (n : Nat) : Far (n + 4) (n + 2) (n + 3) n (n + 1) := ⟨by
  have h1 : n + 4 ≠ n + 2 := by omega
  have h2 : n + 4 ≠ n + 3 := by omega
  have h3 : n + 4 ≠ n := by omega
  have h4 : n + 4 ≠ n + 1 := by omega
  have h5 : n + 2 ≠ n + 3 := by omega
  have h6 : n + 2 ≠ n := by omega
  have h7 : n + 2 ≠ n + 1 := by omega
  have h8 : n + 3 ≠ n := by omega
  have h9 : n + 3 ≠ n + 1 := by omega
  have h10 : n ≠ n + 1 := by omega
  exact List.nodup_cons.mpr ⟨by simp only [List.mem_cons, List.not_mem_nil, or_false, not_or]; exact ⟨h1, h2, h3, h4⟩, List.nodup_cons.mpr ⟨by simp only [List.mem_cons, List.not_mem_nil, or_false, not_or]; exact ⟨h5, h6, h7⟩, List.nodup_cons.mpr ⟨by simp only [List.mem_cons, List.not_mem_nil, or_false, not_or]; exact ⟨h8, h9⟩, List.nodup_cons.mpr ⟨by simp only [List.mem_cons, List.not_mem_nil, or_false]; exact h10, List.nodup_cons.mpr ⟨by simp, .nil⟩⟩⟩⟩⟩⟩
noncomputable def iZp (K : PySem.W.Frag) (ta : TA) : TI := fun σ H R => ta σ H fun vs H1 => ∃ k1 k2 a1 a2 xs ys, vs = [.ref a1, .ref a2] ∧ Sq k1 K H1 a1 xs ∧ Sq k2 K H1 a2 ys ∧ R (Itz K k1 k2 a1 a2) H1
noncomputable section
variable {X : Cx} {B : Bas} {a b : Expr} {m m1 m2 : M T} {pos p : Pos} {elts : List Expr} {x1 : Nat} {tpos : Pos}
theorem pi_zip {ta : TA} (hg : Gl X "zip") (hm : X.mg "zip" = none) (ha : PA X [a, b] ta) (hs : starEach [a, b] X.env = [(false, eval a X.env), (false, eval b X.env)] := by rfl) (hs2 : starEach [b] X.env = [(false, eval b X.env)] := by rfl) :
    PI X (.Tuple elts x1 tpos) (.Call (.Name "zip" p) [a, b] [] pos) (iZp X.K ta) := by
  intro pins s σ H R I h
  refine Call_ (ld_blt I hg hm boot_zip (PyProof.Rows.callWith_type1 (thn (ha pos pins s σ H _ I h) fun us s1 ⟨vs, H1, I1, r1, q1⟩ => ?_) (by rw [hs, hs2]) (by rw [hs2]; rfl)))
  obtain ⟨k1, k2, a1, a2, xs, ys, e, w1, w2, q⟩ := q1
  subst e
  cases r1 with
  | cons r rr =>
    cases rr with
    | cons r' rr =>
      cases rr
      cases r
      cases r'
      obtain ⟨its1, v1, r1⟩ := w1.row I1
      obtain ⟨its2, v2, r2⟩ := w2.row I1
      refine call_zip r1 r2 fun h' Z t1 t2 kp => wpAny_pyIter_zip Z.zip ?_
      have D : Far (s1.heap.objs.size + 4) (s1.heap.objs.size + 2) (s1.heap.objs.size + 3) s1.heap.objs.size (s1.heap.objs.size + 1) := far_new s1.heap.objs.size
      refine ⟨_, _, _, _, H1, rfl, I1.kept (t' := s1.toks) kp, turn_zip D, ⟨Z, t1, t2⟩, fun b hb => ?_, q⟩
      have hle : s1.heap.objs.size ≤ b := by
        simp only [List.mem_cons, List.not_mem_nil, or_false] at hb -- here
        rcases hb with rfl | rfl | rfl | rfl | rfl
        · exact Nat.le_add_right _ 4
        · exact Nat.le_add_right _ 2
        · exact Nat.le_add_right _ 3
        · exact Nat.le_refl _
        · exact Nat.le_add_right _ 1
      exact I1.fpOk hle (I1.hok.fresh hle)
theorem iZip_inv {ts : List T} {s s' : Sta} (h : iZip m1 m2 s = some (ts, s')) : ∃ t u s1 xs ys, m1 s = some (t, s1) ∧ m2 s1 = some (u, s') ∧ seqOf t = some xs ∧ seqOf u = some ys ∧ xs.length < lim ∧ ys.length < lim ∧ ts = zipT xs ys := by
  unfold iZip at h
  split at h
  · rename_i t s1 e1
    split at h
    · rename_i u s2 e2
      split at h
      · rename_i xs ys e3 e4
        split at h
        · rename_i hl; cases h; exact ⟨t, u, s1, xs, ys, e1, e2, e3, e4, hl.1, hl.2, rfl⟩
        · cases h
      · cases h
    · cases h
  · cases h
theorem sz_zip : ∀ st ts st', iZip m1 m2 st = some (ts, st') → ts.length ≤ sizeLine := fun st ts st' e => by
  obtain ⟨t, u, s1, xs, ys, _, _, _, _, l1, _, rfl⟩ := iZip_inv e
  unfold zipT
  rw [List.length_map, List.length_zip]
  have := lim_line
  omega
theorem zipT_get {xs ys : List T} {i : Nat} {t : T} (h : (zipT xs ys)[i]? = some t) : ∃ x y, xs[i]? = some x ∧ ys[i]? = some y ∧ t = .tup [x, y] := by
  unfold zipT at h
  rw [List.getElem?_map] at h
  obtain ⟨p, e, rfl⟩ := Option.map_eq_some_iff.mp h
  obtain ⟨e1, e2⟩ := List.getElem?_zip_eq_some.mp e
  exact ⟨p.1, p.2, e1, e2, rfl⟩
theorem seq_row {K : PySem.W.Frag} {S : Hp} {as : List Addr} {v : V} {t : T} {xs : List T} (r : Rep K S as v t) (e : seqOf t = some xs) : ∃ k a vs, v = .ref a ∧ Sq k K S a vs ∧ Reps K S as vs xs ∧ (k = true ∧ t = .lst xs ∨ k = false ∧ t = .tup xs) := by
  cases r with
  | @lst a vs ts g1 g2 => simp only [seqOf] at e; cases e; exact ⟨true, a, vs, rfl, g1, g2, .inl ⟨rfl, rfl⟩⟩
  | @tup a vs ts g1 g2 => simp only [seqOf] at e; cases e; exact ⟨false, a, vs, rfl, g1, g2, .inr ⟨rfl, rfl⟩⟩
  | _ => simp only [seqOf, reduceCtorEq] at e
theorem Sq.mono {k : Bool} {K : PySem.W.Frag} {S H : Hp} {a : Addr} {vs : List V} (e : Same S H) (h : Sq k K S a vs) : Sq k K H a vs := by
  cases k with
  | true => exact sqL_mono e h
  | false => exact sqT_mono e h
theorem rep_row {K : PySem.W.Frag} {S : Hp} {as : List Addr} {a : Addr} {t : T} {xs : List T} {k : Bool} (r : Rep K S as (.ref a) t) (e : k = true ∧ t = .lst xs ∨ k = false ∧ t = .tup xs) : ∃ vs, Sq k K S a vs ∧ Reps K S as vs xs := by
  rcases e with ⟨rfl, rfl⟩ | ⟨rfl, rfl⟩
  · cases r with
    | lst g1 g2 => exact ⟨_, g1, g2⟩
  · cases r with
    | tup g1 g2 => exact ⟨_, g1, g2⟩
theorem ti_zip (hg : Gl X "zip") (hm : X.mg "zip" = none) (h1 : PE X a (tOf X.K B m1)) (h2 : PE X b (tOf X.K B m2)) (hs : starEach [a, b] X.env = [(false, eval a X.env), (false, eval b X.env)] := by rfl) (hs2 : starEach [b] X.env = [(false, eval b X.env)] := by rfl) :
    PI X (.Tuple elts x1 tpos) (.Call (.Name "zip" p) [a, b] [] pos) (iOf X.K B (iZip m1 m2)) := by
  intro pins s σ H R I hw
  refine pi_zip (ta := tCons (tOf X.K B m1) (tCons (tOf X.K B m2) tNil)) hg hm (pa_cons h1 (pa_cons h2 pa_nil (by rw [hs2]; rfl)) (by rw [hs, hs2])) hs hs2 pins s σ H R I ?_
  obtain ⟨st, ps, S, as, Rl, ts, st', e, hz, q⟩ := hw
  obtain ⟨t, u, s1, xs, ys, e1, e2, e3, e4, l1, l2, rfl⟩ := iZip_inv e
  refine ⟨st, ps, S, as, Rl, t, s1, e1, fun v H1 S1 as1 R1 => ⟨s1, _, S1, as1, R1, u, st', e2, fun v2 H2 S2 as2 R2 => ?_⟩⟩
  obtain ⟨k1, a1, vs1, rfl, w1, p1, c1⟩ := seq_row R2.top2 e3
  obtain ⟨k2, a2, vs2, rfl, w2, p2, c2⟩ := seq_row R2.top e4
  refine ⟨k1, k2, a1, a2, vs1, vs2, rfl, w1.mono R2.sub, w2.mono R2.sub, q _ H2 S2 as2 [(.ref a2, u), (.ref a1, t)] R2 fun S3 as3 H3 hp hh => ?_⟩
  obtain ⟨us1, y1, z1⟩ := rep_row (hp (.ref a1, t) (by simp)) c1
  obtain ⟨us2, y2, z2⟩ := rep_row (hp (.ref a2, u) (by simp)) c2
  refine ⟨fun i tt et => ?_, fun i hi => ⟨us1, us2, y1.mono hh, y2.mono hh, ?_⟩⟩
  · obtain ⟨x, y, f1, f2, rfl⟩ := zipT_get et
    obtain ⟨vx, gx, rx⟩ := z1.get f1
    obtain ⟨vy, gy, ry⟩ := z2.get f2
    refine ⟨⟨us1, us2, vx, vy, y1.mono hh, y2.mono hh, gx, gy⟩, fun v H' ⟨pp, x', y', hn, hv, hH, b1, b2⟩ => ?_⟩
    have c1 := b1 _ (y1.mono hh)
    have c2 := b2 _ (y2.mono hh)
    rw [gx] at c1; rw [gy] at c2
    cases c1; cases c2
    subst hv hH
    have x := Ext.laid hh hn (.tup [vx, vy])
    exact ⟨_, x, .tup (SqT.of upd_same) (.cons (rx.mono x.s nol) (.cons (ry.mono x.s nol) .nil))⟩
  · rw [z1.length, z2.length]
    unfold zipT at hi
    rw [List.length_map, List.length_zip] at hi
    omega
end
end C
end
noncomputable section
set_option linter.all false
set_option maxRecDepth 100000
set_option maxHeartbeats 4000002
set_option autoImplicit false
namespace C
open PySem PySem.Spec PyProof.Rows L2
noncomputable section
variable {X : Cx}
variable {B : Bas} {o e : Expr} {m1 m2 : M T} {apos cpos : Pos}
end
end C
end
noncomputable section
set_option linter.all false
set_option maxRecDepth 100000
set_option maxHeartbeats 4000002
set_option autoImplicit false
namespace C
open PySem PySem.Spec PyProof.Rows L2
theorem sIx_eq (n d : Nat) (o : Option Int) : sIx n d o = HT.sIx n d o := by cases o <;> rfl
noncomputable def oOf (K : PySem.W.Frag) (B : Bas) (m : M (Option Int)) : TO := fun σ H Q => ∃ st ps S as, Rel K B st σ H ps S as ∧ ∃ o st', m st = some (o, st') ∧ ∀ H' S' as', Rel K B st' σ H' ps S' as' → Q o H'
noncomputable section
variable {X : Cx} {B : Bas} {a e : Expr} {m : M T} {ml mh : M (Option Int)} {lo hi : Option Expr} {pos p2 : Pos}
theorem to_none : PO X none (oOf X.K B oNone) := fun pins s σ H Q I ⟨st, ps, S, as, R, o, st', e, q⟩ => po_none pins s σ H Q I (by cases e; exact q H S as R)
theorem to_some (h : PE X e (tOf X.K B m)) : PO X (some e) (oOf X.K B (oSome m)) := fun pins s σ H Q I ⟨st, ps, S, as, R, o, st', eo, q⟩ => po_some h pins s σ H Q I (by
  unfold oSome at eo
  split at eo
  · rename_i i s1 e1
    cases eo
    refine ⟨st, ps, S, as, R, .int i, _, e1, fun v H1 S1 as1 R1 => ?_⟩
    cases R1.top
    exact ⟨i, rfl, q H1 S1 as1 R1.drop⟩
  · cases eo)
theorem mSlice_inv {s s' : Sta} {v : T} (h : mSlice m ml mh s = some (v, s')) : ∃ t s1 l s2 u, m s = some (t, s1) ∧ ml s1 = some (l, s2) ∧ mh s2 = some (u, s') ∧ cutX l u t = some v := by
  unfold mSlice at h
  split at h
  · rename_i t s1 e1
    split at h
    · rename_i l s2 e2
      split at h
      · rename_i u s3 e3
        split at h
        · rename_i w e4; cases h; exact ⟨t, s1, l, s2, u, e1, e2, e3, e4⟩
        · cases h
      · cases h
    · cases h
  · cases h
theorem Reps.takes {K : PySem.W.Frag} {S : Hp} {as : List Addr} : ∀ (n : Nat) {vs : List V} {ts : List T}, Reps K S as vs ts → Reps K S as (vs.take n) (ts.take n)
  | 0, _, _, _ => .nil
  | _ + 1, _, _, .nil => .nil
  | n + 1, _, _, .cons h r => .cons h (Reps.takes n r)
theorem reps_cut {K : PySem.W.Frag} {S : Hp} {as : List Addr} {vs : List V} {ts : List T} (r : Reps K S as vs ts) (lo hi : Option Int) : Reps K S as (cutV vs lo hi) (cutl ts lo hi) := by
  unfold cutV cutl
  rw [sIx_eq, sIx_eq, r.length]
  exact Reps.takes _ (r.drop _)
theorem te_slice (ha : PE X a (tOf X.K B m)) (hl : PO X lo (oOf X.K B ml)) (hh : PO X hi (oOf X.K B mh)) : PE X (.Subscript a (.Slice lo hi none p2) pos) (tOf X.K B (mSlice m ml mh)) :=
  (pe_slice (sl_list.or sl_tup) ha hl hh).imp fun σ H Q ⟨st, ps, S, as, R, t, st', e, q⟩ => by
    obtain ⟨t1, s1, l, s2, u, e1, e2, e3, e4⟩ := mSlice_inv e
    refine ⟨st, ps, S, as, R, t1, s1, e1, fun v H1 S1 as1 R1 => ⟨s1, _, S1, as1, R1, l, s2, e2, fun H2 S2 as2 R2 => ⟨s2, _, S2, as2, R2, u, st', e3, fun H3 S3 as3 R3 => ?_⟩⟩⟩
    have top := R3.top
    cases top with
    | @lst b vs ts g1 g2 =>
      simp only [cutX] at e4; cases e4
      refine .inl ⟨b, vs, rfl, sqL_mono R3.sub g1, fun p hp => ?_⟩
      have x := Ext.laid R3.sub hp (.lst (cutV vs l u))
      exact q _ _ _ _ ((R3.drop.ext x).push (.lst (SqL.of upd_same) ((reps_cut g2 l u).mono x.s nol)))
    | @tup b vs ts g1 g2 =>
      simp only [cutX] at e4
      split at e4
      · cases e4
      · rename_i hw
        cases e4
        refine .inr ⟨b, vs, rfl, sqT_mono R3.sub g1, ?_, fun p hp => ?_⟩
        · rw [sIx_eq, sIx_eq, ← g2.length] at hw; exact hw
        · have x := Ext.laid R3.sub hp (.tup (cutV vs l u))
          exact q _ _ _ _ ((R3.drop.ext x).push (.tup (SqT.of upd_same) ((reps_cut g2 l u).mono x.s nol)))
    | _ => simp only [cutX, reduceCtorEq] at e4
end
noncomputable section
variable {prog : Program} {w : World} {A : Around} {E : Value → Shared → Prop} {s : Shared}
end
noncomputable section
variable {X : Cx} {B : Bas} {e : Expr} {te : TE} {m m1 m2 : M T} {pos p p2 p3 p4 : Pos} {j : Nat}
theorem te_isi_str {a : Expr} {pc : Pos} (hg : Gl X "isinstance") (hm : X.mg "isinstance" = none) (hg2 : Gl X "str") (hm2 : X.mg "str" = none) (ha : PE X a (tOf X.K B m)) (he : starEach [a, .Name "str" pc] X.env = (false, eval a X.env) :: starEach [.Name "str" pc] X.env := by rfl) :
    PE X (.Call (.Name "isinstance" p) [a, .Name "str" pc] [] pos) (tOf X.K B (mMap isStr (mCons m mNil))) := by
  rw [show isStr = _ from funext isStr_eq]
  exact te_isi (cn := "str") hg hm hg2 hm2 boot_str' (fun t ty h => by cases t <;> cases h <;> rfl) ha (by decide) (by decide) he
end
end C
end
noncomputable section
end
noncomputable section
set_option linter.all false
set_option autoImplicit false
namespace C
open PySem PySem.Spec L2
noncomputable def Held (K : PySem.W.Frag) (u : Value) (t : T) : Prop := ∃ v, RelV v u ∧ ∀ S as, Rep K S as v t
noncomputable def Helds (K : PySem.W.Frag) (us : List Value) (ts : List T) : Prop := ∃ vs, Vals vs us ∧ ∀ S as, Reps K S as vs ts
noncomputable section
variable {K : PySem.W.Frag}
theorem Held.int {i : Int} {tk : Tok} : Held K (.int i tk) (.int i) := ⟨.int i, ⟨tk, rfl⟩, fun _ _ => .int i⟩
theorem Held.str {x : Str} {tk : Tok} : Held K (.str x tk) (.str x) := ⟨.str x, ⟨tk, rfl⟩, fun _ _ => .str x⟩
theorem Held.bl {b : Bool} : Held K (.bool b) (.bl b) := ⟨.bl b, rfl, fun _ _ => .bl b⟩
theorem Held.non : Held K .none .non := ⟨.non, rfl, fun _ _ => .non⟩
theorem Helds.nil : Helds K [] [] := ⟨[], .nil, fun _ _ => .nil⟩
theorem Helds.cons {u : Value} {t : T} {us : List Value} {ts : List T} (h : Held K u t) (hs : Helds K us ts) : Helds K (u :: us) (t :: ts) := by
  obtain ⟨v, r, e⟩ := h
  obtain ⟨vs, rs, es⟩ := hs
  exact ⟨v :: vs, .cons r rs, fun S as => .cons (e S as) (es S as)⟩
theorem Held.tup {a : Addr} {us : List Value} {n : Nat} {sl : Array (Option Value)} {ts : List T} (h : K.lookup a = some ⟨.type "tuple", none, .seq us.toArray n, sl⟩) (hz : us.length ≤ 1000) (hs : Helds K us ts) : Held K (.ref a) (.tup ts) := by
  obtain ⟨vs, rs, es⟩ := hs
  refine ⟨.ref a, rfl, fun S as => .tup (.inr ⟨_, us.toArray, n, h, rfl, rfl, rfl, ?_, ?_⟩) (es S as)⟩
  · rw [List.size_toArray, sizeLine_eq]; omega
  · exact rs
theorem Held.lst {a : Addr} {us : List Value} {n : Nat} {sl : Array (Option Value)} {ts : List T} (h : K.lookup a = some ⟨.type "list", none, .seq us.toArray n, sl⟩) (hz : us.length ≤ 1000) (hs : Helds K us ts) : Held K (.ref a) (.lst ts) := by
  obtain ⟨vs, rs, es⟩ := hs
  refine ⟨.ref a, rfl, fun S as => .lst (.inr ⟨_, us.toArray, n, h, rfl, rfl, rfl, ?_, ?_⟩) (es S as)⟩
  · rw [List.size_toArray, sizeLine_eq]; omega
  · exact rs
end
noncomputable section
variable {X : Cx} {B : Bas} {pos : Pos}
end
end C
end
noncomputable section
set_option linter.all false
set_option maxRecDepth 100000
set_option autoImplicit false
namespace C
open PySem PySem.Spec PyProof.Rows
noncomputable section
variable {prog : Program} {w : World} {A : Around} {E : Value → Shared → Prop} {s : Shared}
end
end C
end
noncomputable section
set_option linter.all false
set_option maxRecDepth 100000
set_option maxHeartbeats 4000002
set_option autoImplicit false
namespace C
open PySem PySem.Spec PyProof.Rows
noncomputable section
variable {prog : Program} {w : World} {A : Around} {R : Result → Shared → Prop} {I : Addr} {fp wr : List Addr} {G : Array GenState → Array GenState → Prop} {n : Nat} {P : Nat → Value → Prop} {St : Nat → Shared → Prop} -- here
end
noncomputable section
variable {prog : Program} {w : World} {A : Around} {E : Value → Shared → Prop} {s : Shared}
end
end C
end
noncomputable section
set_option linter.all false
set_option maxRecDepth 100000
set_option maxHeartbeats 4000002
set_option autoImplicit false
namespace C
open PySem PySem.Spec PyProof.Rows
noncomputable section
variable {prog : Program} {w : World} {A : Around} {E : Value → Shared → Prop} {s : Shared}
end
end C
end
noncomputable section
set_option linter.all false
set_option maxRecDepth 100000
set_option maxHeartbeats 4000002
set_option autoImplicit false
namespace C
open PySem PySem.Spec PyProof.Rows
noncomputable section
variable {prog : Program} {w : World} {A : Around} {E : Value → Shared → Prop} {s : Shared}
end
end C
end
noncomputable section
set_option linter.all false
set_option maxRecDepth 100000
set_option maxHeartbeats 4000002
set_option autoImplicit false
namespace C
open PySem PySem.Spec PyProof.Rows
noncomputable section
variable {prog : Program} {w : World} {A : Around} {E : Value → Shared → Prop} {s : Shared} {I a : Addr} {i n ep : Nat} {o : Obj} {es : Array (Int × Value)} {t : SetTable} {Q : Option Value → Shared → Prop}
end
end C
end
noncomputable section
set_option linter.all false
set_option maxRecDepth 100000
set_option maxHeartbeats 4000002
set_option autoImplicit false
namespace C
open PySem PySem.Spec PyProof.Rows
noncomputable section
variable {prog : Program} {w : World} {A : Around} {E : Value → Shared → Prop} {s : Shared} {I a q : Addr} {i n ep : Nat} {o : Obj} {es : Array (Int × Value)} {t : SetTable} {Q : Option Value → Shared → Prop} {ps : List Nat}
end
end C
end
noncomputable section
set_option linter.all false
set_option maxRecDepth 100000
set_option maxHeartbeats 4000002
set_option autoImplicit false
namespace C
open PySem PySem.Spec PyProof.Rows
noncomputable section
variable {prog : Program} {w : World} {A : Around} {E : Value → Shared → Prop} {s : Shared} {I a q : Addr} {n ep : Nat} {o : Obj} {es : Array (Int × Value)} {t : SetTable} {ps : List Nat}
end
end C
end
noncomputable section
set_option linter.all false
set_option maxRecDepth 100000
set_option maxHeartbeats 4000002
set_option autoImplicit false
namespace C
open PySem PySem.Spec PyProof.Rows
noncomputable section
variable {prog : Program} {w : World} {A : Around} {E : Value → Shared → Prop} {s : Shared} {a : Addr} {o : Obj} {l : List Str}
end
end C
end
noncomputable section
set_option linter.all false
set_option maxRecDepth 100000
set_option maxHeartbeats 4000002
set_option autoImplicit false
namespace C
open PySem PySem.Spec PyProof.Rows
noncomputable section
variable {prog : Program} {w : World} {A : Around} {E : Value → Shared → Prop} {s : Shared} {a : Addr} {o : Obj} {l : List Str}
end
end C
end
noncomputable section
set_option linter.all false
set_option maxRecDepth 100000
set_option maxHeartbeats 4000002
set_option autoImplicit false
namespace C
open PySem PySem.Spec PyProof.Rows L2
noncomputable section
variable {X : Cx} {B : Bas} {e : Expr} {m1 : M T} {p1 p2 p3 p4 : Pos}
end
end C
end
noncomputable section
set_option linter.all false
set_option maxRecDepth 100000
set_option maxHeartbeats 4000002
set_option autoImplicit false
namespace C
open PySem PySem.Spec PyProof.Rows L2
open AutoSeq1 (wpAny_loadPart') -- here
open MeetsSeq MeetsSeq2 MeetsSeq3 -- here
noncomputable section
variable {prog : Program} {w : World} -- here
end
noncomputable section
variable {X : Cx} {pins : List (Addr × Obj)} {σ : L2.St} {H S : Hp} {s : Shared} {as : List Addr}
end
end C
end
noncomputable section
set_option linter.all false
set_option maxRecDepth 100000
set_option maxHeartbeats 4000002
set_option autoImplicit false
namespace C
open PySem PySem.Spec PyProof.Rows L2
theorem law_spE {K : PySem.W.Frag} {F : Fn} {H : Hp} {a : Addr} {ns : List Int} (hS : SqL K H a (ns.map V.int)) (hE : ∃ st, F [.lst (ns.map T.int)] [] = some (.bl true, st)) : spF K 1 F [.ref a] H (fun v _ => v = .bl true) fun _ _ _ => False := by
  obtain ⟨st, hF⟩ := hE
  have reps : ∀ (S : Hp) (l : List Int), Reps K S [] (l.map V.int) (l.map T.int) := fun S l => by
    induction l with
    | nil => exact .nil
    | cons x l ih => exact .cons (.int x) ih
  let S : Hp := fun p => if p = a then H p else none
  have sa : S a = H a := if_pos rfl
  have sub : Same S H := fun p u h => by
    by_cases e : p = a
    · subst e; rw [← sa]; exact h
    · have : S p = none := if_neg e
      rw [this] at h; cases h
  have sq : SqL K S a (ns.map V.int) := by
    rcases hS with h | h
    · refine .inl ?_
      unfold Rd at h ⊢
      rw [sa]; exact h
    · exact .inr h
  refine ⟨S, [], [], [.lst (ns.map T.int)], .bl true, st, sub, ⟨rfl, .nil, fun n so e => by simp at e⟩, .cons (.lst sq (reps S ns)) .nil, rfl, hF, fun v H' S' as' _ _ _ r => ?_⟩
  cases r
  rfl
end C
end
noncomputable section
set_option linter.all false
set_option autoImplicit false
namespace C
open PySem
end C
end
noncomputable section
set_option linter.all false
set_option autoImplicit false
namespace C
open PySem
end C
end
noncomputable section
set_option linter.all false
set_option autoImplicit false
namespace C
open PySem
noncomputable def strT : List T → Option T
  | [.int i] => if bnd64 i then some (.str (toString i)) else none
  | _ => none
noncomputable def fmtT : T → Option T
  | .int i => if bnd64 i then some (.str (toString i)) else none
  | .str x => if x.length < lim then some (.str x) else none
  | _ => none
noncomputable def joinS3 : List T → Option T
  | [.str a, .str b, .str c] => if a.length < lim ∧ (a ++ b).length < lim ∧ (a ++ b ++ c).length < lim then some (.str (a ++ b ++ c)) else none
  | _ => none
noncomputable def joinT : T → T → Option T
  | .str sep, .lst ts => match strsT ts with
    | some l => if (l.map (·.length)).sum + l.length * sep.length < lim then some (.str (Str.join sep l)) else none
    | none => none
  | _, _ => none
noncomputable def tabTT (tbl : List (Str × List Str)) : T → Option T
  | .str x => (tbl.lookup x).map fun l => .tup (l.map .str)
  | _ => none
end C
end
noncomputable section
set_option linter.all false
set_option maxRecDepth 100000
set_option autoImplicit false
namespace C
open PySem PySem.Spec L2
inductive TabsT (K : PySem.W.Frag) (w : World) : List DictEntry → List (Str × List Str) → Prop
  | nil : TabsT K w [] []
  | cons {k : Str} {v : Value} {l : List Str} {t : Tok} {h : Int} {es : List DictEntry} {tbl : List (Str × List Str)} : h = hashStr w k → Held K v (.tup (l.map T.str)) → TabsT K w es tbl → TabsT K w ({ hash := h, key := .str k t, val := v } :: es) ((k, l) :: tbl)
noncomputable def TabInT (K : PySem.W.Frag) (w : World) (a : Addr) (tbl : List (Str × List Str)) : Prop :=
  ∃ es ep, K.lookup a = some ⟨.type "dict", none, .dict es ep, #[]⟩ ∧ TabsT K w es.toList tbl ∧ (tbl.map (·.1)).Nodup
theorem TabsT.of {K : PySem.W.Frag} {P : Program} {w : World} {es : List DictEntry} {tbl : List (Str × List Str)} (h : TabsT K w es tbl) :
    ∃ vs : List (Key × Value), Pairs (mixKind P w) es vs ∧ vs.map (·.1) = tbl.map (fun p => (Sum.inr p.1 : Key)) ∧ (∀ e ∈ es, ∃ k, (mixKind P w).is k e.key = true ∧ e.hash = (mixKind P w).hash k) ∧
      ∀ x l, tbl.lookup x = some l → ∃ v, valueAt vs (Sum.inr x) = some v ∧ Held K v (.tup (l.map T.str)) := by
  induction h with
  | nil => exact ⟨[], .nil, rfl, fun e he => (nomatch he), fun x v e => (nomatch e)⟩
  | @cons k v l t h es tbl hh hd _ ih =>
    obtain ⟨vs, p, e1, e2, e3⟩ := ih
    refine ⟨(.inr k, v) :: vs, .cons (keyIs_str k t) rfl p, by simp [e1], fun e he => ?_, fun x y e => ?_⟩
    · rcases List.mem_cons.mp he with rfl | he -- here
      · exact ⟨.inr k, keyIs_str k t, hh⟩
      · exact e2 e he
    · rw [List.lookup_cons] at e
      unfold valueAt
      rw [List.find?_cons]
      by_cases hx : x = k
      · subst hx
        simp at e
        subst e
        exact ⟨v, by simp, hd⟩
      · have h1 : (x == k) = false := beq_eq_false_iff_ne.mpr hx
        rw [h1] at e
        have h2 : decide ((Sum.inr k : Key) = Sum.inr x) = false := decide_eq_false fun z => hx (Sum.inr.inj z).symm
        simp only [h2]
        exact e3 x y e
noncomputable section
variable {X : Cx} {B : Bas} {e : Expr} {m : M T} {pos p : Pos}
theorem te_tabTT {x : Str} {tbl : List (Str × List Str)} (hg : Gl X x) (h : ∃ a, X.mg x = some (.ref a) ∧ TabInT X.K X.w a tbl) (he : PE X e (tOf X.K B m)) (hs : NoSl e) (hd : (x == ("__debug__" : Str)) = false := by decide) :
    PE X (.Subscript (.Name x p) e pos) (tOf X.K B (mUn (tabTT tbl) m)) := by
  obtain ⟨a, hm, es, ep, hk, tb, nd⟩ := h
  obtain ⟨vs, hp, e1, e2, e3⟩ := tb.of (P := X.prog)
  intro pins s σ H Q I hw
  obtain ⟨st, ps, S, as, R, t, st', em, q⟩ := hw
  obtain ⟨k, em1, em2⟩ := mUn_inv em
  refine subD_of PySem.F.slot_dict_getitem.lookup hs (thn ((pe_glob (v := .ref a) hg hm rfl hd) pins s σ H (fun v H' => v = .ref a ∧ H' = H) I ⟨rfl, rfl⟩) fun u s1 z1 => ?_)
  obtain ⟨v1, H1, I1, r1, rfl, rfl⟩ := z1
  obtain rfl : u = Value.ref a := r1
  refine thn (he pins s1 σ H1 (fun v H2 => ∃ y l, v = .str y ∧ tbl.lookup y = some l ∧ t = .tup (l.map T.str) ∧ ∃ S2 as2, Rel X.K B st' σ H2 ps S2 as2) I1 ⟨st, ps, S, as, R, k, st', em1, fun v H2 S2 as2 R2 => ?_⟩) fun iv s2 z2 => ?_
  · unfold tabTT at em2
    split at em2
    · rename_i y
      cases hl : tbl.lookup y with
      | none => rw [hl] at em2; cases em2
      | some w' =>
        rw [hl] at em2
        cases em2
        have top := R2.top
        cases top
        exact ⟨y, w', rfl, hl, rfl, S2, as2, R2.drop⟩
    · cases em2
  · obtain ⟨v2, H2, I2, r2, y, l, rfl, hl, rfl, S2, as2, R2⟩ := z2
    have dd : s2.heap.DictOf (mixKind X.prog X.w) a vs := ⟨_, es, ep, I2.kIn a _ hk, ⟨rfl, rfl, rfl⟩, rfl, fun e he => e2 e (Array.mem_toList_iff.mpr he), hp, by
      rw [e1]
      have : (tbl.map fun p => (Sum.inr p.1 : Key)) = (tbl.map (·.1)).map Sum.inr := by rw [List.map_map]; rfl
      rw [this]
      exact List.Pairwise.map _ (fun a b hab z => hab (Sum.inr.inj z)) nd⟩
    obtain ⟨v, hv, x', rx, ex⟩ := e3 y l hl
    exact ⟨dd.typeIs, wpAny_getItem_of (kV_is (k := .inr y) r2) dd.mapOf hv ⟨x', H2, I2.tok _, rx, q _ _ _ _ (R2.push (ex _ _))⟩⟩
end
end C
end
noncomputable section
set_option linter.all false
set_option maxRecDepth 100000
set_option maxHeartbeats 4000002
set_option autoImplicit false
namespace C
open PySem PySem.Spec PyProof.Rows L2
noncomputable section
variable {X : Cx} {B : Bas} {e a b c : Expr} {m m1 m2 m3 : M T} {pos p1 p2 p3 p4 : Pos}
theorem log_of {i : Int} (h : bnd64 i = true) : i.natAbs.log2 < 1920 := by
  unfold bnd64 at h
  rw [decide_eq_true_eq] at h
  have h2 : (2 : Int) ^ 64 = ((2 ^ 64 : Nat) : Int) := by decide
  have h1 : i.natAbs < 2 ^ 64 := by omega
  by_cases z : i.natAbs = 0
  · rw [z]; decide
  · exact Nat.lt_trans ((Nat.log2_lt z).mpr h1) (by decide)
theorem te_str1 (hg : Gl X "str") (hm : X.mg "str" = none) (ha : PE X e (tOf X.K B m)) (he : starEach [e] X.env = (false, eval e X.env) :: starEach [] X.env := by rfl) (hpl : (backTo pos (starEach [] X.env)).any (·.1) = false := by rfl) :
    PE X (.Call (.Name "str" p3) [e] [] pos) (tOf X.K B (mMap strT (mCons m mNil))) := by
  refine (pe_callTy call_str_int hg hm (by rfl) (pa_cons ha pa_nil he) (by decide) (by decide) he hpl).imp fun σ H Q ⟨st, ps, S, as, R, t, st', ev, q⟩ => ?_
  obtain ⟨ts, e1, e2⟩ := mMap_inv ev
  obtain ⟨t1, s1, us, ea, en, rfl⟩ := mCons_inv e1
  cases en
  refine ⟨st, ps, S, as, R, t1, _, ea, fun v H1 S1 as1 R1 => ?_⟩
  cases t1 <;> simp only [strT, reduceCtorEq] at e2
  rename_i i
  split at e2
  · rename_i hb
    cases e2
    have tp := R1.top
    cases tp
    exact ⟨i, rfl, log_of hb, q _ _ _ _ (R1.drop.push (.str _))⟩
  · cases e2
theorem te_fv (ha : PE X e (tOf X.K B m)) : PE X (.FormattedValue e (-1) none pos) (tOf X.K B (mUn fmtT m)) := by
  intro pins s σ H Q I ⟨st, ps, S, as, R, t, st', ev, q⟩
  obtain ⟨t1, e1, e3⟩ := mUn_inv ev
  refine wpAny_FormattedValue_plain (thn (ha pins s σ H (fun v H2 => ∃ S2 as2, Rel X.K B st' σ H2 ((v, t1) :: ps) S2 as2) I ⟨st, ps, S, as, R, t1, st', e1, fun v H1 S1 as1 R1 => ⟨S1, as1, R1⟩⟩) fun u s1 ⟨v, H1, I1, r1, S1, as1, R1⟩ => ?_)
  have tp := R1.top
  cases t1 <;> simp only [fmtT, reduceCtorEq] at e3
  · rename_i i
    split at e3
    · rename_i hb
      cases e3
      cases tp
      obtain ⟨tk, rfl⟩ := r1
      exact wpAny_formatField_int (log_of hb) ⟨.str _, H1, I1.tok _, ⟨_, rfl⟩, q _ _ _ _ (R1.drop.push (.str _))⟩
    · cases e3
  · rename_i x
    split at e3
    · rename_i hl
      cases e3
      cases tp
      obtain ⟨tk, rfl⟩ := r1
      exact wpAny_formatField_str ⟨.str _, H1, I1, ⟨_, rfl⟩, q _ _ _ _ (R1.drop.push (.str _))⟩ ⟨.str _, H1, I1.tok _, ⟨_, rfl⟩, q _ _ _ _ (R1.drop.push (.str _))⟩ (Nat.le_trans (Nat.le_of_lt hl) lim_line)
    · cases e3
theorem joinS3_inv {ts : List T} {t : T} (h : joinS3 ts = some t) : ∃ x y z, ts = [.str x, .str y, .str z] ∧ x.length < lim ∧ (x ++ y).length < lim ∧ (x ++ y ++ z).length < lim ∧ t = .str (x ++ y ++ z) := by
  unfold joinS3 at h
  split at h
  · rename_i x y z
    split at h
    · rename_i hl; cases h; exact ⟨x, y, z, rfl, hl.1, hl.2.1, hl.2.2, rfl⟩
    · cases h
  · cases h
theorem empty_app (x : Str) : Str.empty ++ x = x := by
  obtain ⟨c⟩ := x
  show (⟨#[] ++ c⟩ : Str) = ⟨c⟩
  simp
theorem te_js3 (h1 : PE X a (tOf X.K B m1)) (h2 : PE X b (tOf X.K B m2)) (h3 : PE X c (tOf X.K B m3)) (he : evalEach [a, b, c] X.env = [eval a X.env, eval b X.env, eval c X.env] := by rfl) :
    PE X (.JoinedStr [a, b, c] pos) (tOf X.K B (mMap joinS3 (mCons m1 (mCons m2 (mCons m3 mNil))))) := by
  intro pins s σ H Q I ⟨st, ps, S, as, R, t, st', ev, q⟩
  obtain ⟨ts, ea, eb⟩ := mMap_inv ev
  obtain ⟨t1, s1, us, c1, cr, rfl⟩ := mCons_inv ea
  obtain ⟨t2, s2, us2, c2, cr2, rfl⟩ := mCons_inv cr
  obtain ⟨t3, s3, us3, c3, cr3, rfl⟩ := mCons_inv cr2
  cases cr3
  obtain ⟨x, y, z, e0, l1, l2, l3, rfl⟩ := joinS3_inv eb
  cases e0
  refine wpAny_JoinedStr ?_
  rw [he]
  refine thn (h1 pins s σ H (fun v H2 => v = .str x ∧ ∃ S2 as2, Rel X.K B s1 σ H2 ps S2 as2) I ⟨st, ps, S, as, R, _, s1, c1, fun v H1 S1 as1 R1 => ?_⟩) fun u z1 ⟨v, H1, I1, r1, ev1, S1, as1, R1⟩ => ?_
  · have tp := R1.top; cases tp; exact ⟨rfl, S1, as1, R1.drop⟩
  subst ev1
  obtain ⟨tk, rfl⟩ := r1
  refine ⟨x, tk, rfl, by rw [empty_app]; exact Nat.le_trans (Nat.le_of_lt l1) lim_line, ?_⟩
  rw [empty_app]
  refine thn (h2 pins z1 σ H1 (fun v H2 => v = .str y ∧ ∃ S2 as2, Rel X.K B s2 σ H2 ps S2 as2) I1 ⟨s1, ps, S1, as1, R1, _, s2, c2, fun v H1 S1 as1 R1 => ?_⟩) fun u z2 ⟨v, H2, I2, r2, ev2, S2, as2, R2⟩ => ?_
  · have tp := R1.top; cases tp; exact ⟨rfl, S1, as1, R1.drop⟩
  subst ev2
  obtain ⟨tk, rfl⟩ := r2
  refine ⟨y, tk, rfl, Nat.le_trans (Nat.le_of_lt l2) lim_line, ?_⟩
  refine thn (h3 pins z2 σ H2 (fun v H2 => v = .str z ∧ ∃ S2 as2, Rel X.K B st' σ H2 ps S2 as2) I2 ⟨s2, ps, S2, as2, R2, _, _, c3, fun v H1 S1 as1 R1 => ?_⟩) fun u z3 ⟨v, H3, I3, r3, ev3, S3, as3, R3⟩ => ?_
  · have tp := R1.top; cases tp; exact ⟨rfl, S1, as1, R1.drop⟩
  subst ev3
  obtain ⟨tk, rfl⟩ := r3
  refine ⟨z, tk, rfl, Nat.le_trans (Nat.le_of_lt l3) lim_line, ?_⟩
  exact ⟨Nat.le_trans (Nat.le_of_lt l3) lim_line, .str _, H3, I3.tok _, ⟨_, rfl⟩, q _ _ _ _ (R3.push (.str _))⟩
theorem vals_strJ : ∀ {l : List Str} {its : List Value}, Vals (l.map V.str) its → ∃ l' : List (Str × Tok), its = strValues l' ∧ l'.map (·.1) = l
  | [], _, .nil => ⟨[], rfl, rfl⟩
  | x :: l, _, .cons h r => by
    obtain ⟨t, rfl⟩ := h
    obtain ⟨l', rfl, e⟩ := vals_strJ r
    exact ⟨(x, t) :: l', rfl, by simp [e]⟩
theorem mt_join : MtR X "str.join" (fun x xs H Q => ∃ sep p l, x = .str sep ∧ xs = [.ref p] ∧ SqL X.K H p (l.map V.str) ∧ (l.map (·.length)).sum + l.length * sep.length < lim ∧ (Str.join sep l).length < lim ∧ Q (.str (Str.join sep l)) H) := by
  intro pins s σ H x xs v us Q I rx rv h
  obtain ⟨sep, p, l, rfl, rfl, hq, hz, hj, q⟩ := h
  obtain ⟨t, rfl⟩ := rx
  obtain ⟨u, rfl, ru⟩ := rv.one
  cases ru
  obtain ⟨its, r, pl, _⟩ := I.list hq
  obtain ⟨l', rfl, e⟩ := vals_strJ r
  have tl : Builtin.Str.tooLong ((l'.map (·.1)).toArray.foldl (· + ·.length + sep.length) 0) = false := by
    rw [StrLaws.joinTotal, e]
    have := lim_line
    unfold Builtin.Str.tooLong
    exact decide_eq_false (by omega)
  refine call_meets F.slot_str_join (typeIs_str _ _ _) F.entry_str_join (F.args_str_join_2 _ _) (meets_str_join_list sep t p l' tl) ⟨pl.isList, ?_⟩
  have big : (Made.str (Builtin.Str.glued sep (l'.map (·.1)))).post (fun v s' => EP X pins σ Q v s') s := by
    rw [StrLaws.glued_eq_join, e]
    exact ⟨Nat.le_trans (Nat.le_of_lt hj) lim_line, .str _, H, I.tok _, ⟨_, rfl⟩, q⟩
  match l', e, big with
  | [], _, b => exact b
  | [w], e, _ =>
    refine ⟨.str w.1, H, I, ⟨_, rfl⟩, ?_⟩
    have : l = [w.1] := by rw [← e]; rfl
    subst this
    exact q
  | _ :: _ :: _, _, b => exact b
theorem strsT_invJ : ∀ {ts : List T} {l : List Str}, strsT ts = some l → ts = l.map T.str
  | [], _, h => by simp only [strsT] at h; cases h; rfl
  | t :: ts, l, h => by
    cases t <;> simp only [strsT, reduceCtorEq] at h
    rename_i x
    obtain ⟨l', e, rfl⟩ := Option.map_eq_some_iff.mp h
    rw [List.map_cons, ← strsT_invJ e]
theorem reps_strJ {K : PySem.W.Frag} {S : Hp} {as : List Addr} : ∀ {l : List Str} {vs : List V}, Reps K S as vs (l.map T.str) → vs = l.map V.str
  | [], _, .nil => rfl
  | x :: l, _, .cons h r => by
    cases h
    rw [List.map_cons, reps_strJ r]
theorem join_len (sep : Str) : ∀ l : List Str, (Str.join sep l).length ≤ (l.map (·.length)).sum + l.length * sep.length
  | [] => by simp [Str.join, Str.empty, Str.length]
  | [x] => by simp [Str.join]
  | x :: y :: l => by
    have ih := join_len sep (y :: l)
    show (x ++ sep ++ Str.join sep (y :: l)).length ≤ _
    rw [Str.length_append, Str.length_append] -- here
    simp only [List.map_cons, List.sum_cons, List.length_cons, Nat.add_mul, Nat.one_mul] at ih ⊢
    omega
theorem te_join {apos cpos : Pos} (h1 : PE X a (tOf X.K B m1)) (h2 : PE X b (tOf X.K B m2))
    (hbase : attributeBase a "join" X.env (eval a X.env) = eval a X.env := by rfl)
    (hfew : ((backTo cpos (starEach [b] X.env)).all (fun x => !x.1) && (backToKw cpos (keywordEach [] X.env)).all (fun x => x.1.isSome)
      && decide (([b] : List Expr).length + ([] : List Keyword).length + (if ([] : List Keyword).isEmpty then 0 else 1) < 30)) = true := by rfl)
    (hline : (apos.endLine == cpos.line) = true := by rfl) (hs : starEach [b] X.env = (false, eval b X.env) :: starEach [] X.env := by rfl) (hplain : (backTo cpos (starEach [] X.env)).any (·.1) = false := by rfl) :
    PE X (.Call (.Attribute a "join" apos) [b] [] cpos) (tOf X.K B (mOp joinT m1 m2)) :=
  (pe_bm PySem.F.plainAttrs_str PySem.F.slot_str_join PySem.F.type_str_join mt_join h1 (pa_cons h2 pa_nil hs) hbase hfew hline hs hplain).imp fun σ H Q ⟨st, ps, S, as, R, t, st', ev, q⟩ => by
    obtain ⟨t1, s1, t2, e1, e2, e3⟩ := mOp_inv ev
    unfold joinT at e3
    split at e3
    · rename_i sep ts
      split at e3
      · rename_i l hl
        split at e3
        · rename_i hz
          cases e3
          obtain rfl := strsT_invJ hl
          refine ⟨st, ps, S, as, R, _, s1, e1, fun v H1 S1 as1 R1 => ?_⟩
          have tp := R1.top
          cases tp
          refine ⟨rfl, s1, _, S1, as1, R1, _, st', e2, fun v2 H2 S2 as2 R2 => ?_⟩
          have tp2 := R2.top
          cases tp2 with
          | @lst p vs _ g1 g2 =>
            obtain rfl := reps_strJ g2
            exact ⟨sep, p, l, rfl, rfl, sqL_mono R2.sub g1, hz, Nat.lt_of_le_of_lt (join_len sep l) hz, q _ _ _ _ (R2.drop.drop.push (.str _))⟩
        · cases e3
      · cases e3
    · cases e3
end
end C
end
noncomputable section
set_option linter.all false
namespace K
open C PySem
noncomputable def m_show_part : Fn := runFn 2
  (sRet (mIf (mTest (mOp eqO (mVar 1) (mPure (.int 1)))) (mVar 0) (mMap joinS3 (mCons (mUn fmtT (mVar 1)) (mCons (mPure (.str " * ")) (mCons (mUn fmtT (mVar 0)) mNil))))))
noncomputable def m_sign_ahead : Fn := runFn 2
  (sSeq (sIf (mTest (mVar 0))
  (sRet (mIf (mTest (mVar 1)) (mPure (.str "-")) (mPure (.str ""))))
  sNil)
  (sRet (mIf (mTest (mVar 1)) (mPure (.str " - ")) (mPure (.str " + ")))))
noncomputable def m_show_sum : Fn := runFn 6
  (sSeq (sNew 1 (mComp 2 [] (hTup [0, 1]) (iSeq (mOp itemT (mVar 0) (mPure (.int 1)))) mTrue (mCall m_show_part (mCons (mVar 0) (mCons (mMap absT (mCons (mVar 1) mNil)) mNil)))))
  (sSeq (sNew 2 (mComp 2 [] (hTup [0, 1]) (iSeq (mOp itemT (mVar 0) (mPure (.int 1)))) mTrue (mVar 1)))
  (sSeq (sIf (mOr (mTest (mOp neO (mOp itemT (mVar 0) (mPure (.int 0))) (mPure (.int 0)))) (mTest (mOp eqO (mOwnLen 1) (mPure (.int 0)))))
  (sSeq (sAppend 1 (mMap strT (mCons (mMap absT (mCons (mOp itemT (mVar 0) (mPure (.int 0))) mNil)) mNil)))
  (sAppend 2 (mOp itemT (mVar 0) (mPure (.int 0)))))
  sNil)
  (sSeq (sSet 3 (mPure (.str "")))
  (sSeq (sFor (hTup [4, 5]) (iZip (mVar 1) (mVar 2))
  (sSet 3 (mOp addT (mOp addT (mVar 3) (mCall m_sign_ahead (mCons (mOp eqO (mVar 3) (mPure (.str ""))) (mCons (mOp ltT (mVar 5) (mPure (.int 0))) mNil)))) (mVar 4))))
  (sRet (mVar 3)))))))
noncomputable def m_show_most : Fn := runFn 1
  (sRet (mOp addT (mOp addT (mCall m_show_sum (mCons (mMap (fun l => some (.tup l)) (mCons (mPure (.int 0)) (mCons (mOp itemT (mVar 0) (mPure (.int 1))) mNil))) mNil)) (mPure (.str " <= "))) (mMap strT (mCons (mUn negT (mOp itemT (mVar 0) (mPure (.int 0)))) mNil))))
mutual
noncomputable def m_show_remark : Nat → Fn
  | 0 => fun _ _ => none
  | n + 1 => runFn 3
      (sSeq (sSet 1 (mOp itemT (mVar 0) (mPure (.int 0))))
      (sSeq (sIf (mTest (mOp eqO (mVar 1) (mPure (.str "most"))))
      (sRet (mCall m_show_most (mCons (mOp itemT (mVar 0) (mPure (.int 1))) mNil)))
      sNil)
      (sSeq (sIf (mTest (mOp eqO (mVar 1) (mPure (.str "rest"))))
      (sRet (mOp addT (mOp addT (mMap strT (mCons (mOp itemT (mVar 0) (mPure (.int 2))) mNil)) (mPure (.str " divides "))) (mCall m_show_sum (mCons (mOp itemT (mVar 0) (mPure (.int 1))) mNil))))
      sNil)
      (sSeq (sIf (mTest (mOp eqO (mVar 1) (mPure (.str "at"))))
      (sRet (mOp addT (mOp addT (mOp addT (mPure (.str "at ")) (mOp itemT (mVar 0) (mPure (.int 1)))) (mPure (.str " "))) (mMap strT (mCons (mOp itemT (mVar 0) (mPure (.int 2))) mNil))))
      sNil)
      (sSeq (sIf (mTest (mOp eqO (mVar 1) (mPure (.str "not"))))
      (sRet (mOp addT (mPure (.str "not ")) (mCall (m_show_member n) (mCons (mOp itemT (mVar 0) (mPure (.int 1))) (mCons (mVar 1) mNil)))))
      sNil)
      (sSeq (sIf (mTest (mOp eqO (mOp itemT (mVar 0) (mPure (.int 1))) (mMap (fun l => some (.tup l)) mNil)))
      (sRet (mIf (mTest (mOp eqO (mVar 1) (mPure (.str "and")))) (mPure (.str "true")) (mPure (.str "false"))))
      sNil)
      (sSeq (sSet 2 (mIf (mTest (mOp eqO (mVar 1) (mPure (.str "and")))) (mPure (.str " and ")) (mPure (.str " or "))))
      (sRet (mOp joinT (mVar 2) (mComp 1 [1] (hName 0) (iSeq (mOp itemT (mVar 0) (mPure (.int 1)))) mTrue (mCall (m_show_member n) (mCons (mVar 0) (mCons (mVar 1) mNil)))))))))))))
noncomputable def m_show_member : Nat → Fn
  | 0 => fun _ _ => none
  | n + 1 => runFn 3
      (sSeq (sSet 2 (mCall (m_show_remark n) (mCons (mVar 0) mNil)))
      (sSeq (sIf (mAnd (mTest (mOp inT (mOp itemT (mVar 0) (mPure (.int 0))) (mUn (tabTT [("and", ["and", "or"]), ("or", ["or"]), ("not", ["and", "or"])]) (mVar 1)))) (mTest (mOp neO (mOp itemT (mVar 0) (mPure (.int 1))) (mMap (fun l => some (.tup l)) mNil))))
      (sRet (mMap joinS3 (mCons (mPure (.str "[")) (mCons (mUn fmtT (mVar 2)) (mCons (mPure (.str "]")) mNil)))))
      sNil)
      (sRet (mVar 2))))
end
noncomputable def m_law_cell_at : Fn := runFn 2
  (sSeq (sIf (mTest (mOp ltT (mVar 1) (mMap lenT (mCons (mVar 0) mNil))))
  (sRet (mOp itemT (mVar 0) (mVar 1)))
  sNil)
  (sRet (mPure (.int 0))))
noncomputable def m_law_state : Fn := runFn 2
  (sSeq (sIf (mTest (mVar 1))
  (sRet (mNewObj [.inr "left", .inr "free"] (mCons (mShr 0) (mCons (mPure (.bl true)) mNil))))
  sNil)
  (sRet (mNewObj [.inr "left", .inr "free"] (mCons (mOp addI (mPure (.int 1)) (mOp modT (mShr 0) (mPure (.int 2147483646)))) (mCons (mPure (.bl false)) mNil)))))
noncomputable def m_law_take : Fn := runFn 3
  (sSeq (sIf (mTest (mObjItem (mVar 0) (mPure (.str "free"))))
  (sSeq (sSet 2 (mOp modT (mObjItem (mVar 0) (mPure (.str "left"))) (mVar 1)))
  (sSeq (sObjPut (mVar 0) (mPure (.str "left")) (mOp fdivT (mObjItem (mVar 0) (mPure (.str "left"))) (mVar 1)))
  (sRet (mVar 2))))
  sNil)
  (sSeq (sObjPut (mVar 0) (mPure (.str "left")) (mOp modT (mOp mulT (mObjItem (mVar 0) (mPure (.str "left"))) (mPure (.int 48271))) (mPure (.int 2147483647))))
  (sRet (mOp modT (mOp fdivT (mOp modT (mOp mulT (mObjItem (mVar 0) (mPure (.str "left"))) (mPure (.int 16807))) (mPure (.int 2147483629))) (mPure (.int 5))) (mVar 1)))))
noncomputable def m_law_name : Fn := runFn 4
  (sSeq (sIf (mTest (mOp eqO (mOp modT (mOp fdivT (mVar 0) (mPure (.int 147))) (mPure (.int 4))) (mPure (.int 1))))
  (sRet (mOp itemT (mMap (fun l => some (.lst l)) (mStrs ["b", "ab", "abc", "abcd", "a", "ba", "aab", "b1", "bab", "ab1"])) (mOp modT (mVar 1) (mPure (.int 10)))))
  sNil)
  (sSeq (sIf (mTest (mOp eqO (mOp modT (mOp fdivT (mVar 0) (mPure (.int 147))) (mPure (.int 4))) (mPure (.int 2))))
  (sRet (mOp itemT (mMap (fun l => some (.lst l)) (mStrs ["order", "andes", "note", "iff", "atlas", "setup", "waiter", "handy", "boxes", "ends"])) (mOp modT (mVar 1) (mPure (.int 10)))))
  sNil)
  (sSeq (sIf (mTest (mOp eqO (mOp modT (mOp fdivT (mVar 0) (mPure (.int 147))) (mPure (.int 4))) (mPure (.int 3))))
  (sRet (mOp itemT (mMap (fun l => some (.lst l)) (mStrs ["or1", "and2", "not3", "box4", "at5", "end6", "own7", "set8", "iff9", "says"])) (mOp modT (mVar 1) (mPure (.int 10)))))
  sNil)
  (sSeq (sSet 2 (mOp addT (mPure (.int 2)) (mOp modT (mVar 0) (mPure (.int 7)))))
  (sSeq (sSet 3 (mOp modT (mOp fdivT (mVar 0) (mPure (.int 7))) (mOp subT (mVar 2) (mPure (.int 1)))))
  (sRet (mOp addT (mOp addT (mOp mulT (mPure (.str "q")) (mVar 3)) (mOp itemT (mPure (.str "bcdfghjkmn")) (mOp modT (mVar 1) (mPure (.int 10))))) (mOp mulT (mOp itemT (mPure (.str "qx7")) (mOp modT (mOp fdivT (mVar 0) (mPure (.int 49))) (mPure (.int 3)))) (mOp subT (mOp subT (mVar 2) (mPure (.int 1))) (mVar 3))))))))))
noncomputable def m_law_number : Fn := runFn 5
  (sSeq (sSet 2 (mCall m_law_take (mCons (mVar 0) (mCons (mPure (.int 4)) mNil))))
  (sSeq (sIf (mTest (mOp ltT (mVar 2) (mPure (.int 3))))
  (sRet (mOp subT (mCall m_law_take (mCons (mVar 0) (mCons (mPure (.int 9)) mNil))) (mPure (.int 4))))
  sNil)
  (sSeq (sSet 3 (mPure (.int 0)))
  (sSeq (sFor (hName 4) (iRange (mPure (.int 4)))
  (sSet 3 (mOp addT (mOp mulT (mOp mulT (mVar 3) (mPure (.int 4))) (mOp powT (mPure (.int 10)) (mPure (.int 8)))) (mCall m_law_take (mCons (mVar 0) (mCons (mOp mulT (mPure (.int 4)) (mOp powT (mPure (.int 10)) (mPure (.int 8)))) mNil))))))
  (sRet (mOp addT (mOp subT (mOp modT (mVar 3) (mOp subT (mOp mulT (mPure (.int 2)) (mVar 1)) (mPure (.int 1)))) (mVar 1)) (mPure (.int 1))))))))
noncomputable def m_law_sum : Fn := runFn 5
  (sSeq (sNew 2 (mMap (fun l => some (.lst l)) mNil))
  (sSeq (sFor (hName 3) (iSeq (mMap sortedT (mCons (mVar 1) mNil)))
  (sIf (mTest (mOp eqO (mCall m_law_take (mCons (mVar 0) (mCons (mPure (.int 2)) mNil))) (mPure (.int 1))))
  (sSeq (sSet 4 (mCall m_law_number (mCons (mVar 0) (mCons (mOp powT (mPure (.int 10)) (mPure (.int 9))) mNil))))
  (sIf (mTest (mOp neO (mVar 4) (mPure (.int 0))))
  (sAppend 2 (mMap (fun l => some (.tup l)) (mCons (mVar 3) (mCons (mVar 4) mNil))))
  sNil))
  sNil))
  (sRet (mMap (fun l => some (.tup l)) (mCons (mCall m_law_number (mCons (mVar 0) (mCons (mOp powT (mPure (.int 10)) (mPure (.int 9))) mNil))) (mCons (mMap tupleT (mCons (mVar 2) mNil)) mNil))))))
mutual
noncomputable def m_law_remark : Nat → Fn
  | 0 => fun _ _ => none
  | n + 1 => runFn 6
      (sSeq (sSet 4 (mCall m_law_take (mCons (mVar 0) (mCons (mPure (.int 8)) mNil))))
      (sSeq (sIf (mOr (mTest (mOp eqO (mVar 3) (mPure (.int 0)))) (mTest (mOp ltT (mVar 4) (mPure (.int 2)))))
      (sSeq (sIf (mTest (mOp eqO (mOp modT (mVar 4) (mPure (.int 4))) (mPure (.int 1))))
      (sRet (mMap (fun l => some (.tup l)) (mCons (mPure (.str "rest")) (mCons (mCall m_law_sum (mCons (mVar 0) (mCons (mVar 1) mNil))) (mCons (mOp addT (mPure (.int 2)) (mCall m_law_take (mCons (mVar 0) (mCons (mPure (.int 11)) mNil)))) mNil)))))
      sNil)
      (sSeq (sIf (mTest (mOp eqO (mOp modT (mVar 4) (mPure (.int 4))) (mPure (.int 2))))
      (sRet (mMap (fun l => some (.tup l)) (mCons (mPure (.str "at")) (mCons (mOp itemT (mVar 2) (mCall m_law_take (mCons (mVar 0) (mCons (mMap lenT (mCons (mVar 2) mNil)) mNil)))) (mCons (mCall m_law_take (mCons (mVar 0) (mCons (mPure (.int 4)) mNil))) mNil)))))
      sNil)
      (sRet (mMap (fun l => some (.tup l)) (mCons (mPure (.str "most")) (mCons (mCall m_law_sum (mCons (mVar 0) (mCons (mVar 1) mNil))) mNil))))))
      sNil)
      (sSeq (sIf (mTest (mOp eqO (mVar 4) (mPure (.int 2))))
      (sRet (mMap (fun l => some (.tup l)) (mCons (mPure (.str "not")) (mCons (mCall (m_law_remark n) (mCons (mVar 0) (mCons (mVar 1) (mCons (mVar 2) (mCons (mOp subT (mVar 3) (mPure (.int 1))) mNil))))) mNil))))
      sNil)
      (sSeq (sIf (mTest (mOp eqO (mVar 4) (mPure (.int 3))))
      (sRet (mMap (fun l => some (.tup l)) (mCons (mOp itemT (mMap (fun l => some (.lst l)) (mCons (mPure (.str "and")) (mCons (mPure (.str "or")) mNil))) (mCall m_law_take (mCons (mVar 0) (mCons (mPure (.int 2)) mNil)))) (mCons (mMap (fun l => some (.tup l)) mNil) mNil))))
      sNil)
      (sSeq (sIf (mTest (mOp ltT (mVar 4) (mPure (.int 6))))
      (sSeq (sSet 5 (mOp addT (mPure (.int 2)) (mCall m_law_take (mCons (mVar 0) (mCons (mOp addT (mPure (.int 2)) (mOp mulT (mPure (.int 2)) (mMap intT (mCons (mOp eqO (mVar 3) (mPure (.int 1))) mNil)))) mNil)))))
      (sRet (mMap (fun l => some (.tup l)) (mCons (mOp itemT (mMap (fun l => some (.lst l)) (mCons (mPure (.str "and")) (mCons (mPure (.str "or")) mNil))) (mOp subT (mVar 4) (mPure (.int 4)))) (mCons (mMap tupleT (mCons (mComp 1 [0, 1, 2, 3] (hName 0) (iRange (mVar 5)) mTrue (mCall (m_law_remark n) (mCons (mVar 1) (mCons (mVar 2) (mCons (mVar 3) (mCons (mOp subT (mVar 4) (mPure (.int 1))) mNil)))))) mNil)) mNil)))))
      sNil)
      (sRet (mMap (fun l => some (.tup l)) (mCons (mPure (.str "most")) (mCons (mCall m_law_sum (mCons (mVar 0) (mCons (mVar 1) mNil))) mNil)))))))))
end
noncomputable def m_law_sum_text : Fn := runFn 5
  (sSeq (sSet 1 (mPure (.str "")))
  (sSeq (sFor (hTup [2, 3]) (iSeq (mOp itemT (mVar 0) (mPure (.int 1))))
  (sSeq (sSet 4 (mVar 2))
  (sSeq (sIf (mTest (mOp neO (mMap absT (mCons (mVar 3) mNil)) (mPure (.int 1))))
  (sSet 4 (mOp addT (mOp addT (mMap strT (mCons (mMap absT (mCons (mVar 3) mNil)) mNil)) (mPure (.str " * "))) (mVar 2)))
  sNil)
  (sIf (mTest (mOp eqO (mVar 1) (mPure (.str ""))))
  (sSet 1 (mOp addT (mOp mulT (mPure (.str "-")) (mMap intT (mCons (mOp ltT (mVar 3) (mPure (.int 0))) mNil))) (mVar 4)))
  (sSet 1 (mOp addT (mOp addT (mVar 1) (mOp itemT (mMap (fun l => some (.lst l)) (mCons (mPure (.str " + ")) (mCons (mPure (.str " - ")) mNil))) (mMap intT (mCons (mOp ltT (mVar 3) (mPure (.int 0))) mNil)))) (mVar 4)))))))
  (sSeq (sIf (mTest (mOp eqO (mVar 1) (mPure (.str ""))))
  (sRet (mMap strT (mCons (mOp itemT (mVar 0) (mPure (.int 0))) mNil)))
  sNil)
  (sSeq (sIf (mTest (mOp eqO (mOp itemT (mVar 0) (mPure (.int 0))) (mPure (.int 0))))
  (sRet (mVar 1))
  sNil)
  (sRet (mOp addT (mOp addT (mVar 1) (mOp itemT (mMap (fun l => some (.lst l)) (mCons (mPure (.str " + ")) (mCons (mPure (.str " - ")) mNil))) (mMap intT (mCons (mOp ltT (mOp itemT (mVar 0) (mPure (.int 0))) (mPure (.int 0))) mNil)))) (mMap strT (mCons (mMap absT (mCons (mOp itemT (mVar 0) (mPure (.int 0))) mNil)) mNil))))))))
noncomputable def m_law_rank : Fn := runFn 1
  (sSeq (sIf (mAnd (mTest (mOp eqO (mOp itemT (mVar 0) (mPure (.int 0))) (mPure (.str "or")))) (mTest (mOp gtT (mMap lenT (mCons (mOp itemT (mVar 0) (mPure (.int 1))) mNil)) (mPure (.int 0)))))
  (sRet (mPure (.int 1)))
  sNil)
  (sSeq (sIf (mAnd (mTest (mOp eqO (mOp itemT (mVar 0) (mPure (.int 0))) (mPure (.str "and")))) (mTest (mOp gtT (mMap lenT (mCons (mOp itemT (mVar 0) (mPure (.int 1))) mNil)) (mPure (.int 0)))))
  (sRet (mPure (.int 2)))
  sNil)
  (sRet (mPure (.int 3)))))
mutual
noncomputable def m_law_shown : Nat → Fn
  | 0 => fun _ _ => none
  | n + 1 => runFn 5
      (sSeq (sSet 2 (mOp itemT (mVar 0) (mPure (.int 0))))
      (sSeq (sIf (mTest (mOp eqO (mVar 2) (mPure (.str "most"))))
      (sRet (mOp addT (mOp addT (mCall m_law_sum_text (mCons (mMap (fun l => some (.tup l)) (mCons (mPure (.int 0)) (mCons (mOp itemT (mOp itemT (mVar 0) (mPure (.int 1))) (mPure (.int 1))) mNil))) mNil)) (mPure (.str " <= "))) (mMap strT (mCons (mOp subT (mPure (.int 0)) (mOp itemT (mOp itemT (mVar 0) (mPure (.int 1))) (mPure (.int 0)))) mNil))))
      sNil)
      (sSeq (sIf (mTest (mOp eqO (mVar 2) (mPure (.str "rest"))))
      (sRet (mOp addT (mOp addT (mMap strT (mCons (mOp itemT (mVar 0) (mPure (.int 2))) mNil)) (mPure (.str " divides "))) (mCall m_law_sum_text (mCons (mOp itemT (mVar 0) (mPure (.int 1))) mNil))))
      sNil)
      (sSeq (sIf (mTest (mOp eqO (mVar 2) (mPure (.str "at"))))
      (sRet (mOp addT (mOp addT (mOp addT (mPure (.str "at ")) (mOp itemT (mVar 0) (mPure (.int 1)))) (mPure (.str " "))) (mMap strT (mCons (mOp itemT (mVar 0) (mPure (.int 2))) mNil))))
      sNil)
      (sSeq (sIf (mTest (mOp eqO (mVar 2) (mPure (.str "not"))))
      (sRet (mOp addT (mPure (.str "not ")) (mCall (m_law_shown n) (mCons (mOp itemT (mVar 0) (mPure (.int 1))) (mCons (mPure (.int 3)) mNil)))))
      sNil)
      (sSeq (sIf (mTest (mOp eqO (mMap lenT (mCons (mOp itemT (mVar 0) (mPure (.int 1))) mNil)) (mPure (.int 0))))
      (sRet (mOp itemT (mMap (fun l => some (.lst l)) (mCons (mPure (.str "true")) (mCons (mPure (.str "false")) mNil))) (mMap intT (mCons (mOp eqO (mVar 2) (mPure (.str "or"))) mNil))))
      sNil)
      (sSeq (sSet 3 (mCall m_law_rank (mCons (mVar 0) mNil)))
      (sSeq (sSet 4 (mOp joinT (mOp addT (mOp addT (mPure (.str " ")) (mVar 2)) (mPure (.str " "))) (mComp 1 [3] (hName 0) (iSeq (mOp itemT (mVar 0) (mPure (.int 1)))) mTrue (mCall (m_law_shown n) (mCons (mVar 0) (mCons (mOp addT (mVar 1) (mPure (.int 1))) mNil))))))
      (sSeq (sIf (mTest (mOp ltT (mVar 3) (mVar 1)))
      (sRet (mOp addT (mOp addT (mPure (.str "[")) (mVar 4)) (mPure (.str "]"))))
      sNil)
      (sRet (mVar 4)))))))))))
end
noncomputable def m_law : Fn := runFn 8
  (sSeq (sSet 1 (mCall m_law_cell_at (mCons (mVar 0) (mCons (mPure (.int 0)) mNil))))
  (sSeq (sSet 2 (mComp 1 [1] (hName 0) (iRange (mPure (.int 6))) mTrue (mCall m_law_name (mCons (mVar 1) (mCons (mVar 0) mNil)))))
  (sSeq (sSet 3 (mComp 1 [1] (hName 0) (iRange (mPure (.int 3))) mTrue (mCall m_law_name (mCons (mVar 1) (mCons (mOp addT (mVar 0) (mPure (.int 6))) mNil)))))
  (sSeq (sSet 4 (mOp eqO (mOp modT (mCall m_law_cell_at (mCons (mVar 0) (mCons (mPure (.int 1)) mNil))) (mPure (.int 2))) (mPure (.int 0))))
  (sSeq (sFor (hName 5) (iSeq (mOp addT (mMap (fun l => some (.lst l)) (mCons (mCall m_law_cell_at (mCons (mVar 0) (mCons (mPure (.int 1)) mNil))) mNil)) (mSlice (mVar 0) (oSome (mPure (.int 2))) oNone)))
  (sSeq (sSet 6 (mCall (m_law_remark 40) (mCons (mCall m_law_state (mCons (mVar 5) (mCons (mVar 4) mNil))) (mCons (mVar 2) (mCons (mVar 3) (mCons (mPure (.int 3)) mNil))))))
  (sSeq (sSet 7 (mCall (m_show_remark 40) (mCons (mVar 6) mNil)))
  (sIf (mOr (mNot (mTest (mMap isStr (mCons (mVar 7) mNil)))) (mTest (mOp neO (mVar 7) (mCall (m_law_shown 40) (mCons (mVar 6) (mCons (mPure (.int 1)) mNil))))))
  (sRet (mPure (.bl false)))
  sNil))))
  (sRet (mPure (.bl true))))))))
end K
end
noncomputable section
set_option linter.all false
set_option maxRecDepth 100000
set_option maxHeartbeats 8000000
namespace D
open PySem L2 C
noncomputable def top (i : Nat) : Stmt := PySem.Challenge.pw_calm_k06_remarks_written.main.body.getD i (.Pass ⟨0, 0, 0, 0⟩)
noncomputable section
variable {P : Program} {w : World} {K : PySem.W.Frag} {mg : Str → Option Value} {base : Heap} {f : Addr} {fd : FuncData}
noncomputable abbrev s_show_part : Stmt := top 2
theorem sc_show_part : FnScope ["box", "times"] ["box", "times"] (defScope s_show_part) := ⟨rfl, rfl, rfl, by decide +kernel, rfl, by decide +kernel, by decide +kernel⟩
theorem fo_show_part (F : Fun K "show_part" "show_part" s_show_part f fd) : FnOk P w K mg base CX0 1 f fd ["box", "times"] (spF K (["box", "times"] : List Str).length _root_.K.m_show_part) := by
  refine fn_tree (N := ["box", "times"]) F sc_show_part (by decide)  fun cdv A outer s H E B hr => ?_
  have hu := hu_of hr
  have hq := hr.units
  have nd : (["box", "times"] : List Str).Nodup := sc_show_part.nd
  exact ts_one (ts_ret (te_ifExp (tc_cmp (opT_eq hq) (te_var 1 (pv 1)) te_int (nomark _)) (te_var 0 (pv 0)) (te_js3 (te_fv (te_var 1 (pv 1))) te_str (te_fv (te_var 0 (pv 0))))))
theorem ok_show_part (F : Fun K "show_part" "show_part" s_show_part f fd) (hmg : mg "show_part" = some (.ref f)) : DefOk P w K mg base "show_part" 1 ["box", "times"] _root_.K.m_show_part :=
  ⟨f, fd, fo_show_part F, F.binds (ps := ["box", "times"]) fun _ _ _ _ _ _ us hl => match us, hl with | [_, _], _ => rfl, F.kp, hmg⟩
noncomputable abbrev s_sign_ahead : Stmt := top 3
theorem sc_sign_ahead : FnScope ["first", "below"] ["first", "below"] (defScope s_sign_ahead) := ⟨rfl, rfl, rfl, by decide +kernel, rfl, by decide +kernel, by decide +kernel⟩
theorem fo_sign_ahead (F : Fun K "sign_ahead" "sign_ahead" s_sign_ahead f fd) : FnOk P w K mg base CX0 1 f fd ["first", "below"] (spF K (["first", "below"] : List Str).length _root_.K.m_sign_ahead) := by
  refine fn_tree (N := ["first", "below"]) F sc_sign_ahead (by decide)  fun cdv A outer s H E B hr => ?_
  have hu := hu_of hr
  have hq := hr.units
  have nd : (["first", "below"] : List Str).Nodup := sc_sign_ahead.nd
  exact ts_cons (ts_if (tc_val (te_var 0 (pv 0)))   (ts_one (ts_ret (te_ifExp (tc_val (te_var 1 (pv 1))) te_str te_str)))   ts_nil)   (ts_one (ts_ret (te_ifExp (tc_val (te_var 1 (pv 1))) te_str te_str)))
theorem ok_sign_ahead (F : Fun K "sign_ahead" "sign_ahead" s_sign_ahead f fd) (hmg : mg "sign_ahead" = some (.ref f)) : DefOk P w K mg base "sign_ahead" 1 ["first", "below"] _root_.K.m_sign_ahead :=
  ⟨f, fd, fo_sign_ahead F, F.binds (ps := ["first", "below"]) fun _ _ _ _ _ _ us hl => match us, hl with | [_, _], _ => rfl, F.kp, hmg⟩
noncomputable abbrev s_show_sum : Stmt := top 1
theorem sc_show_sum : FnScope ["one", "pieces", "numbers", "text", "piece", "number"] ["one"] (defScope s_show_sum) := ⟨rfl, rfl, rfl, by decide +kernel, rfl, by decide +kernel, by decide +kernel⟩
theorem fo_show_sum (F : Fun K "show_sum" "show_sum" s_show_sum f fd) (d_show_part : DefOk P w K mg base "show_part" 1 ["box", "times"] (_root_.K.m_show_part)) (d_sign_ahead : DefOk P w K mg base "sign_ahead" 1 ["first", "below"] (_root_.K.m_sign_ahead)) (b_abs : mg "abs" = none) (b_len : mg "len" = none) (b_str : mg "str" = none) (b_zip : mg "zip" = none) : FnOk P w K mg base CX0 2 f fd ["one"] (spF K (["one"] : List Str).length _root_.K.m_show_sum) := by
  have d_show_part := d_show_part.mono (show 1 ≤ 1 by first | decide | omega)
  have d_sign_ahead := d_sign_ahead.mono (show 1 ≤ 1 by first | decide | omega)
  refine fn_tree (N := ["one", "pieces", "numbers", "text", "piece", "number"]) F sc_show_sum (by decide)  fun cdv A outer s H E B hr => ?_
  have hu := hu_of hr
  have hq := hr.units
  have nd : (["one", "pieces", "numbers", "text", "piece", "number"] : List Str).Nodup := sc_show_sum.nd
  refine ts_cons ?_ ?_
  · exact ts_new 1 (ps_comp (N := ["box", "times"]) ⟨rfl, rfl, by decide +kernel, by decide +kernel⟩ rfl (ti_seq (te_ix hu (te_var 0 (pv 0)) te_int (fun _ _ => rfl))) (fun C s₀ H₀ ex pn => pgE fun B => (tg_tup (is := [0, 1]) (pg_tup rfl (pgs_cons (pg_name (show (["box", "times"] : List Str).Nodup by decide +kernel) rfl (Or.inl rfl)) (pgs_cons (pg_name (show (["box", "times"] : List Str).Nodup by decide +kernel) rfl (Or.inl rfl)) pgs_nil))))) (fun C s₀ H₀ ex pn => ptsE_nil) (fun C s₀ H₀ ex pn => peE fun B => (te_callD d_show_part hr (by rfl) (ta_cons (te_var 0 (pv 0)) (ta_cons (te_of_cb (pe_callB callT_abs (by rfl) b_abs PyProof.Rows.boot_abs (ta_cons (te_var 1 (pv 1)) ta_nil))) ta_nil)) (eq_cons (eq_cons eq_nil)))) (pg_name nd rfl (Or.inl rfl)) rfl) (fun σ H Q h => comp_f ⟨rfl, fun j k h => match j, h with | _ + 0, h => (by cases h)⟩ sz_seq h)
  · refine ts_cons ?_ ?_
    · exact ts_new 2 (ps_comp (N := ["box", "times"]) ⟨rfl, rfl, by decide +kernel, by decide +kernel⟩ rfl (ti_seq (te_ix hu (te_var 0 (pv 0)) te_int (fun _ _ => rfl))) (fun C s₀ H₀ ex pn => pgE fun B => (tg_tup (is := [0, 1]) (pg_tup rfl (pgs_cons (pg_name (show (["box", "times"] : List Str).Nodup by decide +kernel) rfl (Or.inl rfl)) (pgs_cons (pg_name (show (["box", "times"] : List Str).Nodup by decide +kernel) rfl (Or.inl rfl)) pgs_nil))))) (fun C s₀ H₀ ex pn => ptsE_nil) (fun C s₀ H₀ ex pn => peE fun B => (te_var 1 (pv 1))) (pg_name nd rfl (Or.inl rfl)) rfl) (fun σ H Q h => comp_f ⟨rfl, fun j k h => match j, h with | _ + 0, h => (by cases h)⟩ sz_seq h)
    · refine ts_cons ?_ ?_
      · refine ts_if ?_ ?_ ?_
        · exact PW.pt (tc_or (tc_cmp (opT_ne hq) (te_ix hu (te_var 0 (pv 0)) te_int (fun _ _ => rfl)) te_int (nomark _)) (tc_or1 (tc_cmp (opT_eq hq) (te_ownLen 1 b_len rfl (pv 1)) te_int (nomark _))))
        · refine ts_cons ?_ ?_
          · refine ts_append _ ?_
            · exact ps_expr (pe_bm PySem.F.plainAttrs_list PySem.F.slot_list_append PySem.F.type_list_append mt_append (pv 1) (pa_cons (te_str1 (by rfl) b_str (te_of_cb (pe_callB callT_abs (by rfl) b_abs PyProof.Rows.boot_abs (ta_cons (te_ix hu (te_var 0 (pv 0)) te_int (fun _ _ => rfl)) ta_nil)))) pa_nil))
          · exact ts_one (ts_append 2 (ps_expr (pe_bm PySem.F.plainAttrs_list PySem.F.slot_list_append PySem.F.type_list_append mt_append (pv 2) (pa_cons (te_ix hu (te_var 0 (pv 0)) te_int (fun _ _ => rfl)) pa_nil))))
        · exact ts_nil
      · refine ts_cons ?_ ?_
        · exact ts_set 3 (ps_set nd rfl (Or.inl rfl) te_str) (fun _ _ _ h => h)
        · refine ts_cons ?_ ?_
          · refine ts_for ?_ ?_ ?_ ?_ ?_ ?_
            · exact PassesOwn.never
            · exact rfl
            · exact ti_zip (by rfl) b_zip (te_var 1 (pv 1)) (te_var 2 (pv 2))
            · exact tg_tup (is := [4, 5]) (pg_tup rfl (pgs_cons (pg_name nd rfl (Or.inl rfl)) (pgs_cons (pg_name nd rfl (Or.inl rfl)) pgs_nil)))
            · refine ts_one ?_
              · refine @ts_set _ _ _ _ (tOf _ _ _) _ ?_ (fun _ _ _ h => h)
                · exact ps_set nd rfl (Or.inl rfl) (te_op opT_add (te_op opT_add (te_var 3 (pv 3)) (te_callD d_sign_ahead hr (by rfl) (ta_cons (te_cmp (opT_eq hq) (te_var 3 (pv 3)) te_str (nomark _)) (ta_cons (te_cmp opT_lt (te_var 5 (pv 5)) te_int (nomark _)) ta_nil)) (eq_cons (eq_cons eq_nil)))) (te_var 4 (pv 4)))
            · exact sz_zip
          · exact ts_one (ts_ret (te_var 3 (pv 3)))
theorem ok_show_sum (F : Fun K "show_sum" "show_sum" s_show_sum f fd) (hmg : mg "show_sum" = some (.ref f)) (d_show_part : DefOk P w K mg base "show_part" 1 ["box", "times"] (_root_.K.m_show_part)) (d_sign_ahead : DefOk P w K mg base "sign_ahead" 1 ["first", "below"] (_root_.K.m_sign_ahead)) (b_abs : mg "abs" = none) (b_len : mg "len" = none) (b_str : mg "str" = none) (b_zip : mg "zip" = none) : DefOk P w K mg base "show_sum" 2 ["one"] _root_.K.m_show_sum :=
  ⟨f, fd, fo_show_sum F d_show_part d_sign_ahead b_abs b_len b_str b_zip, F.binds (ps := ["one"]) fun _ _ _ _ _ _ us hl => match us, hl with | [_], _ => rfl, F.kp, hmg⟩
noncomputable abbrev s_show_most : Stmt := top 7
theorem sc_show_most : FnScope ["one"] ["one"] (defScope s_show_most) := ⟨rfl, rfl, rfl, by decide +kernel, rfl, by decide +kernel, by decide +kernel⟩
theorem fo_show_most (F : Fun K "show_most" "show_most" s_show_most f fd) (d_show_sum : DefOk P w K mg base "show_sum" 2 ["one"] (_root_.K.m_show_sum)) (b_str : mg "str" = none) : FnOk P w K mg base CX0 3 f fd ["one"] (spF K (["one"] : List Str).length _root_.K.m_show_most) := by
  have d_show_sum := d_show_sum.mono (show 2 ≤ 2 by first | decide | omega)
  refine fn_tree (N := ["one"]) F sc_show_most (by decide)  fun cdv A outer s H E B hr => ?_
  have hu := hu_of hr
  have hq := hr.units
  have nd : (["one"] : List Str).Nodup := sc_show_most.nd
  refine ts_one ?_
  · refine ts_ret ?_
    · refine te_op ?_ ?_ ?_
      · exact opT_add
      · exact te_op opT_add (te_callD d_show_sum hr (by rfl) (ta_cons (te_tup (ta_cons te_int (ta_cons (te_ix hu (te_var 0 (pv 0)) te_int (fun _ _ => rfl)) ta_nil)) (le1000 (len_cons (len_cons len_nil)) (by decide))) ta_nil) (eq_cons eq_nil)) te_str
      · exact te_str1 (by rfl) b_str (te_un unT_neg (te_ix hu (te_var 0 (pv 0)) te_int (fun _ _ => rfl)))
theorem ok_show_most (F : Fun K "show_most" "show_most" s_show_most f fd) (hmg : mg "show_most" = some (.ref f)) (d_show_sum : DefOk P w K mg base "show_sum" 2 ["one"] (_root_.K.m_show_sum)) (b_str : mg "str" = none) : DefOk P w K mg base "show_most" 3 ["one"] _root_.K.m_show_most :=
  ⟨f, fd, fo_show_most F d_show_sum b_str, F.binds (ps := ["one"]) fun _ _ _ _ _ _ us hl => match us, hl with | [_], _ => rfl, F.kp, hmg⟩
noncomputable abbrev s_show_remark : Stmt := top 6
theorem sc_show_remark : FnScope ["remark", "kind", "joint"] ["remark"] (defScope s_show_remark) := ⟨rfl, rfl, rfl, by decide +kernel, rfl, by decide +kernel, by decide +kernel⟩
theorem fo_show_remark (F : Fun K "show_remark" "show_remark" s_show_remark f fd) {nn : Nat} (d_show_member : DefOk P w K mg base "show_member" (3 + nn) ["member", "kind"] (_root_.K.m_show_member nn)) (d_show_most : DefOk P w K mg base "show_most" 3 ["one"] (_root_.K.m_show_most)) (d_show_sum : DefOk P w K mg base "show_sum" 2 ["one"] (_root_.K.m_show_sum)) (b_str : mg "str" = none) : FnOk P w K mg base CX0 (3 + nn + 1) f fd ["remark"] (spF K (["remark"] : List Str).length (_root_.K.m_show_remark (nn + 1))) := by
  have d_show_member := d_show_member.mono (show (3 + nn) ≤ (3 + nn) by first | decide | omega)
  have d_show_most := d_show_most.mono (show 3 ≤ (3 + nn) by first | decide | omega)
  have d_show_sum := d_show_sum.mono (show 2 ≤ (3 + nn) by first | decide | omega)
  refine fn_tree (N := ["remark", "kind", "joint"]) F sc_show_remark (by decide)  fun cdv A outer s H E B hr => ?_
  have hu := hu_of hr
  have hq := hr.units
  have nd : (["remark", "kind", "joint"] : List Str).Nodup := sc_show_remark.nd
  refine ts_cons ?_ ?_
  · exact ts_set 1 (ps_set nd rfl (Or.inr rfl) (te_ix hu (te_var 0 (pv 0)) te_int (fun _ _ => rfl))) (fun _ _ _ h => h)
  · refine ts_cons ?_ ?_
    · exact ts_if (tc_cmp (opT_eq hq) (te_var 1 (pv 1)) te_str (nomark _))   (ts_one (ts_ret (te_callD d_show_most hr (by rfl) (ta_cons (te_ix hu (te_var 0 (pv 0)) te_int (fun _ _ => rfl)) ta_nil) (eq_cons eq_nil))))   ts_nil
    · refine ts_cons ?_ ?_
      · refine ts_if ?_ ?_ ?_
        · exact tc_cmp (opT_eq hq) (te_var 1 (pv 1)) te_str (nomark _)
        · exact ts_one (ts_ret (te_op opT_add (te_op opT_add (te_str1 (by rfl) b_str (te_ix hu (te_var 0 (pv 0)) te_int (fun _ _ => rfl))) te_str) (te_callD d_show_sum hr (by rfl) (ta_cons (te_ix hu (te_var 0 (pv 0)) te_int (fun _ _ => rfl)) ta_nil) (eq_cons eq_nil))))
        · exact ts_nil
      · refine ts_cons ?_ ?_
        · exact ts_if (tc_cmp (opT_eq hq) (te_var 1 (pv 1)) te_str (nomark _))   (ts_one (ts_ret (te_op opT_add (te_op opT_add (te_op opT_add te_str (te_ix hu (te_var 0 (pv 0)) te_int (fun _ _ => rfl))) te_str) (te_str1 (by rfl) b_str (te_ix hu (te_var 0 (pv 0)) te_int (fun _ _ => rfl))))))   ts_nil
        · refine ts_cons ?_ ?_
          · exact ts_if (tc_cmp (opT_eq hq) (te_var 1 (pv 1)) te_str (nomark _))   (ts_one (ts_ret (te_op opT_add te_str (te_callD d_show_member hr (by rfl) (ta_cons (te_ix hu (te_var 0 (pv 0)) te_int (fun _ _ => rfl)) (ta_cons (te_var 1 (pv 1)) ta_nil)) (eq_cons (eq_cons eq_nil))))))   ts_nil
          · refine ts_cons ?_ ?_
            · exact ts_if (tc_cmp (opT_eq hq) (te_ix hu (te_var 0 (pv 0)) te_int (fun _ _ => rfl)) (te_tup ta_nil (le1000 len_nil (by decide))) (nomark _))   (ts_one (ts_ret (te_ifExp (tc_cmp (opT_eq hq) (te_var 1 (pv 1)) te_str (nomark _)) te_str te_str)))   ts_nil
            · refine ts_cons ?_ ?_
              · exact ts_set 2 (ps_set nd rfl (Or.inl rfl) (te_ifExp (tc_cmp (opT_eq hq) (te_var 1 (pv 1)) te_str (nomark _)) te_str te_str)) (fun _ _ _ h => h)
              · refine ts_one ?_
                · refine ts_ret ?_
                  · refine te_join ?_ ?_
                    · exact te_var 2 (pv 2)
                    · refine te_fresh ?_
                      · refine tf_comp (N := ["member", "kind"]) ?_ ?_ ?_ ?_ ?_ ?_ ?_ ?_
                        · exact ⟨rfl, fun j k h => match j, h with | 0, h => (by cases h; exact ⟨_, rfl, rfl, ⟨.inl rfl, .inr (.inl rfl), .inl rfl⟩⟩) | _ + 1, h => (by cases h)⟩
                        · exact ⟨rfl, rfl, by decide +kernel, by decide +kernel⟩
                        · exact rfl
                        · exact ti_seq (te_ix hu (te_var 0 (pv 0)) te_int (fun _ _ => rfl))
                        · exact sz_seq
                        · exact fun C s₀ H₀ ex pn => pgE fun B => (tg_name 0 (pg_name (show (["member", "kind"] : List Str).Nodup by decide +kernel) rfl (Or.inl rfl)))
                        · exact fun C s₀ H₀ ex pn => ptsE_nil
                        · exact fun C s₀ H₀ ex pn => peE fun B => (te_callD d_show_member hr (by rfl) (ta_cons (te_var 0 (pv 0)) (ta_cons (te_var 1 (pv 1)) ta_nil)) (eq_cons (eq_cons eq_nil)))
theorem ok_show_remark (F : Fun K "show_remark" "show_remark" s_show_remark f fd) (hmg : mg "show_remark" = some (.ref f)) {nn : Nat} (d_show_member : DefOk P w K mg base "show_member" (3 + nn) ["member", "kind"] (_root_.K.m_show_member nn)) (d_show_most : DefOk P w K mg base "show_most" 3 ["one"] (_root_.K.m_show_most)) (d_show_sum : DefOk P w K mg base "show_sum" 2 ["one"] (_root_.K.m_show_sum)) (b_str : mg "str" = none) : DefOk P w K mg base "show_remark" (3 + nn + 1) ["remark"] (_root_.K.m_show_remark (nn + 1)) :=
  ⟨f, fd, fo_show_remark F d_show_member d_show_most d_show_sum b_str, F.binds (ps := ["remark"]) fun _ _ _ _ _ _ us hl => match us, hl with | [_], _ => rfl, F.kp, hmg⟩
noncomputable abbrev s_show_member : Stmt := top 8
theorem sc_show_member : FnScope ["member", "kind", "text"] ["member", "kind"] (defScope s_show_member) := ⟨rfl, rfl, rfl, by decide +kernel, rfl, by decide +kernel, by decide +kernel⟩
theorem fo_show_member (F : Fun K "show_member" "show_member" s_show_member f fd) {nn : Nat} (d_show_remark : DefOk P w K mg base "show_remark" (3 + nn) ["remark"] (_root_.K.m_show_remark nn)) (c_BRACKETED : ∃ a, mg "BRACKETED" = some (.ref a) ∧ TabInT K w a [("and", ["and", "or"]), ("or", ["or"]), ("not", ["and", "or"])]) : FnOk P w K mg base CX0 (3 + nn + 1) f fd ["member", "kind"] (spF K (["member", "kind"] : List Str).length (_root_.K.m_show_member (nn + 1))) := by
  have d_show_remark := d_show_remark.mono (show (3 + nn) ≤ (3 + nn) by first | decide | omega)
  refine fn_tree (N := ["member", "kind", "text"]) F sc_show_member (by decide)  fun cdv A outer s H E B hr => ?_
  have hu := hu_of hr
  have hq := hr.units
  have nd : (["member", "kind", "text"] : List Str).Nodup := sc_show_member.nd
  refine ts_cons ?_ ?_
  · exact ts_set 2 (ps_set nd rfl (Or.inl rfl) (te_callD d_show_remark hr (by rfl) (ta_cons (te_var 0 (pv 0)) ta_nil) (eq_cons eq_nil))) (fun _ _ _ h => h)
  · refine ts_cons ?_ ?_
    · refine ts_if ?_ ?_ ?_
      · exact PW.pt (tc_and (tc_cmp (opT_in hq) (te_ix hu (te_var 0 (pv 0)) te_int (fun _ _ => rfl)) (te_tabTT (by rfl) c_BRACKETED (te_var 1 (pv 1)) (fun _ _ => rfl)) rfl) (tc_and1 (tc_cmp (opT_ne hq) (te_ix hu (te_var 0 (pv 0)) te_int (fun _ _ => rfl)) (te_tup ta_nil (le1000 len_nil (by decide))) (nomark _))))
      · exact ts_one (ts_ret (te_js3 te_str (te_fv (te_var 2 (pv 2))) te_str))
      · exact ts_nil
    · exact ts_one (ts_ret (te_var 2 (pv 2)))
theorem ok_show_member (F : Fun K "show_member" "show_member" s_show_member f fd) (hmg : mg "show_member" = some (.ref f)) {nn : Nat} (d_show_remark : DefOk P w K mg base "show_remark" (3 + nn) ["remark"] (_root_.K.m_show_remark nn)) (c_BRACKETED : ∃ a, mg "BRACKETED" = some (.ref a) ∧ TabInT K w a [("and", ["and", "or"]), ("or", ["or"]), ("not", ["and", "or"])]) : DefOk P w K mg base "show_member" (3 + nn + 1) ["member", "kind"] (_root_.K.m_show_member (nn + 1)) :=
  ⟨f, fd, fo_show_member F d_show_remark c_BRACKETED, F.binds (ps := ["member", "kind"]) fun _ _ _ _ _ _ us hl => match us, hl with | [_, _], _ => rfl, F.kp, hmg⟩
theorem okg_show_remark {f_show_remark : Addr} {fd_show_remark : FuncData} {f_show_member : Addr} {fd_show_member : FuncData} (F_show_remark : Fun K "show_remark" "show_remark" s_show_remark f_show_remark fd_show_remark) (h_show_remark : mg "show_remark" = some (.ref f_show_remark)) (F_show_member : Fun K "show_member" "show_member" s_show_member f_show_member fd_show_member) (h_show_member : mg "show_member" = some (.ref f_show_member)) (d_show_most : DefOk P w K mg base "show_most" 3 ["one"] _root_.K.m_show_most) (d_show_sum : DefOk P w K mg base "show_sum" 2 ["one"] _root_.K.m_show_sum) (b_str : mg "str" = none) (c_BRACKETED : ∃ a, mg "BRACKETED" = some (.ref a) ∧ TabInT K w a [("and", ["and", "or"]), ("or", ["or"]), ("not", ["and", "or"])]) : ∀ nn : Nat, DefOk P w K mg base "show_remark" (3 + nn) ["remark"] (_root_.K.m_show_remark nn) ∧ DefOk P w K mg base "show_member" (3 + nn) ["member", "kind"] (_root_.K.m_show_member nn)
  | 0 => ⟨DefOk.zero F_show_remark h_show_remark (F_show_remark.binds (ps := ["remark"]) fun _ _ _ _ _ _ us hl => match us, hl with | [_], _ => rfl), DefOk.zero F_show_member h_show_member (F_show_member.binds (ps := ["member", "kind"]) fun _ _ _ _ _ _ us hl => match us, hl with | [_, _], _ => rfl)⟩
  | nn + 1 => by
    have ih := okg_show_remark F_show_remark h_show_remark F_show_member h_show_member d_show_most d_show_sum b_str c_BRACKETED nn
    obtain ⟨d_show_remark, d_show_member⟩ := ih
    exact ⟨ok_show_remark F_show_remark h_show_remark d_show_member d_show_most d_show_sum b_str, ok_show_member F_show_member h_show_member d_show_remark c_BRACKETED⟩
noncomputable abbrev s_law_cell_at : Stmt := top 10
theorem sc_law_cell_at : FnScope ["_law_script", "_law_k"] ["_law_script", "_law_k"] (defScope s_law_cell_at) := ⟨rfl, rfl, rfl, by decide +kernel, rfl, by decide +kernel, by decide +kernel⟩
theorem fo_law_cell_at (F : Fun K "_law_cell_at" "_law_cell_at" s_law_cell_at f fd) (b_len : mg "len" = none) : FnOk P w K mg base CX0 1 f fd ["_law_script", "_law_k"] (spF K (["_law_script", "_law_k"] : List Str).length _root_.K.m_law_cell_at) := by
  refine fn_tree (N := ["_law_script", "_law_k"]) F sc_law_cell_at (by decide)  fun cdv A outer s H E B hr => ?_
  have hu := hu_of hr
  have hq := hr.units
  have nd : (["_law_script", "_law_k"] : List Str).Nodup := sc_law_cell_at.nd
  exact ts_cons (ts_if (tc_cmp opT_lt (te_var 1 (pv 1)) (te_of_cb (pe_callB callT_len (by rfl) b_len PySem.boot_len (ta_cons (te_var 0 (pv 0)) ta_nil))) (nomark _))   (ts_one (ts_ret (te_ix hu (te_var 0 (pv 0)) (te_var 1 (pv 1)) (fun _ _ => rfl))))   ts_nil)   (ts_one (ts_ret te_int))
theorem ok_law_cell_at (F : Fun K "_law_cell_at" "_law_cell_at" s_law_cell_at f fd) (hmg : mg "_law_cell_at" = some (.ref f)) (b_len : mg "len" = none) : DefOk P w K mg base "_law_cell_at" 1 ["_law_script", "_law_k"] _root_.K.m_law_cell_at :=
  ⟨f, fd, fo_law_cell_at F b_len, F.binds (ps := ["_law_script", "_law_k"]) fun _ _ _ _ _ _ us hl => match us, hl with | [_, _], _ => rfl, F.kp, hmg⟩
noncomputable abbrev s_law_state : Stmt := top 11
theorem sc_law_state : FnScope ["_law_cell", "_law_free"] ["_law_cell", "_law_free"] (defScope s_law_state) := ⟨rfl, rfl, rfl, by decide +kernel, rfl, by decide +kernel, by decide +kernel⟩
theorem fo_law_state (F : Fun K "_law_state" "_law_state" s_law_state f fd) : FnOk P w K mg base CX0 1 f fd ["_law_cell", "_law_free"] (spF K (["_law_cell", "_law_free"] : List Str).length _root_.K.m_law_state) := by
  refine fn_tree (N := ["_law_cell", "_law_free"]) F sc_law_state (by decide)  fun cdv A outer s H E B hr => ?_
  have hu := hu_of hr
  have hq := hr.units
  have nd : (["_law_cell", "_law_free"] : List Str).Nodup := sc_law_state.nd
  exact ts_cons (ts_if (tc_val (te_var 1 (pv 1)))   (ts_one (ts_ret (te_disp2 ⟨pn_var 0 (pv 0), mn_var 0⟩ ⟨pn_bl, mn_bl⟩ (by decide +kernel))))   ts_nil)   (ts_one (ts_ret (te_disp2 (pn_add ⟨pn_int, mn_int⟩ (pn_mod ⟨pn_var 0 (pv 0), mn_var 0⟩ ⟨pn_int, mn_int⟩)) ⟨pn_bl, mn_bl⟩ (by decide +kernel))))
theorem ok_law_state (F : Fun K "_law_state" "_law_state" s_law_state f fd) (hmg : mg "_law_state" = some (.ref f)) : DefOk P w K mg base "_law_state" 1 ["_law_cell", "_law_free"] _root_.K.m_law_state :=
  ⟨f, fd, fo_law_state F, F.binds (ps := ["_law_cell", "_law_free"]) fun _ _ _ _ _ _ us hl => match us, hl with | [_, _], _ => rfl, F.kp, hmg⟩
noncomputable abbrev s_law_take : Stmt := top 12
theorem sc_law_take : FnScope ["_law_state_here", "_law_many", "_law_found"] ["_law_state_here", "_law_many"] (defScope s_law_take) := ⟨rfl, rfl, rfl, by decide +kernel, rfl, by decide +kernel, by decide +kernel⟩
theorem fo_law_take (F : Fun K "_law_take" "_law_take" s_law_take f fd) : FnOk P w K mg base CX0 1 f fd ["_law_state_here", "_law_many"] (spF K (["_law_state_here", "_law_many"] : List Str).length _root_.K.m_law_take) := by
  refine fn_tree (N := ["_law_state_here", "_law_many", "_law_found"]) F sc_law_take (by decide)  fun cdv A outer s H E B hr => ?_
  have hu := hu_of hr
  have hq := hr.units
  have nd : (["_law_state_here", "_law_many", "_law_found"] : List Str).Nodup := sc_law_take.nd
  refine ts_cons ?_ ?_
  · refine ts_if ?_ ?_ ?_
    · exact tc_val (te_objItem hu (te_var 0 (pv 0)) te_str (fun _ _ => rfl))
    · refine ts_cons ?_ ?_
      · exact ts_set 2 (ps_set nd rfl (Or.inl rfl) (te_op opT_mod (te_objItem hu (te_var 0 (pv 0)) te_str (fun _ _ => rfl)) (te_var 1 (pv 1)))) (fun _ _ _ h => h)
      · exact ts_cons (ts_objPut hu (te_var 0 (pv 0)) te_str (te_op opT_fdiv (te_objItem hu (te_var 0 (pv 0)) te_str (fun _ _ => rfl)) (te_var 1 (pv 1))) rfl)   (ts_one (ts_ret (te_var 2 (pv 2))))
    · exact ts_nil
  · refine ts_cons ?_ ?_
    · exact ts_objPut hu (te_var 0 (pv 0)) te_str (te_op opT_mod (te_op opT_mul (te_objItem hu (te_var 0 (pv 0)) te_str (fun _ _ => rfl)) te_int) te_int) rfl
    · exact ts_one (ts_ret (te_op opT_mod (te_op opT_fdiv (te_op opT_mod (te_op opT_mul (te_objItem hu (te_var 0 (pv 0)) te_str (fun _ _ => rfl)) te_int) te_int) te_int) (te_var 1 (pv 1))))
theorem ok_law_take (F : Fun K "_law_take" "_law_take" s_law_take f fd) (hmg : mg "_law_take" = some (.ref f)) : DefOk P w K mg base "_law_take" 1 ["_law_state_here", "_law_many"] _root_.K.m_law_take :=
  ⟨f, fd, fo_law_take F, F.binds (ps := ["_law_state_here", "_law_many"]) fun _ _ _ _ _ _ us hl => match us, hl with | [_, _], _ => rfl, F.kp, hmg⟩
noncomputable abbrev s_law_name : Stmt := top 13
theorem sc_law_name : FnScope ["_law_head", "_law_k", "_law_size", "_law_place"] ["_law_head", "_law_k"] (defScope s_law_name) := ⟨rfl, rfl, rfl, by decide +kernel, rfl, by decide +kernel, by decide +kernel⟩
theorem fo_law_name (F : Fun K "_law_name" "_law_name" s_law_name f fd) : FnOk P w K mg base CX0 1 f fd ["_law_head", "_law_k"] (spF K (["_law_head", "_law_k"] : List Str).length _root_.K.m_law_name) := by
  refine fn_tree (N := ["_law_head", "_law_k", "_law_size", "_law_place"]) F sc_law_name (by decide)  fun cdv A outer s H E B hr => ?_
  have hu := hu_of hr
  have hq := hr.units
  have nd : (["_law_head", "_law_k", "_law_size", "_law_place"] : List Str).Nodup := sc_law_name.nd
  refine ts_cons ?_ ?_
  · refine ts_if ?_ ?_ ?_
    · exact tc_cmp (opT_eq hq) (te_op opT_mod (te_op opT_fdiv (te_var 0 (pv 0)) te_int) te_int) te_int (nomark _)
    · refine ts_one ?_
      · refine ts_ret ?_
        · refine te_ix ?_ ?_ ?_ ?_
          · exact hu
          · refine te_lst ?_ ?_
            · exact ta_strs (.cons (.cons (.cons (.cons (.cons (.cons (.cons (.cons (.cons (.cons .nil))))))))))
            · exact le1000 (len_strs _) (by decide)
          · exact te_op opT_mod (te_var 1 (pv 1)) te_int
          · exact fun _ _ => rfl
    · exact ts_nil
  · refine ts_cons ?_ ?_
    · refine ts_if ?_ ?_ ?_
      · exact tc_cmp (opT_eq hq) (te_op opT_mod (te_op opT_fdiv (te_var 0 (pv 0)) te_int) te_int) te_int (nomark _)
      · refine ts_one ?_
        · refine ts_ret ?_
          · refine te_ix ?_ ?_ ?_ ?_
            · exact hu
            · refine te_lst ?_ ?_
              · exact ta_strs (.cons (.cons (.cons (.cons (.cons (.cons (.cons (.cons (.cons (.cons .nil))))))))))
              · exact le1000 (len_strs _) (by decide)
            · exact te_op opT_mod (te_var 1 (pv 1)) te_int
            · exact fun _ _ => rfl
      · exact ts_nil
    · refine ts_cons ?_ ?_
      · refine ts_if ?_ ?_ ?_
        · exact tc_cmp (opT_eq hq) (te_op opT_mod (te_op opT_fdiv (te_var 0 (pv 0)) te_int) te_int) te_int (nomark _)
        · refine ts_one ?_
          · refine ts_ret ?_
            · refine te_ix ?_ ?_ ?_ ?_
              · exact hu
              · refine te_lst ?_ ?_
                · exact ta_strs (.cons (.cons (.cons (.cons (.cons (.cons (.cons (.cons (.cons (.cons .nil))))))))))
                · exact le1000 (len_strs _) (by decide)
              · exact te_op opT_mod (te_var 1 (pv 1)) te_int
              · exact fun _ _ => rfl
        · exact ts_nil
      · refine ts_cons ?_ ?_
        · exact ts_set 2 (ps_set nd rfl (Or.inl rfl) (te_op opT_add te_int (te_op opT_mod (te_var 0 (pv 0)) te_int))) (fun _ _ _ h => h)
        · refine ts_cons ?_ ?_
          · exact ts_set 3 (ps_set nd rfl (Or.inl rfl) (te_op opT_mod (te_op opT_fdiv (te_var 0 (pv 0)) te_int) (te_op opT_sub (te_var 2 (pv 2)) te_int))) (fun _ _ _ h => h)
          · refine ts_one ?_
            · refine ts_ret ?_
              · refine te_op ?_ ?_ ?_
                · exact opT_add
                · exact te_op opT_add (te_op opT_mul te_str (te_var 3 (pv 3))) (te_ix hu te_str (te_op opT_mod (te_var 1 (pv 1)) te_int) (fun _ _ => rfl))
                · exact te_op opT_mul (te_ix hu te_str (te_op opT_mod (te_op opT_fdiv (te_var 0 (pv 0)) te_int) te_int) (fun _ _ => rfl)) (te_op opT_sub (te_op opT_sub (te_var 2 (pv 2)) te_int) (te_var 3 (pv 3)))
theorem ok_law_name (F : Fun K "_law_name" "_law_name" s_law_name f fd) (hmg : mg "_law_name" = some (.ref f)) : DefOk P w K mg base "_law_name" 1 ["_law_head", "_law_k"] _root_.K.m_law_name :=
  ⟨f, fd, fo_law_name F, F.binds (ps := ["_law_head", "_law_k"]) fun _ _ _ _ _ _ us hl => match us, hl with | [_, _], _ => rfl, F.kp, hmg⟩
noncomputable abbrev s_law_number : Stmt := top 14
theorem sc_law_number : FnScope ["_law_state_here", "_law_most", "_law_way", "_law_found", "_law_k"] ["_law_state_here", "_law_most"] (defScope s_law_number) := ⟨rfl, rfl, rfl, by decide +kernel, rfl, by decide +kernel, by decide +kernel⟩
theorem fo_law_number (F : Fun K "_law_number" "_law_number" s_law_number f fd) (d_law_take : DefOk P w K mg base "_law_take" 1 ["_law_state_here", "_law_many"] (_root_.K.m_law_take)) (b_range : mg "range" = none) : FnOk P w K mg base CX0 2 f fd ["_law_state_here", "_law_most"] (spF K (["_law_state_here", "_law_most"] : List Str).length _root_.K.m_law_number) := by
  have d_law_take := d_law_take.mono (show 1 ≤ 1 by first | decide | omega)
  refine fn_tree (N := ["_law_state_here", "_law_most", "_law_way", "_law_found", "_law_k"]) F sc_law_number (by decide)  fun cdv A outer s H E B hr => ?_
  have hu := hu_of hr
  have hq := hr.units
  have nd : (["_law_state_here", "_law_most", "_law_way", "_law_found", "_law_k"] : List Str).Nodup := sc_law_number.nd
  refine ts_cons ?_ ?_
  · exact ts_set 2 (ps_set nd rfl (Or.inl rfl) (te_callD d_law_take hr (by rfl) (ta_cons (te_var 0 (pv 0)) (ta_cons te_int ta_nil)) (eq_cons (eq_cons eq_nil)))) (fun _ _ _ h => h)
  · refine ts_cons ?_ ?_
    · exact ts_if (tc_cmp opT_lt (te_var 2 (pv 2)) te_int (nomark _))   (ts_one (ts_ret (te_op opT_sub (te_callD d_law_take hr (by rfl) (ta_cons (te_var 0 (pv 0)) (ta_cons te_int ta_nil)) (eq_cons (eq_cons eq_nil))) te_int)))   ts_nil
    · refine ts_cons ?_ ?_
      · exact ts_set 3 (ps_set nd rfl (Or.inl rfl) te_int) (fun _ _ _ h => h)
      · refine ts_cons ?_ ?_
        · refine ts_for ?_ ?_ ?_ ?_ ?_ ?_
          · exact PassesOwn.never
          · exact rfl
          · exact ti_range (by rfl) b_range te_int
          · exact tg_name 4 (pg_name nd rfl (Or.inl rfl))
          · refine ts_one ?_
            · refine @ts_set _ _ _ _ (tOf _ _ _) _ ?_ (fun _ _ _ h => h)
              · exact ps_set nd rfl (Or.inl rfl) (te_op opT_add (te_op opT_mul (te_op opT_mul (te_var 3 (pv 3)) te_int) (te_op opT_pow te_int te_int)) (te_callD d_law_take hr (by rfl) (ta_cons (te_var 0 (pv 0)) (ta_cons (te_op opT_mul te_int (te_op opT_pow te_int te_int)) ta_nil)) (eq_cons (eq_cons eq_nil))))
          · exact sz_range
        · exact ts_one (ts_ret (te_op opT_add (te_op opT_sub (te_op opT_mod (te_var 3 (pv 3)) (te_op opT_sub (te_op opT_mul te_int (te_var 1 (pv 1))) te_int)) (te_var 1 (pv 1))) te_int))
theorem ok_law_number (F : Fun K "_law_number" "_law_number" s_law_number f fd) (hmg : mg "_law_number" = some (.ref f)) (d_law_take : DefOk P w K mg base "_law_take" 1 ["_law_state_here", "_law_many"] (_root_.K.m_law_take)) (b_range : mg "range" = none) : DefOk P w K mg base "_law_number" 2 ["_law_state_here", "_law_most"] _root_.K.m_law_number :=
  ⟨f, fd, fo_law_number F d_law_take b_range, F.binds (ps := ["_law_state_here", "_law_most"]) fun _ _ _ _ _ _ us hl => match us, hl with | [_, _], _ => rfl, F.kp, hmg⟩
noncomputable abbrev s_law_sum : Stmt := top 15
theorem sc_law_sum : FnScope ["_law_state_here", "_law_names", "_law_parts", "_law_name_here", "_law_times"] ["_law_state_here", "_law_names"] (defScope s_law_sum) := ⟨rfl, rfl, rfl, by decide +kernel, rfl, by decide +kernel, by decide +kernel⟩
theorem fo_law_sum (F : Fun K "_law_sum" "_law_sum" s_law_sum f fd) (d_law_number : DefOk P w K mg base "_law_number" 2 ["_law_state_here", "_law_most"] (_root_.K.m_law_number)) (d_law_take : DefOk P w K mg base "_law_take" 1 ["_law_state_here", "_law_many"] (_root_.K.m_law_take)) (b_sorted : mg "sorted" = none) (b_tuple : mg "tuple" = none) : FnOk P w K mg base CX0 3 f fd ["_law_state_here", "_law_names"] (spF K (["_law_state_here", "_law_names"] : List Str).length _root_.K.m_law_sum) := by
  have d_law_number := d_law_number.mono (show 2 ≤ 2 by first | decide | omega)
  have d_law_take := d_law_take.mono (show 1 ≤ 2 by first | decide | omega)
  refine fn_tree (N := ["_law_state_here", "_law_names", "_law_parts", "_law_name_here", "_law_times"]) F sc_law_sum (by decide)  fun cdv A outer s H E B hr => ?_
  have hu := hu_of hr
  have hq := hr.units
  have nd : (["_law_state_here", "_law_names", "_law_parts", "_law_name_here", "_law_times"] : List Str).Nodup := sc_law_sum.nd
  refine ts_cons ?_ ?_
  · exact ts_new 2 (ps_set nd rfl (Or.inl rfl) (tf_lst ta_nil (le1000 len_nil (by decide)))) (fun _ _ _ h => h)
  · refine ts_cons ?_ ?_
    · refine ts_for ?_ ?_ ?_ ?_ ?_ ?_
      · exact PassesOwn.never
      · exact rfl
      · exact ti_seq (te_of_cb (pe_callB (callT_sorted (by rfl)) (by rfl) b_sorted PyProof.Rows.boot_sorted (ta_cons (te_var 1 (pv 1)) ta_nil)))
      · exact tg_name 3 (pg_name nd rfl (Or.inl rfl))
      · refine ts_one ?_
        · refine ts_if ?_ ?_ ?_
          · exact tc_cmp (opT_eq hq) (te_callD d_law_take hr (by rfl) (ta_cons (te_var 0 (pv 0)) (ta_cons te_int ta_nil)) (eq_cons (eq_cons eq_nil))) te_int (nomark _)
          · refine ts_cons ?_ ?_
            · exact ts_set 4 (ps_set nd rfl (Or.inl rfl) (te_callD d_law_number hr (by rfl) (ta_cons (te_var 0 (pv 0)) (ta_cons (te_op opT_pow te_int te_int) ta_nil)) (eq_cons (eq_cons eq_nil)))) (fun _ _ _ h => h)
            · refine ts_one ?_
              · refine ts_if ?_ ?_ ?_
                · exact tc_cmp (opT_ne hq) (te_var 4 (pv 4)) te_int (nomark _)
                · exact ts_one (ts_append 2 (ps_expr (pe_bm PySem.F.plainAttrs_list PySem.F.slot_list_append PySem.F.type_list_append mt_append (pv 2) (pa_cons (te_tup (ta_cons (te_var 3 (pv 3)) (ta_cons (te_var 4 (pv 4)) ta_nil)) (le1000 (len_cons (len_cons len_nil)) (by decide))) pa_nil))))
                · exact ts_nil
          · exact ts_nil
      · exact sz_seq
    · refine ts_one ?_
      · refine ts_ret ?_
        · refine te_tup ?_ ?_
          · exact ta_cons (te_callD d_law_number hr (by rfl) (ta_cons (te_var 0 (pv 0)) (ta_cons (te_op opT_pow te_int te_int) ta_nil)) (eq_cons (eq_cons eq_nil))) (ta_cons (te_of_cb (pe_callTy callT_tuple (by rfl) b_tuple PyProof.Rows.boot_tuple (ta_cons (te_var 2 (pv 2)) ta_nil))) ta_nil)
          · exact le1000 (len_cons (len_cons len_nil)) (by decide)
theorem ok_law_sum (F : Fun K "_law_sum" "_law_sum" s_law_sum f fd) (hmg : mg "_law_sum" = some (.ref f)) (d_law_number : DefOk P w K mg base "_law_number" 2 ["_law_state_here", "_law_most"] (_root_.K.m_law_number)) (d_law_take : DefOk P w K mg base "_law_take" 1 ["_law_state_here", "_law_many"] (_root_.K.m_law_take)) (b_sorted : mg "sorted" = none) (b_tuple : mg "tuple" = none) : DefOk P w K mg base "_law_sum" 3 ["_law_state_here", "_law_names"] _root_.K.m_law_sum :=
  ⟨f, fd, fo_law_sum F d_law_number d_law_take b_sorted b_tuple, F.binds (ps := ["_law_state_here", "_law_names"]) fun _ _ _ _ _ _ us hl => match us, hl with | [_, _], _ => rfl, F.kp, hmg⟩
noncomputable abbrev s_law_remark : Stmt := top 16
theorem sc_law_remark : FnScope ["_law_state_here", "_law_names", "_law_hands", "_law_deep", "_law_kind", "_law_many"] ["_law_state_here", "_law_names", "_law_hands", "_law_deep"] (defScope s_law_remark) := ⟨rfl, rfl, rfl, by decide +kernel, rfl, by decide +kernel, by decide +kernel⟩
theorem fo_law_remark (F : Fun K "_law_remark" "_law_remark" s_law_remark f fd) {nn : Nat} (d_law_remark : DefOk P w K mg base "_law_remark" (3 + nn) ["_law_state_here", "_law_names", "_law_hands", "_law_deep"] (_root_.K.m_law_remark nn)) (d_law_sum : DefOk P w K mg base "_law_sum" 3 ["_law_state_here", "_law_names"] (_root_.K.m_law_sum)) (d_law_take : DefOk P w K mg base "_law_take" 1 ["_law_state_here", "_law_many"] (_root_.K.m_law_take)) (b_int : mg "int" = none) (b_len : mg "len" = none) (b_range : mg "range" = none) (b_tuple : mg "tuple" = none) : FnOk P w K mg base CX0 (3 + nn + 1) f fd ["_law_state_here", "_law_names", "_law_hands", "_law_deep"] (spF K (["_law_state_here", "_law_names", "_law_hands", "_law_deep"] : List Str).length (_root_.K.m_law_remark (nn + 1))) := by
  have d_law_remark := d_law_remark.mono (show (3 + nn) ≤ (3 + nn) by first | decide | omega)
  have d_law_sum := d_law_sum.mono (show 3 ≤ (3 + nn) by first | decide | omega)
  have d_law_take := d_law_take.mono (show 1 ≤ (3 + nn) by first | decide | omega)
  refine fn_tree (N := ["_law_state_here", "_law_names", "_law_hands", "_law_deep", "_law_kind", "_law_many"]) F sc_law_remark (by decide)  fun cdv A outer s H E B hr => ?_
  have hu := hu_of hr
  have hq := hr.units
  have nd : (["_law_state_here", "_law_names", "_law_hands", "_law_deep", "_law_kind", "_law_many"] : List Str).Nodup := sc_law_remark.nd
  refine ts_cons ?_ ?_
  · exact ts_set 4 (ps_set nd rfl (Or.inl rfl) (te_callD d_law_take hr (by rfl) (ta_cons (te_var 0 (pv 0)) (ta_cons te_int ta_nil)) (eq_cons (eq_cons eq_nil)))) (fun _ _ _ h => h)
  · refine ts_cons ?_ ?_
    · refine ts_if ?_ ?_ ?_
      · exact PW.pt (tc_or (tc_cmp (opT_eq hq) (te_var 3 (pv 3)) te_int (nomark _)) (tc_or1 (tc_cmp opT_lt (te_var 4 (pv 4)) te_int (nomark _))))
      · refine ts_cons ?_ ?_
        · refine ts_if ?_ ?_ ?_
          · exact tc_cmp (opT_eq hq) (te_op opT_mod (te_var 4 (pv 4)) te_int) te_int (nomark _)
          · refine ts_one ?_
            · refine ts_ret ?_
              · refine te_tup ?_ ?_
                · exact ta_cons te_str (ta_cons (te_callD d_law_sum hr (by rfl) (ta_cons (te_var 0 (pv 0)) (ta_cons (te_var 1 (pv 1)) ta_nil)) (eq_cons (eq_cons eq_nil))) (ta_cons (te_op opT_add te_int (te_callD d_law_take hr (by rfl) (ta_cons (te_var 0 (pv 0)) (ta_cons te_int ta_nil)) (eq_cons (eq_cons eq_nil)))) ta_nil))
                · exact le1000 (len_cons (len_cons (len_cons len_nil))) (by decide)
          · exact ts_nil
        · refine ts_cons ?_ ?_
          · refine ts_if ?_ ?_ ?_
            · exact tc_cmp (opT_eq hq) (te_op opT_mod (te_var 4 (pv 4)) te_int) te_int (nomark _)
            · refine ts_one ?_
              · refine ts_ret ?_
                · refine te_tup ?_ ?_
                  · refine ta_cons ?_ ?_
                    · exact te_str
                    · refine ta_cons ?_ ?_
                      · exact te_ix hu (te_var 2 (pv 2)) (te_callD d_law_take hr (by rfl) (ta_cons (te_var 0 (pv 0)) (ta_cons (te_of_cb (pe_callB callT_len (by rfl) b_len PySem.boot_len (ta_cons (te_var 2 (pv 2)) ta_nil))) ta_nil)) (eq_cons (eq_cons eq_nil))) (fun _ _ => rfl)
                      · exact ta_cons (te_callD d_law_take hr (by rfl) (ta_cons (te_var 0 (pv 0)) (ta_cons te_int ta_nil)) (eq_cons (eq_cons eq_nil))) ta_nil
                  · exact le1000 (len_cons (len_cons (len_cons len_nil))) (by decide)
            · exact ts_nil
          · exact ts_one (ts_ret (te_tup (ta_cons te_str (ta_cons (te_callD d_law_sum hr (by rfl) (ta_cons (te_var 0 (pv 0)) (ta_cons (te_var 1 (pv 1)) ta_nil)) (eq_cons (eq_cons eq_nil))) ta_nil)) (le1000 (len_cons (len_cons len_nil)) (by decide))))
      · exact ts_nil
    · refine ts_cons ?_ ?_
      · refine ts_if ?_ ?_ ?_
        · exact tc_cmp (opT_eq hq) (te_var 4 (pv 4)) te_int (nomark _)
        · refine ts_one ?_
          · refine ts_ret ?_
            · refine te_tup ?_ ?_
              · exact ta_cons te_str (ta_cons (te_callD d_law_remark hr (by rfl) (ta_cons (te_var 0 (pv 0)) (ta_cons (te_var 1 (pv 1)) (ta_cons (te_var 2 (pv 2)) (ta_cons (te_op opT_sub (te_var 3 (pv 3)) te_int) ta_nil)))) (eq_cons (eq_cons (eq_cons (eq_cons eq_nil))))) ta_nil)
              · exact le1000 (len_cons (len_cons len_nil)) (by decide)
        · exact ts_nil
      · refine ts_cons ?_ ?_
        · refine ts_if ?_ ?_ ?_
          · exact tc_cmp (opT_eq hq) (te_var 4 (pv 4)) te_int (nomark _)
          · refine ts_one ?_
            · refine ts_ret ?_
              · refine te_tup ?_ ?_
                · refine ta_cons ?_ ?_
                  · exact te_ix hu (te_lst (ta_cons te_str (ta_cons te_str ta_nil)) (le1000 (len_cons (len_cons len_nil)) (by decide))) (te_callD d_law_take hr (by rfl) (ta_cons (te_var 0 (pv 0)) (ta_cons te_int ta_nil)) (eq_cons (eq_cons eq_nil))) (fun _ _ => rfl)
                  · exact ta_cons (te_tup ta_nil (le1000 len_nil (by decide))) ta_nil
                · exact le1000 (len_cons (len_cons len_nil)) (by decide)
          · exact ts_nil
        · refine ts_cons ?_ ?_
          · refine ts_if ?_ ?_ ?_
            · exact tc_cmp opT_lt (te_var 4 (pv 4)) te_int (nomark _)
            · refine ts_cons ?_ ?_
              · refine @ts_set _ _ _ _ (tOf _ _ _) _ ?_ (fun _ _ _ h => h)
                · refine ps_set ?_ ?_ ?_ ?_
                  · exact nd
                  · exact rfl
                  · exact Or.inl rfl
                  · refine te_op ?_ ?_ ?_
                    · exact opT_add
                    · exact te_int
                    · exact te_callD d_law_take hr (by rfl) (ta_cons (te_var 0 (pv 0)) (ta_cons (te_op opT_add te_int (te_op opT_mul te_int (te_of_cb (pe_callTy callT_int (by rfl) b_int PyProof.Rows.boot_int (ta_cons (te_cmp (opT_eq hq) (te_var 3 (pv 3)) te_int (nomark _)) ta_nil))))) ta_nil)) (eq_cons (eq_cons eq_nil))
              · refine ts_one ?_
                · refine ts_ret ?_
                  · refine te_tup ?_ ?_
                    · refine ta_cons ?_ ?_
                      · exact te_ix hu (te_lst (ta_cons te_str (ta_cons te_str ta_nil)) (le1000 (len_cons (len_cons len_nil)) (by decide))) (te_op opT_sub (te_var 4 (pv 4)) te_int) (fun _ _ => rfl)
                      · refine ta_cons ?_ ?_
                        · refine te_of_cb ?_
                          · refine pe_callTy callT_tuple ?_ ?_ PyProof.Rows.boot_tuple ?_
                            · exact by rfl
                            · exact b_tuple
                            · refine ta_cons ?_ ?_
                              · refine te_fresh ?_
                                · refine tf_comp (N := ["_law_k", "_law_state_here", "_law_names", "_law_hands", "_law_deep"]) ?_ ?_ ?_ ?_ ?_ ?_ ?_ ?_
                                  · refine ⟨rfl, fun j k h => match j, h with | 0, h => (by cases h; exact ⟨_, rfl, rfl, ⟨.inl rfl, .inr (.inl rfl), .inl rfl⟩⟩) | 1, h => (by cases h; exact ⟨_, rfl, rfl, ⟨.inl rfl, .inr (.inl rfl), .inl rfl⟩⟩) | 2, h => (by cases h; exact ⟨_, rfl, rfl, ⟨.inl rfl, .inr (.inl rfl), .inl rfl⟩⟩) | 3, h => (by cases h; exact ⟨_, rfl, rfl, ⟨.inl rfl, .inr (.inl rfl), .inl rfl⟩⟩) | _ + 4, h => (by cases h)⟩
                                  · exact ⟨rfl, rfl, by decide +kernel, by decide +kernel⟩
                                  · exact rfl
                                  · exact ti_range (by rfl) b_range (te_var 5 (pv 5))
                                  · exact sz_range
                                  · exact fun C s₀ H₀ ex pn => pgE fun B => (tg_name 0 (pg_name (show (["_law_k", "_law_state_here", "_law_names", "_law_hands", "_law_deep"] : List Str).Nodup by decide +kernel) rfl (Or.inl rfl)))
                                  · exact fun C s₀ H₀ ex pn => ptsE_nil
                                  · exact fun C s₀ H₀ ex pn => peE fun B => (te_callD d_law_remark hr (by rfl) (ta_cons (te_var 1 (pv 1)) (ta_cons (te_var 2 (pv 2)) (ta_cons (te_var 3 (pv 3)) (ta_cons (te_op opT_sub (te_var 4 (pv 4)) te_int) ta_nil)))) (eq_cons (eq_cons (eq_cons (eq_cons eq_nil)))))
                              · exact ta_nil
                        · exact ta_nil
                    · exact le1000 (len_cons (len_cons len_nil)) (by decide)
            · exact ts_nil
          · exact ts_one (ts_ret (te_tup (ta_cons te_str (ta_cons (te_callD d_law_sum hr (by rfl) (ta_cons (te_var 0 (pv 0)) (ta_cons (te_var 1 (pv 1)) ta_nil)) (eq_cons (eq_cons eq_nil))) ta_nil)) (le1000 (len_cons (len_cons len_nil)) (by decide))))
theorem ok_law_remark (F : Fun K "_law_remark" "_law_remark" s_law_remark f fd) (hmg : mg "_law_remark" = some (.ref f)) {nn : Nat} (d_law_remark : DefOk P w K mg base "_law_remark" (3 + nn) ["_law_state_here", "_law_names", "_law_hands", "_law_deep"] (_root_.K.m_law_remark nn)) (d_law_sum : DefOk P w K mg base "_law_sum" 3 ["_law_state_here", "_law_names"] (_root_.K.m_law_sum)) (d_law_take : DefOk P w K mg base "_law_take" 1 ["_law_state_here", "_law_many"] (_root_.K.m_law_take)) (b_int : mg "int" = none) (b_len : mg "len" = none) (b_range : mg "range" = none) (b_tuple : mg "tuple" = none) : DefOk P w K mg base "_law_remark" (3 + nn + 1) ["_law_state_here", "_law_names", "_law_hands", "_law_deep"] (_root_.K.m_law_remark (nn + 1)) :=
  ⟨f, fd, fo_law_remark F d_law_remark d_law_sum d_law_take b_int b_len b_range b_tuple, F.binds (ps := ["_law_state_here", "_law_names", "_law_hands", "_law_deep"]) fun _ _ _ _ _ _ us hl => match us, hl with | [_, _, _, _], _ => rfl, F.kp, hmg⟩
theorem okg_law_remark {f_law_remark : Addr} {fd_law_remark : FuncData} (F_law_remark : Fun K "_law_remark" "_law_remark" s_law_remark f_law_remark fd_law_remark) (h_law_remark : mg "_law_remark" = some (.ref f_law_remark)) (d_law_sum : DefOk P w K mg base "_law_sum" 3 ["_law_state_here", "_law_names"] _root_.K.m_law_sum) (d_law_take : DefOk P w K mg base "_law_take" 1 ["_law_state_here", "_law_many"] _root_.K.m_law_take) (b_int : mg "int" = none) (b_len : mg "len" = none) (b_range : mg "range" = none) (b_tuple : mg "tuple" = none) : ∀ nn : Nat, DefOk P w K mg base "_law_remark" (3 + nn) ["_law_state_here", "_law_names", "_law_hands", "_law_deep"] (_root_.K.m_law_remark nn)
  | 0 => DefOk.zero F_law_remark h_law_remark (F_law_remark.binds (ps := ["_law_state_here", "_law_names", "_law_hands", "_law_deep"]) fun _ _ _ _ _ _ us hl => match us, hl with | [_, _, _, _], _ => rfl)
  | nn + 1 => by
    have ih := okg_law_remark F_law_remark h_law_remark d_law_sum d_law_take b_int b_len b_range b_tuple nn
    have d_law_remark := ih
    exact ok_law_remark F_law_remark h_law_remark d_law_remark d_law_sum d_law_take b_int b_len b_range b_tuple
noncomputable abbrev s_law_sum_text : Stmt := top 17
theorem sc_law_sum_text : FnScope ["_law_one", "_law_text", "_law_name_here", "_law_times", "_law_piece"] ["_law_one"] (defScope s_law_sum_text) := ⟨rfl, rfl, rfl, by decide +kernel, rfl, by decide +kernel, by decide +kernel⟩
theorem fo_law_sum_text (F : Fun K "_law_sum_text" "_law_sum_text" s_law_sum_text f fd) (b_abs : mg "abs" = none) (b_int : mg "int" = none) (b_str : mg "str" = none) : FnOk P w K mg base CX0 1 f fd ["_law_one"] (spF K (["_law_one"] : List Str).length _root_.K.m_law_sum_text) := by
  refine fn_tree (N := ["_law_one", "_law_text", "_law_name_here", "_law_times", "_law_piece"]) F sc_law_sum_text (by decide)  fun cdv A outer s H E B hr => ?_
  have hu := hu_of hr
  have hq := hr.units
  have nd : (["_law_one", "_law_text", "_law_name_here", "_law_times", "_law_piece"] : List Str).Nodup := sc_law_sum_text.nd
  refine ts_cons ?_ ?_
  · exact ts_set 1 (ps_set nd rfl (Or.inl rfl) te_str) (fun _ _ _ h => h)
  · refine ts_cons ?_ ?_
    · refine ts_for ?_ ?_ ?_ ?_ ?_ ?_
      · exact PassesOwn.never
      · exact rfl
      · exact ti_seq (te_ix hu (te_var 0 (pv 0)) te_int (fun _ _ => rfl))
      · exact tg_tup (is := [2, 3]) (pg_tup rfl (pgs_cons (pg_name nd rfl (Or.inl rfl)) (pgs_cons (pg_name nd rfl (Or.inl rfl)) pgs_nil)))
      · refine ts_cons ?_ ?_
        · exact ts_set 4 (ps_set nd rfl (Or.inl rfl) (te_var 2 (pv 2))) (fun _ _ _ h => h)
        · refine ts_cons ?_ ?_
          · refine ts_if ?_ ?_ ?_
            · exact tc_cmp (opT_ne hq) (te_of_cb (pe_callB callT_abs (by rfl) b_abs PyProof.Rows.boot_abs (ta_cons (te_var 3 (pv 3)) ta_nil))) te_int (nomark _)
            · exact ts_one (ts_set 4 (ps_set nd rfl (Or.inl rfl) (te_op opT_add (te_op opT_add (te_str1 (by rfl) b_str (te_of_cb (pe_callB callT_abs (by rfl) b_abs PyProof.Rows.boot_abs (ta_cons (te_var 3 (pv 3)) ta_nil)))) te_str) (te_var 2 (pv 2)))) (fun _ _ _ h => h))
            · exact ts_nil
          · refine ts_one ?_
            · refine ts_if ?_ ?_ ?_
              · exact tc_cmp (opT_eq hq) (te_var 1 (pv 1)) te_str (nomark _)
              · exact ts_one (ts_set 1 (ps_set nd rfl (Or.inl rfl) (te_op opT_add (te_op opT_mul te_str (te_of_cb (pe_callTy callT_int (by rfl) b_int PyProof.Rows.boot_int (ta_cons (te_cmp opT_lt (te_var 3 (pv 3)) te_int (nomark _)) ta_nil)))) (te_var 4 (pv 4)))) (fun _ _ _ h => h))
              · refine ts_one ?_
                · refine @ts_set _ _ _ _ (tOf _ _ _) _ ?_ (fun _ _ _ h => h)
                  · refine ps_set ?_ ?_ ?_ ?_
                    · exact nd
                    · exact rfl
                    · exact Or.inl rfl
                    · refine te_op ?_ ?_ ?_
                      · exact opT_add
                      · exact te_op opT_add (te_var 1 (pv 1)) (te_ix hu (te_lst (ta_cons te_str (ta_cons te_str ta_nil)) (le1000 (len_cons (len_cons len_nil)) (by decide))) (te_of_cb (pe_callTy callT_int (by rfl) b_int PyProof.Rows.boot_int (ta_cons (te_cmp opT_lt (te_var 3 (pv 3)) te_int (nomark _)) ta_nil))) (fun _ _ => rfl))
                      · exact te_var 4 (pv 4)
      · exact sz_seq
    · refine ts_cons ?_ ?_
      · exact ts_if (tc_cmp (opT_eq hq) (te_var 1 (pv 1)) te_str (nomark _))   (ts_one (ts_ret (te_str1 (by rfl) b_str (te_ix hu (te_var 0 (pv 0)) te_int (fun _ _ => rfl)))))   ts_nil
      · refine ts_cons ?_ ?_
        · exact ts_if (tc_cmp (opT_eq hq) (te_ix hu (te_var 0 (pv 0)) te_int (fun _ _ => rfl)) te_int (nomark _))   (ts_one (ts_ret (te_var 1 (pv 1))))   ts_nil
        · refine ts_one ?_
          · refine ts_ret ?_
            · refine te_op ?_ ?_ ?_
              · exact opT_add
              · refine te_op ?_ ?_ ?_
                · exact opT_add
                · exact te_var 1 (pv 1)
                · exact te_ix hu (te_lst (ta_cons te_str (ta_cons te_str ta_nil)) (le1000 (len_cons (len_cons len_nil)) (by decide))) (te_of_cb (pe_callTy callT_int (by rfl) b_int PyProof.Rows.boot_int (ta_cons (te_cmp opT_lt (te_ix hu (te_var 0 (pv 0)) te_int (fun _ _ => rfl)) te_int (nomark _)) ta_nil))) (fun _ _ => rfl)
              · exact te_str1 (by rfl) b_str (te_of_cb (pe_callB callT_abs (by rfl) b_abs PyProof.Rows.boot_abs (ta_cons (te_ix hu (te_var 0 (pv 0)) te_int (fun _ _ => rfl)) ta_nil)))
theorem ok_law_sum_text (F : Fun K "_law_sum_text" "_law_sum_text" s_law_sum_text f fd) (hmg : mg "_law_sum_text" = some (.ref f)) (b_abs : mg "abs" = none) (b_int : mg "int" = none) (b_str : mg "str" = none) : DefOk P w K mg base "_law_sum_text" 1 ["_law_one"] _root_.K.m_law_sum_text :=
  ⟨f, fd, fo_law_sum_text F b_abs b_int b_str, F.binds (ps := ["_law_one"]) fun _ _ _ _ _ _ us hl => match us, hl with | [_], _ => rfl, F.kp, hmg⟩
noncomputable abbrev s_law_rank : Stmt := top 18
theorem sc_law_rank : FnScope ["_law_remark_here"] ["_law_remark_here"] (defScope s_law_rank) := ⟨rfl, rfl, rfl, by decide +kernel, rfl, by decide +kernel, by decide +kernel⟩
theorem fo_law_rank (F : Fun K "_law_rank" "_law_rank" s_law_rank f fd) (b_len : mg "len" = none) : FnOk P w K mg base CX0 1 f fd ["_law_remark_here"] (spF K (["_law_remark_here"] : List Str).length _root_.K.m_law_rank) := by
  refine fn_tree (N := ["_law_remark_here"]) F sc_law_rank (by decide)  fun cdv A outer s H E B hr => ?_
  have hu := hu_of hr
  have hq := hr.units
  have nd : (["_law_remark_here"] : List Str).Nodup := sc_law_rank.nd
  refine ts_cons ?_ ?_
  · refine ts_if ?_ ?_ ?_
    · exact PW.pt (tc_and (tc_cmp (opT_eq hq) (te_ix hu (te_var 0 (pv 0)) te_int (fun _ _ => rfl)) te_str (nomark _)) (tc_and1 (tc_cmp opT_gt (te_of_cb (pe_callB callT_len (by rfl) b_len PySem.boot_len (ta_cons (te_ix hu (te_var 0 (pv 0)) te_int (fun _ _ => rfl)) ta_nil))) te_int (nomark _))))
    · exact ts_one (ts_ret te_int)
    · exact ts_nil
  · refine ts_cons ?_ ?_
    · refine ts_if ?_ ?_ ?_
      · exact PW.pt (tc_and (tc_cmp (opT_eq hq) (te_ix hu (te_var 0 (pv 0)) te_int (fun _ _ => rfl)) te_str (nomark _)) (tc_and1 (tc_cmp opT_gt (te_of_cb (pe_callB callT_len (by rfl) b_len PySem.boot_len (ta_cons (te_ix hu (te_var 0 (pv 0)) te_int (fun _ _ => rfl)) ta_nil))) te_int (nomark _))))
      · exact ts_one (ts_ret te_int)
      · exact ts_nil
    · exact ts_one (ts_ret te_int)
theorem ok_law_rank (F : Fun K "_law_rank" "_law_rank" s_law_rank f fd) (hmg : mg "_law_rank" = some (.ref f)) (b_len : mg "len" = none) : DefOk P w K mg base "_law_rank" 1 ["_law_remark_here"] _root_.K.m_law_rank :=
  ⟨f, fd, fo_law_rank F b_len, F.binds (ps := ["_law_remark_here"]) fun _ _ _ _ _ _ us hl => match us, hl with | [_], _ => rfl, F.kp, hmg⟩
noncomputable abbrev s_law_shown : Stmt := top 19
theorem sc_law_shown : FnScope ["_law_remark_here", "_law_least", "_law_word", "_law_rank_here", "_law_text"] ["_law_remark_here", "_law_least"] (defScope s_law_shown) := ⟨rfl, rfl, rfl, by decide +kernel, rfl, by decide +kernel, by decide +kernel⟩
theorem fo_law_shown (F : Fun K "_law_shown" "_law_shown" s_law_shown f fd) {nn : Nat} (d_law_rank : DefOk P w K mg base "_law_rank" 1 ["_law_remark_here"] (_root_.K.m_law_rank)) (d_law_shown : DefOk P w K mg base "_law_shown" (1 + nn) ["_law_remark_here", "_law_least"] (_root_.K.m_law_shown nn)) (d_law_sum_text : DefOk P w K mg base "_law_sum_text" 1 ["_law_one"] (_root_.K.m_law_sum_text)) (b_int : mg "int" = none) (b_len : mg "len" = none) (b_str : mg "str" = none) : FnOk P w K mg base CX0 (1 + nn + 1) f fd ["_law_remark_here", "_law_least"] (spF K (["_law_remark_here", "_law_least"] : List Str).length (_root_.K.m_law_shown (nn + 1))) := by
  have d_law_rank := d_law_rank.mono (show 1 ≤ (1 + nn) by first | decide | omega)
  have d_law_shown := d_law_shown.mono (show (1 + nn) ≤ (1 + nn) by first | decide | omega)
  have d_law_sum_text := d_law_sum_text.mono (show 1 ≤ (1 + nn) by first | decide | omega)
  refine fn_tree (N := ["_law_remark_here", "_law_least", "_law_word", "_law_rank_here", "_law_text"]) F sc_law_shown (by decide)  fun cdv A outer s H E B hr => ?_
  have hu := hu_of hr
  have hq := hr.units
  have nd : (["_law_remark_here", "_law_least", "_law_word", "_law_rank_here", "_law_text"] : List Str).Nodup := sc_law_shown.nd
  refine ts_cons ?_ ?_
  · exact ts_set 2 (ps_set nd rfl (Or.inl rfl) (te_ix hu (te_var 0 (pv 0)) te_int (fun _ _ => rfl))) (fun _ _ _ h => h)
  · refine ts_cons ?_ ?_
    · refine ts_if ?_ ?_ ?_
      · exact tc_cmp (opT_eq hq) (te_var 2 (pv 2)) te_str (nomark _)
      · refine ts_one ?_
        · refine ts_ret ?_
          · refine te_op ?_ ?_ ?_
            · exact opT_add
            · exact te_op opT_add (te_callD d_law_sum_text hr (by rfl) (ta_cons (te_tup (ta_cons te_int (ta_cons (te_ix hu (te_ix hu (te_var 0 (pv 0)) te_int (fun _ _ => rfl)) te_int (fun _ _ => rfl)) ta_nil)) (le1000 (len_cons (len_cons len_nil)) (by decide))) ta_nil) (eq_cons eq_nil)) te_str
            · exact te_str1 (by rfl) b_str (te_op opT_sub te_int (te_ix hu (te_ix hu (te_var 0 (pv 0)) te_int (fun _ _ => rfl)) te_int (fun _ _ => rfl)))
      · exact ts_nil
    · refine ts_cons ?_ ?_
      · refine ts_if ?_ ?_ ?_
        · exact tc_cmp (opT_eq hq) (te_var 2 (pv 2)) te_str (nomark _)
        · exact ts_one (ts_ret (te_op opT_add (te_op opT_add (te_str1 (by rfl) b_str (te_ix hu (te_var 0 (pv 0)) te_int (fun _ _ => rfl))) te_str) (te_callD d_law_sum_text hr (by rfl) (ta_cons (te_ix hu (te_var 0 (pv 0)) te_int (fun _ _ => rfl)) ta_nil) (eq_cons eq_nil))))
        · exact ts_nil
      · refine ts_cons ?_ ?_
        · exact ts_if (tc_cmp (opT_eq hq) (te_var 2 (pv 2)) te_str (nomark _))   (ts_one (ts_ret (te_op opT_add (te_op opT_add (te_op opT_add te_str (te_ix hu (te_var 0 (pv 0)) te_int (fun _ _ => rfl))) te_str) (te_str1 (by rfl) b_str (te_ix hu (te_var 0 (pv 0)) te_int (fun _ _ => rfl))))))   ts_nil
        · refine ts_cons ?_ ?_
          · exact ts_if (tc_cmp (opT_eq hq) (te_var 2 (pv 2)) te_str (nomark _))   (ts_one (ts_ret (te_op opT_add te_str (te_callD d_law_shown hr (by rfl) (ta_cons (te_ix hu (te_var 0 (pv 0)) te_int (fun _ _ => rfl)) (ta_cons te_int ta_nil)) (eq_cons (eq_cons eq_nil))))))   ts_nil
          · refine ts_cons ?_ ?_
            · refine ts_if ?_ ?_ ?_
              · exact tc_cmp (opT_eq hq) (te_of_cb (pe_callB callT_len (by rfl) b_len PySem.boot_len (ta_cons (te_ix hu (te_var 0 (pv 0)) te_int (fun _ _ => rfl)) ta_nil))) te_int (nomark _)
              · exact ts_one (ts_ret (te_ix hu (te_lst (ta_cons te_str (ta_cons te_str ta_nil)) (le1000 (len_cons (len_cons len_nil)) (by decide))) (te_of_cb (pe_callTy callT_int (by rfl) b_int PyProof.Rows.boot_int (ta_cons (te_cmp (opT_eq hq) (te_var 2 (pv 2)) te_str (nomark _)) ta_nil))) (fun _ _ => rfl)))
              · exact ts_nil
            · refine ts_cons ?_ ?_
              · exact ts_set 3 (ps_set nd rfl (Or.inr rfl) (te_callD d_law_rank hr (by rfl) (ta_cons (te_var 0 (pv 0)) ta_nil) (eq_cons eq_nil))) (fun _ _ _ h => h)
              · refine ts_cons ?_ ?_
                · refine @ts_set _ _ _ _ (tOf _ _ _) _ ?_ (fun _ _ _ h => h)
                  · refine ps_set ?_ ?_ ?_ ?_
                    · exact nd
                    · exact rfl
                    · exact Or.inl rfl
                    · refine te_join ?_ ?_
                      · exact te_op opT_add (te_op opT_add te_str (te_var 2 (pv 2))) te_str
                      · refine te_fresh ?_
                        · refine tf_comp (N := ["_law_one", "_law_rank_here"]) ?_ ?_ ?_ ?_ ?_ ?_ ?_ ?_
                          · exact ⟨rfl, fun j k h => match j, h with | 0, h => (by cases h; exact ⟨_, rfl, rfl, ⟨.inl rfl, .inr (.inl rfl), .inl rfl⟩⟩) | _ + 1, h => (by cases h)⟩
                          · exact ⟨rfl, rfl, by decide +kernel, by decide +kernel⟩
                          · exact rfl
                          · exact ti_seq (te_ix hu (te_var 0 (pv 0)) te_int (fun _ _ => rfl))
                          · exact sz_seq
                          · exact fun C s₀ H₀ ex pn => pgE fun B => (tg_name 0 (pg_name (show (["_law_one", "_law_rank_here"] : List Str).Nodup by decide +kernel) rfl (Or.inl rfl)))
                          · exact fun C s₀ H₀ ex pn => ptsE_nil
                          · exact fun C s₀ H₀ ex pn => peE fun B => (te_callD d_law_shown hr (by rfl) (ta_cons (te_var 0 (pv 0)) (ta_cons (te_op opT_add (te_var 1 (pv 1)) te_int) ta_nil)) (eq_cons (eq_cons eq_nil)))
                · exact ts_cons (ts_if (tc_cmp opT_lt (te_var 3 (pv 3)) (te_var 1 (pv 1)) (nomark _))   (ts_one (ts_ret (te_op opT_add (te_op opT_add te_str (te_var 4 (pv 4))) te_str)))   ts_nil)   (ts_one (ts_ret (te_var 4 (pv 4))))
theorem ok_law_shown (F : Fun K "_law_shown" "_law_shown" s_law_shown f fd) (hmg : mg "_law_shown" = some (.ref f)) {nn : Nat} (d_law_rank : DefOk P w K mg base "_law_rank" 1 ["_law_remark_here"] (_root_.K.m_law_rank)) (d_law_shown : DefOk P w K mg base "_law_shown" (1 + nn) ["_law_remark_here", "_law_least"] (_root_.K.m_law_shown nn)) (d_law_sum_text : DefOk P w K mg base "_law_sum_text" 1 ["_law_one"] (_root_.K.m_law_sum_text)) (b_int : mg "int" = none) (b_len : mg "len" = none) (b_str : mg "str" = none) : DefOk P w K mg base "_law_shown" (1 + nn + 1) ["_law_remark_here", "_law_least"] (_root_.K.m_law_shown (nn + 1)) :=
  ⟨f, fd, fo_law_shown F d_law_rank d_law_shown d_law_sum_text b_int b_len b_str, F.binds (ps := ["_law_remark_here", "_law_least"]) fun _ _ _ _ _ _ us hl => match us, hl with | [_, _], _ => rfl, F.kp, hmg⟩
theorem okg_law_shown {f_law_shown : Addr} {fd_law_shown : FuncData} (F_law_shown : Fun K "_law_shown" "_law_shown" s_law_shown f_law_shown fd_law_shown) (h_law_shown : mg "_law_shown" = some (.ref f_law_shown)) (d_law_rank : DefOk P w K mg base "_law_rank" 1 ["_law_remark_here"] _root_.K.m_law_rank) (d_law_sum_text : DefOk P w K mg base "_law_sum_text" 1 ["_law_one"] _root_.K.m_law_sum_text) (b_int : mg "int" = none) (b_len : mg "len" = none) (b_str : mg "str" = none) : ∀ nn : Nat, DefOk P w K mg base "_law_shown" (1 + nn) ["_law_remark_here", "_law_least"] (_root_.K.m_law_shown nn)
  | 0 => DefOk.zero F_law_shown h_law_shown (F_law_shown.binds (ps := ["_law_remark_here", "_law_least"]) fun _ _ _ _ _ _ us hl => match us, hl with | [_, _], _ => rfl)
  | nn + 1 => by
    have ih := okg_law_shown F_law_shown h_law_shown d_law_rank d_law_sum_text b_int b_len b_str nn
    have d_law_shown := ih
    exact ok_law_shown F_law_shown h_law_shown d_law_rank d_law_shown d_law_sum_text b_int b_len b_str
noncomputable abbrev s_law : Stmt := top 20
theorem sc_law : FnScope ["_law_script", "_law_head", "_law_names", "_law_hands", "_law_free", "_law_cell", "_law_remark_here", "_law_found"] ["_law_script"] (defScope s_law) := ⟨rfl, rfl, rfl, by decide +kernel, rfl, by decide +kernel, by decide +kernel⟩
theorem fo_law (F : Fun K "law" "law" s_law f fd) (d_law_cell_at : DefOk P w K mg base "_law_cell_at" 1 ["_law_script", "_law_k"] (_root_.K.m_law_cell_at)) (d_law_name : DefOk P w K mg base "_law_name" 1 ["_law_head", "_law_k"] (_root_.K.m_law_name)) (d_law_remark : DefOk P w K mg base "_law_remark" 43 ["_law_state_here", "_law_names", "_law_hands", "_law_deep"] (_root_.K.m_law_remark 40)) (d_law_shown : DefOk P w K mg base "_law_shown" 41 ["_law_remark_here", "_law_least"] (_root_.K.m_law_shown 40)) (d_law_state : DefOk P w K mg base "_law_state" 1 ["_law_cell", "_law_free"] (_root_.K.m_law_state)) (d_show_remark : DefOk P w K mg base "show_remark" 43 ["remark"] (_root_.K.m_show_remark 40)) (b_isinstance : mg "isinstance" = none) (b_range : mg "range" = none) (b_str : mg "str" = none) : FnOk P w K mg base CX0 44 f fd ["_law_script"] (spF K (["_law_script"] : List Str).length _root_.K.m_law) := by
  have d_law_cell_at := d_law_cell_at.mono (show 1 ≤ 43 by first | decide | omega)
  have d_law_name := d_law_name.mono (show 1 ≤ 43 by first | decide | omega)
  have d_law_remark := d_law_remark.mono (show 43 ≤ 43 by first | decide | omega)
  have d_law_shown := d_law_shown.mono (show 41 ≤ 43 by first | decide | omega)
  have d_law_state := d_law_state.mono (show 1 ≤ 43 by first | decide | omega)
  have d_show_remark := d_show_remark.mono (show 43 ≤ 43 by first | decide | omega)
  refine fn_tree (N := ["_law_script", "_law_head", "_law_names", "_law_hands", "_law_free", "_law_cell", "_law_remark_here", "_law_found"]) F sc_law (by decide)  fun cdv A outer s H E B hr => ?_
  have hu := hu_of hr
  have hq := hr.units
  have nd : (["_law_script", "_law_head", "_law_names", "_law_hands", "_law_free", "_law_cell", "_law_remark_here", "_law_found"] : List Str).Nodup := sc_law.nd
  refine ts_cons ?_ ?_
  · exact ts_set 1 (ps_set nd rfl (Or.inr rfl) (te_callD d_law_cell_at hr (by rfl) (ta_cons (te_var 0 (pv 0)) (ta_cons te_int ta_nil)) (eq_cons (eq_cons eq_nil)))) (fun _ _ _ h => h)
  · refine ts_cons ?_ ?_
    · exact ts_set 2 (ps_comp (N := ["_law_k", "_law_head"]) ⟨rfl, rfl, by decide +kernel, by decide +kernel⟩ rfl (ti_range (by rfl) b_range te_int) (fun C s₀ H₀ ex pn => pgE fun B => (tg_name 0 (pg_name (show (["_law_k", "_law_head"] : List Str).Nodup by decide +kernel) rfl (Or.inl rfl)))) (fun C s₀ H₀ ex pn => ptsE_nil) (fun C s₀ H₀ ex pn => peE fun B => (te_callD d_law_name hr (by rfl) (ta_cons (te_var 1 (pv 1)) (ta_cons (te_var 0 (pv 0)) ta_nil)) (eq_cons (eq_cons eq_nil)))) (pg_name nd rfl (Or.inl rfl)) rfl) (fun σ H Q h => comp_f ⟨rfl, fun j k h => match j, h with | 0, h => (by cases h; exact ⟨_, rfl, rfl, ⟨.inl rfl, .inr (.inl rfl), .inl rfl⟩⟩) | _ + 1, h => (by cases h)⟩ sz_range (f_of_t h))
    · refine ts_cons ?_ ?_
      · exact ts_set 3 (ps_comp (N := ["_law_k", "_law_head"]) ⟨rfl, rfl, by decide +kernel, by decide +kernel⟩ rfl (ti_range (by rfl) b_range te_int) (fun C s₀ H₀ ex pn => pgE fun B => (tg_name 0 (pg_name (show (["_law_k", "_law_head"] : List Str).Nodup by decide +kernel) rfl (Or.inl rfl)))) (fun C s₀ H₀ ex pn => ptsE_nil) (fun C s₀ H₀ ex pn => peE fun B => (te_callD d_law_name hr (by rfl) (ta_cons (te_var 1 (pv 1)) (ta_cons (te_op opT_add (te_var 0 (pv 0)) te_int) ta_nil)) (eq_cons (eq_cons eq_nil)))) (pg_name nd rfl (Or.inl rfl)) rfl) (fun σ H Q h => comp_f ⟨rfl, fun j k h => match j, h with | 0, h => (by cases h; exact ⟨_, rfl, rfl, ⟨.inl rfl, .inr (.inl rfl), .inl rfl⟩⟩) | _ + 1, h => (by cases h)⟩ sz_range (f_of_t h))
      · refine ts_cons ?_ ?_
        · exact ts_set 4 (ps_set nd rfl (Or.inl rfl) (te_cmp (opT_eq hq) (te_op opT_mod (te_callD d_law_cell_at hr (by rfl) (ta_cons (te_var 0 (pv 0)) (ta_cons te_int ta_nil)) (eq_cons (eq_cons eq_nil))) te_int) te_int (nomark _))) (fun _ _ _ h => h)
        · refine ts_cons ?_ ?_
          · refine ts_for ?_ ?_ ?_ ?_ ?_ ?_
            · exact PassesOwn.never
            · exact rfl
            · exact ti_seq (te_op opT_add (te_lst (ta_cons (te_callD d_law_cell_at hr (by rfl) (ta_cons (te_var 0 (pv 0)) (ta_cons te_int ta_nil)) (eq_cons (eq_cons eq_nil))) ta_nil) (le1000 (len_cons len_nil) (by decide))) (te_slice (te_var 0 (pv 0)) (to_some te_int) to_none))
            · exact tg_name 5 (pg_name nd rfl (Or.inl rfl))
            · refine ts_cons ?_ ?_
              · refine @ts_set _ _ _ _ (tOf _ _ _) _ ?_ (fun _ _ _ h => h)
                · refine ps_set ?_ ?_ ?_ ?_
                  · exact nd
                  · exact rfl
                  · exact Or.inl rfl
                  · exact te_callD d_law_remark hr (by rfl) (ta_cons (te_callD d_law_state hr (by rfl) (ta_cons (te_var 5 (pv 5)) (ta_cons (te_var 4 (pv 4)) ta_nil)) (eq_cons (eq_cons eq_nil))) (ta_cons (te_var 2 (pv 2)) (ta_cons (te_var 3 (pv 3)) (ta_cons te_int ta_nil)))) (eq_cons (eq_cons (eq_cons (eq_cons eq_nil))))
              · refine ts_cons ?_ ?_
                · exact ts_set 7 (ps_set nd rfl (Or.inl rfl) (te_callD d_show_remark hr (by rfl) (ta_cons (te_var 6 (pv 6)) ta_nil) (eq_cons eq_nil))) (fun _ _ _ h => h)
                · refine ts_one ?_
                  · refine ts_if ?_ ?_ ?_
                    · exact PW.pt (tc_or (tc_not (tc_val (te_isi_str (by rfl) b_isinstance (by rfl) b_str (te_var 7 (pv 7))))) (tc_or1 (tc_cmp (opT_ne hq) (te_var 7 (pv 7)) (te_callD d_law_shown hr (by rfl) (ta_cons (te_var 6 (pv 6)) (ta_cons te_int ta_nil)) (eq_cons (eq_cons eq_nil))) (nomark _))))
                    · exact ts_one (ts_ret te_bl)
                    · exact ts_nil
            · exact sz_seq
          · exact ts_one (ts_ret te_bl)
end
end D
end
noncomputable section
set_option linter.all false
set_option maxRecDepth 100000
set_option autoImplicit false
namespace C
open PySem
theorem compL_map {α : Type} {h f : α → T} {g : G} {c : M Bool} {e : M T} {nv : Nat} {cap : List Slot} {sto : List SO} (hcap : cap.map thaw = cap) :
    ∀ (l : List α) (acc : List T) (pre : List Slot), pre.length = nv → acc.length + l.length ≤ lim →
      (∀ a ∈ l, ∀ pre : List Slot, pre.length = nv → ∃ pre', pre'.length = nv ∧ g (h a) ⟨pre ++ cap, sto⟩ = some ⟨pre' ++ cap, sto⟩ ∧ c ⟨pre' ++ cap, sto⟩ = some (true, ⟨pre' ++ cap, sto⟩) ∧ e ⟨pre' ++ cap, sto⟩ = some (f a, ⟨pre' ++ cap, sto⟩)) →
      ∃ s', compL g c e (l.map h) ⟨pre ++ cap, sto⟩ acc = some (acc ++ l.map f, s') ∧ s'.sto = sto
  | [], acc, pre, hp, hl, H => ⟨⟨pre ++ cap, sto⟩, by simp [compL], rfl⟩
  | a :: l, acc, pre, hp, hl, H => by
    obtain ⟨pre', p1, p2, p3, p4⟩ := H a List.mem_cons_self pre hp
    have hlen : acc.length < lim := by simp at hl ⊢; omega
    obtain ⟨s', q1, q2⟩ := compL_map hcap l (acc ++ [f a]) (pre'.map thaw) (by simpa using p1) (by simp at hl ⊢; omega) fun b hb => H b (List.mem_cons_of_mem _ hb)
    refine ⟨s', ?_, q2⟩
    rw [List.map_cons, compL, p2]
    dsimp only
    rw [p3]
    dsimp only
    rw [p4]
    dsimp only
    rw [if_pos hlen, freezeAll]
    dsimp only
    rw [List.map_append, hcap, q1]
    simp
theorem mComp_map {α : Type} (h f : α → T) (l : List α) {g : G} {c : M Bool} {e : M T} {nv : Nat} {ci : List Nat} {it : M (List T)} {s s1 : Sta} (env : List Slot) (cap : List Slot) (hit : it s = some (l.map h, s1)) (henv : freezeAt ci s1.env = env) (hci : ci.map (fun i => (env[i]?).getD none) = cap) (hcap : cap.map thaw = cap) (hl : l.length ≤ lim)
    (H : ∀ a ∈ l, ∀ pre : List Slot, pre.length = nv → ∃ pre', pre'.length = nv ∧ g (h a) ⟨pre ++ cap, s1.sto⟩ = some ⟨pre' ++ cap, s1.sto⟩ ∧ c ⟨pre' ++ cap, s1.sto⟩ = some (true, ⟨pre' ++ cap, s1.sto⟩) ∧ e ⟨pre' ++ cap, s1.sto⟩ = some (f a, ⟨pre' ++ cap, s1.sto⟩)) :
    mComp nv ci g it c e s = some (.lst (l.map f), ⟨env, s1.sto⟩) := by
  obtain ⟨s', q1, q2⟩ := compL_map hcap l [] (List.replicate nv none) (by simp) (by simpa using hl) H
  unfold mComp
  rw [hit]
  dsimp only
  rw [henv, hci, q1]
  dsimp only
  rw [q2]; rfl
noncomputable def okS (x : Str) : Prop := PyData.canLay0 (.str x) = true
theorem dat_str {x : Str} (h : okS x) : dat (.str x) = some (.str x) := by
  unfold okS at h
  simp [dat, h]
theorem neO_str {a b : Str} (ha : okS a) (hb : okS b) : neO (.str a) (.str b) = some (.bl (!(a == b))) := by
  simp [neO, eqT, eqD, dat_str ha, dat_str hb, PyData.depth, PyData.eqv]
noncomputable def Pl (n : Nat) (t : T) : Prop := ∃ d, dat t = some d ∧ d.depth ≤ n
theorem pl_int (n : Nat) (i : Int) : Pl n (.int i) := ⟨.int i, by simp [dat], by simp [PyData.depth]⟩
theorem pl_str (n : Nat) {x : Str} (h : okS x) : Pl n (.str x) := ⟨.str x, dat_str h, by simp [PyData.depth]⟩
theorem pls {n : Nat} : ∀ ts : List T, (∀ t ∈ ts, Pl n t) → ∃ ds, dats ts = some ds ∧ PyData.depthAll ds ≤ n
  | [], _ => ⟨[], by simp [dats], by simp [PyData.depthAll]⟩
  | t :: r, h => by
    obtain ⟨d, d1, d2⟩ := h t List.mem_cons_self
    obtain ⟨ds, e1, e2⟩ := pls r fun x hx => h x (List.mem_cons_of_mem _ hx)
    exact ⟨d :: ds, by simp [dats, d1, e1], by simp only [PyData.depthAll]; omega⟩
theorem pl_tup {n : Nat} {ts : List T} (h : ∀ t ∈ ts, Pl n t) : Pl (n + 1) (.tup ts) := by
  obtain ⟨ds, e1, e2⟩ := pls ts h
  exact ⟨.tuple ds, by simp [dat, e1], by simp only [PyData.depth]; omega⟩
end C
namespace C
open PySem
theorem forL_go {g : G} {b : S} (P : List T → Sta → Prop) (H : ∀ t r s, P (t :: r) s → ∃ s1 s2, g t s = some s1 ∧ b s1 = some (.next, s2) ∧ P r s2) : ∀ (ts : List T) (s : Sta), P ts s → ∃ s', forL g b ts s = some (.next, s') ∧ P [] s'
  | [], s, h => ⟨s, by simp [forL], h⟩
  | t :: r, s, h => by
    obtain ⟨s1, s2, h1, h2, h3⟩ := H t r s h
    obtain ⟨s', e, p⟩ := forL_go P H r s2 h3
    refine ⟨s', ?_, p⟩
    rw [forL]; dsimp only; rw [h1]; dsimp only; rw [h2]; dsimp only; exact e
theorem forL_at {g : G} {b : S} {ts : List T} {s : Sta} {r : Option (Flow × Sta)} (hF : forL g b ts s = r) (P : List T → Sta → Prop) (hP : P ts s) (H : ∀ t r s, P (t :: r) s → ∃ s1 s2, g t s = some s1 ∧ b s1 = some (.next, s2) ∧ P r s2) : ∃ s', r = some (.next, s') ∧ P [] s' := by
  obtain ⟨s', e, p⟩ := forL_go P H ts s hP
  exact ⟨s', hF.symm.trans e, p⟩
end C
namespace C
open PySem
theorem itemT_lst {α : Type} (h : α → T) (l : List α) {i : Int} (h0 : 0 ≤ i) (h1 : i < l.length) : ∃ a ∈ l, itemT (.lst (l.map h)) (.int i) = some (h a) := by
  have hi : i.toNat < l.length := by omega
  refine ⟨l[i.toNat], List.getElem_mem hi, ?_⟩
  simp [itemT, ixI, h0, h1, List.getElem?_eq_getElem hi]
end C
end
noncomputable section
set_option linter.all false
set_option maxRecDepth 100000
set_option autoImplicit false
namespace C
open PySem
theorem eqO_int {a b : Int} : eqO (.int a) (.int b) = some (.bl (a == b)) := by simp [eqO, eqT, eqD, dat, PyData.depth, PyData.eqv]
theorem neO_int {a b : Int} : neO (.int a) (.int b) = some (.bl (!(a == b))) := by simp [neO, eqT, eqD, dat, PyData.depth, PyData.eqv]
theorem eqO_str {a b : Str} (ha : okS a) (hb : okS b) : eqO (.str a) (.str b) = some (.bl (a == b)) := by
  simp [eqO, eqT, eqD, dat_str ha, dat_str hb, PyData.depth, PyData.eqv]
theorem itemU_n {xs : List T} {k : Nat} {t : T} (h : xs[k]? = some t) : itemT (.tup xs) (.int (k : Int)) = some t := by
  have hk : k < xs.length := (List.getElem?_eq_some_iff.mp h).1
  have h1 : (k : Int) < (xs.length : Int) := by omega
  simp [itemT, ixI, h1, h]
theorem item0t {a : T} {r : List T} : itemT (.tup (a :: r)) (.int 0) = some a := itemU_n (k := 0) rfl
theorem item1t {a b : T} {r : List T} : itemT (.tup (a :: b :: r)) (.int 1) = some b := itemU_n (k := 1) rfl
theorem item2t {a b c : T} {r : List T} : itemT (.tup (a :: b :: c :: r)) (.int 2) = some c := itemU_n (k := 2) rfl
theorem hTup2 {i j : Nat} {x y : T} {s : Sta} : hTup [i, j] (.tup [x, y]) s = some (putSlot j y false (putSlot i x false s)) := by simp [hTup]
theorem seq_step {a b : S} {s s' : Sta} (h : a s = some (.next, s')) : sSeq a b s = b s' := by unfold sSeq; rw [h]
noncomputable def Out (r : Option (T × List SO)) (P : T → List SO → Prop) : Prop := ∃ t s, r = some (t, s) ∧ P t s
theorem Out.of {t : T} {s : List SO} {P : T → List SO → Prop} (h : P t s) : Out (some (t, s)) P := ⟨t, s, rfl, h⟩
end C
end
noncomputable section
set_option linter.all false
set_option maxRecDepth 100000
set_option autoImplicit false
namespace K
open C PySem
noncomputable abbrev scr (cs : List Int) : T := .lst (cs.map .int)
noncomputable def cell (cs : List Int) (k : Nat) : Int := cs.getD k 0
theorem cell_at {cs : List Int} {k : Nat} {sto : List SO} : m_law_cell_at [scr cs, .int (k : Int)] sto = some (.int (cell cs k), sto) := by
  by_cases h : k < cs.length
  · have h1 : ((k : Int) < (cs.length : Int)) := by omega
    have h2 : cs[k]? = some cs[k] := List.getElem?_eq_getElem h
    simp [runFn, sSeq, sIf, sSet, sNew, sRet, sNil, sNx, sRetOwn, sGo, sReverse, sFor, sAppend, sExtend, lstAt, mTest, mNot, mAnd, mOr, mBool, mIf, mOp, mUn, mVar, mMap, mCons, mNil, mPure, mStrs, mCall, putSlot, hName, hTup, iRange, iSeq, ltT, leT, lenT, addT, subT, modT, fdivT, negT, absT, seqOf, mTrue, freezeAt, thaw, m_law_cell_at, itemT, ixI, h1, h2, cell, List.getD]
  · have h1 : ¬ ((k : Int) < (cs.length : Int)) := by omega
    have h2 : cs[k]? = none := List.getElem?_eq_none_iff.mpr (by omega)
    simp [runFn, sSeq, sIf, sSet, sNew, sRet, sNil, sNx, sRetOwn, sGo, sReverse, sFor, sAppend, sExtend, lstAt, mTest, mNot, mAnd, mOr, mBool, mIf, mOp, mUn, mVar, mMap, mCons, mNil, mPure, mStrs, mCall, putSlot, hName, hTup, iRange, iSeq, ltT, leT, lenT, addT, subT, modT, fdivT, negT, absT, seqOf, mTrue, freezeAt, thaw, m_law_cell_at, itemT, ixI, h1, h2, cell, List.getD]
theorem cell_n {cs : List Int} {k : Nat} {i : Int} {sto : List SO} (h : i = (k : Int)) : m_law_cell_at [scr cs, .int i] sto = some (.int (cell cs k), sto) := by
  rw [h]; exact cell_at
noncomputable def std (a : Int) (f : Bool) : SO := .dic [(.inr "left", .int a), (.inr "free", .bl f)]
noncomputable def StO (sto : List SO) : Prop := ∀ so ∈ sto, ∃ a f, so = std a f
theorem StO.set {sto : List SO} (h : StO sto) (n : Nat) (a : Int) (f : Bool) : StO (sto.set n (std a f)) := fun x hx => by
  rcases List.mem_or_eq_of_mem_set hx with z | z
  · exact h x z
  · subst z; exact ⟨_, _, rfl⟩
theorem StO.add {sto : List SO} (h : StO sto) (a : Int) (f : Bool) : StO (sto ++ [std a f]) := fun x hx => by
  rcases List.mem_append.mp hx with z | z
  · exact h x z
  · exact ⟨a, f, by simpa using z⟩
theorem nlf : ¬ ((.inr "left" : Key) = .inr "free") := by decide
theorem g_left {a f : T} : dGet (.inr "left") [(.inr "left", a), (.inr "free", f)] = some a := by simp [dGet]
theorem g_free {a f : T} : dGet (.inr "free") [(.inr "left", a), (.inr "free", f)] = some f := by
  rw [dGet, if_neg nlf, dGet, if_pos rfl]
theorem p_left {a f x : T} : dPut (.inr "left") x [(.inr "left", a), (.inr "free", f)] = [(.inr "left", x), (.inr "free", f)] := by
  have : ¬ ((.inr "free" : Key) = .inr "left") := by decide
  unfold dPut
  rw [if_pos (by simp)]
  simp only [List.map_cons, List.map_nil]
  rw [if_pos trivial, if_neg this]
theorem fdl_of {j : Int} (h0 : 0 ≤ j) (h1 : j < 1000000000000000000000000000000000000000) : j.natAbs < fdl := Nat.lt_trans (show j.natAbs < 1000000000000000000000000000000000000000 by omega) (by decide)
theorem take {n : Nat} {many : Int} {sto : List SO} (hn : n < sto.length) (hs : StO sto) (hm : 0 < many) (hb : many < 1000000000000000000000000000000000000000) :
    ∃ (r : Int) (sto' : List SO), m_law_take [.obj n, .int many] sto = some (.int r, sto') ∧ 0 ≤ r ∧ r < many ∧ StO sto' ∧ sto'.length = sto.length := by
  have hf := fdl_of (j := many) (by omega) hb
  have lt : ∀ x : Int, 0 ≤ x % many ∧ x % many < many := fun x => ⟨Int.emod_nonneg _ (by omega), Int.emod_lt_of_pos _ hm⟩
  have e := List.getElem?_eq_getElem hn
  obtain ⟨a, f, h⟩ := hs _ (List.getElem_mem hn)
  rw [h] at e
  have b1 : bnd64 48271 = true := by decide
  have b2 : bnd64 16807 = true := by decide
  have l2 : 2 < lim := by decide
  cases f with
  | true =>
    refine ⟨a % many, sto.set n (std (a / many) true), ?_, (lt _).1, (lt _).2, hs.set n _ _, List.length_set⟩
    unfold std at e
    simp [runFn, sSeq, sIf, sSet, sNew, sRet, sNil, sNx, sRetOwn, sGo, sReverse, sFor, sAppend, sExtend, lstAt, mTest, mNot, mAnd, mOr, mBool, mIf, mOp, mUn, mVar, mMap, mCons, mNil, mPure, mStrs, mCall, putSlot, hName, hTup, iRange, iSeq, ltT, leT, lenT, addT, subT, modT, fdivT, negT, absT, seqOf, mTrue, freezeAt, thaw, m_law_take, mObjItem, sObjPut, e, keyOf, g_left, g_free, p_left, hm, hf, std, l2]
  | false =>
    refine ⟨((a * 48271 % 2147483647) * 16807 % 2147483629 / 5) % many, sto.set n (std (a * 48271 % 2147483647) false), ?_, (lt _).1, (lt _).2, hs.set n _ _, List.length_set⟩
    unfold std at e
    simp [runFn, sSeq, sIf, sSet, sNew, sRet, sNil, sNx, sRetOwn, sGo, sReverse, sFor, sAppend, sExtend, lstAt, mTest, mNot, mAnd, mOr, mBool, mIf, mOp, mUn, mVar, mMap, mCons, mNil, mPure, mStrs, mCall, putSlot, hName, hTup, iRange, iSeq, ltT, leT, lenT, addT, subT, modT, fdivT, negT, absT, seqOf, mTrue, freezeAt, thaw, m_law_take, mObjItem, sObjPut, e, keyOf, g_left, g_free, p_left, hm, hf, std, l2, mulT, b1, b2, List.getElem?_set_self hn]
noncomputable def rep1 (c : Nat) (n : Nat) : Str := ⟨((List.replicate n [c]).flatten).toArray⟩
noncomputable def okN (x : Str) : Prop := okS x ∧ x.length < 40 ∧ 0 < x.length
noncomputable def ltr (i : Nat) : Nat := ("bcdfghjkmn" : Str).cps.toList.getD i 0
noncomputable def fil (i : Nat) : Nat := ("qx7" : Str).cps.toList.getD i 0
theorem mul_1 {c : Nat} {j : Int} (h0 : 0 ≤ j) (h1 : j ≤ 1000) : mulT (.str ⟨#[c]⟩) (.int j) = some (.str (rep1 c j.toNat)) := by
  have hl : Str.length (⟨#[c]⟩ : Str) ≤ 100 := by simp [Str.length]
  simp only [mulT]
  rw [if_pos ⟨h0, h1, hl⟩]; rfl
theorem q1 : ("q" : Str) = ⟨#[113]⟩ := by decide +kernel
theorem item_l {i : Nat} (h : i < 10) : itemT (.str "bcdfghjkmn") (.int (i : Int)) = some (.str ⟨#[ltr i]⟩) := by
  match i, h with
  | 0, _ => rfl
  | 1, _ => rfl
  | 2, _ => rfl
  | 3, _ => rfl
  | 4, _ => rfl
  | 5, _ => rfl
  | 6, _ => rfl
  | 7, _ => rfl
  | 8, _ => rfl
  | 9, _ => rfl
theorem item_f {i : Nat} (h : i < 3) : itemT (.str "qx7") (.int (i : Int)) = some (.str ⟨#[fil i]⟩) := by
  match i, h with
  | 0, _ => rfl
  | 1, _ => rfl
  | 2, _ => rfl
noncomputable def nm (p i f q : Nat) : Str := rep1 113 p ++ ⟨#[ltr i]⟩ ++ rep1 (fil f) q
noncomputable def okB (p i f q : Nat) : Bool := PyData.canLay0 (.str (nm p i f q)) && decide ((nm p i f q).length < 40) && decide (0 < (nm p i f q).length) && decide ((rep1 113 p).length + (⟨#[ltr i]⟩ : Str).length < 20) && decide ((rep1 113 p ++ ⟨#[ltr i]⟩).length + (rep1 (fil f) q).length < 40)
theorem nm_okB : ∀ p, p < 8 → ∀ i, i < 10 → ∀ f, f < 3 → ∀ q, q < 8 → okB p i f q = true := by decide +kernel
theorem nm_ok (p : Nat) (hp : p < 8) (i : Nat) (hi : i < 10) (f : Nat) (hf : f < 3) (q : Nat) (hq : q < 8) : okN (nm p i f q) ∧ (rep1 113 p).length + (⟨#[ltr i]⟩ : Str).length < 20 ∧ (rep1 113 p ++ ⟨#[ltr i]⟩).length + (rep1 (fil f) q).length < 40 := by
  have h := nm_okB p hp i hi f hf q hq
  simp only [okB, Bool.and_eq_true, decide_eq_true_eq] at h
  exact ⟨⟨h.1.1.1.1, h.1.1.1.2, h.1.1.2⟩, h.1.2, h.2⟩
theorem words {ws : List Str} (hw : ∀ x ∈ ws, okN x) {k : Int} (h : ws.length = 10) : ∃ x, itemT (.lst (ws.map .str)) (.int (k % 10)) = some (.str x) ∧ okN x := by
  obtain ⟨x, hx, e⟩ := itemT_lst T.str ws (i := k % 10) (by omega) (by omega)
  exact ⟨x, e, hw x hx⟩
theorem w1 : ∀ x ∈ (["b", "ab", "abc", "abcd", "a", "ba", "aab", "b1", "bab", "ab1"] : List Str), okN x := by
  unfold okN okS
  decide +kernel
theorem w2 : ∀ x ∈ (["order", "andes", "note", "iff", "atlas", "setup", "waiter", "handy", "boxes", "ends"] : List Str), okN x := by
  unfold okN okS
  decide +kernel
theorem w3 : ∀ x ∈ (["or1", "and2", "not3", "box4", "at5", "end6", "own7", "set8", "iff9", "says"] : List Str), okN x := by
  unfold okN okS
  decide +kernel
theorem name {c k : Int} {sto : List SO} : ∃ x : Str, m_law_name [.int c, .int k] sto = some (.str x, sto) ∧ okN x := by
  by_cases h1 : c / 147 % 4 = 1
  · obtain ⟨x, e, o⟩ := words w1 (k := k) rfl
    simp only [List.map_cons, List.map_nil] at e
    refine ⟨x, ?_, o⟩
    simp [runFn, sSeq, sIf, sSet, sNew, sRet, sNil, sNx, sRetOwn, sGo, sReverse, sFor, sAppend, sExtend, lstAt, mTest, mNot, mAnd, mOr, mBool, mIf, mOp, mUn, mVar, mMap, mCons, mNil, mPure, mStrs, mCall, putSlot, hName, hTup, iRange, iSeq, ltT, leT, lenT, addT, subT, modT, fdivT, negT, absT, seqOf, mTrue, freezeAt, thaw, m_law_name, eqO_int, h1, e]
  by_cases h2 : c / 147 % 4 = 2
  · obtain ⟨x, e, o⟩ := words w2 (k := k) rfl
    simp only [List.map_cons, List.map_nil] at e
    refine ⟨x, ?_, o⟩
    simp [runFn, sSeq, sIf, sSet, sNew, sRet, sNil, sNx, sRetOwn, sGo, sReverse, sFor, sAppend, sExtend, lstAt, mTest, mNot, mAnd, mOr, mBool, mIf, mOp, mUn, mVar, mMap, mCons, mNil, mPure, mStrs, mCall, putSlot, hName, hTup, iRange, iSeq, ltT, leT, lenT, addT, subT, modT, fdivT, negT, absT, seqOf, mTrue, freezeAt, thaw, m_law_name, eqO_int, h2, e]
  by_cases h3 : c / 147 % 4 = 3
  · obtain ⟨x, e, o⟩ := words w3 (k := k) rfl
    simp only [List.map_cons, List.map_nil] at e
    refine ⟨x, ?_, o⟩
    simp [runFn, sSeq, sIf, sSet, sNew, sRet, sNil, sNx, sRetOwn, sGo, sReverse, sFor, sAppend, sExtend, lstAt, mTest, mNot, mAnd, mOr, mBool, mIf, mOp, mUn, mVar, mMap, mCons, mNil, mPure, mStrs, mCall, putSlot, hName, hTup, iRange, iSeq, ltT, leT, lenT, addT, subT, modT, fdivT, negT, absT, seqOf, mTrue, freezeAt, thaw, m_law_name, eqO_int, h3, e]
  obtain ⟨z, hz, ez⟩ : ∃ z : Nat, z < 7 ∧ c % 7 = (z : Int) := ⟨(c % 7).toNat, by omega, by omega⟩
  have hs : (0 : Int) < 2 + (z : Int) - 1 := by omega
  have p0 := Int.emod_nonneg (c / 7) (show (2 + (z : Int) - 1) ≠ 0 by omega)
  have p1 := Int.emod_lt_of_pos (c / 7) hs
  obtain ⟨p, ep⟩ : ∃ p : Nat, c / 7 % (2 + (z : Int) - 1) = (p : Int) := ⟨(c / 7 % (2 + (z : Int) - 1)).toNat, by omega⟩
  have hp : p ≤ z := by omega
  obtain ⟨i, hi, ei⟩ : ∃ i : Nat, i < 10 ∧ k % 10 = (i : Int) := ⟨(k % 10).toNat, by omega, by omega⟩
  obtain ⟨f, hf, ef⟩ : ∃ f : Nat, f < 3 ∧ c / 49 % 3 = (f : Int) := ⟨(c / 49 % 3).toNat, by omega, by omega⟩
  obtain ⟨o1, o2, o3⟩ := nm_ok p (by omega) i hi f hf (z + 1 - p) (by omega)
  refine ⟨nm p i f (z + 1 - p), ?_, o1⟩
  have b1 : (c / 147 % 4 == 1) = false := beq_eq_false_iff_ne.mpr h1
  have b2 : (c / 147 % 4 == 2) = false := beq_eq_false_iff_ne.mpr h2
  have b3 : (c / 147 % 4 == 3) = false := beq_eq_false_iff_ne.mpr h3
  have m1 := mul_1 (c := 113) (j := (p : Int)) (by omega) (by omega)
  have m2 := mul_1 (c := fil f) (j := 2 + (z : Int) - 1 - (p : Int)) (by omega) (by omega)
  rw [Int.toNat_natCast, ← q1] at m1
  rw [show (2 + (z : Int) - 1 - (p : Int)).toNat = z + 1 - p by omega] at m2
  have l1 : (rep1 113 p).length + (⟨#[ltr i]⟩ : Str).length < lim := by show _ < 1000000; omega
  have l2 : (rep1 113 p ++ ⟨#[ltr i]⟩).length + (rep1 (fil f) (z + 1 - p)).length < lim := by show _ < 1000000; omega
  have hs' : (1 : Int) < 2 + (z : Int) := by omega
  simp [runFn, sSeq, sIf, sSet, sNew, sRet, sNil, sNx, sRetOwn, sGo, sReverse, sFor, sAppend, sExtend, lstAt, mTest, mNot, mAnd, mOr, mBool, mIf, mOp, mUn, mVar, mMap, mCons, mNil, mPure, mStrs, mCall, putSlot, hName, hTup, iRange, iSeq, ltT, leT, lenT, addT, subT, modT, fdivT, negT, absT, seqOf, mTrue, freezeAt, thaw, m_law_name, eqO_int, b1, b2, b3, ez, hs, hs', ep, m1, ei, item_l hi, ef, item_f hf, l1, m2, l2, nm]
end K
end
noncomputable section
set_option linter.all false
set_option maxRecDepth 100000
set_option autoImplicit false
namespace C
open PySem
theorem compL_draw {g : G} {e : M T} {nv : Nat} {cap : List Slot} (hcap : cap.map thaw = cap) (P : List T → List T → List SO → Prop)
    (H : ∀ t r acc sto, P (t :: r) acc sto → ∀ pre : List Slot, pre.length = nv → ∃ pre' u sto', pre'.length = nv ∧ g t ⟨pre ++ cap, sto⟩ = some ⟨pre' ++ cap, sto⟩ ∧ e ⟨pre' ++ cap, sto⟩ = some (u, ⟨pre' ++ cap, sto'⟩) ∧ P r (acc ++ [u]) sto') :
    ∀ (ts acc : List T) (pre : List Slot) (sto : List SO), pre.length = nv → acc.length + ts.length ≤ lim → P ts acc sto →
      ∃ us s', compL g mTrue e ts ⟨pre ++ cap, sto⟩ acc = some (us, s') ∧ P [] us s'.sto
  | [], acc, pre, sto, hp, hl, p => ⟨acc, ⟨pre ++ cap, sto⟩, by simp [compL], p⟩
  | t :: r, acc, pre, sto, hp, hl, p => by
    obtain ⟨pre', u, sto', p1, p2, p3, p4⟩ := H t r acc sto p pre hp
    have hlen : acc.length < lim := by simp only [List.length_cons] at hl; omega
    obtain ⟨us, s', q1, q2⟩ := compL_draw hcap P H r (acc ++ [u]) (pre'.map thaw) sto' (by simpa using p1) (by simp only [List.length_cons, List.length_append, List.length_nil] at hl ⊢; omega) p4
    refine ⟨us, s', ?_, q2⟩
    rw [compL, p2]
    dsimp only [mTrue]
    rw [p3]
    dsimp only
    rw [if_pos hlen, freezeAll]
    dsimp only
    rw [List.map_append, hcap, q1]
theorem mComp_draw {g : G} {e : M T} {nv : Nat} {ci : List Nat} {it : M (List T)} {s : Sta} {r : Option (T × Sta)} (hF : mComp nv ci g it mTrue e s = r) (ts : List T) (s1 : Sta) (env cap : List Slot) (P : List T → List T → List SO → Prop) (hit : it s = some (ts, s1)) (henv : freezeAt ci s1.env = env) (hci : ci.map (fun i => (env[i]?).getD none) = cap) (hcap : cap.map thaw = cap) (hl : ts.length ≤ lim) (p : P ts [] s1.sto)
    (H : ∀ t r acc sto, P (t :: r) acc sto → ∀ pre : List Slot, pre.length = nv → ∃ pre' u sto', pre'.length = nv ∧ g t ⟨pre ++ cap, sto⟩ = some ⟨pre' ++ cap, sto⟩ ∧ e ⟨pre' ++ cap, sto⟩ = some (u, ⟨pre' ++ cap, sto'⟩) ∧ P r (acc ++ [u]) sto') :
    ∃ us sto', r = some (.lst us, ⟨env, sto'⟩) ∧ P [] us sto' := by
  obtain ⟨us, s', q1, q2⟩ := compL_draw hcap P H ts [] (List.replicate nv none) s1.sto (by simp) (by simpa using hl) p
  refine ⟨us, s'.sto, ?_, q2⟩
  rw [← hF]
  unfold mComp
  rw [hit]
  dsimp only
  rw [henv, hci, q1]
end C
namespace K
open C PySem
theorem takeN {n : Nat} {many : Int} {sto : List SO} {L : Nat} (hn : n < L) (hL : sto.length = L) (hs : StO sto) (hm : 0 < many) (hb : many < 1000000000000000000000000000000000000000) :
    ∃ (r : Int) (sto' : List SO), m_law_take [.obj n, .int many] sto = some (.int r, sto') ∧ 0 ≤ r ∧ r < many ∧ StO sto' ∧ sto'.length = L := by
  obtain ⟨r, s1, p, a, b, o, l⟩ := take (n := n) (by omega) hs hm hb
  exact ⟨r, s1, p, a, b, o, by omega⟩
theorem number {n : Nat} {most : Int} {sto : List SO} {L : Nat} (hn : n < L) (hL : sto.length = L) (hs : StO sto) (hm : 5 ≤ most) :
    ∃ (r : Int) (sto' : List SO), m_law_number [.obj n, .int most] sto = some (.int r, sto') ∧ -most < r ∧ r < most ∧ StO sto' ∧ sto'.length = L := by
  obtain ⟨w, s1, p1, a1, b1, o1, l1⟩ := takeN (many := 4) hn hL hs (by decide) (by decide)
  by_cases h3 : w < 3
  · obtain ⟨r, s2, p2, a2, b2, o2, l2⟩ := takeN (many := 9) hn l1 o1 (by decide) (by decide)
    refine ⟨r - 4, s2, ?_, by omega, by omega, o2, l2⟩
    simp [runFn, sSeq, sIf, sSet, sNew, sRet, sNil, sNx, sRetOwn, sGo, sReverse, sFor, sAppend, sExtend, lstAt, mTest, mNot, mAnd, mOr, mBool, mIf, mOp, mUn, mVar, mMap, mCons, mNil, mPure, mStrs, mCall, putSlot, hName, hTup, iRange, iSeq, ltT, leT, lenT, addT, subT, modT, fdivT, negT, absT, seqOf, mTrue, freezeAt, thaw, m_law_number, p1, h3, p2]
  · have c8 : powT (.int 10) (.int 8) = some (.int 100000000) := by simp [powT]
    have b4 : bnd64 4 = true := by decide
    have b8 : bnd64 100000000 = true := by decide
    have b2 : bnd64 2 = true := by decide
    have r4 : rangeT 4 = [.int 0, .int 1, .int 2, .int 3] := rfl
    have l4 : 4 < lim := by decide
    unfold m_law_number
    simp [runFn, sSeq, sIf, sSet, sNew, sRet, sNil, sNx, sRetOwn, sGo, sReverse, sFor, sAppend, sExtend, lstAt, mTest, mNot, mAnd, mOr, mBool, mIf, mOp, mUn, mVar, mMap, mCons, mNil, mPure, mStrs, mCall, putSlot, hName, hTup, iRange, iSeq, ltT, leT, lenT, addT, subT, modT, fdivT, negT, absT, seqOf, mTrue, freezeAt, thaw, p1, h3, l4]
    generalize hF : forL _ _ _ _ = r
    obtain ⟨s', rfl, P⟩ := forL_at hF (fun ts s => ∃ (f : Int) (o : Slot) (st : List SO), s = ⟨[some (.obj n, false), some (.int most, false), some (.int w, false), some (.int f, false), o], st⟩ ∧ StO st ∧ st.length = L)
      ⟨0, none, s1, rfl, o1, l1⟩ (by
        rintro t r s ⟨f, o, st, rfl, e1, e2⟩
        obtain ⟨v, t1, q1, c1, d1, w1, m1⟩ := takeN (n := n) (many := 400000000) hn e2 e1 (by decide) (by decide)
        refine ⟨_, ⟨[some (.obj n, false), some (.int most, false), some (.int w, false), some (.int (f * 4 * 100000000 + v), false), some (t, false)], t1⟩, rfl, ?_, _, _, _, rfl, w1, m1⟩
        simp [runFn, sSeq, sIf, sSet, sNew, sRet, sNil, sNx, sRetOwn, sGo, sReverse, sFor, sAppend, sExtend, lstAt, mTest, mNot, mAnd, mOr, mBool, mIf, mOp, mUn, mVar, mMap, mCons, mNil, mPure, mStrs, mCall, putSlot, hName, hTup, iRange, iSeq, ltT, leT, lenT, addT, subT, modT, fdivT, negT, absT, seqOf, mTrue, freezeAt, thaw, c8, mulT, b4, b8, q1])
    obtain ⟨f, o, st, rfl, e1, e2⟩ := P
    have hp : 0 < 2 * most - 1 := by omega
    have hp' : 1 < 2 * most := by omega
    have m0 := Int.emod_nonneg f (show (2 * most - 1) ≠ 0 by omega)
    have m1 := Int.emod_lt_of_pos f hp
    refine ⟨f % (2 * most - 1) - most + 1, st, ?_, by omega, by omega, e1, e2⟩
    simp [runFn, sSeq, sIf, sSet, sNew, sRet, sNil, sNx, sRetOwn, sGo, sReverse, sFor, sAppend, sExtend, lstAt, mTest, mNot, mAnd, mOr, mBool, mIf, mOp, mUn, mVar, mMap, mCons, mNil, mPure, mStrs, mCall, putSlot, hName, hTup, iRange, iSeq, ltT, leT, lenT, addT, subT, modT, fdivT, negT, absT, seqOf, mTrue, freezeAt, thaw, mulT, b2, hp, hp']
noncomputable abbrev Sm := Int × List (Str × Int)
noncomputable def pT (p : Str × Int) : T := .tup [.str p.1, .int p.2]
noncomputable def smT (s : Sm) : T := .tup [.int s.1, .tup (s.2.map pT)]
noncomputable def okSm (N : List Str) (s : Sm) : Prop := (s.2.length ≤ N.length ∧ ∀ p ∈ s.2, p.1 ∈ N ∧ -1000000000 < p.2 ∧ p.2 < 1000000000) ∧ -1000000000 < s.1 ∧ s.1 < 1000000000
noncomputable def okNs (N : List Str) : Prop := N.length ≤ 6 ∧ ∀ x ∈ N, okN x
theorem mem_ins1 {x y : Str} : ∀ {l : List Str}, y ∈ ins1 x l → y = x ∨ y ∈ l
  | [], h => by simp [ins1] at h; exact .inl h
  | z :: l, h => by
    unfold ins1 at h
    split at h
    · rcases List.mem_cons.mp h with rfl | h -- here
      · exact .inl rfl
      · exact .inr h
    · rcases List.mem_cons.mp h with rfl | h -- here
      · exact .inr List.mem_cons_self
      · rcases mem_ins1 h with h | h
        · exact .inl h
        · exact .inr (List.mem_cons_of_mem _ h)
theorem len_ins1 {x : Str} : ∀ {l : List Str}, (ins1 x l).length = l.length + 1
  | [] => rfl
  | z :: l => by unfold ins1; split <;> simp [len_ins1]
theorem isort_fold (l : List Str) : ∀ acc : List Str, (∀ y ∈ l.foldl (fun acc x => ins1 x acc) acc, y ∈ l ∨ y ∈ acc) ∧ (l.foldl (fun acc x => ins1 x acc) acc).length = l.length + acc.length := by
  induction l with
  | nil => intro acc; exact ⟨fun y h => .inr h, by simp⟩
  | cons x l ih =>
    intro acc
    obtain ⟨h1, h2⟩ := ih (ins1 x acc)
    refine ⟨fun y hy => ?_, by rw [List.foldl_cons, h2, len_ins1, List.length_cons]; omega⟩
    rcases h1 y hy with h | h
    · exact .inl (List.mem_cons_of_mem _ h)
    · rcases mem_ins1 h with rfl | h
      · exact .inl List.mem_cons_self
      · exact .inr h
theorem isort_mem {l : List Str} {y : Str} (h : y ∈ isort l) : y ∈ l := by
  rcases (isort_fold l []).1 y h with h | h
  · exact h
  · cases h
theorem isort_len {l : List Str} : (isort l).length = l.length := by have := (isort_fold l []).2; unfold isort; simpa using this
theorem strs_map : ∀ l : List Str, strsT (l.map T.str) = some l
  | [] => rfl
  | x :: l => by simp [strsT, strs_map l]
theorem sorted_strs {l : List Str} (h : l.length < 64) : sortedT [.lst (l.map T.str)] = some (.lst ((isort l).map T.str)) := by
  simp [sortedT, h, strs_map]
noncomputable def SmO (N : List Str) (L : Nat) (t : T) (st : List SO) : Prop := ∃ s, t = smT s ∧ okSm N s ∧ StO st ∧ st.length = L
theorem sum {n : Nat} {N : List Str} {sto : List SO} {L : Nat} (hn : n < L) (hL : sto.length = L) (hs : StO sto) (okn : okNs N) :
    Out (m_law_sum [.obj n, .lst (N.map T.str)] sto) (SmO N L) := by
  have c9 : powT (.int 10) (.int 9) = some (.int 1000000000) := by simp [powT]
  have hN : (isort N).length = N.length := isort_len
  have h2 := okn.1
  have nn : (isort N).length < lim := by show _ < 1000000; omega
  have so := sorted_strs (l := N) (by omega)
  unfold m_law_sum
  simp [runFn, sSeq, sIf, sSet, sNew, sRet, sNil, sNx, sRetOwn, sGo, sReverse, sFor, sAppend, sExtend, lstAt, mTest, mNot, mAnd, mOr, mBool, mIf, mOp, mUn, mVar, mMap, mCons, mNil, mPure, mStrs, mCall, putSlot, hName, hTup, iRange, iSeq, ltT, leT, lenT, addT, subT, modT, fdivT, negT, absT, seqOf, mTrue, freezeAt, thaw, so, nn]
  generalize hF : forL _ _ _ _ = r
  obtain ⟨s', rfl, P⟩ := forL_at hF (fun ts s => ∃ (l : List Str) (acc : List (Str × Int)) (o4 o5 : Slot) (st : List SO), ts = l.map T.str ∧ (∀ x ∈ l, x ∈ N) ∧ s = ⟨[some (.obj n, false), some (.lst (N.map T.str), false), some (.lst (acc.map pT), true), o4, o5], st⟩ ∧ StO st ∧ st.length = L ∧ acc.length + l.length ≤ N.length ∧ ∀ p ∈ acc, p.1 ∈ N ∧ -1000000000 < p.2 ∧ p.2 < 1000000000)
    ⟨isort N, [], none, none, sto, rfl, fun x hx => isort_mem hx, rfl, hs, hL, by simp [hN], fun p hp => by cases hp⟩ (by
      rintro t r s ⟨l, acc, o4, o5, st, e1, e2, rfl, e3, e4, e5, e6⟩
      cases l with
      | nil => cases e1
      | cons x l =>
        cases e1
        have xN := e2 x List.mem_cons_self
        simp only [List.length_cons] at e5
        have hl : acc.length < lim := by show _ < 1000000; omega
        obtain ⟨v, t1, q1, c1, d1, w1, m1⟩ := takeN (n := n) (many := 2) hn e4 e3 (by decide) (by decide)
        by_cases hv : v = 1
        · subst hv
          obtain ⟨tm, t2, q2, g1, g2, w2, m2⟩ := number (n := n) (most := 1000000000) hn m1 w1 (by decide)
          by_cases h0 : tm = 0
          · refine ⟨_, ⟨[some (.obj n, false), some (.lst (N.map T.str), false), some (.lst (acc.map pT), true), some (.str x, false), some (.int tm, false)], t2⟩, rfl, ?_, l, acc, some (.str x, false), some (.int tm, false), t2, rfl, fun y hy => e2 y (List.mem_cons_of_mem _ hy), rfl, w2, by omega, by omega, e6⟩
            subst h0
            simp [runFn, sSeq, sIf, sSet, sNew, sRet, sNil, sNx, sRetOwn, sGo, sReverse, sFor, sAppend, sExtend, lstAt, mTest, mNot, mAnd, mOr, mBool, mIf, mOp, mUn, mVar, mMap, mCons, mNil, mPure, mStrs, mCall, putSlot, hName, hTup, iRange, iSeq, ltT, leT, lenT, addT, subT, modT, fdivT, negT, absT, seqOf, mTrue, freezeAt, thaw, q1, eqO_int, c9, q2, neO_int]
          · have hb : (tm == 0) = false := beq_eq_false_iff_ne.mpr h0
            refine ⟨_, ⟨[some (.obj n, false), some (.lst (N.map T.str), false), some (.lst ((acc ++ [(x, tm)]).map pT), true), some (.str x, false), some (.int tm, false)], t2⟩, rfl, ?_, l, acc ++ [(x, tm)], some (.str x, false), some (.int tm, false), t2, rfl, fun y hy => e2 y (List.mem_cons_of_mem _ hy), rfl, w2, by omega, by rw [List.length_append, List.length_singleton]; omega, ?_⟩
            · simp [runFn, sSeq, sIf, sSet, sNew, sRet, sNil, sNx, sRetOwn, sGo, sReverse, sFor, sAppend, sExtend, lstAt, mTest, mNot, mAnd, mOr, mBool, mIf, mOp, mUn, mVar, mMap, mCons, mNil, mPure, mStrs, mCall, putSlot, hName, hTup, iRange, iSeq, ltT, leT, lenT, addT, subT, modT, fdivT, negT, absT, seqOf, mTrue, freezeAt, thaw, q1, eqO_int, c9, q2, neO_int, hb, hl, pT]
            · intro p hp
              rcases List.mem_append.mp hp with z | z -- here
              · exact e6 p z
              · rw [List.mem_singleton] at z; subst z; exact ⟨xN, g1, g2⟩
        · have hb : (v == 1) = false := beq_eq_false_iff_ne.mpr hv
          refine ⟨_, ⟨[some (.obj n, false), some (.lst (N.map T.str), false), some (.lst (acc.map pT), true), some (.str x, false), o5], t1⟩, rfl, ?_, l, acc, some (.str x, false), o5, t1, rfl, fun y hy => e2 y (List.mem_cons_of_mem _ hy), rfl, w1, by omega, by omega, e6⟩
          simp [runFn, sSeq, sIf, sSet, sNew, sRet, sNil, sNx, sRetOwn, sGo, sReverse, sFor, sAppend, sExtend, lstAt, mTest, mNot, mAnd, mOr, mBool, mIf, mOp, mUn, mVar, mMap, mCons, mNil, mPure, mStrs, mCall, putSlot, hName, hTup, iRange, iSeq, ltT, leT, lenT, addT, subT, modT, fdivT, negT, absT, seqOf, mTrue, freezeAt, thaw, q1, eqO_int, hb])
  obtain ⟨l, acc, o4, o5, st, e1, e2, rfl, e3, e4, e5, e6⟩ := P
  cases l with
  | cons _ _ => cases e1
  | nil =>
    obtain ⟨k, t2, q2, g1, g2, w2, m2⟩ := number (n := n) (most := 1000000000) hn e4 e3 (by decide)
    simp [runFn, sSeq, sIf, sSet, sNew, sRet, sNil, sNx, sRetOwn, sGo, sReverse, sFor, sAppend, sExtend, lstAt, mTest, mNot, mAnd, mOr, mBool, mIf, mOp, mUn, mVar, mMap, mCons, mNil, mPure, mStrs, mCall, putSlot, hName, hTup, iRange, iSeq, ltT, leT, lenT, addT, subT, modT, fdivT, negT, absT, seqOf, mTrue, freezeAt, thaw, tupleT, c9, q2]
    exact .of ⟨(k, acc), rfl, ⟨⟨by simpa using e5, e6⟩, g1, g2⟩, w2, m2⟩
end K
end
noncomputable section
set_option linter.all false
set_option maxRecDepth 100000
set_option autoImplicit false
namespace K
open C PySem
noncomputable def okHs (H : List Str) : Prop := H.length = 3 ∧ ∀ h ∈ H, okN h
inductive Rem where
  | most (s : Sm) | rest (s : Sm) (m : Int) | pl (h : Str) (p : Int) | all (l : List Rem) | any (l : List Rem) | no (r : Rem)
mutual
noncomputable def remT : Rem → T
  | .most s => .tup [.str "most", smT s]
  | .rest s m => .tup [.str "rest", smT s, .int m]
  | .pl h p => .tup [.str "at", .str h, .int p]
  | .all l => .tup [.str "and", .tup (remsT l)]
  | .any l => .tup [.str "or", .tup (remsT l)]
  | .no r => .tup [.str "not", remT r]
noncomputable def remsT : List Rem → List T
  | [] => []
  | r :: l => remT r :: remsT l
end
theorem remsT_map : ∀ l : List Rem, remsT l = l.map remT
  | [] => rfl
  | r :: l => by rw [remsT, remsT_map l]; rfl
inductive OkR (N H : List Str) : Nat → Rem → Prop where
  | most {d : Nat} {s : Sm} : okSm N s → OkR N H d (.most s)
  | rest {d : Nat} {s : Sm} {m : Int} : okSm N s → 2 ≤ m → m ≤ 12 → OkR N H d (.rest s m)
  | pl {d : Nat} {h : Str} {p : Int} : h ∈ H → 0 ≤ p → p < 4 → OkR N H d (.pl h p)
  | all {d : Nat} {l : List Rem} : l.length ≤ 5 → (∀ r ∈ l, OkR N H d r) → OkR N H (d + 1) (.all l)
  | any {d : Nat} {l : List Rem} : l.length ≤ 5 → (∀ r ∈ l, OkR N H d r) → OkR N H (d + 1) (.any l)
  | no {d : Nat} {r : Rem} : OkR N H d r → OkR N H (d + 1) (.no r)
noncomputable def RmO (N H : List Str) (d L : Nat) (t : T) (st : List SO) : Prop := ∃ r, t = remT r ∧ OkR N H d r ∧ StO st ∧ st.length = L
noncomputable def wordE (v : Int) : Str := if v = 0 then "and" else "or"
noncomputable def either (v : Int) (l : List Rem) : Rem := if v = 0 then .all l else .any l
theorem word_e {v : Int} (h0 : 0 ≤ v) (h1 : v < 2) : itemT (.lst [.str "and", .str "or"]) (.int v) = some (.str (wordE v)) := by
  have : v = 0 ∨ v = 1 := by omega
  rcases this with rfl | rfl <;> rfl
theorem either_T {v : Int} {l : List Rem} : remT (either v l) = .tup [.str (wordE v), .tup (l.map remT)] := by
  unfold either wordE
  split <;> simp [remT, remsT_map]
noncomputable section
variable {N H : List Str}
theorem either_ok {v : Int} {d : Nat} {l : List Rem} (h : l.length ≤ 5) (h2 : ∀ r ∈ l, OkR N H d r) : OkR N H (d + 1) (either v l) := by
  unfold either
  split
  · exact .all h h2
  · exact .any h h2
theorem remark (okn : okNs N) (okh : okHs H) {n L : Nat} (hn : n < L) : ∀ (d k : Nat), d < k → ∀ {sto : List SO}, sto.length = L → StO sto →
    Out (m_law_remark k [.obj n, .lst (N.map T.str), .lst (H.map T.str), .int (d : Int)] sto) (RmO N H d L) := by
  intro d
  induction d with
  | zero =>
    intro k hk sto hL hs
    obtain ⟨k, rfl⟩ : ∃ j, k = j + 1 := ⟨k - 1, by omega⟩
    obtain ⟨w, s1, p1, a1, b1, o1, l1⟩ := takeN (many := 8) hn hL hs (by decide) (by decide)
    obtain ⟨t2, s2, p2, x, rfl, ok2, o2, l2⟩ := sum (n := n) hn l1 o1 okn
    unfold m_law_remark
    by_cases e1 : w % 4 = 1
    · obtain ⟨v, s3, p3, a3, b3, o3, l3⟩ := takeN (many := 11) hn l2 o2 (by decide) (by decide)
      simp [runFn, sSeq, sIf, sSet, sNew, sRet, sNil, sNx, sRetOwn, sGo, sReverse, sFor, sAppend, sExtend, lstAt, mTest, mNot, mAnd, mOr, mBool, mIf, mOp, mUn, mVar, mMap, mCons, mNil, mPure, mStrs, mCall, putSlot, hName, hTup, iRange, iSeq, ltT, leT, lenT, addT, subT, modT, fdivT, negT, absT, seqOf, mTrue, freezeAt, thaw, p1, eqO_int, e1, p2, p3]
      exact .of ⟨.rest x (2 + v), rfl, .rest ok2 (by omega) (by omega), o3, l3⟩
    by_cases e2 : w % 4 = 2
    · obtain ⟨i, s3, p3, a3, b3, o3, l3⟩ := takeN (many := (H.length : Int)) hn l1 o1 (by rw [okh.1]; decide) (by rw [okh.1]; decide)
      obtain ⟨h, hm, hi⟩ := itemT_lst T.str H a3 b3
      obtain ⟨v, s4, p4, a4, b4, o4, l4⟩ := takeN (many := 4) hn l3 o3 (by decide) (by decide)
      simp [runFn, sSeq, sIf, sSet, sNew, sRet, sNil, sNx, sRetOwn, sGo, sReverse, sFor, sAppend, sExtend, lstAt, mTest, mNot, mAnd, mOr, mBool, mIf, mOp, mUn, mVar, mMap, mCons, mNil, mPure, mStrs, mCall, putSlot, hName, hTup, iRange, iSeq, ltT, leT, lenT, addT, subT, modT, fdivT, negT, absT, seqOf, mTrue, freezeAt, thaw, p1, eqO_int, e2, p3, hi, p4]
      exact .of ⟨.pl h v, rfl, .pl hm a4 b4, o4, l4⟩
    have c1 : (w % 4 == 1) = false := beq_eq_false_iff_ne.mpr e1
    have c2 : (w % 4 == 2) = false := beq_eq_false_iff_ne.mpr e2
    simp [runFn, sSeq, sIf, sSet, sNew, sRet, sNil, sNx, sRetOwn, sGo, sReverse, sFor, sAppend, sExtend, lstAt, mTest, mNot, mAnd, mOr, mBool, mIf, mOp, mUn, mVar, mMap, mCons, mNil, mPure, mStrs, mCall, putSlot, hName, hTup, iRange, iSeq, ltT, leT, lenT, addT, subT, modT, fdivT, negT, absT, seqOf, mTrue, freezeAt, thaw, p1, eqO_int, c1, c2, p2]
    exact .of ⟨.most x, rfl, .most ok2, o2, l2⟩
  | succ d ih =>
    intro k hk sto hL hs
    obtain ⟨k, rfl⟩ : ∃ j, k = j + 1 := ⟨k - 1, by omega⟩
    obtain ⟨w, s1, p1, a1, b1, o1, l1⟩ := takeN (many := 8) hn hL hs (by decide) (by decide)
    obtain ⟨t2, s2, p2, x, rfl, ok2, o2, l2⟩ := sum (n := n) hn l1 o1 okn
    have nd : ((d : Int) + 1 == 0) = false := beq_eq_false_iff_ne.mpr (by omega)
    have ed : (((d + 1 : Nat)) : Int) = (d : Int) + 1 := by omega
    have sd : (d : Int) + 1 - 1 = (d : Int) := by omega
    unfold m_law_remark
    rw [ed]
    by_cases h2 : w < 2
    · by_cases e1 : w = 1
      · subst e1
        obtain ⟨v, s3, p3, a3, b3, o3, l3⟩ := takeN (many := 11) hn l2 o2 (by decide) (by decide)
        simp [runFn, sSeq, sIf, sSet, sNew, sRet, sNil, sNx, sRetOwn, sGo, sReverse, sFor, sAppend, sExtend, lstAt, mTest, mNot, mAnd, mOr, mBool, mIf, mOp, mUn, mVar, mMap, mCons, mNil, mPure, mStrs, mCall, putSlot, hName, hTup, iRange, iSeq, ltT, leT, lenT, addT, subT, modT, fdivT, negT, absT, seqOf, mTrue, freezeAt, thaw, p1, eqO_int, nd, p2, p3]
        exact .of ⟨.rest x (2 + v), rfl, .rest ok2 (by omega) (by omega), o3, l3⟩
      · have e0 : w = 0 := by omega
        subst e0
        simp [runFn, sSeq, sIf, sSet, sNew, sRet, sNil, sNx, sRetOwn, sGo, sReverse, sFor, sAppend, sExtend, lstAt, mTest, mNot, mAnd, mOr, mBool, mIf, mOp, mUn, mVar, mMap, mCons, mNil, mPure, mStrs, mCall, putSlot, hName, hTup, iRange, iSeq, ltT, leT, lenT, addT, subT, modT, fdivT, negT, absT, seqOf, mTrue, freezeAt, thaw, p1, eqO_int, nd, p2]
        exact .of ⟨.most x, rfl, .most ok2, o2, l2⟩
    by_cases e2 : w = 2
    · subst e2
      obtain ⟨t3, s3, p3, r, rfl, ok3, o3, l3⟩ := ih k (by omega) (sto := s1) l1 o1
      simp [runFn, sSeq, sIf, sSet, sNew, sRet, sNil, sNx, sRetOwn, sGo, sReverse, sFor, sAppend, sExtend, lstAt, mTest, mNot, mAnd, mOr, mBool, mIf, mOp, mUn, mVar, mMap, mCons, mNil, mPure, mStrs, mCall, putSlot, hName, hTup, iRange, iSeq, ltT, leT, lenT, addT, subT, modT, fdivT, negT, absT, seqOf, mTrue, freezeAt, thaw, p1, eqO_int, nd, sd, p3]
      exact .of ⟨.no r, by simp [remT], .no ok3, o3, l3⟩
    by_cases e3 : w = 3
    · subst e3
      obtain ⟨v, s3, p3, a3, b3, o3, l3⟩ := takeN (many := 2) hn l1 o1 (by decide) (by decide)
      simp [runFn, sSeq, sIf, sSet, sNew, sRet, sNil, sNx, sRetOwn, sGo, sReverse, sFor, sAppend, sExtend, lstAt, mTest, mNot, mAnd, mOr, mBool, mIf, mOp, mUn, mVar, mMap, mCons, mNil, mPure, mStrs, mCall, putSlot, hName, hTup, iRange, iSeq, ltT, leT, lenT, addT, subT, modT, fdivT, negT, absT, seqOf, mTrue, freezeAt, thaw, p1, eqO_int, nd, p3, word_e a3 b3]
      exact .of ⟨either v [], by simp [either_T], either_ok (by simp) (fun r hr => by cases hr), o3, l3⟩
    have c2 : (w == 2) = false := beq_eq_false_iff_ne.mpr e2
    have c3 : (w == 3) = false := beq_eq_false_iff_ne.mpr e3
    by_cases h6 : w < 6
    · have b2 : bnd64 2 = true := by decide
      obtain ⟨q, hq0, hq1, hq⟩ : ∃ q : Int, 0 ≤ q ∧ q ≤ 1 ∧ intT [.bl ((d : Int) + 1 == 1)] = some (.int q) := by
        cases ((d : Int) + 1 == 1)
        · exact ⟨0, by decide, by decide, rfl⟩
        · exact ⟨1, by decide, by decide, rfl⟩
      obtain ⟨v, s3, p3, a3, b3, o3, l3⟩ := takeN (n := n) (many := 2 + 2 * q) hn l1 o1 (by omega) (by omega)
      obtain ⟨m, em⟩ : ∃ m : Nat, 2 + v = (m : Int) := ⟨(2 + v).toNat, by omega⟩
      have hm : m ≤ 5 := by omega
      have lm : m < lim := by show _ < 1000000; omega
      have we := word_e (v := w - 4) (by omega) (by omega)
      have lr : (rangeT m).length = m := by simp [rangeT]
      simp [runFn, sSeq, sIf, sSet, sNew, sRet, sNil, sNx, sRetOwn, sGo, sReverse, sFor, sAppend, sExtend, lstAt, mTest, mNot, mAnd, mOr, mBool, mIf, mOp, mUn, mVar, mMap, mCons, mNil, mPure, mStrs, mCall, putSlot, hName, hTup, iRange, iSeq, ltT, leT, lenT, addT, subT, modT, fdivT, negT, absT, seqOf, mTrue, freezeAt, thaw, p1, eqO_int, nd, h2, c2, c3, h6, hq, mulT, b2, p3, em, lm, we]
      generalize hF : mComp _ _ _ _ _ _ _ = r
      obtain ⟨us, st, rfl, rs, e1, e2, e3, e4, e5⟩ := mComp_draw hF (rangeT m) ⟨[some (.obj n, false), some (.lst (N.map T.str), false), some (.lst (H.map T.str), false), some (.int ((d : Int) + 1), false), some (.int w, false), some (.int (m : Int), false)], s3⟩ [some (.obj n, false), some (.lst (N.map T.str), false), some (.lst (H.map T.str), false), some (.int ((d : Int) + 1), false), some (.int w, false), some (.int (m : Int), false)] [some (.obj n, false), some (.lst (N.map T.str), false), some (.lst (H.map T.str), false), some (.int ((d : Int) + 1), false)]
        (fun ts acc st => ∃ rs : List Rem, acc = rs.map remT ∧ (∀ r ∈ rs, OkR N H d r) ∧ StO st ∧ st.length = L ∧ rs.length + ts.length = m) (by simp [runFn, sSeq, sIf, sSet, sNew, sRet, sNil, sNx, sRetOwn, sGo, sReverse, sFor, sAppend, sExtend, lstAt, mTest, mNot, mAnd, mOr, mBool, mIf, mOp, mUn, mVar, mMap, mCons, mNil, mPure, mStrs, mCall, putSlot, hName, hTup, iRange, iSeq, ltT, leT, lenT, addT, subT, modT, fdivT, negT, absT, seqOf, mTrue, freezeAt, thaw, lm]) rfl rfl rfl (by rw [lr]; show _ ≤ 1000000; omega) ⟨[], rfl, fun r hr => (by cases hr), o3, l3, by simp [lr]⟩
        (by
          rintro t r acc st ⟨rs, e1, e2, e3, e4, e5⟩ pre hp
          obtain ⟨p0, rfl⟩ : ∃ p0, pre = [p0] := by
            match pre, hp with
            | [p0], _ => exact ⟨p0, rfl⟩
          obtain ⟨t3, s4, p4, x3, rfl, ok3, o4, l4⟩ := ih k (by omega) (sto := st) e4 e3
          refine ⟨[some (t, false)], remT x3, s4, rfl, rfl, ?_, rs ++ [x3], by rw [e1]; simp, ?_, o4, l4, by simp only [List.length_append, List.length_cons, List.length_nil] at e5 ⊢; omega⟩
          · simp [runFn, sSeq, sIf, sSet, sNew, sRet, sNil, sNx, sRetOwn, sGo, sReverse, sFor, sAppend, sExtend, lstAt, mTest, mNot, mAnd, mOr, mBool, mIf, mOp, mUn, mVar, mMap, mCons, mNil, mPure, mStrs, mCall, putSlot, hName, hTup, iRange, iSeq, ltT, leT, lenT, addT, subT, modT, fdivT, negT, absT, seqOf, mTrue, freezeAt, thaw, sd, p4]
          · intro r hr
            rcases List.mem_append.mp hr with z | z
            · exact e2 r z
            · rw [List.mem_singleton] at z; subst z; exact ok3)
      subst e1
      simp [runFn, sSeq, sIf, sSet, sNew, sRet, sNil, sNx, sRetOwn, sGo, sReverse, sFor, sAppend, sExtend, lstAt, mTest, mNot, mAnd, mOr, mBool, mIf, mOp, mUn, mVar, mMap, mCons, mNil, mPure, mStrs, mCall, putSlot, hName, hTup, iRange, iSeq, ltT, leT, lenT, addT, subT, modT, fdivT, negT, absT, seqOf, mTrue, freezeAt, thaw, tupleT]
      exact .of ⟨either (w - 4) rs, by rw [either_T], either_ok (by simp at e5; omega) e2, e3, e4⟩
    · simp [runFn, sSeq, sIf, sSet, sNew, sRet, sNil, sNx, sRetOwn, sGo, sReverse, sFor, sAppend, sExtend, lstAt, mTest, mNot, mAnd, mOr, mBool, mIf, mOp, mUn, mVar, mMap, mCons, mNil, mPure, mStrs, mCall, putSlot, hName, hTup, iRange, iSeq, ltT, leT, lenT, addT, subT, modT, fdivT, negT, absT, seqOf, mTrue, freezeAt, thaw, p1, eqO_int, nd, h2, c2, c3, h6, p2]
      exact .of ⟨.most x, rfl, .most ok2, o2, l2⟩
end
end K
end
noncomputable section
set_option linter.all false
set_option maxRecDepth 100000
set_option autoImplicit false
namespace K
open C PySem
noncomputable def num (i : Int) : Str := Str.ofString (toString i)
theorem Str.ext' {a b : Str} (h : a.cps = b.cps) : a = b := by cases a; cases b; cases h; rfl
theorem app_cps (a b : Str) : (a ++ b).cps = a.cps ++ b.cps := rfl
theorem len_app (a b : Str) : (a ++ b).length = a.length + b.length := by show (a ++ b).cps.size = _; rw [app_cps, Array.size_append]; rfl
theorem e_app (a : Str) : ("" : Str) ++ a = a := Str.ext' (by rw [app_cps]; show (#[] : Array Nat) ++ a.cps = a.cps; simp)
theorem okS_app {a b : Str} (ha : okS a) (hb : okS b) : okS (a ++ b) := by
  unfold okS PyData.canLay0 PyData.strOk at *
  rw [app_cps, Array.all_append, ha, hb]; rfl
theorem okS_of (s : String) : okS (Str.ofString s) := by
  unfold okS PyData.canLay0 PyData.strOk
  rw [Str.ofString_eq_toList]
  simp only [List.all_toArray, List.all_map, List.all_eq_true, Function.comp, decide_eq_true_eq]
  intro c _
  have := c.valid
  simp only [UInt32.isValidChar, Nat.isValidChar] at this
  show c.val.toNat < _
  omega
theorem okS_num (i : Int) : okS (num i) := okS_of _
theorem num_len {i : Int} (h0 : -10000000000 < i) (h1 : i < 10000000000) : (num i).length ≤ 11 := by
  unfold num
  rw [PySem.ofString_length]
  exact PySem.int_text_length_le10 (k := 10) (by decide) (by omega)
theorem num_neg {i : Int} (h : i < 0) : num i = ("-" : Str) ++ num (-i) := by
  cases i with
  | ofNat m => exact absurd h (by simp) -- here
  | negSucc m =>
    have e : toString (Int.negSucc m) = "-" ++ Nat.repr (m + 1) := rfl -- here
    have e2 : toString (-(Int.negSucc m)) = Nat.repr (m + 1) := rfl
    unfold num
    rw [e, e2]
    apply Str.ext'
    rw [app_cps, Str.ofString_eq_toList, Str.ofString_eq_toList, Str.ofString_eq_toList]
    simp
theorem b64n {i : Int} (h0 : -10000000000 < i) (h1 : i < 10000000000) : bnd64 i = true := by simp only [bnd64, decide_eq_true_eq]; omega
theorem str_i {i : Int} (h0 : -10000000000 < i) (h1 : i < 10000000000) : strT [.int i] = some (.str (num i)) := by simp [strT, b64n h0 h1, num]
theorem fmt_i {i : Int} (h0 : -10000000000 < i) (h1 : i < 10000000000) : fmtT (.int i) = some (.str (num i)) := by simp [fmtT, b64n h0 h1, num]
theorem fmt_s {x : Str} (h : x.length < 1000000) : fmtT (.str x) = some (.str x) := by simp [fmtT, h]
theorem j3 {a b c : Str} (h : a.length + b.length + c.length < 1000000) : joinS3 [.str a, .str b, .str c] = some (.str (a ++ b ++ c)) := by
  simp only [joinS3, len_app]
  rw [if_pos ⟨by show _ < 1000000; omega, by show _ < 1000000; omega, by show _ < 1000000; omega⟩]
noncomputable def ab (i : Int) : Int := if i < 0 then -i else i
theorem ab_lt {i c : Int} (h0 : -c < i) (h1 : i < c) : 0 ≤ ab i ∧ ab i < c := by unfold ab; split <;> omega
noncomputable def piece (p : Str × Int) : Str := if ab p.2 = 1 then p.1 else num (ab p.2) ++ " * " ++ p.1
noncomputable def sg (e b : Bool) : Str := if e then (if b then "-" else "") else (if b then " - " else " + ")
noncomputable def gl (t : Str) (q : Str × Int) : Str := t ++ sg (t == ("" : Str)) (decide (q.2 < 0)) ++ q.1
noncomputable def qs (l : List (Str × Int)) : List (Str × Int) := l.map fun p => (piece p, p.2)
noncomputable def nums (s : Sm) : List (Str × Int) := if s.1 ≠ 0 ∨ s.2 = [] then qs s.2 ++ [(num (ab s.1), s.1)] else qs s.2
noncomputable def sumX (s : Sm) : Str := (nums s).foldl gl ""
theorem sg_len (e b : Bool) : (sg e b).length ≤ 3 := by cases e <;> cases b <;> decide +kernel
theorem okS_sg (e b : Bool) : okS (sg e b) := by cases e <;> cases b <;> exact okS_of _
theorem gl_len (t : Str) (q : Str × Int) : (gl t q).length ≤ t.length + 3 + q.1.length ∧ q.1.length ≤ (gl t q).length := by
  have := sg_len (t == ("" : Str)) (decide (q.2 < 0))
  unfold gl
  rw [len_app, len_app]
  omega
noncomputable def okQ (q : Str × Int) : Prop := okS q.1 ∧ q.1.length ≤ 55 ∧ 0 < q.1.length ∧ -1000000000 < q.2 ∧ q.2 < 1000000000
theorem gl_ok {t : Str} {q : Str × Int} (ht : okS t) (hq : okQ q) : okS (gl t q) := okS_app (okS_app ht (okS_sg _ _)) hq.1
theorem glue_ok : ∀ (l : List (Str × Int)) (t : Str), (∀ q ∈ l, okQ q) → okS t → okS (l.foldl gl t) ∧ (l.foldl gl t).length ≤ t.length + 60 * l.length ∧ (l ≠ [] → 0 < (l.foldl gl t).length)
  | [], t, _, h => ⟨h, by simp, fun z => absurd rfl z⟩
  | q :: l, t, hl, h => by
    have hq := hl q List.mem_cons_self
    have gq := gl_len t q
    obtain ⟨a, b, c⟩ := glue_ok l (gl t q) (fun x hx => hl x (List.mem_cons_of_mem _ hx)) (gl_ok h hq)
    have q2 := hq.2.1
    refine ⟨a, by rw [List.foldl_cons, List.length_cons]; omega, fun _ => ?_⟩
    by_cases z : l = []
    · subst z
      show 0 < (gl t q).length
      have := hq.2.2.1
      omega
    · exact c z
variable {N H : List Str}
theorem piece_ok {p : Str × Int} (hx : okN p.1) (h0 : -1000000000 < p.2) (h1 : p.2 < 1000000000) : okQ (piece p, p.2) := by
  obtain ⟨o1, o2, o3⟩ := hx
  have ⟨a0, a1⟩ := ab_lt h0 h1
  have nl := num_len (i := ab p.2) (by omega) (by omega)
  have l3 : (" * " : Str).length = 3 := by decide +kernel
  unfold okQ piece
  split
  · exact ⟨o1, by show p.1.length ≤ 55; omega, o3, h0, h1⟩
  · refine ⟨okS_app (okS_app (okS_num _) (okS_of _)) o1, ?_, ?_, h0, h1⟩
    · simp only [len_app]; omega
    · simp only [len_app]; omega
theorem num_nonempty (i : Int) : 0 < (num i).length := by
  unfold num
  rw [PySem.ofString_length]
  cases i with
  | ofNat m =>
    have e : toString (Int.ofNat m) = Nat.repr m := rfl -- here
    rw [e]; exact Nat.length_repr_pos
  | negSucc m =>
    have e : toString (Int.negSucc m) = "-" ++ Nat.repr (m + 1) := rfl -- here
    rw [e, String.length_append]
    have e1 : "-".length = 1 := rfl -- here
    omega
theorem nums_ok {s : Sm} (hN : okNs N) (hs : okSm N s) : (∀ q ∈ qs s.2, okQ q) ∧ (∀ q ∈ nums s, okQ q) ∧ (nums s).length ≤ 7 := by
  obtain ⟨⟨h1, h2⟩, h3, h4⟩ := hs
  have hq : ∀ q ∈ qs s.2, okQ q := by
    intro q hq
    obtain ⟨p, hp, rfl⟩ := List.mem_map.mp hq -- here
    obtain ⟨a, b, c⟩ := h2 p hp
    exact piece_ok (hN.2 _ a) b c
  have ln := hN.1
  have lq : (qs s.2).length = s.2.length := by simp [qs]
  have hc : okQ (num (ab s.1), s.1) := by
    have ⟨a0, a1⟩ := ab_lt h3 h4
    have := num_len (i := ab s.1) (by omega) (by omega)
    exact ⟨okS_num _, by show (num _).length ≤ 55; omega, num_nonempty _, h3, h4⟩
  refine ⟨hq, ?_, ?_⟩
  · unfold nums
    split
    · intro q h
      rcases List.mem_append.mp h with z | z
      · exact hq q z
      · rw [List.mem_singleton] at z; subst z; exact hc
    · exact hq
  · unfold nums
    split
    · rw [List.length_append, List.length_singleton]; omega -- here
    · omega
theorem sumX_ok {s : Sm} (hN : okNs N) (hs : okSm N s) : okS (sumX s) ∧ (sumX s).length ≤ 420 := by
  obtain ⟨_, a, b⟩ := nums_ok hN hs
  obtain ⟨c, d, _⟩ := glue_ok (nums s) "" a (okS_of _)
  have z : ("" : Str).length = 0 := by decide +kernel
  refine ⟨c, ?_⟩
  unfold sumX
  omega
end K
end
noncomputable section
set_option linter.all false
set_option maxRecDepth 100000
set_option autoImplicit false
namespace K
open C PySem
noncomputable section
variable {N H : List Str} {sto : List SO}
theorem sm_len {s : Sm} (hN : okNs N) (hs : okSm N s) : s.2.length < lim := by
  have := hs.1.1; have := hN.1; show _ < 1000000; omega
theorem show_part {p : Str × Int} (hx : okN p.1) (h0 : -1000000000 < p.2) (h1 : p.2 < 1000000000) : m_show_part [.str p.1, .int (ab p.2)] sto = some (.str (piece p), sto) := by
  obtain ⟨o1, o2, o3⟩ := hx
  have ⟨a0, a1⟩ := ab_lt h0 h1
  have nl := num_len (i := ab p.2) (by omega) (by omega)
  have l3 : (" * " : Str).length = 3 := by decide +kernel
  have f1 := fmt_i (i := ab p.2) (by omega) (by omega)
  have f2 := fmt_s (x := p.1) (by omega)
  have j := j3 (a := num (ab p.2)) (b := " * ") (c := p.1) (by omega)
  unfold m_show_part piece
  by_cases e : ab p.2 = 1
  · rw [if_pos e, e]
    simp [runFn, sSeq, sIf, sSet, sNew, sRet, sNil, sNx, sRetOwn, sGo, sReverse, sFor, sAppend, sExtend, lstAt, mTest, mNot, mAnd, mOr, mBool, mIf, mOp, mUn, mVar, mMap, mCons, mNil, mPure, mStrs, mCall, putSlot, hName, hTup, iRange, iSeq, ltT, leT, lenT, addT, subT, modT, fdivT, negT, absT, seqOf, mTrue, freezeAt, thaw, eqO_int]
  · have c : (ab p.2 == 1) = false := beq_eq_false_iff_ne.mpr e
    rw [if_neg e]
    simp [runFn, sSeq, sIf, sSet, sNew, sRet, sNil, sNx, sRetOwn, sGo, sReverse, sFor, sAppend, sExtend, lstAt, mTest, mNot, mAnd, mOr, mBool, mIf, mOp, mUn, mVar, mMap, mCons, mNil, mPure, mStrs, mCall, putSlot, hName, hTup, iRange, iSeq, ltT, leT, lenT, addT, subT, modT, fdivT, negT, absT, seqOf, mTrue, freezeAt, thaw, eqO_int, c, f1, f2, j]
theorem sign_ahead {e b : Bool} : m_sign_ahead [.bl e, .bl b] sto = some (.str (sg e b), sto) := by
  cases e <;> cases b <;> simp [runFn, sSeq, sIf, sSet, sNew, sRet, sNil, sNx, sRetOwn, sGo, sReverse, sFor, sAppend, sExtend, lstAt, mTest, mNot, mAnd, mOr, mBool, mIf, mOp, mUn, mVar, mMap, mCons, mNil, mPure, mStrs, mCall, putSlot, hName, hTup, iRange, iSeq, ltT, leT, lenT, addT, subT, modT, fdivT, negT, absT, seqOf, mTrue, freezeAt, thaw, m_sign_ahead, sg]
theorem zip_q : ∀ l : List (Str × Int), zipT (l.map fun q => .str q.1) (l.map fun q => .int q.2) = l.map pT
  | [] => rfl
  | q :: l => by
    have := zip_q l
    unfold zipT at this ⊢
    simp only [List.map_cons, List.zip_cons_cons, this, pT]
theorem qs_strs (l : List (Str × Int)) : (l.map fun p => T.str (piece p)) = (qs l).map fun q => T.str q.1 := by simp [qs]
theorem qs_ints (l : List (Str × Int)) : (l.map fun p => T.int p.2) = (qs l).map fun q => T.int q.2 := by simp [qs]
theorem fl_next {g : G} {b : S} {t : T} {r : List T} {s s1 s2 : Sta} (h : g t s = some s1) (hb : b s1 = some (.next, s2)) : forL g b (t :: r) s = forL g b r s2 := by
  rw [forL]; dsimp only; rw [h]; dsimp only; rw [hb]
noncomputable abbrev glueB : S := sSet 3 (mOp addT (mOp addT (mVar 3) (mCall m_sign_ahead (mCons (mOp eqO (mVar 3) (mPure (.str ""))) (mCons (mOp ltT (mVar 5) (mPure (.int 0))) mNil)))) (mVar 4))
theorem glue_loop {a b c : Slot} : ∀ (l : List (Str × Int)) (t : Str) (u v : Slot), (∀ q ∈ l, okQ q) → okS t → t.length + 60 * l.length ≤ 420 →
    ∃ u' v', forL (hTup [4, 5]) glueB (l.map pT) ⟨[a, b, c, some (.str t, false), u, v], sto⟩ = some (.next, ⟨[a, b, c, some (.str (l.foldl gl t), false), u', v'], sto⟩)
  | [], t, u, v, _, _, _ => ⟨u, v, by simp [forL]⟩
  | q :: l, t, u, v, hl, ht, hn => by
    have hq := hl q List.mem_cons_self
    have gq := gl_len t q
    have q2 := hq.2.1
    rw [List.length_cons] at hn
    obtain ⟨u', v', ih⟩ := glue_loop (a := a) (b := b) (c := c) l (gl t q) (some (.str q.1, false)) (some (.int q.2, false)) (fun x hx => hl x (List.mem_cons_of_mem _ hx)) (gl_ok ht hq) (by omega)
    refine ⟨u', v', ?_⟩
    have sl := sg_len (t == ("" : Str)) (decide (q.2 < 0))
    have e1 := eqO_str ht (okS_of "")
    have a1 : t.length + (sg (t == ("" : Str)) (decide (q.2 < 0))).length < lim := by show _ < 1000000; omega
    have a2 : (t ++ sg (t == ("" : Str)) (decide (q.2 < 0))).length + q.1.length < lim := by rw [len_app]; show _ < 1000000; omega
    have st : glueB ⟨[a, b, c, some (.str t, false), some (.str q.1, false), some (.int q.2, false)], sto⟩ = some (.next, ⟨[a, b, c, some (.str (gl t q), false), some (.str q.1, false), some (.int q.2, false)], sto⟩) := by
      unfold glueB gl
      simp [runFn, sSeq, sIf, sSet, sNew, sRet, sNil, sNx, sRetOwn, sGo, sReverse, sFor, sAppend, sExtend, lstAt, mTest, mNot, mAnd, mOr, mBool, mIf, mOp, mUn, mVar, mMap, mCons, mNil, mPure, mStrs, mCall, putSlot, hName, hTup, iRange, iSeq, ltT, leT, lenT, addT, subT, modT, fdivT, negT, absT, seqOf, mTrue, freezeAt, thaw, e1, sign_ahead, a1, a2]
    rw [List.map_cons, List.foldl_cons, ← ih]
    exact fl_next (s1 := ⟨[a, b, c, some (.str t, false), some (.str q.1, false), some (.int q.2, false)], sto⟩) (by unfold pT; exact hTup2) st
noncomputable abbrev partsI : M (List T) := iSeq (mOp itemT (mVar 0) (mPure (.int 1)))
theorem comp1 {s : Sm} {r : List Slot} (hN : okNs N) (hs : okSm N s) : mComp 2 [] (hTup [0, 1]) partsI mTrue (mCall m_show_part (mCons (mVar 0) (mCons (mMap absT (mCons (mVar 1) mNil)) mNil))) ⟨some (smT s, false) :: r, sto⟩ = some (.lst ((qs s.2).map fun q => .str q.1), ⟨some (smT s, false) :: r, sto⟩) := by
  have hl := sm_len hN hs
  rw [← qs_strs]
  refine mComp_map pT (fun p => .str (piece p)) s.2 (s1 := ⟨some (smT s, false) :: r, sto⟩) _ [] (by unfold smT; simp [runFn, sSeq, sIf, sSet, sNew, sRet, sNil, sNx, sRetOwn, sGo, sReverse, sFor, sAppend, sExtend, lstAt, mTest, mNot, mAnd, mOr, mBool, mIf, mOp, mUn, mVar, mMap, mCons, mNil, mPure, mStrs, mCall, putSlot, hName, hTup, iRange, iSeq, ltT, leT, lenT, addT, subT, modT, fdivT, negT, absT, seqOf, mTrue, freezeAt, thaw, item1t, hl]) rfl rfl rfl (Nat.le_of_lt hl) ?_
  intro p hp pre hpre
  obtain ⟨a, b, rfl⟩ : ∃ a b, pre = [a, b] := by
    match pre, hpre with
    | [a, b], _ => exact ⟨a, b, rfl⟩
  obtain ⟨h1, h2, h3⟩ := hs.1.2 p hp
  refine ⟨[some (.str p.1, false), some (.int p.2, false)], rfl, by unfold pT; rw [hTup2]; rfl, rfl, ?_⟩
  have e := show_part (sto := sto) (p := p) (hN.2 _ h1) h2 h3
  unfold ab at e
  simp [runFn, sSeq, sIf, sSet, sNew, sRet, sNil, sNx, sRetOwn, sGo, sReverse, sFor, sAppend, sExtend, lstAt, mTest, mNot, mAnd, mOr, mBool, mIf, mOp, mUn, mVar, mMap, mCons, mNil, mPure, mStrs, mCall, putSlot, hName, hTup, iRange, iSeq, ltT, leT, lenT, addT, subT, modT, fdivT, negT, absT, seqOf, mTrue, freezeAt, thaw, e]
theorem comp2 {s : Sm} {r : List Slot} (hN : okNs N) (hs : okSm N s) : mComp 2 [] (hTup [0, 1]) partsI mTrue (mVar 1) ⟨some (smT s, false) :: r, sto⟩ = some (.lst ((qs s.2).map fun q => .int q.2), ⟨some (smT s, false) :: r, sto⟩) := by
  have hl := sm_len hN hs
  rw [← qs_ints]
  refine mComp_map pT (fun p => .int p.2) s.2 (s1 := ⟨some (smT s, false) :: r, sto⟩) _ [] (by unfold smT; simp [runFn, sSeq, sIf, sSet, sNew, sRet, sNil, sNx, sRetOwn, sGo, sReverse, sFor, sAppend, sExtend, lstAt, mTest, mNot, mAnd, mOr, mBool, mIf, mOp, mUn, mVar, mMap, mCons, mNil, mPure, mStrs, mCall, putSlot, hName, hTup, iRange, iSeq, ltT, leT, lenT, addT, subT, modT, fdivT, negT, absT, seqOf, mTrue, freezeAt, thaw, item1t, hl]) rfl rfl rfl (Nat.le_of_lt hl) ?_
  intro p hp pre hpre
  obtain ⟨a, b, rfl⟩ : ∃ a b, pre = [a, b] := by
    match pre, hpre with
    | [a, b], _ => exact ⟨a, b, rfl⟩
  refine ⟨[some (.str p.1, false), some (.int p.2, false)], rfl, by unfold pT; rw [hTup2]; rfl, rfl, ?_⟩
  simp [runFn, sSeq, sIf, sSet, sNew, sRet, sNil, sNx, sRetOwn, sGo, sReverse, sFor, sAppend, sExtend, lstAt, mTest, mNot, mAnd, mOr, mBool, mIf, mOp, mUn, mVar, mMap, mCons, mNil, mPure, mStrs, mCall, putSlot, hName, hTup, iRange, iSeq, ltT, leT, lenT, addT, subT, modT, fdivT, negT, absT, seqOf, mTrue, freezeAt, thaw]
noncomputable abbrev lastI : S := sIf (mOr (mTest (mOp neO (mOp itemT (mVar 0) (mPure (.int 0))) (mPure (.int 0)))) (mTest (mOp eqO (mOwnLen 1) (mPure (.int 0)))))
  (sSeq (sAppend 1 (mMap strT (mCons (mMap absT (mCons (mOp itemT (mVar 0) (mPure (.int 0))) mNil)) mNil)))
  (sAppend 2 (mOp itemT (mVar 0) (mPure (.int 0)))))
  sNil
theorem last_is {s : Sm} (hN : okNs N) (hs : okSm N s) : lastI ⟨[some (smT s, false), some (.lst ((qs s.2).map fun q => .str q.1), true), some (.lst ((qs s.2).map fun q => .int q.2), true), none, none, none], sto⟩
    = some (.next, ⟨[some (smT s, false), some (.lst ((nums s).map fun q => .str q.1), true), some (.lst ((nums s).map fun q => .int q.2), true), none, none, none], sto⟩) := by
  have hl := sm_len hN hs
  have lq : (qs s.2).length < lim := by simpa [qs] using hl
  have ⟨a0, a1⟩ := ab_lt hs.2.1 hs.2.2
  have si := str_i (i := ab s.1) (by omega) (by omega)
  have q0 : (qs s.2).length = s.2.length := by simp [qs]
  have ei : absT [.int s.1] = some (.int (ab s.1)) := rfl
  unfold ab at si
  by_cases c0 : s.1 = 0
  · by_cases n0 : s.2 = []
    · have e : nums s = qs s.2 ++ [(num (ab s.1), s.1)] := if_pos (.inr n0)
      have z : ((qs s.2).length : Int) = 0 := by rw [q0, n0]; rfl
      rw [e]
      unfold lastI smT ab
      simp [runFn, sSeq, sIf, sSet, sNew, sRet, sNil, sNx, sRetOwn, sGo, sReverse, sFor, sAppend, sExtend, lstAt, mTest, mNot, mAnd, mOr, mBool, mIf, mOp, mUn, mVar, mMap, mCons, mNil, mPure, mStrs, mCall, putSlot, hName, hTup, iRange, iSeq, ltT, leT, lenT, addT, subT, modT, fdivT, negT, absT, seqOf, mTrue, freezeAt, thaw, item0t, neO_int, c0, eqO_int, mOwnLen, z, si, lq]
      simp [c0] at si
      simp [runFn, sSeq, sIf, sSet, sNew, sRet, sNil, sNx, sRetOwn, sGo, sReverse, sFor, sAppend, sExtend, lstAt, mTest, mNot, mAnd, mOr, mBool, mIf, mOp, mUn, mVar, mMap, mCons, mNil, mPure, mStrs, mCall, putSlot, hName, hTup, iRange, iSeq, ltT, leT, lenT, addT, subT, modT, fdivT, negT, absT, seqOf, mTrue, freezeAt, thaw, si, lq, item0t]
    · have e : nums s = qs s.2 := if_neg (fun h => h.elim (fun z => z c0) n0)
      have z : (((qs s.2).length : Int) == 0) = false := beq_eq_false_iff_ne.mpr (by
        have := List.length_pos_iff.mpr n0
        omega)
      rw [e]
      unfold lastI smT
      simp [runFn, sSeq, sIf, sSet, sNew, sRet, sNil, sNx, sRetOwn, sGo, sReverse, sFor, sAppend, sExtend, lstAt, mTest, mNot, mAnd, mOr, mBool, mIf, mOp, mUn, mVar, mMap, mCons, mNil, mPure, mStrs, mCall, putSlot, hName, hTup, iRange, iSeq, ltT, leT, lenT, addT, subT, modT, fdivT, negT, absT, seqOf, mTrue, freezeAt, thaw, item0t, neO_int, c0, eqO_int, mOwnLen, z]
  · have e : nums s = qs s.2 ++ [(num (ab s.1), s.1)] := if_pos (.inl c0)
    have b : (s.1 == 0) = false := beq_eq_false_iff_ne.mpr c0
    rw [e]
    unfold lastI smT ab
    simp [runFn, sSeq, sIf, sSet, sNew, sRet, sNil, sNx, sRetOwn, sGo, sReverse, sFor, sAppend, sExtend, lstAt, mTest, mNot, mAnd, mOr, mBool, mIf, mOp, mUn, mVar, mMap, mCons, mNil, mPure, mStrs, mCall, putSlot, hName, hTup, iRange, iSeq, ltT, leT, lenT, addT, subT, modT, fdivT, negT, absT, seqOf, mTrue, freezeAt, thaw, item0t, neO_int, b, si, lq]
theorem show_sum {s : Sm} (hN : okNs N) (hs : okSm N s) : m_show_sum [smT s] sto = some (.str (sumX s), sto) := by
  obtain ⟨_, q1, q2⟩ := nums_ok hN hs
  have ln : (nums s).length < lim := by show _ < 1000000; omega
  have z : ("" : Str).length = 0 := by decide +kernel
  obtain ⟨u, v, e⟩ := glue_loop (sto := sto) (a := some (smT s, false)) (b := some (.lst ((nums s).map fun q => .str q.1), false)) (c := some (.lst ((nums s).map fun q => .int q.2), false)) (nums s) "" none none q1 (okS_of _) (by omega)
  unfold m_show_sum runFn
  have A : ∀ r : List Slot, sNew 1 (mComp 2 [] (hTup [0, 1]) partsI mTrue (mCall m_show_part (mCons (mVar 0) (mCons (mMap absT (mCons (mVar 1) mNil)) mNil)))) ⟨[some (smT s, false), none, none, none, none, none], sto⟩ = some (.next, ⟨[some (smT s, false), some (.lst ((qs s.2).map fun q => .str q.1), true), none, none, none, none], sto⟩) := fun _ => by
    unfold sNew; rw [comp1 hN hs]; rfl
  have B : sNew 2 (mComp 2 [] (hTup [0, 1]) partsI mTrue (mVar 1)) ⟨[some (smT s, false), some (.lst ((qs s.2).map fun q => .str q.1), true), none, none, none, none], sto⟩ = some (.next, ⟨[some (smT s, false), some (.lst ((qs s.2).map fun q => .str q.1), true), some (.lst ((qs s.2).map fun q => .int q.2), true), none, none, none], sto⟩) := by
    unfold sNew; rw [comp2 hN hs]; rfl
  have Z : iZip (mVar 1) (mVar 2) ⟨[some (smT s, false), some (.lst ((nums s).map fun q => .str q.1), true), some (.lst ((nums s).map fun q => .int q.2), true), some (.str "", false), none, none], sto⟩ = some ((nums s).map pT, ⟨[some (smT s, false), some (.lst ((nums s).map fun q => .str q.1), false), some (.lst ((nums s).map fun q => .int q.2), false), some (.str "", false), none, none], sto⟩) := by
    rw [← zip_q]
    simp [runFn, sSeq, sIf, sSet, sNew, sRet, sNil, sNx, sRetOwn, sGo, sReverse, sFor, sAppend, sExtend, lstAt, mTest, mNot, mAnd, mOr, mBool, mIf, mOp, mUn, mVar, mMap, mCons, mNil, mPure, mStrs, mCall, putSlot, hName, hTup, iRange, iSeq, ltT, leT, lenT, addT, subT, modT, fdivT, negT, absT, seqOf, mTrue, freezeAt, thaw, iZip, ln]
  have F : sFor (hTup [4, 5]) (iZip (mVar 1) (mVar 2)) glueB ⟨[some (smT s, false), some (.lst ((nums s).map fun q => .str q.1), true), some (.lst ((nums s).map fun q => .int q.2), true), some (.str "", false), none, none], sto⟩ = some (.next, ⟨[some (smT s, false), some (.lst ((nums s).map fun q => .str q.1), false), some (.lst ((nums s).map fun q => .int q.2), false), some (.str (sumX s), false), u, v], sto⟩) := by
    unfold sFor; rw [Z]; exact e
  show (match sSeq _ _ ⟨[some (smT s, false), none, none, none, none, none], sto⟩ with | some (.ret t, s) => some (t, s.sto) | some (.next, s) => some (.non, s.sto) | _ => none) = _
  rw [seq_step (A []), seq_step B, seq_step (last_is hN hs), seq_step (a := sSet 3 (mPure (.str ""))) (s' := ⟨[some (smT s, false), some (.lst ((nums s).map fun q => .str q.1), true), some (.lst ((nums s).map fun q => .int q.2), true), some (.str "", false), none, none], sto⟩) rfl, seq_step F]
  rfl
end
end K
end
noncomputable section
set_option linter.all false
set_option maxRecDepth 100000
set_option autoImplicit false
namespace K
open C PySem
noncomputable section
variable {N H : List Str} {sto : List SO}
theorem mul_m {b : Bool} : mulT (.str "-") (.int (if b then 1 else 0)) = some (.str (sg true b)) := by
  have q : ("-" : Str) = ⟨#[45]⟩ := by decide +kernel
  have h := mul_1 (c := 45) (j := if b then 1 else 0) (by split <;> decide) (by split <;> decide)
  rw [← q] at h
  rw [h]
  cases b
  · exact congrArg (fun x => some (T.str x)) (show rep1 45 0 = ("" : Str) by decide +kernel)
  · exact congrArg (fun x => some (T.str x)) (show rep1 45 1 = ("-" : Str) by decide +kernel)
theorem item_s {b : Bool} : itemT (.lst [.str " + ", .str " - "]) (.int (if b then 1 else 0)) = some (.str (sg false b)) := by cases b <;> rfl
noncomputable abbrev lawB : S := sSeq (sSet 4 (mVar 2))
  (sSeq (sIf (mTest (mOp neO (mMap absT (mCons (mVar 3) mNil)) (mPure (.int 1))))
  (sSet 4 (mOp addT (mOp addT (mMap strT (mCons (mMap absT (mCons (mVar 3) mNil)) mNil)) (mPure (.str " * "))) (mVar 2)))
  sNil)
  (sIf (mTest (mOp eqO (mVar 1) (mPure (.str ""))))
  (sSet 1 (mOp addT (mOp mulT (mPure (.str "-")) (mMap intT (mCons (mOp ltT (mVar 3) (mPure (.int 0))) mNil))) (mVar 4)))
  (sSet 1 (mOp addT (mOp addT (mVar 1) (mOp itemT (mMap (fun l => some (.lst l)) (mCons (mPure (.str " + ")) (mCons (mPure (.str " - ")) mNil))) (mMap intT (mCons (mOp ltT (mVar 3) (mPure (.int 0))) mNil)))) (mVar 4)))))
theorem law_body {a : Slot} {p : Str × Int} {t : Str} {w : Slot} (hx : okN p.1) (h0 : -1000000000 < p.2) (h1 : p.2 < 1000000000) (ht : okS t) (hn : t.length ≤ 420) :
    lawB ⟨[a, some (.str t, false), some (.str p.1, false), some (.int p.2, false), w], sto⟩ = some (.next, ⟨[a, some (.str (gl t (piece p, p.2)), false), some (.str p.1, false), some (.int p.2, false), some (.str (piece p), false)], sto⟩) := by
  obtain ⟨p1, p2⟩ := p
  have pq := piece_ok hx h0 h1
  obtain ⟨o1, o2, o3⟩ := hx
  simp only at o1 o2 o3 h0 h1
  have ⟨a0, a1⟩ := ab_lt h0 h1
  have nl := num_len (i := ab p2) (by omega) (by omega)
  have l3 : (" * " : Str).length = 3 := by decide +kernel
  have si := str_i (i := ab p2) (by omega) (by omega)
  have e1 := eqO_str ht (okS_of "")
  have pl := pq.2.1
  simp only at pl
  have sl := sg_len true (decide (p2 < 0))
  have sl' := sg_len false (decide (p2 < 0))
  have ne : absT [.int p2] = some (.int (ab p2)) := rfl
  have A : sSet 4 (mVar 2) ⟨[a, some (.str t, false), some (.str p1, false), some (.int p2, false), w], sto⟩ = some (.next, ⟨[a, some (.str t, false), some (.str p1, false), some (.int p2, false), some (.str p1, false)], sto⟩) := rfl
  have B : sIf (mTest (mOp neO (mMap absT (mCons (mVar 3) mNil)) (mPure (.int 1))))
      (sSet 4 (mOp addT (mOp addT (mMap strT (mCons (mMap absT (mCons (mVar 3) mNil)) mNil)) (mPure (.str " * "))) (mVar 2))) sNil
      ⟨[a, some (.str t, false), some (.str p1, false), some (.int p2, false), some (.str p1, false)], sto⟩ = some (.next, ⟨[a, some (.str t, false), some (.str p1, false), some (.int p2, false), some (.str (piece (p1, p2)), false)], sto⟩) := by
    have b1 : (num (ab p2)).length + (" * " : Str).length < lim := by show _ < 1000000; omega
    have b2 : (num (ab p2) ++ (" * " : Str)).length + p1.length < lim := by rw [len_app]; show _ < 1000000; omega
    unfold piece
    by_cases c : ab p2 = 1
    · rw [if_pos c]
      unfold ab at c
      simp [runFn, sSeq, sIf, sSet, sNew, sRet, sNil, sNx, sRetOwn, sGo, sReverse, sFor, sAppend, sExtend, lstAt, mTest, mNot, mAnd, mOr, mBool, mIf, mOp, mUn, mVar, mMap, mCons, mNil, mPure, mStrs, mCall, putSlot, hName, hTup, iRange, iSeq, ltT, leT, lenT, addT, subT, modT, fdivT, negT, absT, seqOf, mTrue, freezeAt, thaw, neO_int, c]
    · rw [if_neg c]
      have c' : (ab p2 == 1) = false := beq_eq_false_iff_ne.mpr c
      unfold ab at c' si b1 b2 ⊢
      simp [runFn, sSeq, sIf, sSet, sNew, sRet, sNil, sNx, sRetOwn, sGo, sReverse, sFor, sAppend, sExtend, lstAt, mTest, mNot, mAnd, mOr, mBool, mIf, mOp, mUn, mVar, mMap, mCons, mNil, mPure, mStrs, mCall, putSlot, hName, hTup, iRange, iSeq, ltT, leT, lenT, addT, subT, modT, fdivT, negT, absT, seqOf, mTrue, freezeAt, thaw, neO_int, c', si, b1, b2]
  have e4 : ∀ b : Bool, intT [.bl b] = some (.int (if b then 1 else 0)) := fun b => rfl
  have C' : sIf (mTest (mOp eqO (mVar 1) (mPure (.str ""))))
      (sSet 1 (mOp addT (mOp mulT (mPure (.str "-")) (mMap intT (mCons (mOp ltT (mVar 3) (mPure (.int 0))) mNil))) (mVar 4)))
      (sSet 1 (mOp addT (mOp addT (mVar 1) (mOp itemT (mMap (fun l => some (.lst l)) (mCons (mPure (.str " + ")) (mCons (mPure (.str " - ")) mNil))) (mMap intT (mCons (mOp ltT (mVar 3) (mPure (.int 0))) mNil)))) (mVar 4)))
      ⟨[a, some (.str t, false), some (.str p1, false), some (.int p2, false), some (.str (piece (p1, p2)), false)], sto⟩ = some (.next, ⟨[a, some (.str (gl t (piece (p1, p2), p2)), false), some (.str p1, false), some (.int p2, false), some (.str (piece (p1, p2)), false)], sto⟩) := by
    generalize piece (p1, p2) = y at pl
    have m1 := mul_m (b := decide (p2 < 0))
    have m2 := item_s (b := decide (p2 < 0))
    unfold gl
    by_cases c : t = ("" : Str)
    · have c' : (t == ("" : Str)) = true := by rw [c]; exact beq_self_eq_true _
      rw [c']
      have b1 : (sg true (decide (p2 < 0))).length + y.length < lim := by show _ < 1000000; omega
      rw [c'] at e1
      have eg : t ++ sg true (decide (p2 < 0)) ++ y = sg true (decide (p2 < 0)) ++ y := by rw [c, e_app]
      simp only at eg ⊢
      rw [eg]
      simp only [sIf, mTest, mOp, mVar, mPure, mMap, mCons, mNil, sSet, ltT, List.getElem?_cons_zero, List.getElem?_cons_succ, e1, mBool, e4, m1, addT, b1, if_true, List.set_cons_succ, List.set_cons_zero]
      rfl
    · have c' : (t == ("" : Str)) = false := beq_eq_false_iff_ne.mpr c
      rw [c']
      rw [c'] at e1
      have b1 : t.length + (sg false (decide (p2 < 0))).length < lim := by show _ < 1000000; omega
      have b2 : (t ++ sg false (decide (p2 < 0))).length + y.length < lim := by rw [len_app]; show _ < 1000000; omega
      simp only [sIf, mTest, mOp, mVar, mPure, mMap, mCons, mNil, sSet, ltT, List.getElem?_cons_zero, List.getElem?_cons_succ, e1, mBool, e4, m2, addT, b1, b2, if_true, List.set_cons_succ, List.set_cons_zero]
      rfl
  unfold lawB
  rw [seq_step A, seq_step B, C']
theorem law_loop {a : Slot} : ∀ (l : List (Str × Int)) (t : Str) (u v w : Slot), (∀ p ∈ l, okN p.1 ∧ -1000000000 < p.2 ∧ p.2 < 1000000000) → okS t → t.length + 60 * l.length ≤ 420 →
    ∃ u' v' w', forL (hTup [2, 3]) lawB (l.map pT) ⟨[a, some (.str t, false), u, v, w], sto⟩ = some (.next, ⟨[a, some (.str ((qs l).foldl gl t), false), u', v', w'], sto⟩)
  | [], t, u, v, w, _, _, _ => ⟨u, v, w, by simp [forL, qs]⟩
  | p :: l, t, u, v, w, hl, ht, hn => by
    obtain ⟨hx, h0, h1⟩ := hl p List.mem_cons_self
    have hq := piece_ok hx h0 h1
    have gq := gl_len t (piece p, p.2)
    have q2 := hq.2.1
    rw [List.length_cons] at hn
    obtain ⟨u', v', w', ih⟩ := law_loop (a := a) l (gl t (piece p, p.2)) (some (.str p.1, false)) (some (.int p.2, false)) (some (.str (piece p), false)) (fun x hx => hl x (List.mem_cons_of_mem _ hx)) (gl_ok ht hq) (by omega)
    refine ⟨u', v', w', ?_⟩
    have e : (qs (p :: l)).foldl gl t = (qs l).foldl gl (gl t (piece p, p.2)) := rfl
    rw [List.map_cons, e, ← ih]
    exact fl_next (s1 := ⟨[a, some (.str t, false), some (.str p.1, false), some (.int p.2, false), w], sto⟩) (by unfold pT; exact hTup2) (law_body hx h0 h1 ht (by omega))
theorem sg_num (i : Int) : sg true (decide (i < 0)) ++ num (ab i) = num i := by
  unfold ab
  by_cases h : i < 0
  · rw [num_neg h]; simp [sg, h]
  · simp only [sg, h, decide_false, if_false, if_true]
    exact e_app _
theorem law_sum_text {s : Sm} (hN : okNs N) (hs : okSm N s) : m_law_sum_text [smT s] sto = some (.str (sumX s), sto) := by
  have hl := sm_len hN hs
  obtain ⟨q0, q1, q2⟩ := nums_ok hN hs
  have z : ("" : Str).length = 0 := by decide +kernel
  have n6 : s.2.length ≤ 6 := Nat.le_trans hs.1.1 hN.1
  obtain ⟨u, v, w, e⟩ := law_loop (sto := sto) (a := some (smT s, false)) s.2 "" none none none (fun p hp => ⟨hN.2 _ (hs.1.2 p hp).1, (hs.1.2 p hp).2⟩) (okS_of _) (by omega)
  obtain ⟨g1, g2, g3⟩ := glue_ok (qs s.2) "" q0 (okS_of _)
  have lq : (qs s.2).length = s.2.length := by simp [qs]
  have F : sFor (hTup [2, 3]) partsI lawB ⟨[some (smT s, false), some (.str "", false), none, none, none], sto⟩ = some (.next, ⟨[some (smT s, false), some (.str ((qs s.2).foldl gl ""), false), u, v, w], sto⟩) := by
    have I : partsI ⟨[some (smT s, false), some (.str "", false), none, none, none], sto⟩ = some (s.2.map pT, ⟨[some (smT s, false), some (.str "", false), none, none, none], sto⟩) := by unfold smT partsI; simp [runFn, sSeq, sIf, sSet, sNew, sRet, sNil, sNx, sRetOwn, sGo, sReverse, sFor, sAppend, sExtend, lstAt, mTest, mNot, mAnd, mOr, mBool, mIf, mOp, mUn, mVar, mMap, mCons, mNil, mPure, mStrs, mCall, putSlot, hName, hTup, iRange, iSeq, ltT, leT, lenT, addT, subT, modT, fdivT, negT, absT, seqOf, mTrue, freezeAt, thaw, item1t, hl]
    unfold sFor; rw [I]; exact e
  have ⟨a0, a1⟩ := ab_lt hs.2.1 hs.2.2
  have nl := num_len (i := ab s.1) (by omega) (by omega)
  have si := str_i (i := s.1) (by have := hs.2.1; omega) (by have := hs.2.2; omega)
  have sa := str_i (i := ab s.1) (by omega) (by omega)
  have e4 : ∀ b : Bool, intT [.bl b] = some (.int (if b then 1 else 0)) := fun b => rfl
  have ea : absT [.int s.1] = some (.int (ab s.1)) := rfl
  unfold m_law_sum_text runFn
  show (match sSeq (sSet 1 (mPure (.str ""))) _ ⟨[some (smT s, false), none, none, none, none], sto⟩ with | some (.ret t, s) => some (t, s.sto) | some (.next, s) => some (.non, s.sto) | _ => none) = _
  rw [seq_step (a := sSet 1 (mPure (.str ""))) (s' := ⟨[some (smT s, false), some (.str "", false), none, none, none], sto⟩) rfl, seq_step F]
  have i0 : itemT (smT s) (.int 0) = some (.int s.1) := item0t
  have eq := eqO_str g1 (okS_of "")
  have n0 := eqO_int (a := s.1) (b := 0)
  by_cases hp : s.2 = []
  · have E : (qs s.2).foldl gl "" = "" := by rw [hp]; rfl
    have X : sumX s = num s.1 := by
      unfold sumX
      rw [show nums s = qs s.2 ++ [(num (ab s.1), s.1)] from if_pos (.inr hp), List.foldl_append, E]
      show gl "" _ = _
      unfold gl
      rw [e_app]
      exact sg_num s.1
    rw [X]
    rw [E] at eq ⊢
    have b : (("" : Str) == ("" : Str)) = true := beq_self_eq_true _
    rw [b] at eq
    simp only [sSeq, sIf, sRet, mTest, mOp, mVar, mPure, mMap, mCons, mNil, List.getElem?_cons_zero, List.getElem?_cons_succ, eq, mBool, i0, si]
  · have ln : qs s.2 ≠ [] := fun h => hp (by have := congrArg List.length h; rw [lq] at this; exact List.length_eq_zero_iff.mp this)
    have pos := g3 ln
    have b : ((qs s.2).foldl gl "" == ("" : Str)) = false := beq_eq_false_iff_ne.mpr (fun h => by rw [h] at pos; omega)
    rw [b] at eq
    by_cases c0 : s.1 = 0
    · have X : sumX s = (qs s.2).foldl gl "" := by
        unfold sumX
        rw [show nums s = qs s.2 from if_neg (fun h => h.elim (fun z => z c0) hp)]
      rw [X]
      have c : (s.1 == 0) = true := by rw [c0]; rfl
      rw [c] at n0
      simp only [sSeq, sIf, sRet, sNil, mTest, mOp, mVar, mPure, mMap, mCons, mNil, List.getElem?_cons_zero, List.getElem?_cons_succ, eq, mBool, i0, n0]
    · have X : sumX s = gl ((qs s.2).foldl gl "") (num (ab s.1), s.1) := by
        unfold sumX
        rw [show nums s = qs s.2 ++ [(num (ab s.1), s.1)] from if_pos (.inl c0), List.foldl_append]
        rfl
      have c : (s.1 == 0) = false := beq_eq_false_iff_ne.mpr c0
      rw [c] at n0
      rw [X]
      have m2 := item_s (b := decide (s.1 < 0))
      have sl := sg_len false (decide (s.1 < 0))
      clear X F e
      generalize (qs s.2).foldl gl "" = t at *
      unfold gl
      rw [b]
      have b1 : t.length + (sg false (decide (s.1 < 0))).length < lim := by show _ < 1000000; omega
      have b2 : (t ++ sg false (decide (s.1 < 0))).length + (num (ab s.1)).length < lim := by rw [len_app]; show _ < 1000000; omega
      simp only [sSeq, sIf, sRet, sNil, mTest, mOp, mVar, mPure, mMap, mCons, mNil, List.getElem?_cons_zero, List.getElem?_cons_succ, eq, mBool, i0, n0, ltT, e4, m2, addT, b1, b2, if_true, ea, sa]
end
end K
end
noncomputable section
set_option linter.all false
set_option maxRecDepth 100000
set_option autoImplicit false
namespace K
open C PySem
theorem eqC {a b : Str} {c : Bool} (h : (PyData.canLay0 (.str a) && PyData.canLay0 (.str b) && ((a == b) == c)) = true) : eqO (.str a) (.str b) = some (.bl c) := by
  simp only [Bool.and_eq_true, beq_iff_eq] at h
  rw [eqO_str h.1.1 h.1.2, h.2]
theorem inC {w a b : Str} {c : Bool} (h : (PyData.canLay0 (.str w) && PyData.canLay0 (.str a) && PyData.canLay0 (.str b) && ((a == w || b == w) == c)) = true) : inT (.str w) (.tup [.str a, .str b]) = some (.bl c) := by
  simp only [Bool.and_eq_true, beq_iff_eq] at h
  obtain ⟨⟨⟨h1, h2⟩, h3⟩, h4⟩ := h -- here
  simp [inT, inL, eqD, dat, h1, h2, h3, PyData.depth, PyData.eqv, ← h4]
theorem inC1 {w a : Str} {c : Bool} (h : (PyData.canLay0 (.str w) && PyData.canLay0 (.str a) && ((a == w) == c)) = true) : inT (.str w) (.tup [.str a]) = some (.bl c) := by
  simp only [Bool.and_eq_true, beq_iff_eq] at h
  obtain ⟨⟨h1, h2⟩, h4⟩ := h
  simp [inT, inL, eqD, dat, h1, h2, PyData.depth, PyData.eqv, ← h4]
theorem e_most_most : eqO (.str "most") (.str "most") = some (.bl true) := eqC (by decide +kernel)
theorem e_most_rest : eqO (.str "most") (.str "rest") = some (.bl false) := eqC (by decide +kernel)
theorem e_most_at : eqO (.str "most") (.str "at") = some (.bl false) := eqC (by decide +kernel)
theorem e_most_not : eqO (.str "most") (.str "not") = some (.bl false) := eqC (by decide +kernel)
theorem e_most_and : eqO (.str "most") (.str "and") = some (.bl false) := eqC (by decide +kernel)
theorem e_most_or : eqO (.str "most") (.str "or") = some (.bl false) := eqC (by decide +kernel)
theorem i_most : inT (.str "most") (.tup [.str "and", .str "or"]) = some (.bl false) := inC (by decide +kernel)
theorem k_most : inT (.str "most") (.tup [.str "or"]) = some (.bl false) := inC1 (by decide +kernel)
theorem e_rest_most : eqO (.str "rest") (.str "most") = some (.bl false) := eqC (by decide +kernel)
theorem e_rest_rest : eqO (.str "rest") (.str "rest") = some (.bl true) := eqC (by decide +kernel)
theorem e_rest_at : eqO (.str "rest") (.str "at") = some (.bl false) := eqC (by decide +kernel)
theorem e_rest_not : eqO (.str "rest") (.str "not") = some (.bl false) := eqC (by decide +kernel)
theorem e_rest_and : eqO (.str "rest") (.str "and") = some (.bl false) := eqC (by decide +kernel)
theorem e_rest_or : eqO (.str "rest") (.str "or") = some (.bl false) := eqC (by decide +kernel)
theorem i_rest : inT (.str "rest") (.tup [.str "and", .str "or"]) = some (.bl false) := inC (by decide +kernel)
theorem k_rest : inT (.str "rest") (.tup [.str "or"]) = some (.bl false) := inC1 (by decide +kernel)
theorem e_at_most : eqO (.str "at") (.str "most") = some (.bl false) := eqC (by decide +kernel)
theorem e_at_rest : eqO (.str "at") (.str "rest") = some (.bl false) := eqC (by decide +kernel)
theorem e_at_at : eqO (.str "at") (.str "at") = some (.bl true) := eqC (by decide +kernel)
theorem e_at_not : eqO (.str "at") (.str "not") = some (.bl false) := eqC (by decide +kernel)
theorem e_at_and : eqO (.str "at") (.str "and") = some (.bl false) := eqC (by decide +kernel)
theorem e_at_or : eqO (.str "at") (.str "or") = some (.bl false) := eqC (by decide +kernel)
theorem i_at : inT (.str "at") (.tup [.str "and", .str "or"]) = some (.bl false) := inC (by decide +kernel)
theorem k_at : inT (.str "at") (.tup [.str "or"]) = some (.bl false) := inC1 (by decide +kernel)
theorem e_not_most : eqO (.str "not") (.str "most") = some (.bl false) := eqC (by decide +kernel)
theorem e_not_rest : eqO (.str "not") (.str "rest") = some (.bl false) := eqC (by decide +kernel)
theorem e_not_at : eqO (.str "not") (.str "at") = some (.bl false) := eqC (by decide +kernel)
theorem e_not_not : eqO (.str "not") (.str "not") = some (.bl true) := eqC (by decide +kernel)
theorem e_not_and : eqO (.str "not") (.str "and") = some (.bl false) := eqC (by decide +kernel)
theorem e_not_or : eqO (.str "not") (.str "or") = some (.bl false) := eqC (by decide +kernel)
theorem i_not : inT (.str "not") (.tup [.str "and", .str "or"]) = some (.bl false) := inC (by decide +kernel)
theorem k_not : inT (.str "not") (.tup [.str "or"]) = some (.bl false) := inC1 (by decide +kernel)
theorem e_and_most : eqO (.str "and") (.str "most") = some (.bl false) := eqC (by decide +kernel)
theorem e_and_rest : eqO (.str "and") (.str "rest") = some (.bl false) := eqC (by decide +kernel)
theorem e_and_at : eqO (.str "and") (.str "at") = some (.bl false) := eqC (by decide +kernel)
theorem e_and_not : eqO (.str "and") (.str "not") = some (.bl false) := eqC (by decide +kernel)
theorem e_and_and : eqO (.str "and") (.str "and") = some (.bl true) := eqC (by decide +kernel)
theorem e_and_or : eqO (.str "and") (.str "or") = some (.bl false) := eqC (by decide +kernel)
theorem i_and : inT (.str "and") (.tup [.str "and", .str "or"]) = some (.bl true) := inC (by decide +kernel)
theorem k_and : inT (.str "and") (.tup [.str "or"]) = some (.bl false) := inC1 (by decide +kernel)
theorem e_or_most : eqO (.str "or") (.str "most") = some (.bl false) := eqC (by decide +kernel)
theorem e_or_rest : eqO (.str "or") (.str "rest") = some (.bl false) := eqC (by decide +kernel)
theorem e_or_at : eqO (.str "or") (.str "at") = some (.bl false) := eqC (by decide +kernel)
theorem e_or_not : eqO (.str "or") (.str "not") = some (.bl false) := eqC (by decide +kernel)
theorem e_or_and : eqO (.str "or") (.str "and") = some (.bl false) := eqC (by decide +kernel)
theorem e_or_or : eqO (.str "or") (.str "or") = some (.bl true) := eqC (by decide +kernel)
theorem i_or : inT (.str "or") (.tup [.str "and", .str "or"]) = some (.bl true) := inC (by decide +kernel)
theorem k_or : inT (.str "or") (.tup [.str "or"]) = some (.bl true) := inC1 (by decide +kernel)
noncomputable section
variable {N H : List Str} {sto : List SO}
theorem Pl.up {n m : Nat} {t : T} (h : Pl n t) (hm : n ≤ m) : Pl m t := by
  obtain ⟨d, a, b⟩ := h
  exact ⟨d, a, Nat.le_trans b hm⟩
theorem pl_sm {s : Sm} (hN : okNs N) (hs : okSm N s) : Pl 3 (smT s) := by
  unfold smT
  refine pl_tup fun t ht => ?_
  simp only [List.mem_cons, List.not_mem_nil, or_false] at ht
  rcases ht with rfl | rfl
  · exact pl_int _ _
  · refine pl_tup fun t ht => ?_
    obtain ⟨p, hp, rfl⟩ := List.mem_map.mp ht
    unfold pT
    refine pl_tup fun t ht => ?_
    simp only [List.mem_cons, List.not_mem_nil, or_false] at ht
    rcases ht with rfl | rfl
    · exact pl_str _ (hN.2 _ (hs.1.2 p hp).1).1
    · exact pl_int _ _
theorem pl_rem (hN : okNs N) (hH : okHs H) {d : Nat} {r : Rem} (h : OkR N H d r) : Pl (4 + 2 * d) (remT r) := by
  induction h with
  | most h =>
    unfold remT
    refine Pl.up (pl_tup (n := 3) fun t ht => ?_) (by omega)
    simp only [List.mem_cons, List.not_mem_nil, or_false] at ht
    rcases ht with rfl | rfl
    · exact pl_str _ (okS_of _)
    · exact pl_sm hN h
  | rest h a b =>
    unfold remT
    refine Pl.up (pl_tup (n := 3) fun t ht => ?_) (by omega)
    simp only [List.mem_cons, List.not_mem_nil, or_false] at ht
    rcases ht with rfl | rfl | rfl
    · exact pl_str _ (okS_of _)
    · exact pl_sm hN h
    · exact pl_int _ _
  | pl h a b =>
    unfold remT
    refine Pl.up (pl_tup (n := 3) fun t ht => ?_) (by omega)
    simp only [List.mem_cons, List.not_mem_nil, or_false] at ht
    rcases ht with rfl | rfl | rfl
    · exact pl_str _ (okS_of _)
    · exact pl_str _ (hH.2 _ h).1
    · exact pl_int _ _
  | @all d l hl _ ih =>
    unfold remT
    rw [remsT_map]
    refine Pl.up (pl_tup (n := 4 + 2 * d + 1) fun t ht => ?_) (by omega)
    simp only [List.mem_cons, List.not_mem_nil, or_false] at ht
    rcases ht with rfl | rfl
    · exact pl_str _ (okS_of _)
    · refine pl_tup fun t ht => ?_
      obtain ⟨p, hp, rfl⟩ := List.mem_map.mp ht
      exact ih p hp
  | @any d l hl _ ih =>
    unfold remT
    rw [remsT_map]
    refine Pl.up (pl_tup (n := 4 + 2 * d + 1) fun t ht => ?_) (by omega)
    simp only [List.mem_cons, List.not_mem_nil, or_false] at ht
    rcases ht with rfl | rfl
    · exact pl_str _ (okS_of _)
    · refine pl_tup fun t ht => ?_
      obtain ⟨p, hp, rfl⟩ := List.mem_map.mp ht
      exact ih p hp
  | @no d r _ ih =>
    unfold remT
    refine Pl.up (pl_tup (n := 4 + 2 * d) fun t ht => ?_) (by omega)
    simp only [List.mem_cons, List.not_mem_nil, or_false] at ht
    rcases ht with rfl | rfl
    · exact pl_str _ (okS_of _)
    · exact ih
theorem eqT_nil {n : Nat} {ts : List T} (h : Pl n (.tup ts)) (hn : n ≤ 40) : eqT (.tup ts) (.tup []) = some ts.isEmpty := by
  obtain ⟨d, a, b⟩ := h
  cases ts with
  | nil => simp [eqT, eqD, dat, dats, PyData.depth, PyData.depthAll, PyData.eqv, PyData.eqvAll]
  | cons t r =>
    simp only [dat, dats] at a
    cases ht : dat t with
    | none => rw [ht] at a; cases a
    | some x =>
      cases hr : dats r with
      | none => rw [ht, hr] at a; cases a
      | some y =>
        rw [ht, hr] at a
        cases a
        have : (PyData.tuple (x :: y)).depth ≤ 40 := Nat.le_trans b hn
        simp [eqT, eqD, dat, dats, ht, hr, this, PyData.eqv, PyData.eqvAll]
theorem eq_nil {d : Nat} {l : List Rem} (hN : okNs N) (hH : okHs H) (h : ∀ r ∈ l, OkR N H d r) (hd : d ≤ 10) : eqO (.tup (l.map remT)) (.tup []) = some (.bl l.isEmpty) ∧ neO (.tup (l.map remT)) (.tup []) = some (.bl (!l.isEmpty)) := by
  have e : Pl (4 + 2 * d + 1) (.tup (l.map remT)) := pl_tup fun t ht => by
    obtain ⟨p, hp, rfl⟩ := List.mem_map.mp ht
    exact pl_rem hN hH (h p hp)
  have e2 := eqT_nil e (by omega)
  have e3 : (l.map remT).isEmpty = l.isEmpty := by cases l <;> rfl
  rw [e3] at e2
  exact ⟨by simp [eqO, e2], by simp [neO, e2]⟩
noncomputable def rk : Rem → Int
  | .any (_ :: _) => 1
  | .all (_ :: _) => 2
  | _ => 3
noncomputable def br (k : Int) (r : Rem) (t : Str) : Str := if rk r < k then ("[" : Str) ++ t ++ "]" else t
mutual
noncomputable def tx : Rem → Str
  | .most s => sumX (0, s.2) ++ " <= " ++ num (-s.1)
  | .rest s m => num m ++ " divides " ++ sumX s
  | .pl h p => ("at " : Str) ++ h ++ " " ++ num p
  | .all l => if l.isEmpty then "true" else Str.join " and " (txs 3 l)
  | .any l => if l.isEmpty then "false" else Str.join " or " (txs 2 l)
  | .no r => ("not " : Str) ++ br 3 r (tx r)
noncomputable def txs (k : Int) : List Rem → List Str
  | [] => []
  | r :: l => br k r (tx r) :: txs k l
end
theorem txs_map (k : Int) : ∀ l : List Rem, txs k l = l.map fun r => br k r (tx r)
  | [] => by rw [txs]; rfl
  | r :: l => by rw [txs, txs_map k l]; rfl
theorem join_ok {sep : Str} (hs : okS sep) {B : Nat} : ∀ l : List Str, (∀ x ∈ l, okS x ∧ x.length ≤ B) → okS (Str.join sep l) ∧ (Str.join sep l).length ≤ l.length * (B + sep.length) ∧ (l.map (·.length)).sum ≤ l.length * B
  | [], _ => ⟨okS_of "", Nat.zero_le _, by simp⟩
  | [x], h => by
    obtain ⟨a, b⟩ := h x List.mem_cons_self
    refine ⟨a, ?_, ?_⟩
    · show x.length ≤ _
      simp; omega
    · simpa using b
  | x :: y :: l, h => by
    obtain ⟨a, b⟩ := h x List.mem_cons_self
    obtain ⟨c, d, e⟩ := join_ok hs (y :: l) fun z hz => h z (List.mem_cons_of_mem _ hz)
    refine ⟨okS_app (okS_app a hs) c, ?_, ?_⟩
    · show (x ++ sep ++ Str.join sep (y :: l)).length ≤ _
      rw [len_app, len_app, List.length_cons, Nat.add_mul]
      omega
    · rw [List.map_cons, List.sum_cons, List.length_cons (a := x), Nat.add_mul]
      omega
theorem br_ok {k : Int} {r : Rem} {t : Str} {B : Nat} (h : okS t) (hB : t.length ≤ B) : okS (br k r t) ∧ (br k r t).length ≤ B + 2 := by
  have l1 : ("[" : Str).length = 1 := by decide +kernel
  have l2 : ("]" : Str).length = 1 := by decide +kernel
  unfold br
  split
  · exact ⟨okS_app (okS_app (okS_of _) h) (okS_of _), by rw [len_app, len_app]; omega⟩
  · exact ⟨h, by omega⟩
noncomputable def lim6 (d : Nat) : Nat := 500 * 6 ^ d
theorem lim6_ge (d : Nat) : 500 ≤ lim6 d := by
  have := Nat.pow_pos (n := d) (show 0 < 6 by decide)
  unfold lim6; omega
theorem lim6_succ (d : Nat) : lim6 (d + 1) = 6 * lim6 d := by unfold lim6; rw [Nat.pow_succ]; omega
theorem okSm.zero {s : Sm} (hs : okSm N s) : okSm N (0, s.2) := ⟨hs.1, by show (-1000000000 : Int) < 0; decide, by show (0 : Int) < 1000000000; decide⟩
theorem tx_ok (hN : okNs N) (hH : okHs H) {d : Nat} {r : Rem} (h : OkR N H d r) : okS (tx r) ∧ (tx r).length ≤ lim6 d := by
  induction h with
  | @most d s h =>
    have g := lim6_ge d
    obtain ⟨a, b⟩ := sumX_ok hN h.zero
    have n := num_len (i := -s.1) (by have := h.2.2; omega) (by have := h.2.1; omega)
    have l : (" <= " : Str).length = 4 := by decide +kernel
    unfold tx
    exact ⟨okS_app (okS_app a (okS_of _)) (okS_num _), by rw [len_app, len_app]; omega⟩
  | @rest d s m h p q =>
    have g := lim6_ge d
    obtain ⟨a, b⟩ := sumX_ok hN h
    have n := num_len (i := m) (by omega) (by omega)
    have l : (" divides " : Str).length = 9 := by decide +kernel
    unfold tx
    exact ⟨okS_app (okS_app (okS_num _) (okS_of _)) a, by rw [len_app, len_app]; omega⟩
  | @pl d h p hm p0 p1 =>
    have g := lim6_ge d
    obtain ⟨a, b, _⟩ := hH.2 _ hm
    have n := num_len (i := p) (by omega) (by omega)
    have l : ("at " : Str).length = 3 := by decide +kernel
    have l' : (" " : Str).length = 1 := by decide +kernel
    unfold tx
    exact ⟨okS_app (okS_app (okS_app (okS_of _) a) (okS_of _)) (okS_num _), by rw [len_app, len_app, len_app]; omega⟩
  | @all d l hl _ ih =>
    have g := lim6_ge d
    have gs := lim6_succ d
    have l5 : (" and " : Str).length = 5 := by decide +kernel
    have l4 : ("true" : Str).length = 4 := by decide +kernel
    unfold tx
    split
    · exact ⟨okS_of _, by omega⟩
    · obtain ⟨a, b, c⟩ := join_ok (sep := " and ") (okS_of _) (B := lim6 d + 2) (txs 3 l) (by
        rw [txs_map]
        intro x hx
        obtain ⟨r, hr, rfl⟩ := List.mem_map.mp hx
        exact br_ok (ih r hr).1 (ih r hr).2)
      have e : (txs 3 l).length = l.length := by rw [txs_map, List.length_map]
      rw [e] at b
      refine ⟨a, Nat.le_trans b ?_⟩
      have := Nat.mul_le_mul_right (lim6 d + 2 + (" and " : Str).length) hl
      omega
  | @any d l hl _ ih =>
    have g := lim6_ge d
    have gs := lim6_succ d
    have l5 : (" or " : Str).length = 4 := by decide +kernel
    have l4 : ("false" : Str).length = 5 := by decide +kernel
    unfold tx
    split
    · exact ⟨okS_of _, by omega⟩
    · obtain ⟨a, b, c⟩ := join_ok (sep := " or ") (okS_of _) (B := lim6 d + 2) (txs 2 l) (by
        rw [txs_map]
        intro x hx
        obtain ⟨r, hr, rfl⟩ := List.mem_map.mp hx
        exact br_ok (ih r hr).1 (ih r hr).2)
      have e : (txs 2 l).length = l.length := by rw [txs_map, List.length_map]
      rw [e] at b
      refine ⟨a, Nat.le_trans b ?_⟩
      have := Nat.mul_le_mul_right (lim6 d + 2 + (" or " : Str).length) hl
      omega
  | @no d r _ ih =>
    have g := lim6_ge d
    have gs := lim6_succ d
    have l4 : ("not " : Str).length = 4 := by decide +kernel
    obtain ⟨a, b⟩ := br_ok (k := 3) (r := r) ih.1 ih.2
    unfold tx
    exact ⟨okS_app (okS_of _) a, by rw [len_app]; omega⟩
end
end K
end
noncomputable section
set_option linter.all false
set_option maxRecDepth 100000
set_option maxHeartbeats 1000000
set_option autoImplicit false
namespace K
open C PySem
noncomputable section
variable {N H : List Str} {sto : List SO}
theorem show_most {s : Sm} (hN : okNs N) (hs : okSm N s) : m_show_most [smT s] sto = some (.str (sumX (0, s.2) ++ " <= " ++ num (-s.1)), sto) := by
  have e := show_sum (sto := sto) hN hs.zero
  obtain ⟨a, b⟩ := sumX_ok hN hs.zero
  have n := num_len (i := -s.1) (by have := hs.2.2; omega) (by have := hs.2.1; omega)
  have si := str_i (i := -s.1) (by have := hs.2.2; omega) (by have := hs.2.1; omega)
  have l : (" <= " : Str).length = 4 := by decide +kernel
  have b1 : (sumX (0, s.2)).length + (" <= " : Str).length < lim := by show _ < 1000000; omega
  have b2 : (sumX (0, s.2) ++ (" <= " : Str)).length + (num (-s.1)).length < lim := by rw [len_app]; show _ < 1000000; omega
  unfold smT at e
  unfold m_show_most smT
  simp [runFn, sSeq, sIf, sSet, sNew, sRet, sNil, sNx, sRetOwn, sGo, sReverse, sFor, sAppend, sExtend, lstAt, mTest, mNot, mAnd, mOr, mBool, mIf, mOp, mUn, mVar, mMap, mCons, mNil, mPure, mStrs, mCall, putSlot, hName, hTup, iRange, iSeq, ltT, leT, lenT, addT, subT, modT, fdivT, negT, absT, seqOf, mTrue, freezeAt, thaw, item0t, item1t, e, si, b1, b2]
noncomputable abbrev tbl : List (Str × List Str) := [("and", ["and", "or"]), ("or", ["or"]), ("not", ["and", "or"])]
theorem t_and : tabTT tbl (.str "and") = some (.tup [.str "and", .str "or"]) := by
  have : tbl.lookup ("and" : Str) = some (["and", "or"] : List Str) := by decide +kernel
  simp only [tabTT, this]; rfl
theorem t_or : tabTT tbl (.str "or") = some (.tup [.str "or"]) := by
  have : tbl.lookup ("or" : Str) = some (["or"] : List Str) := by decide +kernel
  simp only [tabTT, this]; rfl
theorem t_not : tabTT tbl (.str "not") = some (.tup [.str "and", .str "or"]) := by
  have : tbl.lookup ("not" : Str) = some (["and", "or"] : List Str) := by decide +kernel
  simp only [tabTT, this]; rfl
noncomputable def Wm (w : Str) (m : Int) : Prop := (w = "and" ∧ m = 3) ∨ (w = "or" ∧ m = 2) ∨ (w = "not" ∧ m = 3)
theorem show_member {k : Nat} {w : Str} {m : Int} (hw : Wm w m) (hN : okNs N) (hH : okHs H) {d : Nat} {r : Rem} (h : OkR N H d r) (hd : lim6 d < 900000 ∧ d ≤ 9) (e : m_show_remark k [remT r] sto = some (.str (tx r), sto)) :
    m_show_member (k + 1) [remT r, .str w] sto = some (.str (br m r (tx r)), sto) := by
  obtain ⟨x1, x2⟩ := tx_ok hN hH h
  have f := fmt_s (x := tx r) (by omega)
  have l1 : ("[" : Str).length = 1 := by decide +kernel
  have l2 : ("]" : Str).length = 1 := by decide +kernel
  have j := j3 (a := "[") (b := tx r) (c := "]") (by omega)
  have hd2 := hd.2
  generalize tx r = t at *
  unfold m_show_member
  rcases hw with ⟨rfl, rfl⟩ | ⟨rfl, rfl⟩ | ⟨rfl, rfl⟩
  all_goals
    cases h with
    | most h =>
      unfold remT at e ⊢
      simp [runFn, sSeq, sIf, sSet, sNew, sRet, sNil, sNx, sRetOwn, sGo, sReverse, sFor, sAppend, sExtend, lstAt, mTest, mNot, mAnd, mOr, mBool, mIf, mOp, mUn, mVar, mMap, mCons, mNil, mPure, mStrs, mCall, putSlot, hName, hTup, iRange, iSeq, ltT, leT, lenT, addT, subT, modT, fdivT, negT, absT, seqOf, mTrue, freezeAt, thaw, e, item0t, item1t, t_and, t_or, t_not, i_most, k_most, i_rest, k_rest, i_at, k_at, i_not, k_not, i_and, k_and, i_or, k_or, br, rk, f, j]
    | rest h _ _ =>
      unfold remT at e ⊢
      simp [runFn, sSeq, sIf, sSet, sNew, sRet, sNil, sNx, sRetOwn, sGo, sReverse, sFor, sAppend, sExtend, lstAt, mTest, mNot, mAnd, mOr, mBool, mIf, mOp, mUn, mVar, mMap, mCons, mNil, mPure, mStrs, mCall, putSlot, hName, hTup, iRange, iSeq, ltT, leT, lenT, addT, subT, modT, fdivT, negT, absT, seqOf, mTrue, freezeAt, thaw, e, item0t, item1t, t_and, t_or, t_not, i_most, k_most, i_rest, k_rest, i_at, k_at, i_not, k_not, i_and, k_and, i_or, k_or, br, rk, f, j]
    | pl h _ _ =>
      unfold remT at e ⊢
      simp [runFn, sSeq, sIf, sSet, sNew, sRet, sNil, sNx, sRetOwn, sGo, sReverse, sFor, sAppend, sExtend, lstAt, mTest, mNot, mAnd, mOr, mBool, mIf, mOp, mUn, mVar, mMap, mCons, mNil, mPure, mStrs, mCall, putSlot, hName, hTup, iRange, iSeq, ltT, leT, lenT, addT, subT, modT, fdivT, negT, absT, seqOf, mTrue, freezeAt, thaw, e, item0t, item1t, t_and, t_or, t_not, i_most, k_most, i_rest, k_rest, i_at, k_at, i_not, k_not, i_and, k_and, i_or, k_or, br, rk, f, j]
    | no h =>
      unfold remT at e ⊢
      simp [runFn, sSeq, sIf, sSet, sNew, sRet, sNil, sNx, sRetOwn, sGo, sReverse, sFor, sAppend, sExtend, lstAt, mTest, mNot, mAnd, mOr, mBool, mIf, mOp, mUn, mVar, mMap, mCons, mNil, mPure, mStrs, mCall, putSlot, hName, hTup, iRange, iSeq, ltT, leT, lenT, addT, subT, modT, fdivT, negT, absT, seqOf, mTrue, freezeAt, thaw, e, item0t, item1t, t_and, t_or, t_not, i_most, k_most, i_rest, k_rest, i_at, k_at, i_not, k_not, i_and, k_and, i_or, k_or, br, rk, f, j]
    | @all d l hl hr =>
      have q := (eq_nil hN hH hr (by omega)).2
      unfold remT at e ⊢
      rw [remsT_map] at e ⊢
      cases l with
      | nil =>
        have q' : neO (.tup []) (.tup []) = some (.bl false) := q
        rw [List.map_nil] at e ⊢
        simp [runFn, sSeq, sIf, sSet, sNew, sRet, sNil, sNx, sRetOwn, sGo, sReverse, sFor, sAppend, sExtend, lstAt, mTest, mNot, mAnd, mOr, mBool, mIf, mOp, mUn, mVar, mMap, mCons, mNil, mPure, mStrs, mCall, putSlot, hName, hTup, iRange, iSeq, ltT, leT, lenT, addT, subT, modT, fdivT, negT, absT, seqOf, mTrue, freezeAt, thaw, e, item0t, item1t, t_and, t_or, t_not, i_most, k_most, i_rest, k_rest, i_at, k_at, i_not, k_not, i_and, k_and, i_or, k_or, br, rk, f, j, q']
      | cons y l =>
        have q' : neO (.tup (remT y :: l.map remT)) (.tup []) = some (.bl true) := q
        rw [List.map_cons] at e ⊢
        simp [runFn, sSeq, sIf, sSet, sNew, sRet, sNil, sNx, sRetOwn, sGo, sReverse, sFor, sAppend, sExtend, lstAt, mTest, mNot, mAnd, mOr, mBool, mIf, mOp, mUn, mVar, mMap, mCons, mNil, mPure, mStrs, mCall, putSlot, hName, hTup, iRange, iSeq, ltT, leT, lenT, addT, subT, modT, fdivT, negT, absT, seqOf, mTrue, freezeAt, thaw, e, item0t, item1t, t_and, t_or, t_not, i_most, k_most, i_rest, k_rest, i_at, k_at, i_not, k_not, i_and, k_and, i_or, k_or, br, rk, f, j, q']
    | @any d l hl hr =>
      have q := (eq_nil hN hH hr (by omega)).2
      unfold remT at e ⊢
      rw [remsT_map] at e ⊢
      cases l with
      | nil =>
        have q' : neO (.tup []) (.tup []) = some (.bl false) := q
        rw [List.map_nil] at e ⊢
        simp [runFn, sSeq, sIf, sSet, sNew, sRet, sNil, sNx, sRetOwn, sGo, sReverse, sFor, sAppend, sExtend, lstAt, mTest, mNot, mAnd, mOr, mBool, mIf, mOp, mUn, mVar, mMap, mCons, mNil, mPure, mStrs, mCall, putSlot, hName, hTup, iRange, iSeq, ltT, leT, lenT, addT, subT, modT, fdivT, negT, absT, seqOf, mTrue, freezeAt, thaw, e, item0t, item1t, t_and, t_or, t_not, i_most, k_most, i_rest, k_rest, i_at, k_at, i_not, k_not, i_and, k_and, i_or, k_or, br, rk, f, j, q']
      | cons y l =>
        have q' : neO (.tup (remT y :: l.map remT)) (.tup []) = some (.bl true) := q
        rw [List.map_cons] at e ⊢
        simp [runFn, sSeq, sIf, sSet, sNew, sRet, sNil, sNx, sRetOwn, sGo, sReverse, sFor, sAppend, sExtend, lstAt, mTest, mNot, mAnd, mOr, mBool, mIf, mOp, mUn, mVar, mMap, mCons, mNil, mPure, mStrs, mCall, putSlot, hName, hTup, iRange, iSeq, ltT, leT, lenT, addT, subT, modT, fdivT, negT, absT, seqOf, mTrue, freezeAt, thaw, e, item0t, item1t, t_and, t_or, t_not, i_most, k_most, i_rest, k_rest, i_at, k_at, i_not, k_not, i_and, k_and, i_or, k_or, br, rk, f, j, q']
end
end K
end
noncomputable section
set_option linter.all false
set_option maxRecDepth 100000
set_option maxHeartbeats 1000000
set_option autoImplicit false
namespace K
open C PySem
noncomputable section
variable {N H : List Str} {sto : List SO}
theorem join_t {sep : Str} {l : List Str} (h : (l.map (·.length)).sum + l.length * sep.length < 1000000) : joinT (.str sep) (.lst (l.map T.str)) = some (.str (Str.join sep l)) := by
  simp only [joinT, strs_map]
  exact if_pos h
theorem members {k : Nat} {w j : Str} {m : Int} {l : List Rem} (hl : l.length ≤ 5) (h : ∀ r ∈ l, m_show_member k [remT r, .str w] sto = some (.str (br m r (tx r)), sto)) :
    mComp 1 [1] (hName 0) partsI mTrue (mCall (m_show_member k) (mCons (mVar 0) (mCons (mVar 1) mNil))) ⟨[some (.tup [.str w, .tup (l.map remT)], false), some (.str w, false), some (.str j, false)], sto⟩
      = some (.lst ((txs m l).map T.str), ⟨[some (.tup [.str w, .tup (l.map remT)], false), some (.str w, false), some (.str j, false)], sto⟩) := by
  have lm : l.length < lim := by show _ < 1000000; omega
  rw [txs_map, List.map_map]
  refine mComp_map remT (fun r => .str (br m r (tx r))) l (s1 := ⟨[some (.tup [.str w, .tup (l.map remT)], false), some (.str w, false), some (.str j, false)], sto⟩) _ [some (.str w, false)] (by unfold partsI; simp [runFn, sSeq, sIf, sSet, sNew, sRet, sNil, sNx, sRetOwn, sGo, sReverse, sFor, sAppend, sExtend, lstAt, mTest, mNot, mAnd, mOr, mBool, mIf, mOp, mUn, mVar, mMap, mCons, mNil, mPure, mStrs, mCall, putSlot, hName, hTup, iRange, iSeq, ltT, leT, lenT, addT, subT, modT, fdivT, negT, absT, seqOf, mTrue, freezeAt, thaw, item1t, lm]) rfl rfl rfl (Nat.le_of_lt lm) ?_
  intro r hr pre hpre
  obtain ⟨a, rfl⟩ : ∃ a, pre = [a] := by
    match pre, hpre with
    | [a], _ => exact ⟨a, rfl⟩
  refine ⟨[some (remT r, false)], rfl, rfl, rfl, ?_⟩
  simp [runFn, sSeq, sIf, sSet, sNew, sRet, sNil, sNx, sRetOwn, sGo, sReverse, sFor, sAppend, sExtend, lstAt, mTest, mNot, mAnd, mOr, mBool, mIf, mOp, mUn, mVar, mMap, mCons, mNil, mPure, mStrs, mCall, putSlot, hName, hTup, iRange, iSeq, ltT, leT, lenT, addT, subT, modT, fdivT, negT, absT, seqOf, mTrue, freezeAt, thaw, h r hr]
theorem txs_lim {m : Int} {d : Nat} {l : List Rem} {sep : Str} (hN : okNs N) (hH : okHs H) (hs : okS sep) (hp : sep.length ≤ 5) (hl : l.length ≤ 5) (h : ∀ r ∈ l, OkR N H d r) (hd : lim6 d < 100000) : ((txs m l).map (·.length)).sum + (txs m l).length * sep.length < 1000000 := by
  obtain ⟨_, _, c⟩ := join_ok hs (B := lim6 d + 2) (txs m l) (by
    rw [txs_map]
    intro x hx
    obtain ⟨r, hr, rfl⟩ := List.mem_map.mp hx
    exact br_ok (tx_ok hN hH (h r hr)).1 (tx_ok hN hH (h r hr)).2)
  have e : (txs m l).length = l.length := by rw [txs_map, List.length_map]
  rw [e] at c ⊢
  have a := Nat.mul_le_mul_right (lim6 d + 2) hl
  have b := Nat.mul_le_mul hl hp
  omega
theorem lim6_mono {a b : Nat} (h : a ≤ b) : lim6 a ≤ lim6 b := by
  unfold lim6
  exact Nat.mul_le_mul_left _ (Nat.pow_le_pow_right (by decide) h)
theorem show_remark (hN : okNs N) (hH : okHs H) {d : Nat} {r : Rem} (h : OkR N H d r) : d ≤ 3 → ∀ k, 2 * d < k → m_show_remark k [remT r] sto = some (.str (tx r), sto) := by
  have B : lim6 3 = 108000 := by decide
  have B2 : lim6 2 = 18000 := by decide
  induction h with
  | @most d s h =>
    intro _ k hk
    obtain ⟨k, rfl⟩ : ∃ j, k = j + 1 := ⟨k - 1, by omega⟩
    have e := show_most (sto := sto) hN h
    unfold m_show_remark remT tx
    simp [runFn, sSeq, sIf, sSet, sNew, sRet, sNil, sNx, sRetOwn, sGo, sReverse, sFor, sAppend, sExtend, lstAt, mTest, mNot, mAnd, mOr, mBool, mIf, mOp, mUn, mVar, mMap, mCons, mNil, mPure, mStrs, mCall, putSlot, hName, hTup, iRange, iSeq, ltT, leT, lenT, addT, subT, modT, fdivT, negT, absT, seqOf, mTrue, freezeAt, thaw, item0t, item1t, e_most_most, e_most_rest, e_most_at, e_most_not, e_most_and, e_most_or, e_rest_most, e_rest_rest, e_rest_at, e_rest_not, e_rest_and, e_rest_or, e_at_most, e_at_rest, e_at_at, e_at_not, e_at_and, e_at_or, e_not_most, e_not_rest, e_not_at, e_not_not, e_not_and, e_not_or, e_and_most, e_and_rest, e_and_at, e_and_not, e_and_and, e_and_or, e_or_most, e_or_rest, e_or_at, e_or_not, e_or_and, e_or_or, e]
  | @rest d s m h p q =>
    intro _ k hk
    obtain ⟨k, rfl⟩ : ∃ j, k = j + 1 := ⟨k - 1, by omega⟩
    have e := show_sum (sto := sto) hN h
    obtain ⟨a, b⟩ := sumX_ok hN h
    have n := num_len (i := m) (by omega) (by omega)
    have si := str_i (i := m) (by omega) (by omega)
    have l : (" divides " : Str).length = 9 := by decide +kernel
    have b1 : (num m).length + (" divides " : Str).length < lim := by show _ < 1000000; omega
    have b2 : (num m ++ (" divides " : Str)).length + (sumX s).length < lim := by rw [len_app]; show _ < 1000000; omega
    unfold m_show_remark remT tx
    simp [runFn, sSeq, sIf, sSet, sNew, sRet, sNil, sNx, sRetOwn, sGo, sReverse, sFor, sAppend, sExtend, lstAt, mTest, mNot, mAnd, mOr, mBool, mIf, mOp, mUn, mVar, mMap, mCons, mNil, mPure, mStrs, mCall, putSlot, hName, hTup, iRange, iSeq, ltT, leT, lenT, addT, subT, modT, fdivT, negT, absT, seqOf, mTrue, freezeAt, thaw, item0t, item1t, item2t, e_most_most, e_most_rest, e_most_at, e_most_not, e_most_and, e_most_or, e_rest_most, e_rest_rest, e_rest_at, e_rest_not, e_rest_and, e_rest_or, e_at_most, e_at_rest, e_at_at, e_at_not, e_at_and, e_at_or, e_not_most, e_not_rest, e_not_at, e_not_not, e_not_and, e_not_or, e_and_most, e_and_rest, e_and_at, e_and_not, e_and_and, e_and_or, e_or_most, e_or_rest, e_or_at, e_or_not, e_or_and, e_or_or, e, si, b1, b2]
  | @pl d h p hm p0 p1 =>
    intro _ k hk
    obtain ⟨k, rfl⟩ : ∃ j, k = j + 1 := ⟨k - 1, by omega⟩
    obtain ⟨a, b, _⟩ := hH.2 _ hm
    have n := num_len (i := p) (by omega) (by omega)
    have si := str_i (i := p) (by omega) (by omega)
    have l : ("at " : Str).length = 3 := by decide +kernel
    have l' : (" " : Str).length = 1 := by decide +kernel
    have b1 : ("at " : Str).length + h.length < lim := by show _ < 1000000; omega
    have b2 : (("at " : Str) ++ h).length + (" " : Str).length < lim := by rw [len_app]; show _ < 1000000; omega
    have b3 : (("at " : Str) ++ h ++ (" " : Str)).length + (num p).length < lim := by rw [len_app, len_app]; show _ < 1000000; omega
    unfold m_show_remark remT tx
    simp [runFn, sSeq, sIf, sSet, sNew, sRet, sNil, sNx, sRetOwn, sGo, sReverse, sFor, sAppend, sExtend, lstAt, mTest, mNot, mAnd, mOr, mBool, mIf, mOp, mUn, mVar, mMap, mCons, mNil, mPure, mStrs, mCall, putSlot, hName, hTup, iRange, iSeq, ltT, leT, lenT, addT, subT, modT, fdivT, negT, absT, seqOf, mTrue, freezeAt, thaw, item0t, item1t, item2t, e_most_most, e_most_rest, e_most_at, e_most_not, e_most_and, e_most_or, e_rest_most, e_rest_rest, e_rest_at, e_rest_not, e_rest_and, e_rest_or, e_at_most, e_at_rest, e_at_at, e_at_not, e_at_and, e_at_or, e_not_most, e_not_rest, e_not_at, e_not_not, e_not_and, e_not_or, e_and_most, e_and_rest, e_and_at, e_and_not, e_and_and, e_and_or, e_or_most, e_or_rest, e_or_at, e_or_not, e_or_and, e_or_or, si, b1, b2, b3]
  | @all d l hl hr ih =>
    intro hd k hk
    obtain ⟨k, rfl⟩ : ∃ j, k = j + 2 := ⟨k - 2, by omega⟩
    have m3 := lim6_mono (show d ≤ 2 by omega)
    have e := members (sto := sto) (w := "and") (j := " and ") (m := 3) hl (fun r hq => show_member (.inl ⟨rfl, rfl⟩) hN hH (hr r hq) (by omega) (ih r hq (by omega) k (by omega)))
    have q := (eq_nil hN hH hr (by omega)).1
    have t := txs_lim (m := 3) (sep := " and ") hN hH (okS_of _) (by decide +kernel) hl hr (by omega)
    have jt := join_t t
    unfold m_show_remark remT tx
    rw [remsT_map]
    cases hE : l.isEmpty with
    | true =>
      rw [hE] at q
      simp [runFn, sSeq, sIf, sSet, sNew, sRet, sNil, sNx, sRetOwn, sGo, sReverse, sFor, sAppend, sExtend, lstAt, mTest, mNot, mAnd, mOr, mBool, mIf, mOp, mUn, mVar, mMap, mCons, mNil, mPure, mStrs, mCall, putSlot, hName, hTup, iRange, iSeq, ltT, leT, lenT, addT, subT, modT, fdivT, negT, absT, seqOf, mTrue, freezeAt, thaw, item0t, item1t, e_most_most, e_most_rest, e_most_at, e_most_not, e_most_and, e_most_or, e_rest_most, e_rest_rest, e_rest_at, e_rest_not, e_rest_and, e_rest_or, e_at_most, e_at_rest, e_at_at, e_at_not, e_at_and, e_at_or, e_not_most, e_not_rest, e_not_at, e_not_not, e_not_and, e_not_or, e_and_most, e_and_rest, e_and_at, e_and_not, e_and_and, e_and_or, e_or_most, e_or_rest, e_or_at, e_or_not, e_or_and, e_or_or, q]
    | false =>
      rw [hE] at q
      simp [runFn, sSeq, sIf, sSet, sNew, sRet, sNil, sNx, sRetOwn, sGo, sReverse, sFor, sAppend, sExtend, lstAt, mTest, mNot, mAnd, mOr, mBool, mIf, mOp, mUn, mVar, mMap, mCons, mNil, mPure, mStrs, mCall, putSlot, hName, hTup, iRange, iSeq, ltT, leT, lenT, addT, subT, modT, fdivT, negT, absT, seqOf, mTrue, freezeAt, thaw, item0t, item1t, e_most_most, e_most_rest, e_most_at, e_most_not, e_most_and, e_most_or, e_rest_most, e_rest_rest, e_rest_at, e_rest_not, e_rest_and, e_rest_or, e_at_most, e_at_rest, e_at_at, e_at_not, e_at_and, e_at_or, e_not_most, e_not_rest, e_not_at, e_not_not, e_not_and, e_not_or, e_and_most, e_and_rest, e_and_at, e_and_not, e_and_and, e_and_or, e_or_most, e_or_rest, e_or_at, e_or_not, e_or_and, e_or_or, q, e, jt]
  | @any d l hl hr ih =>
    intro hd k hk
    obtain ⟨k, rfl⟩ : ∃ j, k = j + 2 := ⟨k - 2, by omega⟩
    have m3 := lim6_mono (show d ≤ 2 by omega)
    have e := members (sto := sto) (w := "or") (j := " or ") (m := 2) hl (fun r hq => show_member (.inr (.inl ⟨rfl, rfl⟩)) hN hH (hr r hq) (by omega) (ih r hq (by omega) k (by omega)))
    have q := (eq_nil hN hH hr (by omega)).1
    have t := txs_lim (m := 2) (sep := " or ") hN hH (okS_of _) (by decide +kernel) hl hr (by omega)
    have jt := join_t t
    unfold m_show_remark remT tx
    rw [remsT_map]
    cases hE : l.isEmpty with
    | true =>
      rw [hE] at q
      simp [runFn, sSeq, sIf, sSet, sNew, sRet, sNil, sNx, sRetOwn, sGo, sReverse, sFor, sAppend, sExtend, lstAt, mTest, mNot, mAnd, mOr, mBool, mIf, mOp, mUn, mVar, mMap, mCons, mNil, mPure, mStrs, mCall, putSlot, hName, hTup, iRange, iSeq, ltT, leT, lenT, addT, subT, modT, fdivT, negT, absT, seqOf, mTrue, freezeAt, thaw, item0t, item1t, e_most_most, e_most_rest, e_most_at, e_most_not, e_most_and, e_most_or, e_rest_most, e_rest_rest, e_rest_at, e_rest_not, e_rest_and, e_rest_or, e_at_most, e_at_rest, e_at_at, e_at_not, e_at_and, e_at_or, e_not_most, e_not_rest, e_not_at, e_not_not, e_not_and, e_not_or, e_and_most, e_and_rest, e_and_at, e_and_not, e_and_and, e_and_or, e_or_most, e_or_rest, e_or_at, e_or_not, e_or_and, e_or_or, q]
    | false =>
      rw [hE] at q
      simp [runFn, sSeq, sIf, sSet, sNew, sRet, sNil, sNx, sRetOwn, sGo, sReverse, sFor, sAppend, sExtend, lstAt, mTest, mNot, mAnd, mOr, mBool, mIf, mOp, mUn, mVar, mMap, mCons, mNil, mPure, mStrs, mCall, putSlot, hName, hTup, iRange, iSeq, ltT, leT, lenT, addT, subT, modT, fdivT, negT, absT, seqOf, mTrue, freezeAt, thaw, item0t, item1t, e_most_most, e_most_rest, e_most_at, e_most_not, e_most_and, e_most_or, e_rest_most, e_rest_rest, e_rest_at, e_rest_not, e_rest_and, e_rest_or, e_at_most, e_at_rest, e_at_at, e_at_not, e_at_and, e_at_or, e_not_most, e_not_rest, e_not_at, e_not_not, e_not_and, e_not_or, e_and_most, e_and_rest, e_and_at, e_and_not, e_and_and, e_and_or, e_or_most, e_or_rest, e_or_at, e_or_not, e_or_and, e_or_or, q, e, jt]
  | @no d r hr ih =>
    intro hd k hk
    obtain ⟨k, rfl⟩ : ∃ j, k = j + 2 := ⟨k - 2, by omega⟩
    have m3 := lim6_mono (show d ≤ 2 by omega)
    have e := show_member (.inr (.inr ⟨rfl, rfl⟩)) hN hH hr (by omega) (ih (by omega) k (by omega))
    obtain ⟨a, b⟩ := br_ok (k := 3) (r := r) (tx_ok hN hH hr).1 (tx_ok hN hH hr).2
    have l4 : ("not " : Str).length = 4 := by decide +kernel
    have b1 : ("not " : Str).length + (br 3 r (tx r)).length < lim := by show _ < 1000000; omega
    unfold m_show_remark remT tx
    simp [runFn, sSeq, sIf, sSet, sNew, sRet, sNil, sNx, sRetOwn, sGo, sReverse, sFor, sAppend, sExtend, lstAt, mTest, mNot, mAnd, mOr, mBool, mIf, mOp, mUn, mVar, mMap, mCons, mNil, mPure, mStrs, mCall, putSlot, hName, hTup, iRange, iSeq, ltT, leT, lenT, addT, subT, modT, fdivT, negT, absT, seqOf, mTrue, freezeAt, thaw, item0t, item1t, e_most_most, e_most_rest, e_most_at, e_most_not, e_most_and, e_most_or, e_rest_most, e_rest_rest, e_rest_at, e_rest_not, e_rest_and, e_rest_or, e_at_most, e_at_rest, e_at_at, e_at_not, e_at_and, e_at_or, e_not_most, e_not_rest, e_not_at, e_not_not, e_not_and, e_not_or, e_and_most, e_and_rest, e_and_at, e_and_not, e_and_and, e_and_or, e_or_most, e_or_rest, e_or_at, e_or_not, e_or_and, e_or_or, e, b1]
end
end K
end
noncomputable section
set_option linter.all false
set_option maxRecDepth 100000
set_option maxHeartbeats 1000000
set_option autoImplicit false
namespace K
open C PySem
noncomputable section
variable {N H : List Str} {sto : List SO}
theorem law_rank {d : Nat} {r : Rem} (h : OkR N H d r) : m_law_rank [remT r] sto = some (.int (rk r), sto) := by
  unfold m_law_rank
  cases h with
  | most h => unfold remT; simp [runFn, sSeq, sIf, sSet, sNew, sRet, sNil, sNx, sRetOwn, sGo, sReverse, sFor, sAppend, sExtend, lstAt, mTest, mNot, mAnd, mOr, mBool, mIf, mOp, mUn, mVar, mMap, mCons, mNil, mPure, mStrs, mCall, putSlot, hName, hTup, iRange, iSeq, ltT, leT, lenT, addT, subT, modT, fdivT, negT, absT, seqOf, mTrue, freezeAt, thaw, item0t, item1t, e_most_most, e_most_rest, e_most_at, e_most_not, e_most_and, e_most_or, e_rest_most, e_rest_rest, e_rest_at, e_rest_not, e_rest_and, e_rest_or, e_at_most, e_at_rest, e_at_at, e_at_not, e_at_and, e_at_or, e_not_most, e_not_rest, e_not_at, e_not_not, e_not_and, e_not_or, e_and_most, e_and_rest, e_and_at, e_and_not, e_and_and, e_and_or, e_or_most, e_or_rest, e_or_at, e_or_not, e_or_and, e_or_or, rk]
  | rest h _ _ => unfold remT; simp [runFn, sSeq, sIf, sSet, sNew, sRet, sNil, sNx, sRetOwn, sGo, sReverse, sFor, sAppend, sExtend, lstAt, mTest, mNot, mAnd, mOr, mBool, mIf, mOp, mUn, mVar, mMap, mCons, mNil, mPure, mStrs, mCall, putSlot, hName, hTup, iRange, iSeq, ltT, leT, lenT, addT, subT, modT, fdivT, negT, absT, seqOf, mTrue, freezeAt, thaw, item0t, item1t, e_most_most, e_most_rest, e_most_at, e_most_not, e_most_and, e_most_or, e_rest_most, e_rest_rest, e_rest_at, e_rest_not, e_rest_and, e_rest_or, e_at_most, e_at_rest, e_at_at, e_at_not, e_at_and, e_at_or, e_not_most, e_not_rest, e_not_at, e_not_not, e_not_and, e_not_or, e_and_most, e_and_rest, e_and_at, e_and_not, e_and_and, e_and_or, e_or_most, e_or_rest, e_or_at, e_or_not, e_or_and, e_or_or, rk]
  | pl h _ _ => unfold remT; simp [runFn, sSeq, sIf, sSet, sNew, sRet, sNil, sNx, sRetOwn, sGo, sReverse, sFor, sAppend, sExtend, lstAt, mTest, mNot, mAnd, mOr, mBool, mIf, mOp, mUn, mVar, mMap, mCons, mNil, mPure, mStrs, mCall, putSlot, hName, hTup, iRange, iSeq, ltT, leT, lenT, addT, subT, modT, fdivT, negT, absT, seqOf, mTrue, freezeAt, thaw, item0t, item1t, e_most_most, e_most_rest, e_most_at, e_most_not, e_most_and, e_most_or, e_rest_most, e_rest_rest, e_rest_at, e_rest_not, e_rest_and, e_rest_or, e_at_most, e_at_rest, e_at_at, e_at_not, e_at_and, e_at_or, e_not_most, e_not_rest, e_not_at, e_not_not, e_not_and, e_not_or, e_and_most, e_and_rest, e_and_at, e_and_not, e_and_and, e_and_or, e_or_most, e_or_rest, e_or_at, e_or_not, e_or_and, e_or_or, rk]
  | no h => unfold remT; simp [runFn, sSeq, sIf, sSet, sNew, sRet, sNil, sNx, sRetOwn, sGo, sReverse, sFor, sAppend, sExtend, lstAt, mTest, mNot, mAnd, mOr, mBool, mIf, mOp, mUn, mVar, mMap, mCons, mNil, mPure, mStrs, mCall, putSlot, hName, hTup, iRange, iSeq, ltT, leT, lenT, addT, subT, modT, fdivT, negT, absT, seqOf, mTrue, freezeAt, thaw, item0t, item1t, e_most_most, e_most_rest, e_most_at, e_most_not, e_most_and, e_most_or, e_rest_most, e_rest_rest, e_rest_at, e_rest_not, e_rest_and, e_rest_or, e_at_most, e_at_rest, e_at_at, e_at_not, e_at_and, e_at_or, e_not_most, e_not_rest, e_not_at, e_not_not, e_not_and, e_not_or, e_and_most, e_and_rest, e_and_at, e_and_not, e_and_and, e_and_or, e_or_most, e_or_rest, e_or_at, e_or_not, e_or_and, e_or_or, rk]
  | @all d l hl hr =>
    unfold remT
    rw [remsT_map]
    cases l with
    | nil => simp [runFn, sSeq, sIf, sSet, sNew, sRet, sNil, sNx, sRetOwn, sGo, sReverse, sFor, sAppend, sExtend, lstAt, mTest, mNot, mAnd, mOr, mBool, mIf, mOp, mUn, mVar, mMap, mCons, mNil, mPure, mStrs, mCall, putSlot, hName, hTup, iRange, iSeq, ltT, leT, lenT, addT, subT, modT, fdivT, negT, absT, seqOf, mTrue, freezeAt, thaw, item0t, item1t, e_most_most, e_most_rest, e_most_at, e_most_not, e_most_and, e_most_or, e_rest_most, e_rest_rest, e_rest_at, e_rest_not, e_rest_and, e_rest_or, e_at_most, e_at_rest, e_at_at, e_at_not, e_at_and, e_at_or, e_not_most, e_not_rest, e_not_at, e_not_not, e_not_and, e_not_or, e_and_most, e_and_rest, e_and_at, e_and_not, e_and_and, e_and_or, e_or_most, e_or_rest, e_or_at, e_or_not, e_or_and, e_or_or, rk, gtT]
    | cons y l => simp [runFn, sSeq, sIf, sSet, sNew, sRet, sNil, sNx, sRetOwn, sGo, sReverse, sFor, sAppend, sExtend, lstAt, mTest, mNot, mAnd, mOr, mBool, mIf, mOp, mUn, mVar, mMap, mCons, mNil, mPure, mStrs, mCall, putSlot, hName, hTup, iRange, iSeq, ltT, leT, lenT, addT, subT, modT, fdivT, negT, absT, seqOf, mTrue, freezeAt, thaw, item0t, item1t, e_most_most, e_most_rest, e_most_at, e_most_not, e_most_and, e_most_or, e_rest_most, e_rest_rest, e_rest_at, e_rest_not, e_rest_and, e_rest_or, e_at_most, e_at_rest, e_at_at, e_at_not, e_at_and, e_at_or, e_not_most, e_not_rest, e_not_at, e_not_not, e_not_and, e_not_or, e_and_most, e_and_rest, e_and_at, e_and_not, e_and_and, e_and_or, e_or_most, e_or_rest, e_or_at, e_or_not, e_or_and, e_or_or, rk, gtT]
  | @any d l hl hr =>
    unfold remT
    rw [remsT_map]
    cases l with
    | nil => simp [runFn, sSeq, sIf, sSet, sNew, sRet, sNil, sNx, sRetOwn, sGo, sReverse, sFor, sAppend, sExtend, lstAt, mTest, mNot, mAnd, mOr, mBool, mIf, mOp, mUn, mVar, mMap, mCons, mNil, mPure, mStrs, mCall, putSlot, hName, hTup, iRange, iSeq, ltT, leT, lenT, addT, subT, modT, fdivT, negT, absT, seqOf, mTrue, freezeAt, thaw, item0t, item1t, e_most_most, e_most_rest, e_most_at, e_most_not, e_most_and, e_most_or, e_rest_most, e_rest_rest, e_rest_at, e_rest_not, e_rest_and, e_rest_or, e_at_most, e_at_rest, e_at_at, e_at_not, e_at_and, e_at_or, e_not_most, e_not_rest, e_not_at, e_not_not, e_not_and, e_not_or, e_and_most, e_and_rest, e_and_at, e_and_not, e_and_and, e_and_or, e_or_most, e_or_rest, e_or_at, e_or_not, e_or_and, e_or_or, rk, gtT]
    | cons y l => simp [runFn, sSeq, sIf, sSet, sNew, sRet, sNil, sNx, sRetOwn, sGo, sReverse, sFor, sAppend, sExtend, lstAt, mTest, mNot, mAnd, mOr, mBool, mIf, mOp, mUn, mVar, mMap, mCons, mNil, mPure, mStrs, mCall, putSlot, hName, hTup, iRange, iSeq, ltT, leT, lenT, addT, subT, modT, fdivT, negT, absT, seqOf, mTrue, freezeAt, thaw, item0t, item1t, e_most_most, e_most_rest, e_most_at, e_most_not, e_most_and, e_most_or, e_rest_most, e_rest_rest, e_rest_at, e_rest_not, e_rest_and, e_rest_or, e_at_most, e_at_rest, e_at_at, e_at_not, e_at_and, e_at_or, e_not_most, e_not_rest, e_not_at, e_not_not, e_not_and, e_not_or, e_and_most, e_and_rest, e_and_at, e_and_not, e_and_and, e_and_or, e_or_most, e_or_rest, e_or_at, e_or_not, e_or_and, e_or_or, rk, gtT]
theorem shown_members {k : Nat} {w : Str} {m q a : Int} {l : List Rem} (hl : l.length ≤ 5) (hq : q + 1 = m) (h : ∀ r ∈ l, m_law_shown k [remT r, .int m] sto = some (.str (br m r (tx r)), sto)) :
    mComp 1 [3] (hName 0) partsI mTrue (mCall (m_law_shown k) (mCons (mVar 0) (mCons (mOp addT (mVar 1) (mPure (.int 1))) mNil))) ⟨[some (.tup [.str w, .tup (l.map remT)], false), some (.int a, false), some (.str w, false), some (.int q, false), none], sto⟩
      = some (.lst ((txs m l).map T.str), ⟨[some (.tup [.str w, .tup (l.map remT)], false), some (.int a, false), some (.str w, false), some (.int q, false), none], sto⟩) := by
  have lm : l.length < lim := by show _ < 1000000; omega
  rw [txs_map, List.map_map]
  refine mComp_map remT (fun r => .str (br m r (tx r))) l (s1 := ⟨[some (.tup [.str w, .tup (l.map remT)], false), some (.int a, false), some (.str w, false), some (.int q, false), none], sto⟩) _ [some (.int q, false)] (by unfold partsI; simp [runFn, sSeq, sIf, sSet, sNew, sRet, sNil, sNx, sRetOwn, sGo, sReverse, sFor, sAppend, sExtend, lstAt, mTest, mNot, mAnd, mOr, mBool, mIf, mOp, mUn, mVar, mMap, mCons, mNil, mPure, mStrs, mCall, putSlot, hName, hTup, iRange, iSeq, ltT, leT, lenT, addT, subT, modT, fdivT, negT, absT, seqOf, mTrue, freezeAt, thaw, item1t, lm]) rfl rfl rfl (Nat.le_of_lt lm) ?_
  intro r hr pre hpre
  obtain ⟨a, rfl⟩ : ∃ a, pre = [a] := by
    match pre, hpre with
    | [a], _ => exact ⟨a, rfl⟩
  refine ⟨[some (remT r, false)], rfl, rfl, rfl, ?_⟩
  simp [runFn, sSeq, sIf, sSet, sNew, sRet, sNil, sNx, sRetOwn, sGo, sReverse, sFor, sAppend, sExtend, lstAt, mTest, mNot, mAnd, mOr, mBool, mIf, mOp, mUn, mVar, mMap, mCons, mNil, mPure, mStrs, mCall, putSlot, hName, hTup, iRange, iSeq, ltT, leT, lenT, addT, subT, modT, fdivT, negT, absT, seqOf, mTrue, freezeAt, thaw, hq, h r hr]
theorem sp_and : ("" : Str).length = 0 ∧ (" " : Str) ++ "and" ++ " " = (" and " : Str) ∧ (" " : Str) ++ "or" ++ " " = (" or " : Str) ∧ (" " : Str).length + ("and" : Str).length < lim ∧ (" " : Str).length + ("or" : Str).length < lim ∧ ((" " : Str) ++ "and").length + (" " : Str).length < lim ∧ ((" " : Str) ++ "or").length + (" " : Str).length < lim := by decide +kernel
theorem rk3 {r : Rem} {t : Str} {a : Int} (h : rk r = 3) (ha : a ≤ 3) : br a r t = t := if_neg (by omega)
theorem law_shown (hN : okNs N) (hH : okHs H) {d : Nat} {r : Rem} (h : OkR N H d r) : d ≤ 3 → ∀ (k : Nat) (a : Int), d < k → a ≤ 3 → m_law_shown k [remT r, .int a] sto = some (.str (br a r (tx r)), sto) := by
  have B : lim6 3 = 108000 := by decide
  have B2 : lim6 2 = 18000 := by decide
  have i1 : intT [.bl true] = some (.int 1) := rfl
  have i0 : intT [.bl false] = some (.int 0) := rfl
  have w1 : itemT (.lst [.str "true", .str "false"]) (.int 1) = some (.str "false") := rfl
  have w0 : itemT (.lst [.str "true", .str "false"]) (.int 0) = some (.str "true") := rfl
  obtain ⟨_, sa, so, a1, o1, a2, o2⟩ := sp_and
  have l1 : ("[" : Str).length = 1 := by decide +kernel
  have l2 : ("]" : Str).length = 1 := by decide +kernel
  induction h with
  | @most d s h =>
    intro _ k a hk ha
    obtain ⟨k, rfl⟩ : ∃ j, k = j + 1 := ⟨k - 1, by omega⟩
    have e := law_sum_text (sto := sto) hN h.zero
    obtain ⟨_, b⟩ := sumX_ok hN h.zero
    have n := num_len (i := -s.1) (by have := h.2.2; omega) (by have := h.2.1; omega)
    have si := str_i (i := -s.1) (by have := h.2.2; omega) (by have := h.2.1; omega)
    have l : (" <= " : Str).length = 4 := by decide +kernel
    have b1 : (sumX (0, s.2)).length + (" <= " : Str).length < lim := by show _ < 1000000; omega
    have b2 : (sumX (0, s.2) ++ (" <= " : Str)).length + (num (-s.1)).length < lim := by rw [len_app]; show _ < 1000000; omega
    rw [rk3 rfl ha]
    unfold smT at e
    unfold m_law_shown remT tx smT
    simp [runFn, sSeq, sIf, sSet, sNew, sRet, sNil, sNx, sRetOwn, sGo, sReverse, sFor, sAppend, sExtend, lstAt, mTest, mNot, mAnd, mOr, mBool, mIf, mOp, mUn, mVar, mMap, mCons, mNil, mPure, mStrs, mCall, putSlot, hName, hTup, iRange, iSeq, ltT, leT, lenT, addT, subT, modT, fdivT, negT, absT, seqOf, mTrue, freezeAt, thaw, item0t, item1t, e_most_most, e_most_rest, e_most_at, e_most_not, e_most_and, e_most_or, e_rest_most, e_rest_rest, e_rest_at, e_rest_not, e_rest_and, e_rest_or, e_at_most, e_at_rest, e_at_at, e_at_not, e_at_and, e_at_or, e_not_most, e_not_rest, e_not_at, e_not_not, e_not_and, e_not_or, e_and_most, e_and_rest, e_and_at, e_and_not, e_and_and, e_and_or, e_or_most, e_or_rest, e_or_at, e_or_not, e_or_and, e_or_or, e, si, b1, b2]
  | @rest d s m h p q =>
    intro _ k a hk ha
    obtain ⟨k, rfl⟩ : ∃ j, k = j + 1 := ⟨k - 1, by omega⟩
    have e := law_sum_text (sto := sto) hN h
    obtain ⟨_, b⟩ := sumX_ok hN h
    have n := num_len (i := m) (by omega) (by omega)
    have si := str_i (i := m) (by omega) (by omega)
    have l : (" divides " : Str).length = 9 := by decide +kernel
    have b1 : (num m).length + (" divides " : Str).length < lim := by show _ < 1000000; omega
    have b2 : (num m ++ (" divides " : Str)).length + (sumX s).length < lim := by rw [len_app]; show _ < 1000000; omega
    rw [rk3 rfl ha]
    unfold m_law_shown remT tx
    simp [runFn, sSeq, sIf, sSet, sNew, sRet, sNil, sNx, sRetOwn, sGo, sReverse, sFor, sAppend, sExtend, lstAt, mTest, mNot, mAnd, mOr, mBool, mIf, mOp, mUn, mVar, mMap, mCons, mNil, mPure, mStrs, mCall, putSlot, hName, hTup, iRange, iSeq, ltT, leT, lenT, addT, subT, modT, fdivT, negT, absT, seqOf, mTrue, freezeAt, thaw, item0t, item1t, item2t, e_most_most, e_most_rest, e_most_at, e_most_not, e_most_and, e_most_or, e_rest_most, e_rest_rest, e_rest_at, e_rest_not, e_rest_and, e_rest_or, e_at_most, e_at_rest, e_at_at, e_at_not, e_at_and, e_at_or, e_not_most, e_not_rest, e_not_at, e_not_not, e_not_and, e_not_or, e_and_most, e_and_rest, e_and_at, e_and_not, e_and_and, e_and_or, e_or_most, e_or_rest, e_or_at, e_or_not, e_or_and, e_or_or, e, si, b1, b2]
  | @pl d h p hm p0 p1 =>
    intro _ k a hk ha
    obtain ⟨k, rfl⟩ : ∃ j, k = j + 1 := ⟨k - 1, by omega⟩
    obtain ⟨_, b, _⟩ := hH.2 _ hm
    have n := num_len (i := p) (by omega) (by omega)
    have si := str_i (i := p) (by omega) (by omega)
    have l : ("at " : Str).length = 3 := by decide +kernel
    have l' : (" " : Str).length = 1 := by decide +kernel
    have b1 : ("at " : Str).length + h.length < lim := by show _ < 1000000; omega
    have b2 : (("at " : Str) ++ h).length + (" " : Str).length < lim := by rw [len_app]; show _ < 1000000; omega
    have b3 : (("at " : Str) ++ h ++ (" " : Str)).length + (num p).length < lim := by rw [len_app, len_app]; show _ < 1000000; omega
    rw [rk3 rfl ha]
    unfold m_law_shown remT tx
    simp [runFn, sSeq, sIf, sSet, sNew, sRet, sNil, sNx, sRetOwn, sGo, sReverse, sFor, sAppend, sExtend, lstAt, mTest, mNot, mAnd, mOr, mBool, mIf, mOp, mUn, mVar, mMap, mCons, mNil, mPure, mStrs, mCall, putSlot, hName, hTup, iRange, iSeq, ltT, leT, lenT, addT, subT, modT, fdivT, negT, absT, seqOf, mTrue, freezeAt, thaw, item0t, item1t, item2t, e_most_most, e_most_rest, e_most_at, e_most_not, e_most_and, e_most_or, e_rest_most, e_rest_rest, e_rest_at, e_rest_not, e_rest_and, e_rest_or, e_at_most, e_at_rest, e_at_at, e_at_not, e_at_and, e_at_or, e_not_most, e_not_rest, e_not_at, e_not_not, e_not_and, e_not_or, e_and_most, e_and_rest, e_and_at, e_and_not, e_and_and, e_and_or, e_or_most, e_or_rest, e_or_at, e_or_not, e_or_and, e_or_or, si, b1, b2, b3]
  | @no d r hr ih =>
    intro hd k a hk ha
    obtain ⟨k, rfl⟩ : ∃ j, k = j + 1 := ⟨k - 1, by omega⟩
    have m3 := lim6_mono (show d ≤ 2 by omega)
    have e := ih (by omega) k 3 (by omega) (by omega)
    obtain ⟨_, b⟩ := br_ok (k := 3) (r := r) (tx_ok hN hH hr).1 (tx_ok hN hH hr).2
    have l4 : ("not " : Str).length = 4 := by decide +kernel
    have b1 : ("not " : Str).length + (br 3 r (tx r)).length < lim := by show _ < 1000000; omega
    rw [rk3 rfl ha]
    unfold m_law_shown remT tx
    simp [runFn, sSeq, sIf, sSet, sNew, sRet, sNil, sNx, sRetOwn, sGo, sReverse, sFor, sAppend, sExtend, lstAt, mTest, mNot, mAnd, mOr, mBool, mIf, mOp, mUn, mVar, mMap, mCons, mNil, mPure, mStrs, mCall, putSlot, hName, hTup, iRange, iSeq, ltT, leT, lenT, addT, subT, modT, fdivT, negT, absT, seqOf, mTrue, freezeAt, thaw, item0t, item1t, e_most_most, e_most_rest, e_most_at, e_most_not, e_most_and, e_most_or, e_rest_most, e_rest_rest, e_rest_at, e_rest_not, e_rest_and, e_rest_or, e_at_most, e_at_rest, e_at_at, e_at_not, e_at_and, e_at_or, e_not_most, e_not_rest, e_not_at, e_not_not, e_not_and, e_not_or, e_and_most, e_and_rest, e_and_at, e_and_not, e_and_and, e_and_or, e_or_most, e_or_rest, e_or_at, e_or_not, e_or_and, e_or_or, e, b1]
  | @all d l hl hr ih =>
    intro hd k a hk ha
    obtain ⟨k, rfl⟩ : ∃ j, k = j + 1 := ⟨k - 1, by omega⟩
    have m3 := lim6_mono (show d ≤ 2 by omega)
    have R := law_rank (sto := sto) (OkR.all hl hr)
    have e := shown_members (sto := sto) (w := "and") (m := 3) (q := 2) (a := a) hl rfl (fun r hq => ih r hq (by omega) k 3 (by omega) (by omega))
    have t := txs_lim (m := 3) (sep := " and ") hN hH (okS_of _) (by decide +kernel) hl hr (by omega)
    have jt := join_t t
    have ok := tx_ok hN hH (OkR.all hl hr)
    have lm := lim6_mono (show d + 1 ≤ 3 by omega)
    cases l with
    | nil =>
      rw [rk3 rfl ha]
      unfold m_law_shown remT tx
      rw [remsT_map]
      simp [runFn, sSeq, sIf, sSet, sNew, sRet, sNil, sNx, sRetOwn, sGo, sReverse, sFor, sAppend, sExtend, lstAt, mTest, mNot, mAnd, mOr, mBool, mIf, mOp, mUn, mVar, mMap, mCons, mNil, mPure, mStrs, mCall, putSlot, hName, hTup, iRange, iSeq, ltT, leT, lenT, addT, subT, modT, fdivT, negT, absT, seqOf, mTrue, freezeAt, thaw, item0t, item1t, e_most_most, e_most_rest, e_most_at, e_most_not, e_most_and, e_most_or, e_rest_most, e_rest_rest, e_rest_at, e_rest_not, e_rest_and, e_rest_or, e_at_most, e_at_rest, e_at_at, e_at_not, e_at_and, e_at_or, e_not_most, e_not_rest, e_not_at, e_not_not, e_not_and, e_not_or, e_and_most, e_and_rest, e_and_at, e_and_not, e_and_and, e_and_or, e_or_most, e_or_rest, e_or_at, e_or_not, e_or_and, e_or_or, eqO_int, i0, w0]
    | cons y l =>
      have T' : tx (.all (y :: l)) = Str.join " and " (txs 3 (y :: l)) := by unfold tx; rfl
      have R' : rk (.all (y :: l)) = 2 := rfl
      rw [T'] at ok ⊢
      rw [R'] at R
      generalize hz : Str.join " and " (txs 3 (y :: l)) = z at *
      have b1 : ("[" : Str).length + z.length < lim := by show _ < 1000000; omega
      have b2 : (("[" : Str) ++ z).length + ("]" : Str).length < lim := by rw [len_app]; show _ < 1000000; omega
      unfold br
      rw [R']
      unfold remT at R ⊢
      rw [remsT_map] at R ⊢
      rw [List.map_cons] at R e ⊢
      have n0 : (((List.map remT l).length : Int) + 1 == 0) = false := beq_eq_false_iff_ne.mpr (by omega)
      unfold m_law_shown
      by_cases c : (2 : Int) < a
      · rw [if_pos c]
        simp [runFn, sSeq, sIf, sSet, sNew, sRet, sNil, sNx, sRetOwn, sGo, sReverse, sFor, sAppend, sExtend, lstAt, mTest, mNot, mAnd, mOr, mBool, mIf, mOp, mUn, mVar, mMap, mCons, mNil, mPure, mStrs, mCall, putSlot, hName, hTup, iRange, iSeq, ltT, leT, lenT, addT, subT, modT, fdivT, negT, absT, seqOf, mTrue, freezeAt, thaw, item0t, item1t, e_most_most, e_most_rest, e_most_at, e_most_not, e_most_and, e_most_or, e_rest_most, e_rest_rest, e_rest_at, e_rest_not, e_rest_and, e_rest_or, e_at_most, e_at_rest, e_at_at, e_at_not, e_at_and, e_at_or, e_not_most, e_not_rest, e_not_at, e_not_not, e_not_and, e_not_or, e_and_most, e_and_rest, e_and_at, e_and_not, e_and_and, e_and_or, e_or_most, e_or_rest, e_or_at, e_or_not, e_or_and, e_or_or, eqO_int, n0, R, a1, a2, sa, e, jt, c, b1, b2]
        simp only [List.length_map] at n0
        simp [runFn, sSeq, sIf, sSet, sNew, sRet, sNil, sNx, sRetOwn, sGo, sReverse, sFor, sAppend, sExtend, lstAt, mTest, mNot, mAnd, mOr, mBool, mIf, mOp, mUn, mVar, mMap, mCons, mNil, mPure, mStrs, mCall, putSlot, hName, hTup, iRange, iSeq, ltT, leT, lenT, addT, subT, modT, fdivT, negT, absT, seqOf, mTrue, freezeAt, thaw, item0t, item1t, e_most_most, e_most_rest, e_most_at, e_most_not, e_most_and, e_most_or, e_rest_most, e_rest_rest, e_rest_at, e_rest_not, e_rest_and, e_rest_or, e_at_most, e_at_rest, e_at_at, e_at_not, e_at_and, e_at_or, e_not_most, e_not_rest, e_not_at, e_not_not, e_not_and, e_not_or, e_and_most, e_and_rest, e_and_at, e_and_not, e_and_and, e_and_or, e_or_most, e_or_rest, e_or_at, e_or_not, e_or_and, e_or_or, eqO_int, n0, R, a1, a2, sa, e, jt, c, b1, b2]
      · rw [if_neg c]
        simp [runFn, sSeq, sIf, sSet, sNew, sRet, sNil, sNx, sRetOwn, sGo, sReverse, sFor, sAppend, sExtend, lstAt, mTest, mNot, mAnd, mOr, mBool, mIf, mOp, mUn, mVar, mMap, mCons, mNil, mPure, mStrs, mCall, putSlot, hName, hTup, iRange, iSeq, ltT, leT, lenT, addT, subT, modT, fdivT, negT, absT, seqOf, mTrue, freezeAt, thaw, item0t, item1t, e_most_most, e_most_rest, e_most_at, e_most_not, e_most_and, e_most_or, e_rest_most, e_rest_rest, e_rest_at, e_rest_not, e_rest_and, e_rest_or, e_at_most, e_at_rest, e_at_at, e_at_not, e_at_and, e_at_or, e_not_most, e_not_rest, e_not_at, e_not_not, e_not_and, e_not_or, e_and_most, e_and_rest, e_and_at, e_and_not, e_and_and, e_and_or, e_or_most, e_or_rest, e_or_at, e_or_not, e_or_and, e_or_or, eqO_int, n0, R, a1, a2, sa, e, jt, c, b1, b2]
        simp only [List.length_map] at n0
        simp [runFn, sSeq, sIf, sSet, sNew, sRet, sNil, sNx, sRetOwn, sGo, sReverse, sFor, sAppend, sExtend, lstAt, mTest, mNot, mAnd, mOr, mBool, mIf, mOp, mUn, mVar, mMap, mCons, mNil, mPure, mStrs, mCall, putSlot, hName, hTup, iRange, iSeq, ltT, leT, lenT, addT, subT, modT, fdivT, negT, absT, seqOf, mTrue, freezeAt, thaw, item0t, item1t, e_most_most, e_most_rest, e_most_at, e_most_not, e_most_and, e_most_or, e_rest_most, e_rest_rest, e_rest_at, e_rest_not, e_rest_and, e_rest_or, e_at_most, e_at_rest, e_at_at, e_at_not, e_at_and, e_at_or, e_not_most, e_not_rest, e_not_at, e_not_not, e_not_and, e_not_or, e_and_most, e_and_rest, e_and_at, e_and_not, e_and_and, e_and_or, e_or_most, e_or_rest, e_or_at, e_or_not, e_or_and, e_or_or, eqO_int, n0, R, a1, a2, sa, e, jt, c, b1, b2]
  | @any d l hl hr ih =>
    intro hd k a hk ha
    obtain ⟨k, rfl⟩ : ∃ j, k = j + 1 := ⟨k - 1, by omega⟩
    have m3 := lim6_mono (show d ≤ 2 by omega)
    have R := law_rank (sto := sto) (OkR.any hl hr)
    have e := shown_members (sto := sto) (w := "or") (m := 2) (q := 1) (a := a) hl rfl (fun r hq => ih r hq (by omega) k 2 (by omega) (by omega))
    have t := txs_lim (m := 2) (sep := " or ") hN hH (okS_of _) (by decide +kernel) hl hr (by omega)
    have jt := join_t t
    have ok := tx_ok hN hH (OkR.any hl hr)
    have lm := lim6_mono (show d + 1 ≤ 3 by omega)
    cases l with
    | nil =>
      rw [rk3 rfl ha]
      unfold m_law_shown remT tx
      rw [remsT_map]
      simp [runFn, sSeq, sIf, sSet, sNew, sRet, sNil, sNx, sRetOwn, sGo, sReverse, sFor, sAppend, sExtend, lstAt, mTest, mNot, mAnd, mOr, mBool, mIf, mOp, mUn, mVar, mMap, mCons, mNil, mPure, mStrs, mCall, putSlot, hName, hTup, iRange, iSeq, ltT, leT, lenT, addT, subT, modT, fdivT, negT, absT, seqOf, mTrue, freezeAt, thaw, item0t, item1t, e_most_most, e_most_rest, e_most_at, e_most_not, e_most_and, e_most_or, e_rest_most, e_rest_rest, e_rest_at, e_rest_not, e_rest_and, e_rest_or, e_at_most, e_at_rest, e_at_at, e_at_not, e_at_and, e_at_or, e_not_most, e_not_rest, e_not_at, e_not_not, e_not_and, e_not_or, e_and_most, e_and_rest, e_and_at, e_and_not, e_and_and, e_and_or, e_or_most, e_or_rest, e_or_at, e_or_not, e_or_and, e_or_or, eqO_int, i1, w1]
    | cons y l =>
      have T' : tx (.any (y :: l)) = Str.join " or " (txs 2 (y :: l)) := by unfold tx; rfl
      have R' : rk (.any (y :: l)) = 1 := rfl
      rw [T'] at ok ⊢
      rw [R'] at R
      generalize hz : Str.join " or " (txs 2 (y :: l)) = z at *
      have b1 : ("[" : Str).length + z.length < lim := by show _ < 1000000; omega
      have b2 : (("[" : Str) ++ z).length + ("]" : Str).length < lim := by rw [len_app]; show _ < 1000000; omega
      unfold br
      rw [R']
      unfold remT at R ⊢
      rw [remsT_map] at R ⊢
      rw [List.map_cons] at R e ⊢
      have n0 : (((List.map remT l).length : Int) + 1 == 0) = false := beq_eq_false_iff_ne.mpr (by omega)
      unfold m_law_shown
      by_cases c : (1 : Int) < a
      · rw [if_pos c]
        simp [runFn, sSeq, sIf, sSet, sNew, sRet, sNil, sNx, sRetOwn, sGo, sReverse, sFor, sAppend, sExtend, lstAt, mTest, mNot, mAnd, mOr, mBool, mIf, mOp, mUn, mVar, mMap, mCons, mNil, mPure, mStrs, mCall, putSlot, hName, hTup, iRange, iSeq, ltT, leT, lenT, addT, subT, modT, fdivT, negT, absT, seqOf, mTrue, freezeAt, thaw, item0t, item1t, e_most_most, e_most_rest, e_most_at, e_most_not, e_most_and, e_most_or, e_rest_most, e_rest_rest, e_rest_at, e_rest_not, e_rest_and, e_rest_or, e_at_most, e_at_rest, e_at_at, e_at_not, e_at_and, e_at_or, e_not_most, e_not_rest, e_not_at, e_not_not, e_not_and, e_not_or, e_and_most, e_and_rest, e_and_at, e_and_not, e_and_and, e_and_or, e_or_most, e_or_rest, e_or_at, e_or_not, e_or_and, e_or_or, eqO_int, n0, R, o1, o2, so, e, jt, c, b1, b2]
        simp only [List.length_map] at n0
        simp [runFn, sSeq, sIf, sSet, sNew, sRet, sNil, sNx, sRetOwn, sGo, sReverse, sFor, sAppend, sExtend, lstAt, mTest, mNot, mAnd, mOr, mBool, mIf, mOp, mUn, mVar, mMap, mCons, mNil, mPure, mStrs, mCall, putSlot, hName, hTup, iRange, iSeq, ltT, leT, lenT, addT, subT, modT, fdivT, negT, absT, seqOf, mTrue, freezeAt, thaw, item0t, item1t, e_most_most, e_most_rest, e_most_at, e_most_not, e_most_and, e_most_or, e_rest_most, e_rest_rest, e_rest_at, e_rest_not, e_rest_and, e_rest_or, e_at_most, e_at_rest, e_at_at, e_at_not, e_at_and, e_at_or, e_not_most, e_not_rest, e_not_at, e_not_not, e_not_and, e_not_or, e_and_most, e_and_rest, e_and_at, e_and_not, e_and_and, e_and_or, e_or_most, e_or_rest, e_or_at, e_or_not, e_or_and, e_or_or, eqO_int, n0, R, o1, o2, so, e, jt, c, b1, b2]
      · rw [if_neg c]
        simp [runFn, sSeq, sIf, sSet, sNew, sRet, sNil, sNx, sRetOwn, sGo, sReverse, sFor, sAppend, sExtend, lstAt, mTest, mNot, mAnd, mOr, mBool, mIf, mOp, mUn, mVar, mMap, mCons, mNil, mPure, mStrs, mCall, putSlot, hName, hTup, iRange, iSeq, ltT, leT, lenT, addT, subT, modT, fdivT, negT, absT, seqOf, mTrue, freezeAt, thaw, item0t, item1t, e_most_most, e_most_rest, e_most_at, e_most_not, e_most_and, e_most_or, e_rest_most, e_rest_rest, e_rest_at, e_rest_not, e_rest_and, e_rest_or, e_at_most, e_at_rest, e_at_at, e_at_not, e_at_and, e_at_or, e_not_most, e_not_rest, e_not_at, e_not_not, e_not_and, e_not_or, e_and_most, e_and_rest, e_and_at, e_and_not, e_and_and, e_and_or, e_or_most, e_or_rest, e_or_at, e_or_not, e_or_and, e_or_or, eqO_int, n0, R, o1, o2, so, e, jt, c, b1, b2]
        simp only [List.length_map] at n0
        simp [runFn, sSeq, sIf, sSet, sNew, sRet, sNil, sNx, sRetOwn, sGo, sReverse, sFor, sAppend, sExtend, lstAt, mTest, mNot, mAnd, mOr, mBool, mIf, mOp, mUn, mVar, mMap, mCons, mNil, mPure, mStrs, mCall, putSlot, hName, hTup, iRange, iSeq, ltT, leT, lenT, addT, subT, modT, fdivT, negT, absT, seqOf, mTrue, freezeAt, thaw, item0t, item1t, e_most_most, e_most_rest, e_most_at, e_most_not, e_most_and, e_most_or, e_rest_most, e_rest_rest, e_rest_at, e_rest_not, e_rest_and, e_rest_or, e_at_most, e_at_rest, e_at_at, e_at_not, e_at_and, e_at_or, e_not_most, e_not_rest, e_not_at, e_not_not, e_not_and, e_not_or, e_and_most, e_and_rest, e_and_at, e_and_not, e_and_and, e_and_or, e_or_most, e_or_rest, e_or_at, e_or_not, e_or_and, e_or_or, eqO_int, n0, R, o1, o2, so, e, jt, c, b1, b2]
end
end K
end
noncomputable section
set_option linter.all false
set_option maxRecDepth 100000
set_option maxHeartbeats 1000000
set_option autoImplicit false
namespace K
open C PySem
theorem set_at {i : Nat} {e : M T} {s s1 : Sta} {t : T} (h : e s = some (t, s1)) : sSet i e s = some (.next, putSlot i t false s1) := by unfold sSet; rw [h]
theorem no_if {c : M Bool} {a : S} {s s1 : Sta} (h : c s = some (false, s1)) : sIf c a sNil s = some (.next, s1) := by unfold sIf; rw [h]; rfl
theorem for_at {g : G} {it : M (List T)} {b : S} {s s1 s2 : Sta} {ts : List T} (h : it s = some (ts, s1)) (hf : forL g b ts s1 = some (.next, s2)) : sFor g it b s = some (.next, s2) := by unfold sFor; rw [h]; exact hf
noncomputable def body : S :=
  (sSeq (sSet 6 (mCall (m_law_remark 40) (mCons (mCall m_law_state (mCons (mVar 5) (mCons (mVar 4) mNil))) (mCons (mVar 2) (mCons (mVar 3) (mCons (mPure (.int 3)) mNil))))))
  (sSeq (sSet 7 (mCall (m_show_remark 40) (mCons (mVar 6) mNil)))
  (sIf (mOr (mNot (mTest (mMap isStr (mCons (mVar 7) mNil)))) (mTest (mOp neO (mVar 7) (mCall (m_law_shown 40) (mCons (mVar 6) (mCons (mPure (.int 1)) mNil))))))
  (sRet (mPure (.bl false)))
  sNil)))
noncomputable section
variable {N H : List Str} {sto : List SO} {cs : List Int} {c0 c : Int} {fr : Bool} {o5 o6 o7 : Slot}
theorem law_state {f : Bool} : ∃ a, m_law_state [.int c, .bl f] sto = some (.obj sto.length, sto ++ [std a f]) := by
  cases f
  · exact ⟨1 + c % 2147483646, by simp [runFn, sSeq, sIf, sSet, sNew, sRet, sNil, sNx, sRetOwn, sGo, sReverse, sFor, sAppend, sExtend, lstAt, mTest, mNot, mAnd, mOr, mBool, mIf, mOp, mUn, mVar, mMap, mCons, mNil, mPure, mStrs, mCall, putSlot, hName, hTup, iRange, iSeq, ltT, leT, lenT, addT, subT, modT, fdivT, negT, absT, seqOf, mTrue, freezeAt, thaw, m_law_state, mNewObj, mShr, addI, std]⟩
  · exact ⟨c, by simp [runFn, sSeq, sIf, sSet, sNew, sRet, sNil, sNx, sRetOwn, sGo, sReverse, sFor, sAppend, sExtend, lstAt, mTest, mNot, mAnd, mOr, mBool, mIf, mOp, mUn, mVar, mMap, mCons, mNil, mPure, mStrs, mCall, putSlot, hName, hTup, iRange, iSeq, ltT, leT, lenT, addT, subT, modT, fdivT, negT, absT, seqOf, mTrue, freezeAt, thaw, m_law_state, mNewObj, mShr, std]⟩
theorem p1 (pre : List Slot) (h : pre.length = 1) : ∃ a, pre = [a] := by
  match pre, h with
  | [a], _ => exact ⟨a, rfl⟩
theorem br1 {r : Rem} {t : Str} : br 1 r t = t := if_neg (by
  unfold rk
  split <;> decide)
theorem body_at (hN : okNs N) (hH : okHs H) (hs : StO sto) : ∃ (e6 e7 : Slot) (st : List SO), StO st ∧ body ⟨[some (scr cs, false), some (.int c0, false), some (.lst (N.map T.str), false), some (.lst (H.map T.str), false), some (.bl fr, false), some (.int c, false), o6, o7], sto⟩ = some (.next, ⟨[some (scr cs, false), some (.int c0, false), some (.lst (N.map T.str), false), some (.lst (H.map T.str), false), some (.bl fr, false), some (.int c, false), e6, e7], st⟩) := by
  obtain ⟨a, e6⟩ := law_state (c := c) (f := fr) (sto := sto)
  have hs1 := hs.add a fr
  have hL : sto.length < (sto ++ [std a fr]).length := by simp
  obtain ⟨t7, st7, e7, r, rfl, ok, o7', l7⟩ := remark hN hH (n := sto.length) hL 3 40 (by decide) rfl hs1
  rw [show ((3 : Nat) : Int) = 3 from rfl] at e7
  have sr := show_remark (sto := st7) hN hH ok (Nat.le_refl _) 40 (by decide)
  have ls := law_shown (sto := st7) hN hH ok (Nat.le_refl _) 40 1 (by decide) (by decide)
  rw [br1] at ls
  have ne := neO_str (tx_ok hN hH ok).1 (tx_ok hN hH ok).1
  rw [beq_self_eq_true] at ne
  refine ⟨some (remT r, false), some (.str (tx r), false), st7, o7', ?_⟩
  unfold body
  generalize tx r = z at *
  rw [seq_step (s' := ⟨[some (scr cs, false), some (.int c0, false), some (.lst (N.map T.str), false), some (.lst (H.map T.str), false), some (.bl fr, false), some (.int c, false), some (remT r, false), o7], st7⟩) (by simp [runFn, sSeq, sIf, sSet, sNew, sRet, sNil, sNx, sRetOwn, sGo, sReverse, sFor, sAppend, sExtend, lstAt, mTest, mNot, mAnd, mOr, mBool, mIf, mOp, mUn, mVar, mMap, mCons, mNil, mPure, mStrs, mCall, putSlot, hName, hTup, iRange, iSeq, ltT, leT, lenT, addT, subT, modT, fdivT, negT, absT, seqOf, mTrue, freezeAt, thaw, e6, e7])]
  rw [seq_step (s' := ⟨[some (scr cs, false), some (.int c0, false), some (.lst (N.map T.str), false), some (.lst (H.map T.str), false), some (.bl fr, false), some (.int c, false), some (remT r, false), some (.str z, false)], st7⟩) (by simp [runFn, sSeq, sIf, sSet, sNew, sRet, sNil, sNx, sRetOwn, sGo, sReverse, sFor, sAppend, sExtend, lstAt, mTest, mNot, mAnd, mOr, mBool, mIf, mOp, mUn, mVar, mMap, mCons, mNil, mPure, mStrs, mCall, putSlot, hName, hTup, iRange, iSeq, ltT, leT, lenT, addT, subT, modT, fdivT, negT, absT, seqOf, mTrue, freezeAt, thaw, sr])]
  exact no_if (by simp [runFn, sSeq, sIf, sSet, sNew, sRet, sNil, sNx, sRetOwn, sGo, sReverse, sFor, sAppend, sExtend, lstAt, mTest, mNot, mAnd, mOr, mBool, mIf, mOp, mUn, mVar, mMap, mCons, mNil, mPure, mStrs, mCall, putSlot, hName, hTup, iRange, iSeq, ltT, leT, lenT, addT, subT, modT, fdivT, negT, absT, seqOf, mTrue, freezeAt, thaw, isStr, ls, ne])
theorem law_true (hc : cs.length ≤ 63) : ∃ st, m_law [scr cs] [] = some (.bl true, st) := by
  have c0e := cell_n (cs := cs) (k := 0) (i := 0) (sto := []) rfl
  have c1e := cell_n (cs := cs) (k := 1) (i := 1) (sto := []) rfl
  have l6 : 6 < lim := by decide
  have l3 : 3 < lim := by decide
  have nms : ∀ (k : Int) (m : Nat) (f : Nat → Int), ∃ M : List Str, M.length = m ∧ (∀ x ∈ M, okN x) ∧ ∀ i, i < m → m_law_name [.int k, .int (f i)] [] = some (.str (M.getD i "b"), []) := by
    intro k m f
    induction m with
    | zero => exact ⟨[], rfl, fun x hx => (by cases hx), fun i hi => by omega⟩
    | succ m ih =>
      obtain ⟨M, h1, h2, h3⟩ := ih
      obtain ⟨x, e, o⟩ := name (c := k) (k := f m) (sto := [])
      refine ⟨M ++ [x], by simp [h1], fun y hy => ?_, fun i hi => ?_⟩
      · rcases List.mem_append.mp hy with z | z
        · exact h2 y z
        · rw [List.mem_singleton] at z; subst z; exact o
      · by_cases hi' : i < m
        · rw [h3 i hi']
          simp [List.getD, List.getElem?_append_left (by omega : i < M.length)]
        · have : i = m := by omega
          subst this
          rw [e]
          subst h1
          simp [List.getD]
  obtain ⟨N, hN1, hN2, hN3⟩ := nms (cell cs 0) 6 (fun i => (i : Int))
  obtain ⟨H, hH1, hH2, hH3⟩ := nms (cell cs 0) 3 (fun i => (i : Int) + 6)
  have gd : ∀ (M : List Str), (List.range M.length).map (fun i => T.str (M.getD i "b")) = M.map T.str := by
    intro M
    apply List.ext_getElem
    · simp
    · intro i h1 h2
      simp at h1
      simp [List.getD, List.getElem?_eq_getElem h1]
  have hN : okNs N := ⟨by omega, hN2⟩
  have hH : okHs H := ⟨hH1, hH2⟩
  have r6 : rangeT 6 = (List.range 6).map fun (i : Nat) => T.int (i : Int) := rfl
  have r3 : rangeT 3 = (List.range 3).map fun (i : Nat) => T.int (i : Int) := rfl
  unfold m_law
  generalize hc0 : cell cs 0 = c0 at *
  obtain ⟨fr, hfr⟩ : ∃ fr : Bool, (cell cs 1 % 2 == 0) = fr := ⟨_, rfl⟩
  have cN := mComp_map (fun (i : Nat) => T.int (i : Int)) (fun (i : Nat) => T.str (N.getD i "b")) (List.range 6) (g := hName 0) (nv := 1) (ci := [1]) (c := mTrue) (it := iRange (mPure (.int 6))) (e := mCall m_law_name (mCons (mVar 1) (mCons (mVar 0) mNil))) (s := ⟨[some (scr cs, false), some (.int c0, false), none, none, none, none, none, none], []⟩) (s1 := ⟨[some (scr cs, false), some (.int c0, false), none, none, none, none, none, none], []⟩) [some (scr cs, false), some (.int c0, false), none, none, none, none, none, none] [some (.int c0, false)]
    (by simp [runFn, sSeq, sIf, sSet, sNew, sRet, sNil, sNx, sRetOwn, sGo, sReverse, sFor, sAppend, sExtend, lstAt, mTest, mNot, mAnd, mOr, mBool, mIf, mOp, mUn, mVar, mMap, mCons, mNil, mPure, mStrs, mCall, putSlot, hName, hTup, iRange, iSeq, ltT, leT, lenT, addT, subT, modT, fdivT, negT, absT, seqOf, mTrue, freezeAt, thaw, l6, r6]) rfl rfl rfl (by decide) (by
      intro i hi pre hp
      obtain ⟨a, rfl⟩ := p1 pre hp
      have := hN3 i (List.mem_range.mp hi)
      exact ⟨[some (.int (i : Int), false)], rfl, rfl, rfl, by simp [runFn, sSeq, sIf, sSet, sNew, sRet, sNil, sNx, sRetOwn, sGo, sReverse, sFor, sAppend, sExtend, lstAt, mTest, mNot, mAnd, mOr, mBool, mIf, mOp, mUn, mVar, mMap, mCons, mNil, mPure, mStrs, mCall, putSlot, hName, hTup, iRange, iSeq, ltT, leT, lenT, addT, subT, modT, fdivT, negT, absT, seqOf, mTrue, freezeAt, thaw, this]⟩)
  have cH := mComp_map (fun (i : Nat) => T.int (i : Int)) (fun (i : Nat) => T.str (H.getD i "b")) (List.range 3) (g := hName 0) (nv := 1) (ci := [1]) (c := mTrue) (it := iRange (mPure (.int 3))) (e := mCall m_law_name (mCons (mVar 1) (mCons (mOp addT (mVar 0) (mPure (.int 6))) mNil))) (s := ⟨[some (scr cs, false), some (.int c0, false), some (.lst (N.map T.str), false), none, none, none, none, none], []⟩) (s1 := ⟨[some (scr cs, false), some (.int c0, false), some (.lst (N.map T.str), false), none, none, none, none, none], []⟩) [some (scr cs, false), some (.int c0, false), some (.lst (N.map T.str), false), none, none, none, none, none] [some (.int c0, false)]
    (by simp [runFn, sSeq, sIf, sSet, sNew, sRet, sNil, sNx, sRetOwn, sGo, sReverse, sFor, sAppend, sExtend, lstAt, mTest, mNot, mAnd, mOr, mBool, mIf, mOp, mUn, mVar, mMap, mCons, mNil, mPure, mStrs, mCall, putSlot, hName, hTup, iRange, iSeq, ltT, leT, lenT, addT, subT, modT, fdivT, negT, absT, seqOf, mTrue, freezeAt, thaw, l3, r3]) rfl rfl rfl (by decide) (by
      intro i hi pre hp
      obtain ⟨a, rfl⟩ := p1 pre hp
      have := hH3 i (List.mem_range.mp hi)
      exact ⟨[some (.int (i : Int), false)], rfl, rfl, rfl, by simp [runFn, sSeq, sIf, sSet, sNew, sRet, sNil, sNx, sRetOwn, sGo, sReverse, sFor, sAppend, sExtend, lstAt, mTest, mNot, mAnd, mOr, mBool, mIf, mOp, mUn, mVar, mMap, mCons, mNil, mPure, mStrs, mCall, putSlot, hName, hTup, iRange, iSeq, ltT, leT, lenT, addT, subT, modT, fdivT, negT, absT, seqOf, mTrue, freezeAt, thaw, this]⟩)
  have gN := gd N
  have gH := gd H
  rw [hN1] at gN
  rw [hH1] at gH
  rw [gN] at cN
  rw [gH] at cH
  have main : ∃ (st : List SO) (e5 e6 e7 : Slot), sFor (hName 5) (iSeq (mOp addT (mMap (fun l => some (.lst l)) (mCons (mCall m_law_cell_at (mCons (mVar 0) (mCons (mPure (.int 1)) mNil))) mNil)) (mSlice (mVar 0) (oSome (mPure (.int 2))) oNone))) body ⟨[some (scr cs, false), some (.int c0, false), some (.lst (N.map T.str), false), some (.lst (H.map T.str), false), some (.bl fr, false), none, none, none], []⟩ = some (.next, ⟨[some (scr cs, false), some (.int c0, false), some (.lst (N.map T.str), false), some (.lst (H.map T.str), false), some (.bl fr, false), e5, e6, e7], st⟩) := by
    have ll : 1 + (cs.length - 2) < lim := by show _ < 1000000; omega
    have it : iSeq (mOp addT (mMap (fun l => some (.lst l)) (mCons (mCall m_law_cell_at (mCons (mVar 0) (mCons (mPure (.int 1)) mNil))) mNil)) (mSlice (mVar 0) (oSome (mPure (.int 2))) oNone)) ⟨[some (scr cs, false), some (.int c0, false), some (.lst (N.map T.str), false), some (.lst (H.map T.str), false), some (.bl fr, false), none, none, none], []⟩ = some ((cell cs 1 :: cs.drop 2).map T.int, ⟨[some (scr cs, false), some (.int c0, false), some (.lst (N.map T.str), false), some (.lst (H.map T.str), false), some (.bl fr, false), none, none, none], []⟩) := by
      have hd : (min (2 : Int).toNat cs.length) ≤ cs.length := Nat.min_le_right _ _
      have ed : cs.drop (min 2 cs.length) = cs.drop 2 := by
        by_cases h : 2 ≤ cs.length
        · rw [Nat.min_eq_left h]
        · rw [Nat.min_eq_right (by omega), List.drop_length, List.drop_eq_nil_of_le (by omega)]
      have cx : cutX (some 2) none (scr cs) = some (.lst ((cs.drop 2).map T.int)) := by
        have : cutl (cs.map T.int) (some 2) none = (cs.drop 2).map T.int := by
          unfold cutl sIx
          simp only [List.length_map]
          rw [show (2 : Int).toNat = 2 from rfl, if_neg (by decide), ← List.map_drop, ed, ← List.map_take]
          congr 1
          apply List.take_of_length_le
          rw [List.length_drop]
          omega
        simp only [cutX, this]
      have ll2 : 1 + (cs.length - 2) < lim := ll
      simp [runFn, sSeq, sIf, sSet, sNew, sRet, sNil, sNx, sRetOwn, sGo, sReverse, sFor, sAppend, sExtend, lstAt, mTest, mNot, mAnd, mOr, mBool, mIf, mOp, mUn, mVar, mMap, mCons, mNil, mPure, mStrs, mCall, putSlot, hName, hTup, iRange, iSeq, ltT, leT, lenT, addT, subT, modT, fdivT, negT, absT, seqOf, mTrue, freezeAt, thaw, c1e, mSlice, oSome, oNone, cx]
      have : 1 + ((cs.drop 2).map T.int).length < lim := by rw [List.length_map, List.length_drop]; exact ll
      simp at this
      simp [this, Nat.add_comm]
    generalize hF : forL (hName 5) body ((cell cs 1 :: cs.drop 2).map T.int) ⟨[some (scr cs, false), some (.int c0, false), some (.lst (N.map T.str), false), some (.lst (H.map T.str), false), some (.bl fr, false), none, none, none], []⟩ = q
    obtain ⟨s', rfl, P⟩ := forL_at hF (fun ts s => ∃ (l : List Int) (e5 e6 e7 : Slot) (st : List SO), ts = l.map T.int ∧ s = ⟨[some (scr cs, false), some (.int c0, false), some (.lst (N.map T.str), false), some (.lst (H.map T.str), false), some (.bl fr, false), e5, e6, e7], st⟩ ∧ StO st)
      ⟨cell cs 1 :: cs.drop 2, none, none, none, [], rfl, rfl, fun x hx => (by cases hx)⟩ (by
        rintro t q s ⟨l, e5, e6, e7, st, e1, rfl, e2⟩
        cases l with
        | nil => cases e1
        | cons c l =>
          cases e1
          obtain ⟨f6, f7, st', h1, h2⟩ := body_at (cs := cs) (c0 := c0) (c := c) (fr := fr) (o6 := e6) (o7 := e7) hN hH e2
          exact ⟨_, _, rfl, h2, l, _, f6, f7, st', rfl, rfl, h1⟩)
    obtain ⟨l, e5, e6, e7, st, e1, rfl, e2⟩ := P
    exact ⟨st, e5, e6, e7, for_at it hF⟩
  obtain ⟨st, e5, e6, e7, em⟩ := main
  refine ⟨st, ?_⟩
  unfold runFn
  rw [show ([scr cs].map (fun t => some (t, false)) ++ List.replicate (8 - [scr cs].length) none : List Slot) = [some (scr cs, false), none, none, none, none, none, none, none] from rfl]
  rw [seq_step (s' := ⟨[some (scr cs, false), some (.int c0, false), none, none, none, none, none, none], []⟩) (by simp [runFn, sSeq, sIf, sSet, sNew, sRet, sNil, sNx, sRetOwn, sGo, sReverse, sFor, sAppend, sExtend, lstAt, mTest, mNot, mAnd, mOr, mBool, mIf, mOp, mUn, mVar, mMap, mCons, mNil, mPure, mStrs, mCall, putSlot, hName, hTup, iRange, iSeq, ltT, leT, lenT, addT, subT, modT, fdivT, negT, absT, seqOf, mTrue, freezeAt, thaw, c0e])]
  rw [seq_step (set_at cN)]
  rw [seq_step (s' := ⟨[some (scr cs, false), some (.int c0, false), some (.lst (N.map T.str), false), some (.lst (H.map T.str), false), none, none, none, none], []⟩) (set_at cH)]
  rw [seq_step (s' := ⟨[some (scr cs, false), some (.int c0, false), some (.lst (N.map T.str), false), some (.lst (H.map T.str), false), some (.bl fr, false), none, none, none], []⟩) (by simp [runFn, sSeq, sIf, sSet, sNew, sRet, sNil, sNx, sRetOwn, sGo, sReverse, sFor, sAppend, sExtend, lstAt, mTest, mNot, mAnd, mOr, mBool, mIf, mOp, mUn, mVar, mMap, mCons, mNil, mPure, mStrs, mCall, putSlot, hName, hTup, iRange, iSeq, ltT, leT, lenT, addT, subT, modT, fdivT, negT, absT, seqOf, mTrue, freezeAt, thaw, c1e, eqO_int, hfr])]
  unfold body at em
  rw [seq_step em]
  rfl
end
end K
end
noncomputable section
set_option linter.all false
set_option maxRecDepth 100000
set_option maxHeartbeats 1000000
namespace D
open PySem L2 C
theorem all_mk {l : PySem.W.OpenLaw} {w : World} {K : PySem.W.Frag} {h : Heap} {mg : Str → Option Value} {fa f1 f2 f3 f4 f5 f6 f7 f8 f9 f10 f11 f12 f13 f14 f15 f16 f17 : Addr} (X : K.In h) (G : h.Ns mainGlobals mg) (hfa : mg "law" = some (.ref fa))
    {od1 an1 od2 an2 od3 an3 od4 an4 od5 an5 od6 an6 od7 an7 od8 an8 od9 an9 od10 an10 od11 an11 od12 an12 od13 an13 od14 an14 od15 an15 od16 an16 od17 an17 : Option Addr} {sl1 sl2 sl3 sl4 sl5 sl6 sl7 sl8 sl9 sl10 sl11 sl12 sl13 sl14 sl15 sl16 sl17 : Array (Option Value)} {oc1 kV1 dc1 pm1 cd1 ct1 oc2 kV2 dc2 pm2 cd2 ct2 oc3 kV3 dc3 pm3 cd3 ct3 oc4 kV4 dc4 pm4 cd4 ct4 oc5 kV5 dc5 pm5 cd5 ct5 oc6 kV6 dc6 pm6 cd6 ct6 oc7 kV7 dc7 pm7 cd7 ct7 oc8 kV8 dc8 pm8 cd8 ct8 oc9 kV9 dc9 pm9 cd9 ct9 oc10 kV10 dc10 pm10 cd10 ct10 oc11 kV11 dc11 pm11 cd11 ct11 oc12 kV12 dc12 pm12 cd12 ct12 oc13 kV13 dc13 pm13 cd13 ct13 oc14 kV14 dc14 pm14 cd14 ct14 oc15 kV15 dc15 pm15 cd15 ct15 oc16 kV16 dc16 pm16 cd16 ct16 oc17 kV17 dc17 pm17 cd17 ct17 : Value}
    (a1 : PySem.W.nsIn K mainGlobals "show_part" = some (some (.ref f1))) (l1 : K.lookup f1 = some ⟨oc1, od1, .func (PySem.W.fnOf "show_part" "show_part" (defArgs s_show_part) (defBody s_show_part) (defScope s_show_part) .none kV1 dc1 pm1 an1 cd1 ct1), sl1⟩) (c1 : PySem.W.codeIn K cd1 "show_part" = true) (k1 : PySem.W.keepIn K (.ref f1) = true)
    (a2 : PySem.W.nsIn K mainGlobals "sign_ahead" = some (some (.ref f2))) (l2 : K.lookup f2 = some ⟨oc2, od2, .func (PySem.W.fnOf "sign_ahead" "sign_ahead" (defArgs s_sign_ahead) (defBody s_sign_ahead) (defScope s_sign_ahead) .none kV2 dc2 pm2 an2 cd2 ct2), sl2⟩) (c2 : PySem.W.codeIn K cd2 "sign_ahead" = true) (k2 : PySem.W.keepIn K (.ref f2) = true)
    (a3 : PySem.W.nsIn K mainGlobals "show_sum" = some (some (.ref f3))) (l3 : K.lookup f3 = some ⟨oc3, od3, .func (PySem.W.fnOf "show_sum" "show_sum" (defArgs s_show_sum) (defBody s_show_sum) (defScope s_show_sum) .none kV3 dc3 pm3 an3 cd3 ct3), sl3⟩) (c3 : PySem.W.codeIn K cd3 "show_sum" = true) (k3 : PySem.W.keepIn K (.ref f3) = true)
    (a4 : PySem.W.nsIn K mainGlobals "show_most" = some (some (.ref f4))) (l4 : K.lookup f4 = some ⟨oc4, od4, .func (PySem.W.fnOf "show_most" "show_most" (defArgs s_show_most) (defBody s_show_most) (defScope s_show_most) .none kV4 dc4 pm4 an4 cd4 ct4), sl4⟩) (c4 : PySem.W.codeIn K cd4 "show_most" = true) (k4 : PySem.W.keepIn K (.ref f4) = true)
    (a5 : PySem.W.nsIn K mainGlobals "show_remark" = some (some (.ref f5))) (l5 : K.lookup f5 = some ⟨oc5, od5, .func (PySem.W.fnOf "show_remark" "show_remark" (defArgs s_show_remark) (defBody s_show_remark) (defScope s_show_remark) .none kV5 dc5 pm5 an5 cd5 ct5), sl5⟩) (c5 : PySem.W.codeIn K cd5 "show_remark" = true) (k5 : PySem.W.keepIn K (.ref f5) = true)
    (a6 : PySem.W.nsIn K mainGlobals "show_member" = some (some (.ref f6))) (l6 : K.lookup f6 = some ⟨oc6, od6, .func (PySem.W.fnOf "show_member" "show_member" (defArgs s_show_member) (defBody s_show_member) (defScope s_show_member) .none kV6 dc6 pm6 an6 cd6 ct6), sl6⟩) (c6 : PySem.W.codeIn K cd6 "show_member" = true) (k6 : PySem.W.keepIn K (.ref f6) = true)
    (a7 : PySem.W.nsIn K mainGlobals "_law_cell_at" = some (some (.ref f7))) (l7 : K.lookup f7 = some ⟨oc7, od7, .func (PySem.W.fnOf "_law_cell_at" "_law_cell_at" (defArgs s_law_cell_at) (defBody s_law_cell_at) (defScope s_law_cell_at) .none kV7 dc7 pm7 an7 cd7 ct7), sl7⟩) (c7 : PySem.W.codeIn K cd7 "_law_cell_at" = true) (k7 : PySem.W.keepIn K (.ref f7) = true)
    (a8 : PySem.W.nsIn K mainGlobals "_law_state" = some (some (.ref f8))) (l8 : K.lookup f8 = some ⟨oc8, od8, .func (PySem.W.fnOf "_law_state" "_law_state" (defArgs s_law_state) (defBody s_law_state) (defScope s_law_state) .none kV8 dc8 pm8 an8 cd8 ct8), sl8⟩) (c8 : PySem.W.codeIn K cd8 "_law_state" = true) (k8 : PySem.W.keepIn K (.ref f8) = true)
    (a9 : PySem.W.nsIn K mainGlobals "_law_take" = some (some (.ref f9))) (l9 : K.lookup f9 = some ⟨oc9, od9, .func (PySem.W.fnOf "_law_take" "_law_take" (defArgs s_law_take) (defBody s_law_take) (defScope s_law_take) .none kV9 dc9 pm9 an9 cd9 ct9), sl9⟩) (c9 : PySem.W.codeIn K cd9 "_law_take" = true) (k9 : PySem.W.keepIn K (.ref f9) = true)
    (a10 : PySem.W.nsIn K mainGlobals "_law_name" = some (some (.ref f10))) (l10 : K.lookup f10 = some ⟨oc10, od10, .func (PySem.W.fnOf "_law_name" "_law_name" (defArgs s_law_name) (defBody s_law_name) (defScope s_law_name) .none kV10 dc10 pm10 an10 cd10 ct10), sl10⟩) (c10 : PySem.W.codeIn K cd10 "_law_name" = true) (k10 : PySem.W.keepIn K (.ref f10) = true)
    (a11 : PySem.W.nsIn K mainGlobals "_law_number" = some (some (.ref f11))) (l11 : K.lookup f11 = some ⟨oc11, od11, .func (PySem.W.fnOf "_law_number" "_law_number" (defArgs s_law_number) (defBody s_law_number) (defScope s_law_number) .none kV11 dc11 pm11 an11 cd11 ct11), sl11⟩) (c11 : PySem.W.codeIn K cd11 "_law_number" = true) (k11 : PySem.W.keepIn K (.ref f11) = true)
    (a12 : PySem.W.nsIn K mainGlobals "_law_sum" = some (some (.ref f12))) (l12 : K.lookup f12 = some ⟨oc12, od12, .func (PySem.W.fnOf "_law_sum" "_law_sum" (defArgs s_law_sum) (defBody s_law_sum) (defScope s_law_sum) .none kV12 dc12 pm12 an12 cd12 ct12), sl12⟩) (c12 : PySem.W.codeIn K cd12 "_law_sum" = true) (k12 : PySem.W.keepIn K (.ref f12) = true)
    (a13 : PySem.W.nsIn K mainGlobals "_law_remark" = some (some (.ref f13))) (l13 : K.lookup f13 = some ⟨oc13, od13, .func (PySem.W.fnOf "_law_remark" "_law_remark" (defArgs s_law_remark) (defBody s_law_remark) (defScope s_law_remark) .none kV13 dc13 pm13 an13 cd13 ct13), sl13⟩) (c13 : PySem.W.codeIn K cd13 "_law_remark" = true) (k13 : PySem.W.keepIn K (.ref f13) = true)
    (a14 : PySem.W.nsIn K mainGlobals "_law_sum_text" = some (some (.ref f14))) (l14 : K.lookup f14 = some ⟨oc14, od14, .func (PySem.W.fnOf "_law_sum_text" "_law_sum_text" (defArgs s_law_sum_text) (defBody s_law_sum_text) (defScope s_law_sum_text) .none kV14 dc14 pm14 an14 cd14 ct14), sl14⟩) (c14 : PySem.W.codeIn K cd14 "_law_sum_text" = true) (k14 : PySem.W.keepIn K (.ref f14) = true)
    (a15 : PySem.W.nsIn K mainGlobals "_law_rank" = some (some (.ref f15))) (l15 : K.lookup f15 = some ⟨oc15, od15, .func (PySem.W.fnOf "_law_rank" "_law_rank" (defArgs s_law_rank) (defBody s_law_rank) (defScope s_law_rank) .none kV15 dc15 pm15 an15 cd15 ct15), sl15⟩) (c15 : PySem.W.codeIn K cd15 "_law_rank" = true) (k15 : PySem.W.keepIn K (.ref f15) = true)
    (a16 : PySem.W.nsIn K mainGlobals "_law_shown" = some (some (.ref f16))) (l16 : K.lookup f16 = some ⟨oc16, od16, .func (PySem.W.fnOf "_law_shown" "_law_shown" (defArgs s_law_shown) (defBody s_law_shown) (defScope s_law_shown) .none kV16 dc16 pm16 an16 cd16 ct16), sl16⟩) (c16 : PySem.W.codeIn K cd16 "_law_shown" = true) (k16 : PySem.W.keepIn K (.ref f16) = true)
    (a17 : PySem.W.nsIn K mainGlobals "law" = some (some (.ref f17))) (l17 : K.lookup f17 = some ⟨oc17, od17, .func (PySem.W.fnOf "law" "law" (defArgs s_law) (defBody s_law) (defScope s_law) .none kV17 dc17 pm17 an17 cd17 ct17), sl17⟩) (c17 : PySem.W.codeIn K cd17 "law" = true) (k17 : PySem.W.keepIn K (.ref f17) = true)
    (z_abs : PySem.W.nsIn K mainGlobals "abs" = some none)
    (z_int : PySem.W.nsIn K mainGlobals "int" = some none)
    (z_isinstance : PySem.W.nsIn K mainGlobals "isinstance" = some none)
    (z_len : PySem.W.nsIn K mainGlobals "len" = some none)
    (z_range : PySem.W.nsIn K mainGlobals "range" = some none)
    (z_sorted : PySem.W.nsIn K mainGlobals "sorted" = some none)
    (z_str : PySem.W.nsIn K mainGlobals "str" = some none)
    (z_tuple : PySem.W.nsIn K mainGlobals "tuple" = some none)
    (z_zip : PySem.W.nsIn K mainGlobals "zip" = some none)
    {q_BRACKETED : Addr} {n_BRACKETED : Nat} {t_BRACKETED_0 t_BRACKETED_1 t_BRACKETED_2 : Tok} {h_BRACKETED_0 h_BRACKETED_1 h_BRACKETED_2 : Int} {q_BRACKETED_1 q_BRACKETED_4 q_BRACKETED_6 : Addr} {tk_BRACKETED_2 tk_BRACKETED_3 tk_BRACKETED_5 tk_BRACKETED_7 tk_BRACKETED_8 : Tok} {n_BRACKETED_1 n_BRACKETED_4 n_BRACKETED_6 : Nat} {s_BRACKETED_1 s_BRACKETED_4 s_BRACKETED_6 : Array (Option Value)}
    (zc_BRACKETED : PySem.W.nsIn K mainGlobals "BRACKETED" = some (some (.ref q_BRACKETED))) (zl_BRACKETED_0 : K.lookup q_BRACKETED = some ⟨.type "dict", none, .dict #[{ hash := h_BRACKETED_0, key := .str "and" t_BRACKETED_0, val := (.ref q_BRACKETED_1) }, { hash := h_BRACKETED_1, key := .str "or" t_BRACKETED_1, val := (.ref q_BRACKETED_4) }, { hash := h_BRACKETED_2, key := .str "not" t_BRACKETED_2, val := (.ref q_BRACKETED_6) }] n_BRACKETED, #[]⟩) (zl_BRACKETED_1 : K.lookup q_BRACKETED_1 = some ⟨.type "tuple", none, .seq [(.str "and" tk_BRACKETED_2), (.str "or" tk_BRACKETED_3)].toArray n_BRACKETED_1, s_BRACKETED_1⟩) (zl_BRACKETED_4 : K.lookup q_BRACKETED_4 = some ⟨.type "tuple", none, .seq [(.str "or" tk_BRACKETED_5)].toArray n_BRACKETED_4, s_BRACKETED_4⟩) (zl_BRACKETED_6 : K.lookup q_BRACKETED_6 = some ⟨.type "tuple", none, .seq [(.str "and" tk_BRACKETED_7), (.str "or" tk_BRACKETED_8)].toArray n_BRACKETED_6, s_BRACKETED_6⟩) (zh_BRACKETED_0 : h_BRACKETED_0 = hashStr w "and") (zh_BRACKETED_1 : h_BRACKETED_1 = hashStr w "or") (zh_BRACKETED_2 : h_BRACKETED_2 = hashStr w "not")
    : ∃ fd : FuncData, (∀ (s : Shared) (v : Value), BindsTo s fd ⟨[v], []⟩ [("_law_script", v)]) ∧ ∀ base : Heap, K.In base → base.Ns mainGlobals mg → FnOk l.prog w K mg base CX0 44 fa fd ["_law_script"] (spF K 1 _root_.K.m_law) := by
  have e := hfa.symm.trans (PySem.W.mg_of X G a17)
  cases e
  have F1 := fun_mk (st := s_show_part) l1 c1 k1
  have F2 := fun_mk (st := s_sign_ahead) l2 c2 k2
  have F3 := fun_mk (st := s_show_sum) l3 c3 k3
  have F4 := fun_mk (st := s_show_most) l4 c4 k4
  have F5 := fun_mk (st := s_show_remark) l5 c5 k5
  have F6 := fun_mk (st := s_show_member) l6 c6 k6
  have F7 := fun_mk (st := s_law_cell_at) l7 c7 k7
  have F8 := fun_mk (st := s_law_state) l8 c8 k8
  have F9 := fun_mk (st := s_law_take) l9 c9 k9
  have F10 := fun_mk (st := s_law_name) l10 c10 k10
  have F11 := fun_mk (st := s_law_number) l11 c11 k11
  have F12 := fun_mk (st := s_law_sum) l12 c12 k12
  have F13 := fun_mk (st := s_law_remark) l13 c13 k13
  have F14 := fun_mk (st := s_law_sum_text) l14 c14 k14
  have F15 := fun_mk (st := s_law_rank) l15 c15 k15
  have F16 := fun_mk (st := s_law_shown) l16 c16 k16
  have F17 := fun_mk (st := s_law) l17 c17 k17
  have b_abs := PySem.W.mg_none_of X G z_abs
  have b_int := PySem.W.mg_none_of X G z_int
  have b_isinstance := PySem.W.mg_none_of X G z_isinstance
  have b_len := PySem.W.mg_none_of X G z_len
  have b_range := PySem.W.mg_none_of X G z_range
  have b_sorted := PySem.W.mg_none_of X G z_sorted
  have b_str := PySem.W.mg_none_of X G z_str
  have b_tuple := PySem.W.mg_none_of X G z_tuple
  have b_zip := PySem.W.mg_none_of X G z_zip
  have c_BRACKETED : ∃ a, mg "BRACKETED" = some (.ref a) ∧ TabInT K w a [("and", ["and", "or"]), ("or", ["or"]), ("not", ["and", "or"])] := ⟨_, PySem.W.mg_of X G zc_BRACKETED, _, _, zl_BRACKETED_0, (.cons zh_BRACKETED_0 (Held.tup zl_BRACKETED_1 (by simp) (Helds.cons Held.str (Helds.cons Held.str Helds.nil))) (.cons zh_BRACKETED_1 (Held.tup zl_BRACKETED_4 (by simp) (Helds.cons Held.str Helds.nil)) (.cons zh_BRACKETED_2 (Held.tup zl_BRACKETED_6 (by simp) (Helds.cons Held.str (Helds.cons Held.str Helds.nil))) .nil))), by decide +kernel⟩
  refine ⟨PySem.W.fnOf "law" "law" (defArgs s_law) (defBody s_law) (defScope s_law) .none kV17 dc17 pm17 an17 cd17 ct17, fun s v => .of_eq rfl, fun base _ _ => ?_⟩
  have d_show_part := ok_show_part (P := l.prog) (w := w) (base := base) F1 (PySem.W.mg_of X G a1)
  have d_sign_ahead := ok_sign_ahead (P := l.prog) (w := w) (base := base) F2 (PySem.W.mg_of X G a2)
  have d_show_sum := ok_show_sum (P := l.prog) (w := w) (base := base) F3 (PySem.W.mg_of X G a3) d_show_part d_sign_ahead b_abs b_len b_str b_zip
  have d_show_most := ok_show_most (P := l.prog) (w := w) (base := base) F4 (PySem.W.mg_of X G a4) d_show_sum b_str
  have g_show_remark := okg_show_remark (P := l.prog) (w := w) (base := base) F5 (PySem.W.mg_of X G a5) F6 (PySem.W.mg_of X G a6) d_show_most d_show_sum b_str c_BRACKETED 40
  have d_show_remark := g_show_remark.1
  have d_show_member := g_show_remark.2
  have d_law_cell_at := ok_law_cell_at (P := l.prog) (w := w) (base := base) F7 (PySem.W.mg_of X G a7) b_len
  have d_law_state := ok_law_state (P := l.prog) (w := w) (base := base) F8 (PySem.W.mg_of X G a8)
  have d_law_take := ok_law_take (P := l.prog) (w := w) (base := base) F9 (PySem.W.mg_of X G a9)
  have d_law_name := ok_law_name (P := l.prog) (w := w) (base := base) F10 (PySem.W.mg_of X G a10)
  have d_law_number := ok_law_number (P := l.prog) (w := w) (base := base) F11 (PySem.W.mg_of X G a11) d_law_take b_range
  have d_law_sum := ok_law_sum (P := l.prog) (w := w) (base := base) F12 (PySem.W.mg_of X G a12) d_law_number d_law_take b_sorted b_tuple
  have g_law_remark := okg_law_remark (P := l.prog) (w := w) (base := base) F13 (PySem.W.mg_of X G a13) d_law_sum d_law_take b_int b_len b_range b_tuple 40
  have d_law_remark := g_law_remark
  have d_law_sum_text := ok_law_sum_text (P := l.prog) (w := w) (base := base) F14 (PySem.W.mg_of X G a14) b_abs b_int b_str
  have d_law_rank := ok_law_rank (P := l.prog) (w := w) (base := base) F15 (PySem.W.mg_of X G a15) b_len
  have g_law_shown := okg_law_shown (P := l.prog) (w := w) (base := base) F16 (PySem.W.mg_of X G a16) d_law_rank d_law_sum_text b_int b_len b_str 40
  have d_law_shown := g_law_shown
  exact fo_law F17 d_law_cell_at d_law_name d_law_remark d_law_shown d_law_state d_show_remark b_isinstance b_range b_str
theorem walk {l : PySem.W.OpenLaw} {q : Program} {loose : List Str} {XP : (Str → Option Value) → Heap → Prop} {YP : World → Heap → Prop} {d : DefRec} {K : Params → PySem.W.Frag} (hn : l.most = some 63) (hdf : d.params.defaults = [])
    (hY : ∀ (w : World) (h : Heap), YP w h → (K w.params).In h)
    (F : ∀ (w : World) (mg : Str → Option Value) (fa : Addr) (h : Heap), (K w.params).In h → h.Ns mainGlobals mg → mg d.name = some (.ref fa) →
      ∃ fd : FuncData, (∀ (s : Shared) (u : Value), BindsTo s fd ⟨[u], []⟩ [("_law_script", u)]) ∧ ∀ base : Heap, (K w.params).In base → base.Ns mainGlobals mg → FnOk l.prog w (K w.params) mg base CX0 44 fa fd ["_law_script"] (spF (K w.params) 1 _root_.K.m_law)) :
    PySem.W.WalkO q loose XP YP l.row.toRowW d [] (fun f vs => PySem.call f vs) :=
  L2.walk_of (n := 63) (k := 44) (x := "_law_script") (CX := fun _ => CX0) (sp := fun w => spF (K w.params) 1 _root_.K.m_law) hn (by decide) hdf ⟨rfl, by decide, by decide⟩ hY F (fun w H a ns hl _ hS => law_spE hS (_root_.K.law_true (cs := ns) hl)) fun _ _ _ _ _ z => z
end D
open PySem PySem.W PyProof.Rows
set_option maxRecDepth 100000 in
set_option maxHeartbeats 0 in
theorem PySem.Challenge.cw_calm_k06_remarks_written_holds : PySem.Challenge.rw_calm_k06_remarks_written.Holds := by
  w_on; o_law; k_head; (case hw => w_witness2)
  k_fill
  refine D.walk (l := PySem.Challenge.rw_calm_k06_remarks_written) rfl rfl (fun w h Y => PySem.W.kIn_of Y) ?F
  case F =>
    intro w mg fa h KX G hmg
    refine' D.all_mk KX G hmg ?a1 ?l1 ?c1 ?k1 ?a2 ?l2 ?c2 ?k2 ?a3 ?l3 ?c3 ?k3 ?a4 ?l4 ?c4 ?k4 ?a5 ?l5 ?c5 ?k5 ?a6 ?l6 ?c6 ?k6 ?a7 ?l7 ?c7 ?k7 ?a8 ?l8 ?c8 ?k8 ?a9 ?l9 ?c9 ?k9 ?a10 ?l10 ?c10 ?k10 ?a11 ?l11 ?c11 ?k11 ?a12 ?l12 ?c12 ?k12 ?a13 ?l13 ?c13 ?k13 ?a14 ?l14 ?c14 ?k14 ?a15 ?l15 ?c15 ?k15 ?a16 ?l16 ?c16 ?k16 ?a17 ?l17 ?c17 ?k17 ?z_abs ?z_int ?z_isinstance ?z_len ?z_range ?z_sorted ?z_str ?z_tuple ?z_zip ?zc_BRACKETED ?zl_BRACKETED_0 ?zl_BRACKETED_1 ?zl_BRACKETED_4 ?zl_BRACKETED_6 ?zh_BRACKETED_0 ?zh_BRACKETED_1 ?zh_BRACKETED_2
    (case a1 => k_is)
    (case l1 => k_is)
    (case c1 => k_is)
    (case k1 => k_is)
    (case a2 => k_is)
    (case l2 => k_is)
    (case c2 => k_is)
    (case k2 => k_is)
    (case a3 => k_is)
    (case l3 => k_is)
    (case c3 => k_is)
    (case k3 => k_is)
    (case a4 => k_is)
    (case l4 => k_is)
    (case c4 => k_is)
    (case k4 => k_is)
    (case a5 => k_is)
    (case l5 => k_is)
    (case c5 => k_is)
    (case k5 => k_is)
    (case a6 => k_is)
    (case l6 => k_is)
    (case c6 => k_is)
    (case k6 => k_is)
    (case a7 => k_is)
    (case l7 => k_is)
    (case c7 => k_is)
    (case k7 => k_is)
    (case a8 => k_is)
    (case l8 => k_is)
    (case c8 => k_is)
    (case k8 => k_is)
    (case a9 => k_is)
    (case l9 => k_is)
    (case c9 => k_is)
    (case k9 => k_is)
    (case a10 => k_is)
    (case l10 => k_is)
    (case c10 => k_is)
    (case k10 => k_is)
    (case a11 => k_is)
    (case l11 => k_is)
    (case c11 => k_is)
    (case k11 => k_is)
    (case a12 => k_is)
    (case l12 => k_is)
    (case c12 => k_is)
    (case k12 => k_is)
    (case a13 => k_is)
    (case l13 => k_is)
    (case c13 => k_is)
    (case k13 => k_is)
    (case a14 => k_is)
    (case l14 => k_is)
    (case c14 => k_is)
    (case k14 => k_is)
    (case a15 => k_is)
    (case l15 => k_is)
    (case c15 => k_is)
    (case k15 => k_is)
    (case a16 => k_is)
    (case l16 => k_is)
    (case c16 => k_is)
    (case k16 => k_is)
    (case a17 => k_is)
    (case l17 => k_is)
    (case c17 => k_is)
    (case k17 => k_is)
    (case z_abs => k_is)
    (case z_int => k_is)
    (case z_isinstance => k_is)
    (case z_len => k_is)
    (case z_range => k_is)
    (case z_sorted => k_is)
    (case z_str => k_is)
    (case z_tuple => k_is)
    (case z_zip => k_is)
    (case zc_BRACKETED => k_is)
    (case zl_BRACKETED_0 => k_is)
    (case zl_BRACKETED_1 => k_is)
    (case zl_BRACKETED_4 => k_is)
    (case zl_BRACKETED_6 => k_is)
    (case zh_BRACKETED_0 => rfl)
    (case zh_BRACKETED_1 => rfl)
    (case zh_BRACKETED_2 => rfl)
#print axioms PySem.Challenge.cw_calm_k06_remarks_written_holds
end
