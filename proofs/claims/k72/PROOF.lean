import PyProof.Rows.All
import Wide.All
import OpenK.AllK
import Wide.FinOn
import Lean
import PyProof.EqAt
import PyProof.EqKinds
import PyProof.TupleCall
import PyProof.P3Statements
import PyProof.Lay0
import PyProof.P3Eq
import PyProof.NeData
import KE.KEqDict
import PyProof.ListRange
import PyProof.ZipIter
import PyProof.WalksMore
import PyProof.Rows.FactsT2
import PySem.Challenge.RW_calm_k72_listed_remarks
section
set_option Elab.async false
set_option linter.all false
set_option maxRecDepth 100000
namespace L2
open PySem PySem.Spec PyProof.Rows

/-- a key: an int or a str -/
abbrev Key := Sum Int Str
def keyIs : Key → Value → Bool
  | .inl k, v => Value.isInt k v
  | .inr x, v => Value.isStrOf x v
def keyH (w : World) : Key → Int
  | .inl k => hashInt k
  | .inr x => hashStr w x
theorem keyIs_shape : ∀ {k : Key} {v : Value}, keyIs k v = true → (∃ i t, k = Sum.inl i ∧ v = Value.int i t) ∨ (∃ x t, k = Sum.inr x ∧ v = Value.str x t)
  | .inl i, v, h => by
    obtain ⟨t, e⟩ := Value.isInt_shape (k := i) (v := v) h
    exact .inl ⟨i, t, rfl, e⟩
  | .inr x, v, h => by
    obtain ⟨t, e⟩ := Value.isStrOf_shape (x := x) (v := v) h
    exact .inr ⟨x, t, rfl, e⟩
theorem keyIs_int (i : Int) (t : Tok) : keyIs (.inl i) (.int i t) = true := by simp [keyIs, Value.isInt]
theorem keyIs_str (x : Str) (t : Tok) : keyIs (.inr x) (.str x t) = true := by simp [keyIs, Value.isStrOf]
theorem key_ll (a b : Int) : decide ((Sum.inl a : Key) = Sum.inl b) = (a == b) := by
  by_cases e : a = b
  · subst e; simp
  · have h : ¬ (Sum.inl a : Key) = Sum.inl b := fun q => e (Sum.inl.inj q)
    rw [decide_eq_false h]
    exact (beq_eq_false_iff_ne.mpr e).symm
theorem key_rr (a b : Str) : decide ((Sum.inr a : Key) = Sum.inr b) = decide (a = b) := by
  by_cases e : a = b
  · subst e; simp
  · have h : ¬ (Sum.inr a : Key) = Sum.inr b := fun q => e (Sum.inr.inj q)
    rw [decide_eq_false h, decide_eq_false e]
theorem key_lr (a : Int) (b : Str) : decide ((Sum.inl a : Key) = Sum.inr b) = false := decide_eq_false (fun q => nomatch q)
theorem key_rl (a : Str) (b : Int) : decide ((Sum.inr a : Key) = Sum.inl b) = false := decide_eq_false (fun q => nomatch q)

def mixKind (prog : Program) (w : World) : PySem.KeyKind prog w Key where
  is := keyIs
  hash := keyH w
  inj := fun v a b ha hb => by
    rcases keyIs_shape ha with ⟨i, t, rfl, rfl⟩ | ⟨x, t, rfl, rfl⟩
    · rcases keyIs_shape hb with ⟨j, u, rfl, e⟩ | ⟨y, u, rfl, e⟩
      · injection e with e1 _; rw [e1]
      · exact nomatch e
    · rcases keyIs_shape hb with ⟨j, u, rfl, e⟩ | ⟨y, u, rfl, e⟩
      · exact nomatch e
      · injection e with e1 _; rw [e1]
  byValue := fun k v h => by
    rcases keyIs_shape h with ⟨i, t, rfl, rfl⟩ | ⟨x, t, rfl, rfl⟩ <;> rfl
  pyHash := fun hv h => by
    rcases keyIs_shape hv with ⟨i, t, rfl, rfl⟩ | ⟨x, t, rfl, rfl⟩
    · exact wpAny_pyHash_int h
    · exact wpAny_pyHash_str h
  eqBool := fun hu hv h => by
    rcases keyIs_shape hu with ⟨i, t, rfl, rfl⟩ | ⟨x, t, rfl, rfl⟩
    · rcases keyIs_shape hv with ⟨j, u, rfl, rfl⟩ | ⟨y, u, rfl, rfl⟩
      · rw [key_ll] at h; exact wpAny_eqBool_int h
      · rw [key_lr] at h; exact SeqAt.EqAt.int_str i t y u _ _ _ _ h
    · rcases keyIs_shape hv with ⟨j, u, rfl, rfl⟩ | ⟨y, u, rfl, rfl⟩
      · rw [key_rl] at h; exact SeqAt.EqAt.str_int x t j u _ _ _ _ h
      · rw [key_rr] at h; exact wpAny_eqBool_str h
  «strs» := fun k x t v h => by
    rcases keyIs_shape h with ⟨i, u, rfl, e⟩ | ⟨y, u, rfl, e⟩
    · exact nomatch e
    · injection e with e1 _
      subst e1
      cases v <;> rfl

theorem mixKind_is (prog : Program) (w : World) (k : Key) (v : Value) : (mixKind prog w).is k v = keyIs k v := rfl
theorem mixKind_int (prog : Program) (w : World) (i : Int) (t : Tok) : (mixKind prog w).is (.inl i) (.int i t) = true := keyIs_int i t
theorem mixKind_str (prog : Program) (w : World) (x : Str) (t : Tok) : (mixKind prog w).is (.inr x) (.str x t) = true := keyIs_str x t
end L2

namespace L2
open PySem PySem.Spec PyProof.Rows

/-- a value, without the heap -/
inductive V where
  | non | bl (b : Bool) | int (i : Int) | str (x : Str) | byt (b : Array UInt8) | flt (b : UInt64) | ref (a : Addr) | ty (n : String)
  deriving DecidableEq

def RelV : V → Value → Prop
  | .non, u => u = Value.none
  | .bl b, u => u = Value.bool b
  | .int i, u => ∃ t, u = Value.int i t
  | .str x, u => ∃ t, u = Value.str x t
  | .byt b, u => ∃ t, u = Value.bytes b t
  | .flt b, u => ∃ t, u = Value.float b t
  | .ref a, u => u = Value.ref a
  | .ty n, u => u = Value.type n

abbrev Vals : List V → List Value → Prop := Paired RelV
theorem Vals.length {xs : List V} {us : List Value} (r : Vals xs us) : xs.length = us.length := Paired.length r
theorem Vals.get : ∀ {xs : List V} {us : List Value} {i : Nat} {x : V}, Vals xs us → xs[i]? = some x → ∃ u, us[i]? = some u ∧ RelV x u
  | _, _, _, _, .nil, e => by simp at e
  | _, _, 0, _, .cons r _, e => by simp at e; subst e; exact ⟨_, rfl, r⟩
  | _, _, i + 1, x, .cons _ t, e => by
    obtain ⟨u, h1, h2⟩ := Vals.get (i := i) (x := x) t (by simpa using e)
    exact ⟨u, by simpa using h1, h2⟩
theorem Vals.set {x : V} {u : Value} (r : RelV x u) : ∀ {xs : List V} {us : List Value} (i : Nat), Vals xs us → Vals (xs.set i x) (us.set i u)
  | _, _, _, .nil => .nil
  | _, _, 0, .cons _ t => .cons r t
  | _, _, i + 1, .cons q t => .cons q (Vals.set r i t)
theorem Vals.append : ∀ {xs ys : List V} {us ws : List Value}, Vals xs us → Vals ys ws → Vals (xs ++ ys) (us ++ ws)
  | _, _, _, _, .nil, s => s
  | _, _, _, _, .cons r t, s => .cons r (Vals.append t s)
theorem Vals.take : ∀ {xs : List V} {us : List Value} (n : Nat), Vals xs us → Vals (xs.take n) (us.take n)
  | _, _, 0, _ => .nil
  | _, _, _ + 1, .nil => .nil
  | _, _, n + 1, .cons r t => .cons r (Vals.take n t)
theorem Vals.drop : ∀ {xs : List V} {us : List Value} (n : Nat), Vals xs us → Vals (xs.drop n) (us.drop n)
  | _, _, 0, r => r
  | _, _, _ + 1, .nil => .nil
  | _, _, n + 1, .cons _ t => Vals.drop n t
theorem Vals.none_of : ∀ {xs : List V} {us : List Value} {i : Nat}, Vals xs us → xs[i]? = none → us[i]? = none := fun {xs us i} r e => by
  have h1 := r.length
  have h2 : xs.length ≤ i := List.getElem?_eq_none_iff.mp e
  exact List.getElem?_eq_none_iff.mpr (by omega)

def RelO : Option V → Option Value → Prop
  | some v, some u => RelV v u
  | none, none => True
  | _, _ => False
def KV {κ : Type} : List (κ × V) → List (κ × Value) → Prop := Paired fun (p : κ × V) (q : κ × Value) => p.1 = q.1 ∧ RelV p.2 q.2

/-- a key of a dict (00_mix): an int or a text -/
def kV : Key → V
  | .inl i => .int i
  | .inr x => .str x

/-- what stands at a tracked address -/
inductive HO where
  /-- a list -/
  | lst (xs : List V)
  /-- a tuple (never changes) -/
  | tup (xs : List V)
  /-- a dict whose keys are ints and texts; one whose keys are tuples of ints and texts (the empty one is both) -/
  | dK (kvs : List (Key × V)) | dT (kvs : List (List Key × V))
  /-- a set of ints: its members, its size -/
  | set (S : Int → Bool) (n : Nat)
  /-- an instance of the class at C, its dict at dx, its attributes -/
  | ins (C dx : Addr) (fs : List (Str × V))
  /-- the dict of the instance at x -/
  | own (x : Addr)
  /-- the dict of an exception -/
  | xd (fs : List (Str × V))
  /-- a bound method, f of x -/
  | met (f x : Addr)
  /-- a range object lo, lo + 1, .. below hi -/
  | rng (lo hi : Int)
  /-- a thing that is known to the object (the script; a dict while a loop walks it): read, never written while it is so -/
  | frz (o : Obj) (u : HO)
  /-- a code object's table -/
  | tbl (ps : Array Value)
  /-- any other thing, by what is true of its one object (a def of one's own: SetO a S n := HO.ext fun h => ..) -/
  | ext (φ : Heap → Prop)

abbrev Hp := Addr → Option HO
def upd (H : Hp) (a : Addr) (o : HO) : Hp := fun b => if b = a then some o else H b
theorem upd_same {H : Hp} {a : Addr} {o : HO} : upd H a o a = some o := by unfold upd; rw [if_pos rfl]
theorem upd_ne {H : Hp} {a b : Addr} {o : HO} (h : b ≠ a) : upd H a o b = H b := by unfold upd; rw [if_neg h]
theorem upd_upd {H : Hp} {a : Addr} {o u : HO} : upd (upd H a o) a u = upd H a u := by
  funext b; unfold upd; split <;> rfl
/-- two objects of different content stand apart -/
theorem ne_of {H : Hp} {a b : Addr} {o u : HO} (h : H a = some o) (h' : H b = some u) (d : o ≠ u) : a ≠ b := by
  intro e; subst e; rw [h] at h'; exact d (Option.some.inj h')
theorem ne_of_none {H : Hp} {a b : Addr} {o : HO} (h : H a = some o) (h' : H b = none) : a ≠ b := by
  intro e; subst e; rw [h] at h'; cases h'

section
variable (P : Program) (w : World)
def ObjOk (H : Hp) (h : Heap) (a : Addr) : HO → Prop
  | .lst xs => xs.length ≤ sizeLine ∧ ∃ (its : List Value) (n : Nat), Vals xs its ∧ h.get? a = some { cls := .type "list", data := .seq its.toArray n }
  | .tup xs => xs.length ≤ sizeLine ∧ ∃ its : List Value, Vals xs its ∧ IsTup h a its.toArray
  | .dK kvs => kvs.length ≤ sizeLine ∧ (a == sysModules) = false ∧ ∃ vs, KV kvs vs ∧ h.DictOf (mixKind P w) a vs
  | .dT kvs => kvs.length ≤ sizeLine ∧ (a == sysModules) = false ∧ ∃ xs : List (List Key × Addr × Value),
      Paired (fun (p : List Key × V) (q : List Key × Addr × Value) => p.1 = q.1 ∧ H q.2.1 = some (.tup (p.1.map kV)) ∧ RelV p.2 q.2.2) kvs xs ∧
      ∃ o es ep, h.get? a = some o ∧ o.ExactDict ∧ o.data = .dict es ep ∧ es.toList = xs.map (entryOfKey (tupleKind (mixKind P w))) ∧ (xs.map (·.1)).Nodup
  | .set S n => h.SetOf (intKind P w) a S n
  | .ins C dx fs => H dx = some (.own a) ∧ fs.length ≤ 1000 ∧ dx ≠ a ∧ h.get? a = some (PySem.W.instObj C dx) ∧
      ∃ mA, h.Ns1 dx mA ∧ (∀ f, RelO (fs.lookup f) (mA f)) ∧ PySem.Within mA (fs.map (·.1))
  | .own _ => ∃ o, h.get? a = some o
  | .xd fs => ∃ mA, h.Ns1 a mA ∧ ∀ f, RelO (fs.lookup f) (mA f)
  | .rng lo hi => ∃ t u v, h.get? a = some { cls := .type "range", data := .fields #[.int lo t, .int hi u, .int 1 v] }
  | .frz o u => h.get? a = some o ∧ ObjOk H h a u
  | .tbl ps => h.get? a = some { cls := .none, data := .fields ps }
  | .met f x => h.get? a = some (PySem.W.methodObj (.ref f) (.ref x))
  | .ext φ => φ h ∧ (∃ o, h.get? a = some o) ∧ ∀ h1 h2 : Heap, φ h1 → (∀ o, h1.get? a = some o → h2.get? a = some o) → φ h2
/-- the abstract heap is held -/
def HOk (H : Hp) (h : Heap) : Prop := ∀ a o, H a = some o → ObjOk P w H h a o
end

section
variable {P : Program} {w : World} {H H' : Hp} {h h' : Heap} {a : Addr} {o : HO}
theorem ObjOk.lt (x : ObjOk P w H h a o) : a < h.objs.size := by
  cases o with
  | lst xs => obtain ⟨_, _, _, _, e⟩ := x; exact Heap.lt_size e
  | tup xs => obtain ⟨_, _, _, p⟩ := x; exact p.lt
  | dK kvs => obtain ⟨_, _, _, _, o, _, _, e, _⟩ := x; exact Heap.lt_size e
  | dT kvs => obtain ⟨_, _, _, _, o, _, _, e, _⟩ := x; exact Heap.lt_size e
  | set S n => obtain ⟨o, _, _, _, e, _⟩ := x; exact Heap.lt_size e
  | ins C dx fs => obtain ⟨_, _, _, e, _⟩ := x; exact Heap.lt_size e
  | own y => obtain ⟨_, e⟩ := x; exact Heap.lt_size e
  | xd fs => obtain ⟨_, ⟨_, _, _, e, _⟩, _⟩ := x; exact Heap.lt_size e
  | rng lo hi => obtain ⟨_, _, _, e⟩ := x; exact Heap.lt_size e
  | frz ob u => obtain ⟨e, _⟩ := x; exact Heap.lt_size e
  | tbl ps => exact Heap.lt_size (show h.get? a = some _ from x)
  | met f y => exact Heap.lt_size (show h.get? a = some _ from x)
  | ext φ => obtain ⟨_, ⟨_, e⟩, _⟩ := x; exact Heap.lt_size e
theorem Paired.mapP {α β : Type} {F G : α → β → Prop} : ∀ {l₁ : List α} {l₂ : List β}, Paired F l₁ l₂ → (∀ a b, F a b → G a b) → Paired G l₁ l₂
  | _, _, .nil, _ => .nil
  | _, _, .cons r t, f => .cons (f _ _ r) (Paired.mapP t f)
theorem Paired.imp' {α β : Type} {F G : α → β → Prop} (f : ∀ a b, F a b → G a b) {l₁ : List α} {l₂ : List β} (r : Paired F l₁ l₂) : Paired G l₁ l₂ := Paired.mapP r f
/-- what an object's description leans on: its own object, its own dict, the tuples -/
theorem ObjOk.stay (x : ObjOk P w H h a o) (k : ∀ b u, (b = a ∨ H b = some (.own a)) → h.get? b = some u → h'.get? b = some u)
    (ho : ∀ b, H b = some (.own a) → H' b = some (.own a)) (ht : ∀ b xs, H b = some (.tup xs) → H' b = some (.tup xs)) : ObjOk P w H' h' a o := by
  induction o with
  | lst xs => obtain ⟨z, its, n, r, e⟩ := x; exact ⟨z, its, n, r, k _ _ (.inl rfl) e⟩
  | tup xs => obtain ⟨z, its, r, ob, e, c⟩ := x; exact ⟨z, its, r, ob, k _ _ (.inl rfl) e, c⟩
  | dK kvs => obtain ⟨z, y, vs, r, ob, es, ep, e, c⟩ := x; exact ⟨z, y, vs, r, ob, es, ep, k _ _ (.inl rfl) e, c⟩
  | dT kvs =>
    obtain ⟨z, y, xs, r, ob, es, ep, e, c⟩ := x
    exact ⟨z, y, xs, Paired.mapP r fun p q z => ⟨z.1, ht _ _ z.2.1, z.2.2⟩, ob, es, ep, k _ _ (.inl rfl) e, c⟩
  | set S n => obtain ⟨ob, es, ep, t, e, c⟩ := x; exact ⟨ob, es, ep, t, k _ _ (.inl rfl) e, c⟩
  | ins C dx fs =>
    obtain ⟨d, z, ne, e, mA, ⟨od, es, ep, e2, c⟩, r⟩ := x
    exact ⟨ho _ d, z, ne, k _ _ (.inl rfl) e, mA, ⟨od, es, ep, k _ _ (.inr d) e2, c⟩, r⟩
  | own y => obtain ⟨ob, e⟩ := x; exact ⟨ob, k _ _ (.inl rfl) e⟩
  | xd fs => obtain ⟨mA, ⟨od, es, ep, e, c⟩, r⟩ := x; exact ⟨mA, ⟨od, es, ep, k _ _ (.inl rfl) e, c⟩, r⟩
  | rng lo hi => obtain ⟨t, u, v, e⟩ := x; exact ⟨t, u, v, k _ _ (.inl rfl) e⟩
  | frz ob u ih => obtain ⟨e, q⟩ := x; exact ⟨k _ _ (.inl rfl) e, ih q⟩
  | tbl ps =>
    have e : h.get? a = some { cls := .none, data := .fields ps } := x
    show h'.get? a = some { cls := .none, data := .fields ps }
    exact k a _ (.inl rfl) e
  | met f y =>
    have e : h.get? a = some (PySem.W.methodObj (.ref f) (.ref y)) := x
    show h'.get? a = some (PySem.W.methodObj (.ref f) (.ref y))
    exact k a _ (.inl rfl) e
  | ext φ => obtain ⟨p, ⟨o, e⟩, st⟩ := x; exact ⟨st _ _ p fun o q => k _ _ (.inl rfl) q, ⟨o, k _ _ (.inl rfl) e⟩, st⟩
theorem HOk.lt (x : HOk P w H h) (e : H a = some o) : a < h.objs.size := (x a o e).lt
theorem HOk.fresh (x : HOk P w H h) (e : h.objs.size ≤ a) : H a = none := by
  cases q : H a with
  | none => rfl
  | some u => exact absurd (Nat.lt_of_lt_of_le (x.lt q) e) (Nat.lt_irrefl _)
/-- every object of the heap is kept -/
theorem HOk.kept (x : HOk P w H h) (k : ∀ b u, h.get? b = some u → h'.get? b = some u) : HOk P w H h' := fun a o e =>
  (x a o e).stay (fun b u _ q => k b u q) (fun _ q => q) fun _ _ q => q
/-- a new object is laid and tracked -/
theorem HOk.laid (x : HOk P w H h) (k : ∀ b u, h.get? b = some u → h'.get? b = some u) (hp : h.objs.size ≤ a) (new : ObjOk P w (upd H a o) h' a o) : HOk P w (upd H a o) h' := fun b u e => by
  have hn := x.fresh hp
  by_cases hb : b = a
  · subst hb; rw [upd_same] at e; cases e; exact new
  · rw [upd_ne hb] at e
    exact (x b u e).stay (fun c v _ q => k c v q) (fun c q => by rw [upd_ne (ne_of_none q hn)]; exact q) fun c xs q => by rw [upd_ne (ne_of_none q hn)]; exact q
end

/-- what may be read as u: it is u, or a known u -/
def Rd (H : Hp) (a : Addr) (u : HO) : Prop := H a = some u ∨ ∃ o, H a = some (.frz o u)
theorem Rd.of {H : Hp} {a : Addr} {u : HO} (h : H a = some u) : Rd H a u := .inl h
theorem Rd.ok {P : Program} {w : World} {H : Hp} {h : Heap} {a : Addr} {u : HO} (r : Rd H a u) (x : HOk P w H h) : ObjOk P w H h a u := by
  rcases r with r | ⟨o, r⟩
  · exact x a u r
  · obtain ⟨_, q⟩ := x a _ r
    exact q
/-- what may be written -/
def Mut : Option HO → Prop
  | some (.lst _) => True
  | some (.dK _) => True
  | some (.dT _) => True
  | some (.set _ _) => True
  | some (.ins _ _ _) => True
  | some (.ext _) => True
  | _ => False
section
variable {P : Program} {w : World} {H : Hp} {h h' : Heap} {x e : Addr} {o' : HO}
/-- the object at e is changed: x itself, or the dict of the instance x -/
theorem HOk.write (ok : HOk P w H h) (mu : Mut (H x)) (he : e = x ∨ H e = some (.own x)) (k : ∀ b u, b ≠ e → h.get? b = some u → h'.get? b = some u) (heo : ∃ u, h'.get? e = some u)
    (new : ObjOk P w (upd H x o') h' x o') : HOk P w (upd H x o') h' := fun b u q => by
  have nown : ∀ c y, H c = some (.own y) → c ≠ x := fun c y r z => by subst z; rw [r] at mu; exact mu
  have ntup : ∀ c xs, H c = some (.tup xs) → c ≠ x := fun c xs r z => by subst z; rw [r] at mu; exact mu
  by_cases hb : b = x
  · subst hb; rw [upd_same] at q; cases q; exact new
  · rw [upd_ne hb] at q
    by_cases hbe : b = e
    · have q' : H b = some (.own x) := by
        rcases he with z | z
        · exact absurd (hbe.trans z) hb
        · rw [hbe]; exact z
      rw [q] at q'; cases q'
      obtain ⟨v, hv⟩ := heo
      exact ⟨v, by rw [hbe]; exact hv⟩
    · refine (ok b u q).stay (fun c v hc r => k c v ?_ r) (fun c r => by rw [upd_ne (nown c b r)]; exact r) fun c xs r => by rw [upd_ne (ntup c xs r)]; exact r
      rcases hc with rfl | hc
      · exact hbe
      · rintro rfl
        rcases he with z | z
        · exact nown c b hc z
        · rw [hc] at z; cases z; exact hb rfl
end

/-! ### kept unless tracked; of the frames at fs (the callers') the slots may change (an exception that passes writes there); of the records at ex (iterators) nothing is said -/
structure Un (fs ex : List Addr) (H H' : Hp) (h h' : Heap) : Prop where
  keep : ∀ b o, h.get? b = some o → H b = none → b ∉ fs → b ∉ ex → h'.get? b = some o
  slot : ∀ b o, h.get? b = some o → H b = none → b ∈ fs → b ∉ ex → ∃ sl, h'.get? b = some { o with slots := sl }
  free : ∀ b o, h.get? b = some o → H b = none → b ∉ ex → H' b = none
  there : ∀ b o, h.get? b = some o → b ∉ ex → ∃ o', h'.get? b = some o'
  tups : ∀ b xs, H b = some (.tup xs) → H' b = some (.tup xs)
  frzs : ∀ b o u, H b = some (.frz o u) → H' b = some (.frz o u)
  tbls : ∀ b ps, H b = some (.tbl ps) → ∃ more, H' b = some (.tbl (ps ++ more))
section
variable {fs fs' ex ex' : List Addr} {H H1 H2 : Hp} {h h1 h2 h' : Heap} {a x e : Addr} {o : HO}
theorem Un.any (u : Un fs ex H H1 h h1) {b : Addr} {ob : Obj} (q : h.get? b = some ob) (n : H b = none) (hx : b ∉ ex) : ∃ sl, h1.get? b = some { ob with slots := sl } := by
  by_cases hb : b ∈ fs
  · exact u.slot b ob q n hb hx
  · exact ⟨ob.slots, u.keep b ob q n hb hx⟩
theorem Un.trans (a : Un fs ex H H1 h h1) (b : Un fs ex H1 H2 h1 h2) : Un fs ex H H2 h h2 where
  keep := fun c ob q n hc hx => b.keep c ob (a.keep c ob q n hc hx) (a.free c ob q n hx) hc hx
  slot := fun c ob q n hc hx => by
    obtain ⟨sl, e1⟩ := a.slot c ob q n hc hx
    obtain ⟨sl', e2⟩ := b.slot c _ e1 (a.free c ob q n hx) hc hx
    exact ⟨sl', e2⟩
  free := fun c ob q n hx => by
    obtain ⟨o', e1⟩ := a.there c ob q hx
    exact b.free c o' e1 (a.free c ob q n hx) hx
  there := fun c ob q hx => by
    obtain ⟨o', e1⟩ := a.there c ob q hx
    exact b.there c o' e1 hx
  tups := fun c xs q => b.tups c xs (a.tups c xs q)
  frzs := fun c ob xs q => b.frzs c ob xs (a.frzs c ob xs q)
  tbls := fun c ps q => by
    obtain ⟨m1, e1⟩ := a.tbls c ps q
    obtain ⟨m2, e2⟩ := b.tbls c _ e1
    exact ⟨m1 ++ m2, by rw [e2, Array.append_assoc]⟩
theorem Un.kept (k : ∀ b u, h.get? b = some u → h'.get? b = some u) : Un fs ex H H h h' :=
  ⟨fun b ob q _ _ _ => k b ob q, fun b ob q _ _ _ => ⟨ob.slots, k b ob q⟩, fun _ _ _ n _ => n, fun b ob q _ => ⟨ob, k b ob q⟩, fun _ _ q => q, fun _ _ _ q => q, fun _ ps q => ⟨#[], by rw [q]; simp⟩⟩
theorem Un.refl : Un fs ex H H h h := Un.kept fun _ _ q => q
theorem Un.laid (k : ∀ b u, h.get? b = some u → h'.get? b = some u) (hp : h.objs.size ≤ a) (hn : H a = none) : Un fs ex H (upd H a o) h h' where
  keep := fun b u q _ _ _ => k b u q
  slot := fun b u q _ _ _ => ⟨u.slots, k b u q⟩
  free := fun b u q n _ => by rw [upd_ne (Nat.ne_of_lt (Nat.lt_of_lt_of_le (Heap.lt_size q) hp))]; exact n
  there := fun b u q _ => ⟨u, k b u q⟩
  tups := fun b xs q => by rw [upd_ne (ne_of_none q hn)]; exact q
  frzs := fun b u xs q => by rw [upd_ne (ne_of_none q hn)]; exact q
  tbls := fun b ps q => ⟨#[], by rw [upd_ne (ne_of_none q hn), q]; simp⟩
theorem Un.write (mu : Mut (H x)) (he : e = x ∨ H e = some (.own x)) (k : ∀ b u, b ≠ e → h.get? b = some u → h'.get? b = some u) (heo : ∃ u, h'.get? e = some u) : Un fs ex H (upd H x o) h h' := by
  have hx : ∀ b, H b = none → b ≠ x := fun b n z => by subst z; rw [n] at mu; exact mu
  have hb : ∀ b, H b = none → b ≠ e := fun b n z => by
    subst z
    rcases he with r | r
    · exact hx b n r
    · rw [n] at r; cases r
  have hm : ∀ b u, H b = some u → ¬ Mut (some u) → b ≠ x := fun b u q nm z => by subst z; rw [q] at mu; exact nm mu
  refine ⟨fun b u q n _ _ => k b u (hb b n) q, fun b u q n _ _ => ⟨u.slots, k b u (hb b n) q⟩, fun b u q n _ => by rw [upd_ne (hx b n)]; exact n, fun b u q _ => ?_,
    fun b xs q => by rw [upd_ne (hm b _ q fun z => z)]; exact q, fun b u xs q => by rw [upd_ne (hm b _ q fun z => z)]; exact q, fun b ps q => ⟨#[], by rw [upd_ne (hm b _ q fun z => z), q]; simp⟩⟩
  by_cases hbe : b = e
  · subst hbe; exact heo
  · exact ⟨u, k b u hbe q⟩
theorem Un.mono (u : Un fs ex H H1 h h1) (hs : ∀ b ∈ fs, b ∈ fs') (hx : ∀ b ∈ ex, b ∈ ex') : Un fs' ex' H H1 h h1 :=
  ⟨fun b ob q n hb he => u.keep b ob q n (fun z => hb (hs b z)) fun z => he (hx b z), fun _ _ q n _ he => u.any q n fun z => he (hx _ z), fun b ob q n he => u.free b ob q n fun z => he (hx b z), fun b ob q he => u.there b ob q fun z => he (hx b z), u.tups, u.frzs, u.tbls⟩
end

/-! ### the heap without what is tracked -/
def trk (h : Heap) (H : Hp) : List Addr := (List.range h.objs.size).filter fun a => (H a).isSome
def hidT (h : Heap) (H : Hp) : Heap := PySem.W.hideAll h (trk h H)
theorem hidT_size (h : Heap) (H : Hp) : (hidT h H).objs.size = h.objs.size := PySem.W.hideAll_size _ _
theorem hidT_get {h : Heap} {H : Hp} {b : Addr} {o : Obj} (e : h.get? b = some o) (n : H b = none) : (hidT h H).get? b = some o :=
  PySem.W.hideAll_get _ e fun hm => by
    have q : (H b).isSome = true := (List.mem_filter.mp hm).2
    rw [n] at q; simp at q
theorem of_hidT {h : Heap} {H : Hp} {b : Addr} {o : Obj} (e : (hidT h H).get? b = some o) : h.get? b = some o ∧ H b = none := by
  have e' : h.get? b = some o := PySem.W.of_hideAll (trk h H) e
  refine ⟨e', ?_⟩
  cases q : H b with
  | none => rfl
  | some x =>
    have hm : b ∈ trk h H := List.mem_filter.mpr ⟨List.mem_range.mpr (Heap.lt_size e'), by simp [q]⟩
    have z : (hidT h H).get? b = none := PySem.W.hideAll_none (trk h H) hm
    rw [z] at e; cases e

/-! ### OpenK's ledger, filled with every new object but one -/
def allNews (g h : Heap) (L : Addr) : List (Addr × Obj) := (List.range h.objs.size).filterMap fun a => if a = L ∨ (g.get? a).isSome = true then none else (h.get? a).map fun o => (a, o)
theorem mem_allNews {g h : Heap} {L a : Addr} {o : Obj} (h1 : a ≠ L) (h2 : g.get? a = none) (h3 : h.get? a = some o) : (a, o) ∈ allNews g h L :=
  List.mem_filterMap.mpr ⟨a, List.mem_range.mpr (Heap.lt_size h3), by simp [h1, h2, h3]⟩
theorem of_mem_allNews {g h : Heap} {L : Addr} {p : Addr × Obj} (hp : p ∈ allNews g h L) : p.1 ≠ L ∧ g.get? p.1 = none ∧ h.get? p.1 = some p.2 := by
  obtain ⟨b, _, e⟩ := List.mem_filterMap.mp hp
  split at e
  · cases e
  · rename_i hn
    cases q : h.get? b with
    | none => rw [q] at e; simp at e
    | some u =>
      rw [q] at e
      simp only [Option.map_some, Option.some.injEq] at e
      subst e
      refine ⟨fun z => hn (.inl z), ?_, q⟩
      show g.get? b = none
      cases r : g.get? b with
      | none => rfl
      | some v => exact (hn (.inr (by simp [r]))).elim
def rest (g h : Heap) (L d : Addr) : List (Addr × Obj) := (allNews g h L).filter fun p => decide (p.1 ≠ d)
theorem rest_ne {g h : Heap} {L d : Addr} : ∀ p ∈ rest g h L d, p.1 ≠ d := fun p hp => of_decide_eq_true (List.mem_filter.mp hp).2
theorem mem_rest {g h : Heap} {L d a : Addr} {o : Obj} (h1 : a ≠ L) (h2 : g.get? a = none) (h3 : h.get? a = some o) (h4 : a ≠ d) : (a, o) ∈ rest g h L d :=
  List.mem_filter.mpr ⟨mem_allNews h1 h2 h3, decide_eq_true h4⟩
theorem news_all {g h : Heap} {L : Addr} : News g L h (allNews g h L) := fun p hp => let ⟨a, b, c⟩ := of_mem_allNews hp; ⟨c, a, b⟩
theorem news_at {g h : Heap} {L d : Addr} {o : Obj} (h1 : d ≠ L) (h2 : g.get? d = none) (h3 : h.get? d = some o) : News g L h ((d, o) :: rest g h L d) := fun p hp => by
  rcases List.mem_cons.mp hp with rfl | hp
  · exact ⟨h3, h1, h2⟩
  · exact news_all p (List.mem_filter.mp hp).1
/-- behind a rule that changed d alone: all else but the frame is kept -/
theorem kept_of_news {g h h' : Heap} {L d : Addr} {m : Str → Option Value} (k : ∀ b o, g.get? b = some o → h.get? b = some o) (F : Fr g L h' m) (N : News g L h' (rest g h L d)) :
    ∀ b o, b ≠ L → b ≠ d → h.get? b = some o → h'.get? b = some o := fun b o h1 h2 e => by
  cases q : g.get? b with
  | some u =>
    have := k b u q
    rw [e] at this; cases this
    exact F.keep b _ q
  | none => exact (N (b, o) (mem_rest h1 q e h2)).1
end L2

namespace L2
open PySem PySem.Spec PyProof.Rows

/-- the module's facts, over the base: the heap at the law's entry without what is tracked there -/
structure Mod (K : PySem.W.Frag) (mg : Str → Option Value) (base : Heap) : Prop where
  kin : K.In base
  glob : base.Ns mainGlobals mg
  blt : ∃ mb, base.Ns builtinsNs mb ∧ ∀ x : Str, x ≠ "__name__" → mb x = bootBuiltins x
  nolimit : base.NoLimit

/-- the context: a def's body (or a comprehension's block) running. base: fixed through the whole law; s₀, H₀: the entry; outer: the frames whose slots others may change (a def's callers); stack: all frames that run;
   ex: iterators that were made ahead of the entry and are walked here (a comprehension's); fn: the names whose cells were made at the entry (a def: all; a comprehension's block: its own); calm: not within an except suite; pn: pins that every state bears; xe: what is wanted of an exception that leaves the code -/
structure Cx where
  prog : Program
  w : World
  K : PySem.W.Frag
  mg : Str → Option Value
  base : Heap
  A : Around
  N : List Str
  s₀ : Shared
  H₀ : Hp
  env : Env
  outer : List Env
  stack : List Env
  ex : List Addr
  fn : Str → Bool
  calm : Bool
  pn : List (Addr × Obj)
  xe : Value → Shared → Prop
/-- the callers' frames -/
def frs (l : List Env) : List Addr := l.filterMap (·.frame)
abbrev Cx.fs (X : Cx) : List Addr := frs X.outer

def Vis (sc : Scope) (x : Str) : Prop := sc.names.lookup x = some .local ∨ sc.names.lookup x = some .cell ∨ sc.names.lookup x = some .free
def Loc (sc : Scope) (x : Str) : Prop := sc.names.lookup x = some .local ∨ sc.names.lookup x = some .cell
def Look (env : Env) (h : Heap) (m : Str → Option Value) (x : Str) (u : Value) : Prop :=
  (env.kindOf x = some .local ∧ m x = some u) ∨ ((env.kindOf x = some .cell ∨ env.kindOf x = some .free) ∧ ∃ c, env.cells.lookup x = some c ∧ h.IsCell c (some u))

structure Cx.Ok (X : Cx) : Prop where
  mod : Mod X.K X.mg X.base
  kind : X.env.scope.kind = .function
  glob : X.env.globals = mainGlobals
  blt : X.env.builtins = builtinsNs
  above : X.s₀.heap.objs.size ≤ X.env.locals
  inj : ∀ x y c, X.env.cells.lookup x = some c → X.env.cells.lookup y = some c → x = y
  has : ∀ x, (X.env.kindOf x = some .cell ∨ X.env.kindOf x = some .free) → ∃ c, X.env.cells.lookup x = some c
  cab : ∀ x c, X.fn x = true → X.env.cells.lookup x = some c → X.s₀.heap.objs.size ≤ c
  hd : X.calm = true → X.A.handled = none
  frames : X.A.frames = some X.stack
  stk : X.stack = X.outer ∨ (X.stack = X.env :: X.outer ∧ X.env.frame = some X.env.locals)
  exf : ∀ b ∈ X.ex, b ≠ X.env.locals ∧ ∀ x c, X.env.cells.lookup x = some c → c ≠ b
  bs : ∀ b o, X.base.get? b = some o → X.s₀.heap.get? b = some o ∧ X.H₀ b = none
  bsz : X.base.objs.size ≤ X.s₀.heap.objs.size
  noex : ∀ b o, X.base.get? b = some o → b ∉ X.ex
  exfs : ∀ b ∈ X.ex, b ∉ X.fs
  funs : X.s₀.heap.FunFrames X.base X.outer
  frf : ∀ b ∈ X.fs, X.H₀ b = none

structure Inv (X : Cx) (pins : List (Addr × Obj)) (σ : List (Option V)) (H : Hp) (s : Shared) : Prop where
  ok : X.Ok
  os : s.os = X.s₀.os
  bare : AllBare s.gens
  base : Un X.fs X.ex X.H₀ H X.s₀.heap s.heap
  loc : ∃ m, s.heap.Ns X.env.locals m ∧ ∀ (i : Nat) (x : Str) (v : V), X.N[i]? = some x → σ[i]? = some (some v) → Vis X.env.scope x → ∃ u, RelV v u ∧ Look X.env s.heap m x u
  cell : ∀ x c, X.env.cells.lookup x = some c → ∃ v, s.heap.IsCell c v
  free : H X.env.locals = none
  freeC : ∀ x c, X.env.cells.lookup x = some c → H c = none
  pin : ∀ p ∈ X.pn ++ pins, s.heap.get? p.1 = some p.2 ∧ H p.1 = none ∧ p.1 ≠ X.env.locals ∧ p.1 ∉ X.fs ∧ ∀ v, p.2.data ≠ .cell v
  hok : HOk X.prog X.w H s.heap
  len : σ.length = X.N.length

section
variable {X : Cx} {pins : List (Addr × Obj)} {σ : List (Option V)} {H H' : Hp} {s : Shared} {h' : Heap}

theorem Cx.Ok.nofr (ok : X.Ok) {b : Addr} {o : Obj} (e : X.base.get? b = some o) : b ∉ X.fs := fun hb => by
  have := (ok.funs.mem hb).1
  rw [e] at this; cases this
theorem Inv.bs (I : Inv X pins σ H s) : ∀ b o, X.base.get? b = some o → s.heap.get? b = some o ∧ H b = none := fun b o e =>
  ⟨I.base.keep b o (I.ok.bs b o e).1 (I.ok.bs b o e).2 (I.ok.nofr e) (I.ok.noex b o e), I.base.free b o (I.ok.bs b o e).1 (I.ok.bs b o e).2 (I.ok.noex b o e)⟩
theorem Inv.bk (I : Inv X pins σ H s) : ∀ b o, X.base.get? b = some o → s.heap.get? b = some o := fun b o e => (I.bs b o e).1
theorem Inv.mod (I : Inv X pins σ H s) : Mod X.K X.mg X.base := I.ok.mod
theorem Inv.kIn (I : Inv X pins σ H s) : X.K.In s.heap := I.ok.mod.kin.keeps I.bk
theorem Inv.nolimit (I : Inv X pins σ H s) : s.heap.NoLimit := I.ok.mod.nolimit.keeps I.bk
/-- the frame over the base: for OpenK's rules (K.In X.base is I.mod.kin) -/
theorem Inv.fr (I : Inv X pins σ H s) : ∃ m, Fr X.base X.env.locals s.heap m :=
  let ⟨m, hn, _⟩ := I.loc
  ⟨m, hn, I.bk, Nat.le_trans I.ok.bsz I.ok.above⟩
theorem Inv.lt (I : Inv X pins σ H s) : X.env.locals < s.heap.objs.size := let ⟨_, hn, _⟩ := I.loc; hn.lt
theorem Inv.sz (I : Inv X pins σ H s) : X.s₀.heap.objs.size ≤ s.heap.objs.size := Nat.le_trans I.ok.above (Nat.le_of_lt I.lt)
theorem Inv.nofs (I : Inv X pins σ H s) {a : Addr} (h : s.heap.objs.size ≤ a) : a ∉ X.fs := fun hb => by
  obtain ⟨_, o, ho, _⟩ := I.ok.funs.mem hb
  exact absurd (Nat.lt_of_lt_of_le (Heap.lt_size ho) (Nat.le_trans I.sz h)) (Nat.lt_irrefl _)
theorem Inv.cne (I : Inv X pins σ H s) : ∀ x c, X.env.cells.lookup x = some c → c ≠ X.env.locals := fun x c e z => by
  obtain ⟨v, o, ho, hd⟩ := I.cell x c e
  obtain ⟨m, ⟨o', es, ep, ho', hd', _⟩, _⟩ := I.loc
  rw [z, ho'] at ho; cases ho; rw [hd'] at hd; cases hd
theorem Inv.funs (I : Inv X pins σ H s) : s.heap.FunFrames X.base X.outer := by
  have all : ∀ (l : List Env), (∀ b ∈ frs l, b ∈ X.fs) → X.s₀.heap.FunFrames X.base l → s.heap.FunFrames X.base l := by
    intro l
    induction l with
    | nil => intro _ _; trivial
    | cons env r ih =>
      intro hs hl
      obtain ⟨hk, ⟨L, o, hf, hn, ho, hd⟩, hr⟩ := hl
      have hL : L ∈ X.fs := hs L (by unfold frs; rw [List.filterMap_cons, hf]; exact List.mem_cons_self)
      obtain ⟨sl, e⟩ := I.base.slot L o ho (I.ok.frf L hL) hL fun z => I.ok.exfs L z hL
      exact ⟨hk, ⟨L, _, hf, hn, e, hd⟩, ih (fun b hb => hs b (by unfold frs; rw [List.filterMap_cons, hf]; exact List.mem_cons_of_mem _ hb)) hr⟩
  exact all X.outer (fun _ hb => hb) I.ok.funs

/-- the frames that run, for a call -/
theorem Inv.stack (I : Inv X pins σ H s) : s.heap.FunFrames X.base X.stack := by
  rcases I.ok.stk with e | ⟨e, hf⟩
  · rw [e]; exact I.funs
  · rw [e]
    obtain ⟨m, hn, _⟩ := I.loc
    refine .cons (by rw [I.ok.kind]; decide) hf hn ?_ I.funs
    exact Heap.get?_none_of_le (Nat.le_trans I.ok.bsz I.ok.above)
theorem Inv.stkSub (I : Inv X pins σ H s) : ∀ b ∈ frs X.stack, b ∈ X.env.locals :: X.fs := fun b hb => by
  rcases I.ok.stk with e | ⟨e, hf⟩
  · rw [e] at hb; exact List.mem_cons_of_mem _ hb
  · rw [e] at hb
    unfold frs at hb
    rw [List.filterMap_cons, hf] at hb
    exact hb
theorem Inv.stkFree (I : Inv X pins σ H s) : ∀ b ∈ frs X.stack, H b = none := fun b hb => by
  rcases List.mem_cons.mp (I.stkSub b hb) with e | hb
  · rw [e]; exact I.free
  · obtain ⟨_, o, ho, _⟩ := I.ok.funs.mem hb
    exact I.base.free b o ho (I.ok.frf b hb) fun z => I.ok.exfs b z hb

/-- THE STEP: the untracked objects but the frame and the records at ch are kept (the callers' frames up to slots), the frame's map is kept, the new abstract heap is held -/
theorem Inv.step {g' : Array GenState} {t' : Nat} {d' : Drawn} {ch : List Addr} (I : Inv X pins σ H s)
    (hch : ∀ b ∈ ch, (b ∈ X.ex ∨ X.s₀.heap.objs.size ≤ b) ∧ b ≠ X.env.locals ∧ (∀ x c, X.env.cells.lookup x = some c → c ≠ b) ∧ ∀ p ∈ X.pn ++ pins, p.1 ≠ b)
    (keep : ∀ b o, b ≠ X.env.locals → b ∉ X.fs → b ∉ ch → s.heap.get? b = some o → H b = none → h'.get? b = some o)
    (slot : ∀ b o, b ≠ X.env.locals → b ∈ X.fs → b ∉ ch → s.heap.get? b = some o → H b = none → ∃ sl, h'.get? b = some { o with slots := sl }) (free : ∀ b o, b ∉ ch → s.heap.get? b = some o → H b = none → H' b = none)
    (there : ∀ b o, b ∉ ch → s.heap.get? b = some o → ∃ o', h'.get? b = some o')
    (tups : ∀ b xs, H b = some (.tup xs) → H' b = some (.tup xs)) (frzs : ∀ b o u, H b = some (.frz o u) → H' b = some (.frz o u)) (tbls : ∀ b ps, H b = some (.tbl ps) → ∃ more, H' b = some (.tbl (ps ++ more)))
    (ns : ∀ m, s.heap.Ns X.env.locals m → h'.Ns X.env.locals m) (hok : HOk X.prog X.w H' h') (hg : AllBare g') :
    Inv X pins σ H' { s with heap := h', gens := g', drawn := d', toks := t' } := by
  have neL : ∀ b o, X.s₀.heap.get? b = some o → b ≠ X.env.locals := fun b o e => Nat.ne_of_lt (Nat.lt_of_lt_of_le (Heap.lt_size e) I.ok.above)
  have neC : ∀ b o, X.s₀.heap.get? b = some o → b ∉ X.ex → b ∉ ch := fun b o e hx hb => by
    rcases (hch b hb).1 with z | z
    · exact hx z
    · exact absurd (Nat.lt_of_lt_of_le (Heap.lt_size e) z) (Nat.lt_irrefl _)
  have cellK : ∀ x c, X.env.cells.lookup x = some c → ∀ v, s.heap.IsCell c v → h'.IsCell c v := fun x c e v ⟨o, ho, hd⟩ => by
    have nch : c ∉ ch := fun z => (hch c z).2.2.1 x c e rfl
    by_cases hc : c ∈ X.fs
    · obtain ⟨sl, q⟩ := slot c o (I.cne x c e) hc nch ho (I.freeC x c e)
      exact ⟨_, q, hd⟩
    · exact ⟨o, keep c o (I.cne x c e) hc nch ho (I.freeC x c e), hd⟩
  refine ⟨I.ok, I.os, hg, ⟨fun b o e n hb hx => ?_, fun b o e n hb hx => ?_, fun b o e n hx => ?_, fun b o e hx => ?_, fun b xs e => tups b xs (I.base.tups b xs e), fun b o xs e => frzs b o xs (I.base.frzs b o xs e), fun b ps e => ?_⟩, ?_, fun x c e => ?_, ?_, fun x c e => ?_, fun p hp => ?_, hok, I.len⟩
  · exact keep b o (neL b o e) hb (neC b o e hx) (I.base.keep b o e n hb hx) (I.base.free b o e n hx)
  · obtain ⟨sl, e1⟩ := I.base.slot b o e n hb hx
    obtain ⟨sl', e2⟩ := slot b _ (neL b o e) hb (neC b o e hx) e1 (I.base.free b o e n hx)
    exact ⟨sl', e2⟩
  · obtain ⟨o', e1⟩ := I.base.there b o e hx
    exact free b o' (neC b o e hx) e1 (I.base.free b o e n hx)
  · obtain ⟨o', e1⟩ := I.base.there b o e hx
    exact there b o' (neC b o e hx) e1
  · obtain ⟨m1, e1⟩ := I.base.tbls b ps e
    obtain ⟨m2, e2⟩ := tbls b _ e1
    exact ⟨m1 ++ m2, by rw [e2, Array.append_assoc]⟩
  · obtain ⟨m, hn, hl⟩ := I.loc
    refine ⟨m, ns m hn, fun i x v e1 e2 e3 => ?_⟩
    obtain ⟨u, r, l⟩ := hl i x v e1 e2 e3
    refine ⟨u, r, ?_⟩
    rcases l with l | ⟨k, c, e, z⟩
    · exact .inl l
    · exact .inr ⟨k, c, e, cellK x c e _ z⟩
  · obtain ⟨v, z⟩ := I.cell x c e
    exact ⟨v, cellK x c e v z⟩
  · obtain ⟨m, ⟨o, _, _, ho, _⟩, _⟩ := I.loc
    exact free _ o (fun z => (hch _ z).2.1 rfl) ho I.free
  · obtain ⟨v, o, ho, hd⟩ := I.cell x c e
    exact free c o (fun z => (hch c z).2.2.1 x c e rfl) ho (I.freeC x c e)
  · obtain ⟨e, n, ne, nf, d⟩ := I.pin p hp
    have nch : p.1 ∉ ch := fun z => (hch p.1 z).2.2.2 p hp rfl
    exact ⟨keep p.1 p.2 ne nf nch e n, free p.1 p.2 nch e n, ne, nf, d⟩
/-- .. where the frame's own object is kept too -/
theorem Inv.un {t' : Nat} (I : Inv X pins σ H s) (u : Un X.fs [] H H' s.heap h') (hok : HOk X.prog X.w H' h') : Inv X pins σ H' { s with heap := h', toks := t' } := by
  obtain ⟨m, ⟨o, es, ep, ho, r⟩, _⟩ := id I.loc
  obtain ⟨sl, hL⟩ := u.any ho I.free (by simp)
  exact I.step (g' := s.gens) (d' := s.drawn) (ch := []) (fun _ z => nomatch z) (fun b o _ hb _ e n => u.keep b o e n hb (by simp)) (fun b o _ hb _ e n => u.slot b o e n hb (by simp)) (fun b o _ e n => u.free b o e n (by simp)) (fun b o _ e => u.there b o e (by simp)) u.tups u.frzs u.tbls (fun m' hm => by
    obtain ⟨o', es', ep', ho', r'⟩ := hm
    rw [ho] at ho'; cases ho'
    exact ⟨_, es', ep', hL, r'⟩) hok I.bare
/-- behind a call (or a comprehension's block): the slots of this frame may have changed too, the records at ch may have turned -/
theorem Inv.call {g' : Array GenState} {t' : Nat} {d' : Drawn} {ch : List Addr} (I : Inv X pins σ H s) (u : Un (frs X.stack) ch H H' s.heap h') (hok : HOk X.prog X.w H' h') (hg : AllBare g')
    (hch : ∀ b ∈ ch, (b ∈ X.ex ∨ X.s₀.heap.objs.size ≤ b) ∧ b ≠ X.env.locals ∧ (∀ x c, X.env.cells.lookup x = some c → c ≠ b) ∧ ∀ p ∈ X.pn ++ pins, p.1 ≠ b) :
    Inv X pins σ H' { s with heap := h', gens := g', drawn := d', toks := t' } := by
  obtain ⟨m, ⟨o, es, ep, ho, r⟩, _⟩ := id I.loc
  obtain ⟨sl, hL⟩ := u.any ho I.free fun z => (hch _ z).2.1 rfl
  exact I.step (ch := ch) hch (fun b o hL hb hc e n => u.keep b o e n (fun z => (List.mem_cons.mp (I.stkSub b z)).elim hL hb) hc) (fun b o _ _ hc e n => u.any e n hc) (fun b o hc e n => u.free b o e n hc) (fun b o hc e => u.there b o e hc) u.tups u.frzs u.tbls (fun m' hm => by
    obtain ⟨o', es', ep', ho', r'⟩ := hm
    rw [ho] at ho'; cases ho'
    exact ⟨_, es', ep', hL, r'⟩) hok hg
/-- an untracked record of ours (an iterator) has turned -/
theorem Inv.turned {t' : Nat} {it : Addr} (I : Inv X pins σ H s) (k : ∀ b o, b ≠ it → s.heap.get? b = some o → h'.get? b = some o) (hn : H it = none) (hL : it ≠ X.env.locals)
    (h1 : it ∈ X.ex ∨ X.s₀.heap.objs.size ≤ it) (h2 : ∀ x c, X.env.cells.lookup x = some c → c ≠ it) (h3 : ∀ p ∈ X.pn ++ pins, p.1 ≠ it) : Inv X pins σ H { s with heap := h', toks := t' } := by
  have nit : ∀ b u, H b = some u → b ≠ it := fun b u e z => by rw [z, hn] at e; cases e
  refine I.step (g' := s.gens) (d' := s.drawn) (ch := [it]) (fun b hb => ?_) (fun b o _ _ hc e _ => k b o (fun z => hc (by simp [z])) e) (fun b o _ _ hc e _ => ⟨o.slots, k b o (fun z => hc (by simp [z])) e⟩) (fun _ _ _ _ n => n)
    (fun b o hc e => ⟨o, k b o (fun z => hc (by simp [z])) e⟩) (fun _ _ e => e) (fun _ _ _ e => e) (fun b ps e => ⟨#[], by rw [e]; simp⟩) (fun m hm => ?_) (fun b u e => ?_) I.bare
  · have e : b = it := by simpa using hb
    subst e
    exact ⟨h1, hL, h2, h3⟩
  · obtain ⟨o, es, ep, ho, r⟩ := hm
    exact ⟨o, es, ep, k _ o (Ne.symm hL) ho, r⟩
  · refine (I.hok b u e).stay (fun c v hc q => k c v ?_ q) (fun _ q => q) fun _ _ q => q
    rcases hc with z | z
    · rw [z]; exact nit b u e
    · exact nit c _ z
theorem Inv.tok (I : Inv X pins σ H s) (t : Nat) : Inv X pins σ H { s with toks := t } := I.un (h' := s.heap) (t' := t) Un.refl I.hok
/-- all objects kept -/
theorem Inv.kept {t' : Nat} (I : Inv X pins σ H s) (k : ∀ b u, s.heap.get? b = some u → h'.get? b = some u) : Inv X pins σ H { s with heap := h', toks := t' } := I.un (Un.kept k) (I.hok.kept k)
/-- a new object laid and tracked -/
theorem Inv.laid {a : Addr} {o : HO} {t' : Nat} (I : Inv X pins σ H s) (k : ∀ b u, s.heap.get? b = some u → h'.get? b = some u) (hp : s.heap.objs.size ≤ a) (new : ObjOk X.prog X.w (upd H a o) h' a o) :
    Inv X pins σ (upd H a o) { s with heap := h', toks := t' } := I.un (Un.laid k hp (I.hok.fresh hp)) (I.hok.laid k hp new)
/-- an object written -/
theorem Inv.write {x e : Addr} {o : HO} {t' : Nat} (I : Inv X pins σ H s) (mu : Mut (H x)) (he : e = x ∨ H e = some (.own x)) (k : ∀ b u, b ≠ e → s.heap.get? b = some u → h'.get? b = some u) (heo : ∃ u, h'.get? e = some u)
    (new : ObjOk X.prog X.w (upd H x o) h' x o) : Inv X pins σ (upd H x o) { s with heap := h', toks := t' } := I.un (Un.write mu he k heo) (I.hok.write mu he k heo new)
/-- forgetting slots, pins -/
theorem Inv.weak {σ' : List (Option V)} (I : Inv X pins σ H s) (hl : σ'.length = σ.length) (w : ∀ (i : Nat) v, σ'[i]? = some (some v) → σ[i]? = some (some v)) : Inv X pins σ' H s :=
  ⟨I.ok, I.os, I.bare, I.base, let ⟨m, hn, hl'⟩ := I.loc; ⟨m, hn, fun i x v e1 e2 e3 => hl' i x v e1 (w i v e2) e3⟩, I.cell, I.free, I.freeC, I.pin, I.hok, hl.trans I.len⟩
theorem Inv.pins_of {pins' : List (Addr × Obj)} (I : Inv X pins σ H s) (h : ∀ p ∈ pins', s.heap.get? p.1 = some p.2 ∧ H p.1 = none ∧ p.1 ≠ X.env.locals ∧ p.1 ∉ X.fs ∧ ∀ v, p.2.data ≠ .cell v) : Inv X pins' σ H s :=
  ⟨I.ok, I.os, I.bare, I.base, I.loc, I.cell, I.free, I.freeC, fun p hp => (List.mem_append.mp hp).elim (fun z => I.pin p (List.mem_append_left _ z)) (h p), I.hok, I.len⟩

theorem nodup_ix {N : List Str} (hN : N.Nodup) {i j : Nat} {x : Str} (a : N[i]? = some x) (b : N[j]? = some x) : i = j := by
  obtain ⟨h1, e1⟩ := List.getElem?_eq_some_iff.mp a
  obtain ⟨h2, e2⟩ := List.getElem?_eq_some_iff.mp b
  exact (List.getElem_inj hN).mp (e1.trans e2.symm)

/-- a name is stored; what changed -/
theorem store_ok2 {M : Model} {A : Around} {E : Value → Shared → Prop} {i : Nat} {x : Str} {v : V} {u : Value} {Q : Unit → Shared → Prop} (I : Inv X pins σ H s) (hN : X.N.Nodup) (hi : X.N[i]? = some x) (hx : Loc X.env.scope x) (r : RelV v u)
    (h : ∀ s', Inv X pins (σ.set i (some v)) H s' → (∃ a, Heap.SameBut a s.heap s'.heap ∧ (a = X.env.locals ∨ X.env.cells.lookup x = some a)) → Q () s') (hf : X.fn x = true ∨ X.env.scope.names.lookup x = some .local := by first | exact .inl rfl | exact .inr rfl | assumption) : wpAny M A (storeName X.env x u) Q E s := by
  obtain ⟨m, hn, hl⟩ := id I.loc
  have hcls : (X.env.scope.kind == .class || (X.env.scope.kind == .module && X.env.locals != X.env.globals)) = false := by rw [I.ok.kind]; rfl
  have hiσ : i < σ.length := by rw [I.len]; exact (List.getElem?_eq_some_iff.mp hi).1
  have cne := I.cne
  have tracked : ∀ {a : Addr} {h' : Heap}, (∃ o, s.heap.get? a = some o ∧ H a = none) → Heap.SameBut a s.heap h' → HOk X.prog X.w H h' := fun {a h'} ha hs b ob e => by
    obtain ⟨_, _, hfree⟩ := ha
    refine (I.hok b ob e).stay (fun c w' hc q => (hs.2 c ?_).trans q) (fun _ q => q) fun _ _ q => q
    rintro rfl
    rcases hc with rfl | hc
    · rw [hfree] at e; cases e
    · rw [hfree] at hc; cases hc
  rcases hx with hk | hk
  · refine wpAny_storeName_local hk hn (fun h' hn' hs => ?_) hcls
    obtain ⟨oL, _, _, hoL, _⟩ := id hn
    refine h _ ⟨I.ok, I.os, I.bare, ⟨fun b o e n hb hx => ?_, fun b o e n hb hx => ?_, I.base.free, fun b o e hx => ?_, I.base.tups, I.base.frzs, I.base.tbls⟩, ⟨_, hn', fun j y v' e1 e2 e3 => ?_⟩, fun y c e => ?_, I.free, I.freeC, fun p hp => ?_, tracked ⟨oL, hoL, I.free⟩ hs, by simpa using I.len⟩ ⟨_, hs, .inl rfl⟩
    · exact (hs.2 b (Nat.ne_of_lt (Nat.lt_of_lt_of_le (Heap.lt_size e) I.ok.above))).trans (I.base.keep b o e n hb hx)
    · obtain ⟨sl, e1⟩ := I.base.slot b o e n hb hx
      exact ⟨sl, (hs.2 b (Nat.ne_of_lt (Nat.lt_of_lt_of_le (Heap.lt_size e) I.ok.above))).trans e1⟩
    · obtain ⟨o', e1⟩ := I.base.there b o e hx
      exact ⟨o', (hs.2 b (Nat.ne_of_lt (Nat.lt_of_lt_of_le (Heap.lt_size e) I.ok.above))).trans e1⟩
    · by_cases hj : j = i
      · subst hj
        rw [hi] at e1; cases e1
        rw [List.getElem?_set_self hiσ] at e2
        cases e2
        exact ⟨u, r, .inl ⟨hk, by simp⟩⟩
      · rw [List.getElem?_set_ne (Ne.symm hj)] at e2
        obtain ⟨u', r', q⟩ := hl j y v' e1 e2 e3
        refine ⟨u', r', ?_⟩
        rcases q with ⟨k, e⟩ | ⟨k, c, e, z⟩
        · refine .inl ⟨k, ?_⟩
          have : y ≠ x := fun e => hj (nodup_ix hN e1 (e ▸ hi))
          simp [this, e]
        · exact .inr ⟨k, c, e, z.sameBut hs (cne y c e)⟩
    · obtain ⟨w', z⟩ := I.cell y c e
      exact ⟨w', z.sameBut hs (cne y c e)⟩
    · obtain ⟨e, n, ne, nf, d⟩ := I.pin p hp
      exact ⟨(hs.2 p.1 ne).trans e, n, ne, nf, d⟩
  · have hfn : X.fn x = true := by
      rcases hf with z | z
      · exact z
      · rw [z] at hk; cases hk
    obtain ⟨c, hc⟩ := I.ok.has x (.inl hk)
    obtain ⟨w', z⟩ := I.cell x c hc
    refine wpAny_storeName_cell I.ok.kind hk hc z (fun h' hc' hs => ?_)
    obtain ⟨oc, hoc, hocd⟩ := id z
    refine h { s with heap := h' } ⟨I.ok, I.os, I.bare, ⟨fun b o e n hb hx => ?_, fun b o e n hb hx => ?_, I.base.free, fun b o e hx => ?_, I.base.tups, I.base.frzs, I.base.tbls⟩, ⟨m, hn.sameBut hs (Ne.symm (cne x c hc)), fun j y v' e1 e2 e3 => ?_⟩, fun y c' e => ?_, I.free, I.freeC, fun p hp => ?_, tracked ⟨oc, hoc, I.freeC x c hc⟩ hs, by simpa using I.len⟩ ⟨c, hs, .inr hc⟩
    · exact (hs.2 b (Nat.ne_of_lt (Nat.lt_of_lt_of_le (Heap.lt_size e) (I.ok.cab x c hfn hc)))).trans (I.base.keep b o e n hb hx)
    · obtain ⟨sl, e1⟩ := I.base.slot b o e n hb hx
      exact ⟨sl, (hs.2 b (Nat.ne_of_lt (Nat.lt_of_lt_of_le (Heap.lt_size e) (I.ok.cab x c hfn hc)))).trans e1⟩
    · obtain ⟨o', e1⟩ := I.base.there b o e hx
      exact ⟨o', (hs.2 b (Nat.ne_of_lt (Nat.lt_of_lt_of_le (Heap.lt_size e) (I.ok.cab x c hfn hc)))).trans e1⟩
    · by_cases hj : j = i
      · subst hj
        rw [hi] at e1; cases e1
        rw [List.getElem?_set_self hiσ] at e2
        cases e2
        exact ⟨u, r, .inr ⟨.inl hk, c, hc, hc'⟩⟩
      · rw [List.getElem?_set_ne (Ne.symm hj)] at e2
        obtain ⟨u', r', q⟩ := hl j y v' e1 e2 e3
        refine ⟨u', r', ?_⟩
        rcases q with q | ⟨k, c', e, z'⟩
        · exact .inl q
        · refine .inr ⟨k, c', e, z'.sameBut hs ?_⟩
          rintro rfl
          exact hj (nodup_ix hN e1 (I.ok.inj _ _ _ e hc ▸ hi))
    · by_cases hcc : c' = c
      · subst hcc; exact ⟨_, hc'⟩
      · obtain ⟨w2, z2⟩ := I.cell y c' e
        exact ⟨w2, z2.sameBut hs hcc⟩
    · obtain ⟨e, n, ne, nf, d⟩ := I.pin p hp
      refine ⟨(hs.2 p.1 ?_).trans e, n, ne, nf, d⟩
      intro q
      rw [q, hoc] at e
      have q' : oc = p.2 := Option.some.inj e
      exact d w' (by rw [← q']; exact hocd)
theorem store_ok {M : Model} {A : Around} {E : Value → Shared → Prop} {i : Nat} {x : Str} {v : V} {u : Value} {Q : Unit → Shared → Prop} (I : Inv X pins σ H s) (hN : X.N.Nodup) (hi : X.N[i]? = some x) (hx : Loc X.env.scope x) (r : RelV v u)
    (h : ∀ s', Inv X pins (σ.set i (some v)) H s' → Q () s') (hf : X.fn x = true ∨ X.env.scope.names.lookup x = some .local := by first | exact .inl rfl | exact .inr rfl | assumption) : wpAny M A (storeName X.env x u) Q E s :=
  store_ok2 I hN hi hx r (fun s' I' _ => h s' I') hf
/-- behind a call or a block, the state as it is -/
theorem Inv.call' {s' : Shared} {ch : List Addr} (I : Inv X pins σ H s) (ho : s'.os = s.os) (u : Un (frs X.stack) ch H H' s.heap s'.heap) (hok : HOk X.prog X.w H' s'.heap) (hg : AllBare s'.gens)
    (hch : ∀ b ∈ ch, (b ∈ X.ex ∨ X.s₀.heap.objs.size ≤ b) ∧ b ≠ X.env.locals ∧ (∀ x c, X.env.cells.lookup x = some c → c ≠ b) ∧ ∀ p ∈ X.pn ++ pins, p.1 ≠ b) : Inv X pins σ H' s' := by
  obtain ⟨h', g', d', t', o'⟩ := s'
  have e : o' = s.os := ho
  subst e
  exact I.call (g' := g') (t' := t') (d' := d') u hok hg hch
end

/-! ### the judgements -/
/-- an exception: its class, its own dict's address (where it has one), the abstract heap behind it -/
abbrev XK := Value → Option Addr → Hp → Prop
abbrev St := List (Option V)
abbrev VK := V → Hp → Prop
/-- an expression's reading; a test's; an argument list's -/
abbrev TE := St → Hp → VK → Prop
abbrev TT := St → Hp → (Bool → Hp → Prop) → Prop
abbrev TA := St → Hp → (List V → Hp → Prop) → Prop
/-- what is wanted behind a statement -/
structure Ends where
  nx : St → Hp → Prop
  rt : VK
  bk : St → Hp → Prop := fun _ _ => False
  ct : St → Hp → Prop := fun _ _ => False
abbrev TS := Ends → St → Hp → Prop

def EP (X : Cx) (pins : List (Addr × Obj)) (σ : St) (Q : VK) (u : Value) (s' : Shared) : Prop := ∃ v H', Inv X pins σ H' s' ∧ RelV v u ∧ Q v H'
def TP (X : Cx) (pins : List (Addr × Obj)) (σ : St) (Q : Bool → Hp → Prop) (b : Bool) (s' : Shared) : Prop := ∃ H', Inv X pins σ H' s' ∧ Q b H'
def AP (X : Cx) (pins : List (Addr × Obj)) (σ : St) (Q : List V → Hp → Prop) (us : List Value) (s' : Shared) : Prop := ∃ vs H', Inv X pins σ H' s' ∧ Vals vs us ∧ Q vs H'
def SP (X : Cx) (pins : List (Addr × Obj)) (D : Ends) (f : Flow) (s' : Shared) : Prop :=
  match f with
  | .next => ∃ σ' H', Inv X pins σ' H' s' ∧ D.nx σ' H'
  | .brk => ∃ σ' H', Inv X pins σ' H' s' ∧ D.bk σ' H'
  | .cont => ∃ σ' H', Inv X pins σ' H' s' ∧ D.ct σ' H'
  | .ret u => ∃ v σ' H', Inv X pins σ' H' s' ∧ RelV v u ∧ D.rt v H'

def PE (X : Cx) (e : Expr) (t : TE) : Prop :=
  ∀ (pins : List (Addr × Obj)) (s : Shared) (σ : St) (H : Hp) (Q : VK), Inv X pins σ H s → t σ H Q → wpAny (model X.prog X.w) X.A (eval e X.env) (EP X pins σ Q) X.xe s
def PT (X : Cx) (e : Expr) (t : TT) : Prop :=
  ∀ (pins : List (Addr × Obj)) (s : Shared) (σ : St) (H : Hp) (Q : Bool → Hp → Prop), Inv X pins σ H s → t σ H Q → wpAny (model X.prog X.w) X.A (isTrue e X.env (eval e X.env)) (TP X pins σ Q) X.xe s
/-- a test whatever its 'whole' is (and, or) -/
def PW (X : Cx) (e : Expr) (t : TT) : Prop :=
  ∀ (whole : Sem Value) (pins : List (Addr × Obj)) (s : Shared) (σ : St) (H : Hp) (Q : Bool → Hp → Prop), Inv X pins σ H s → t σ H Q → wpAny (model X.prog X.w) X.A (isTrue e X.env whole) (TP X pins σ Q) X.xe s
theorem PW.pt {X : Cx} {e : Expr} {t : TT} (h : PW X e t) : PT X e t := h _
/-- an argument list (no star), from the left -/
def PA (X : Cx) (es : List Expr) (t : TA) : Prop :=
  ∀ (pos : Pos) (pins : List (Addr × Obj)) (s : Shared) (σ : St) (H : Hp) (Q : List V → Hp → Prop), Inv X pins σ H s → t σ H Q → wpAny (model X.prog X.w) X.A (spliced (backTo pos (starEach es X.env))) (AP X pins σ Q) X.xe s
def PS (X : Cx) (st : Stmt) (t : TS) : Prop :=
  ∀ (pins : List (Addr × Obj)) (s : Shared) (σ : St) (H : Hp) (D : Ends), Inv X pins σ H s → t D σ H → wpAny (model X.prog X.w) X.A (exec st X.env) (SP X pins D) X.xe s
def PSs (X : Cx) (st : List Stmt) (t : TS) : Prop :=
  ∀ (pins : List (Addr × Obj)) (s : Shared) (σ : St) (H : Hp) (D : Ends), Inv X pins σ H s → t D σ H → wpAny (model X.prog X.w) X.A (execs st X.env) (SP X pins D) X.xe s
/-- weaken the end -/
theorem thn {α : Type} {t : Sem α} {Q Q' : α → Shared → Prop} {M : Model} {A : Around} {E : Value → Shared → Prop} {s : Shared} (h : wpAny M A t Q E s) (hQ : ∀ a s, Q a s → Q' a s) : wpAny M A t Q' E s := wpAny_mono h hQ fun _ _ x => x
end L2

namespace L2
open PySem PySem.Spec PyProof.Rows
section
variable {X : Cx}

/-- two expressions in a row -/
theorem bin {a b : Expr} {ta tb : TE} (ha : PE X a ta) (hb : PE X b tb) {pins : List (Addr × Obj)} {s : Shared} {σ : St} {H : Hp} {R : V → V → Hp → Prop} (I : Inv X pins σ H s) (h : ta σ H fun x H1 => tb σ H1 fun y H2 => R x y H2)
    {α : Type} {Q : α → Shared → Prop} {f : Value → Value → Sem α}
    (hf : ∀ v u s2 x y H2, Inv X pins σ H2 s2 → RelV x v → RelV y u → R x y H2 → wpAny (model X.prog X.w) X.A (f v u) Q X.xe s2) :
    wpAny (model X.prog X.w) X.A (eval a X.env) (fun v s₁ => wpAny (model X.prog X.w) X.A (eval b X.env) (fun u s₂ => wpAny (model X.prog X.w) X.A (f v u) Q X.xe s₂) X.xe s₁) X.xe s := by
  refine thn (ha pins s σ H _ I h) fun v s1 ⟨x, H1, I1, r1, q1⟩ => ?_
  refine thn (hb pins s1 σ H1 _ I1 q1) fun u s2 ⟨y, H2, I2, r2, q2⟩ => ?_
  exact hf v u s2 x y H2 I2 r1 r2 q2

/-! ### names and constants -/
def tVar (i : Nat) : TE := fun σ H Q => ∃ v, σ[i]? = some (some v) ∧ Q v H
def tC (v : V) : TE := fun _ H Q => Q v H
theorem pe_var {i : Nat} {x : Str} {pos : Pos} (hN : X.N[i]? = some x) (hv : Vis X.env.scope x) (hd : (x == ("__debug__" : Str)) = false := by decide) (hcd : (x == ("__classdict__" : Str)) = false := by decide) : PE X (.Name x pos) (tVar i) := by
  intro pins s σ H Q I h
  obtain ⟨v, e, h⟩ := h
  obtain ⟨m, hn, hl⟩ := I.loc
  obtain ⟨u, r, l⟩ := hl i x v hN e hv
  have fin : EP X pins σ Q u s := ⟨v, H, I, r, h⟩
  rcases l with ⟨hk, hm⟩ | ⟨hk, c, hc, hcell⟩
  · exact wpAny_Name (wpAny_loadName_local I.ok.kind hk hn hm fin) hd
  · rcases hk with hk | hk
    · exact wpAny_Name (wpAny_loadName_cell I.ok.kind hk hc hcell fin) hd
    · exact wpAny_Name (wpAny_loadName_free I.ok.kind hk hc hcell fin hcd) hd
theorem pe_int {i j pos} : PE X (.Constant (.int i) j pos) (tC (.int i)) := fun _ _ _ H _ I h => wpAny_Constant_int ⟨.int i, H, I.tok _, ⟨_, rfl⟩, h⟩
theorem pe_bl {b j pos} : PE X (.Constant (.bool b) j pos) (tC (.bl b)) := fun _ _ _ H _ I h => Constant_bool ⟨.bl b, H, I, rfl, h⟩
theorem pe_non {j pos} : PE X (.Constant .none j pos) (tC .non) := fun _ _ _ H _ I h => Constant_none ⟨.non, H, I, rfl, h⟩
theorem pe_str {x j pos} : PE X (.Constant (.str x) j pos) (tC (.str x)) := fun _ _ _ H _ I h => Calls.Constant_str ⟨.str x, H, I.tok _, ⟨_, rfl⟩, h⟩

/-- a global name of the def -/
def Gl (X : Cx) (x : Str) : Prop := X.env.kindOf x = some .globalImplicit
theorem ld_glob {E : Value → Shared → Prop} {pins : List (Addr × Obj)} {s : Shared} {σ : St} {H : Hp} {x : Str} {u : Value} {pos : Pos} {Q : Value → Shared → Prop} (I : Inv X pins σ H s) (hg : Gl X x) (hm : X.mg x = some u) (h : Q u s)
    (hd : (x == ("__debug__" : Str)) = false := by decide) : wpAny (model X.prog X.w) X.A (eval (.Name x pos) X.env) Q E s :=
  Calls.Name_function_global I.ok.kind hg (Calls.loadGlobal_global (by rw [I.ok.glob]; exact I.mod.glob.keeps I.bk) hm h) hd
theorem ld_blt {E : Value → Shared → Prop} {pins : List (Addr × Obj)} {s : Shared} {σ : St} {H : Hp} {x : Str} {u : Value} {pos : Pos} {Q : Value → Shared → Prop} (I : Inv X pins σ H s) (hg : Gl X x) (hm : X.mg x = none) (hv : bootBuiltins x = some u) (h : Q u s)
    (hn : x ≠ "__name__" := by decide) (hd : (x == ("__debug__" : Str)) = false := by decide) : wpAny (model X.prog X.w) X.A (eval (.Name x pos) X.env) Q E s := by
  obtain ⟨mb, h1, h2⟩ := I.mod.blt
  exact Calls.Name_function_global I.ok.kind hg (Calls.loadGlobal_builtin (by rw [I.ok.glob]; exact I.mod.glob.keeps I.bk) hm (by rw [I.ok.blt]; exact h1.keeps I.bk) ((h2 x hn).trans hv) h) hd
/-- a module's constant, a class, a function, as a value -/
theorem pe_glob {x : Str} {v : V} {u : Value} {pos : Pos} (hg : Gl X x) (hm : X.mg x = some u) (r : RelV v u) (hd : (x == ("__debug__" : Str)) = false := by decide) : PE X (.Name x pos) (tC v) :=
  fun _ _ _ H _ I h => ld_glob I hg hm ⟨v, H, I, r, h⟩ hd
theorem pe_bltn {x : Str} {v : V} {u : Value} {pos : Pos} (hg : Gl X x) (hm : X.mg x = none) (hv : bootBuiltins x = some u) (r : RelV v u) (hn : x ≠ "__name__" := by decide) (hd : (x == ("__debug__" : Str)) = false := by decide) : PE X (.Name x pos) (tC v) :=
  fun _ _ _ H _ I h => ld_blt I hg hm hv ⟨v, H, I, r, h⟩ hn hd

/-! ### arithmetic -/
/-- two ints -/
def t2I (ta tb : TE) (k : Int → Int → Hp → Prop) : St → Hp → Prop := fun σ H => ta σ H fun x H1 => tb σ H1 fun y H2 => ∃ i j, x = .int i ∧ y = .int j ∧ k i j H2
def tAdd (ta tb : TE) : TE := fun σ H Q => t2I ta tb (fun i j H2 => Q (.int (i + j)) H2) σ H
def tSub (ta tb : TE) : TE := fun σ H Q => t2I ta tb (fun i j H2 => Q (.int (i - j)) H2) σ H
/-- the left factor below 2^64 -/
def tMul (ta tb : TE) : TE := fun σ H Q => t2I ta tb (fun i j H2 => (-(2 ^ 64) < i ∧ i < 2 ^ 64) ∧ Q (.int (i * j)) H2) σ H
variable {a b : Expr} {ta tb : TE} {pos : Pos}
theorem pe_add (ha : PE X a ta) (hb : PE X b tb) : PE X (.BinOp a .Add b pos) (tAdd ta tb) := by
  intro pins s σ H Q I h
  refine wpAny_BinOp (bin ha hb I h fun v u s2 x y H2 I2 rx ry q => ?_)
  obtain ⟨i, j, rfl, rfl, q⟩ := q
  obtain ⟨t, rfl⟩ := rx
  obtain ⟨t', rfl⟩ := ry
  exact add_int ⟨.int _, H2, I2.tok _, ⟨_, rfl⟩, q⟩
theorem pe_sub (ha : PE X a ta) (hb : PE X b tb) : PE X (.BinOp a .Sub b pos) (tSub ta tb) := by
  intro pins s σ H Q I h
  refine wpAny_BinOp (bin ha hb I h fun v u s2 x y H2 I2 rx ry q => ?_)
  obtain ⟨i, j, rfl, rfl, q⟩ := q
  obtain ⟨t, rfl⟩ := rx
  obtain ⟨t', rfl⟩ := ry
  exact sub_int ⟨.int _, H2, I2.tok _, ⟨_, rfl⟩, q⟩
theorem pe_mul (ha : PE X a ta) (hb : PE X b tb) : PE X (.BinOp a .Mult b pos) (tMul ta tb) := by
  intro pins s σ H Q I h
  refine wpAny_BinOp (bin ha hb I h fun v u s2 x y H2 I2 rx ry q => ?_)
  obtain ⟨i, j, rfl, rfl, ⟨q1, q2⟩, q⟩ := q
  obtain ⟨t, rfl⟩ := rx
  obtain ⟨t', rfl⟩ := ry
  exact mul_int ⟨.int _, H2, I2.tok _, ⟨_, rfl⟩, q⟩ (.of_left (intBits_le_64 q1 q2))

/-! ### comparisons -/
def PC (X : Cx) (op : CmpOp) (a b : Expr) (t : TE) : Prop :=
  ∀ (pins : List (Addr × Obj)) (s : Shared) (σ : St) (H : Hp) (Q : VK), Inv X pins σ H s → t σ H Q →
    wpAny (model X.prog X.w) X.A (eval a X.env) (fun v s₁ => wpAny (model X.prog X.w) X.A (eval b X.env) (fun u s₂ => wpAny (model X.prog X.w) X.A (compareOp op v u) (EP X pins σ Q) X.xe s₂) X.xe s₁) X.xe s
theorem nobehind (b : Expr) {op : CmpOp} (h : op ≠ .In) (h2 : op ≠ .NotIn) : behindInMarks op b = false := by
  have e1 : (op == CmpOp.In) = false := by cases op <;> first | rfl | exact absurd rfl h
  have e2 : (op == CmpOp.NotIn) = false := by cases op <;> first | rfl | exact absurd rfl h2
  cases b <;> simp [behindInMarks, e1, e2]
def tCmp (p : Int → Int → Bool) (ta tb : TE) : TE := fun σ H Q => t2I ta tb (fun i j H2 => Q (.bl (p i j)) H2) σ H
abbrev tLt : TE → TE → TE := tCmp fun i j => decide (i < j)
abbrev tLe : TE → TE → TE := tCmp fun i j => decide (i ≤ j)
abbrev tGt : TE → TE → TE := tCmp fun i j => decide (j < i)
abbrev tGe : TE → TE → TE := tCmp fun i j => decide (j ≤ i)
abbrev tEqI : TE → TE → TE := tCmp fun i j => decide (i = j)
abbrev tNeI : TE → TE → TE := tCmp fun i j => !decide (i = j)
/-- a comparison of two ints, by its rule -/
theorem pc_int {op : CmpOp} {p : Int → Int → Bool} (ha : PE X a ta) (hb : PE X b tb)
    (rule : ∀ (i j : Int) (t u : Tok) (Q : Value → Shared → Prop) (s : Shared), Q (.bool (p i j)) s → wpAny (model X.prog X.w) X.A (compareOp op (.int i t) (.int j u)) Q X.xe s) : PC X op a b (tCmp p ta tb) := by
  intro pins s σ H Q I h
  refine bin ha hb I h fun v u s2 x y H2 I2 rx ry q => ?_
  obtain ⟨i, j, rfl, rfl, q⟩ := q
  obtain ⟨t, rfl⟩ := rx
  obtain ⟨t', rfl⟩ := ry
  exact rule i j t t' _ s2 ⟨.bl _, H2, I2, rfl, q⟩
theorem pc_lt (ha : PE X a ta) (hb : PE X b tb) : PC X .Lt a b (tLt ta tb) := pc_int ha hb fun _ _ _ _ _ _ h => lt_int h
theorem pc_le (ha : PE X a ta) (hb : PE X b tb) : PC X .LtE a b (tLe ta tb) := pc_int ha hb fun _ _ _ _ _ _ h => le_int h
theorem pc_gt (ha : PE X a ta) (hb : PE X b tb) : PC X .Gt a b (tGt ta tb) := pc_int ha hb fun _ _ _ _ _ _ h => gt_int h
theorem pc_ge (ha : PE X a ta) (hb : PE X b tb) : PC X .GtE a b (tGe ta tb) := pc_int ha hb fun _ _ _ _ _ _ h => ge_int h
theorem pc_eqI (ha : PE X a ta) (hb : PE X b tb) : PC X .Eq a b (tEqI ta tb) := pc_int ha hb fun _ _ _ _ _ _ h => eq_int (by rw [Bool.beq_eq_decide_eq]; exact h)
theorem pc_neI (ha : PE X a ta) (hb : PE X b tb) : PC X .NotEq a b (tNeI ta tb) := pc_int ha hb fun _ _ _ _ _ _ h => ne_int (by rw [bne, Bool.beq_eq_decide_eq]; exact h)
/-- is None -/
def tIsN (ta : TE) : TE := fun σ H Q => ta σ H fun x H1 => Q (.bl (decide (x = .non))) H1
def tNotN (ta : TE) : TE := fun σ H Q => ta σ H fun x H1 => Q (.bl (!decide (x = .non))) H1
theorem RelV.none_iff {x : V} {v : Value} (r : RelV x v) : (v == Value.none) = decide (x = .non) := by
  cases x with
  | non => cases r; rfl
  | bl _ => cases r; rfl
  | int _ => obtain ⟨t, rfl⟩ := r; rfl
  | str _ => obtain ⟨t, rfl⟩ := r; rfl
  | byt _ => obtain ⟨t, rfl⟩ := r; rfl
  | flt _ => obtain ⟨t, rfl⟩ := r; rfl
  | ref _ => cases r; rfl
  | ty _ => cases r; rfl
theorem pc_isN {j pos'} (ha : PE X a ta) : PC X .Is a (.Constant .none j pos') (tIsN ta) := by
  intro pins s σ H Q I h
  refine thn (ha pins s σ H _ I h) fun v s1 ⟨x, H1, I1, r1, q1⟩ => ?_
  exact Constant_none (is_none_gen ⟨.bl _, H1, I1, by rw [r1.none_iff]; rfl, q1⟩)
theorem pc_notN {j pos'} (ha : PE X a ta) : PC X .IsNot a (.Constant .none j pos') (tNotN ta) := by
  intro pins s σ H Q I h
  refine thn (ha pins s σ H _ I h) fun v s1 ⟨x, H1, I1, r1, q1⟩ => ?_
  exact Constant_none (isnot_none_gen ⟨.bl _, H1, I1, by rw [r1.none_iff]; rfl, q1⟩)
/-- a comparison as a value, as a test -/
def tB (t : TE) : TT := fun σ H Q => t σ H fun x H1 => ∃ c, x = .bl c ∧ Q c H1
theorem pe_cmp {op : CmpOp} {t : TE} (h : PC X op a b t) (h1 : behindInMarks op b = false := by first | exact nobehind _ (by decide) (by decide) | rfl) : PE X (.Compare a [op] [b] pos) t := fun pins s σ H Q I hw => wpAny_Compare1 (h pins s σ H Q I hw) h1
theorem pt_cmp {op : CmpOp} {t : TE} (h : PC X op a b t) (h1 : behindInMarks op b = false := by first | exact nobehind _ (by decide) (by decide) | rfl) : PT X (.Compare a [op] [b] pos) (tB t) := by
  intro pins s σ H Q I hw
  refine wpAny_isTrue_Compare1 (thn (h pins s σ H _ I hw) fun v s1 h1 => thn h1 fun u s2 h2 => thn h2 fun c s3 ⟨x, H1, I1, r1, q1⟩ => ?_) h1
  obtain ⟨d, rfl, q⟩ := q1
  cases r1
  exact wpAny_truthy_bool ⟨H1, I1, q⟩
/-- an expression whose value is a bool, as a test -/
theorem pt_val {e : Expr} {t : TE} (h : PE X e t) (he : ∀ whole, isTrue e X.env whole = (do let v ← whole; standAt e.pos; holding [v] (truthy v)) := by intro _; rfl) : PT X e (tB t) := by
  intro pins s σ H Q I hw
  refine isTrue_plain (thn (h pins s σ H _ I hw) fun v s1 ⟨x, H1, I1, r1, q1⟩ => ?_) (he _)
  obtain ⟨d, rfl, q⟩ := q1
  cases r1
  exact wpAny_truthy_bool ⟨H1, I1, q⟩

/-! ### and, or, not -/
variable {tA tB' : TT} {rest : List Expr}
def tAnd (t u : TT) : TT := fun σ H Q => t σ H fun c H1 => if c = true then u σ H1 Q else Q false H1
def tOr (t u : TT) : TT := fun σ H Q => t σ H fun c H1 => if c = true then Q true H1 else u σ H1 Q
def tNot (t : TT) : TT := fun σ H Q => t σ H fun c H1 => Q (!c) H1
theorem pw_and1 (ha : PT X a tA) : PW X (.BoolOp .And [a] pos) tA := by
  intro wh pins s σ H Q I h
  refine isTrue_and (thn (ha pins s σ H Q I h) fun c s1 e => ?_)
  cases c with
  | true => exact isTrue_and_nil e
  | false => exact e
theorem pw_or1 (ha : PT X a tA) : PW X (.BoolOp .Or [a] pos) tA := by
  intro wh pins s σ H Q I h
  refine isTrue_or (thn (ha pins s σ H Q I h) fun c s1 e => ?_)
  cases c with
  | false => exact isTrue_or_nil e
  | true => exact e
theorem pw_and (ha : PT X a tA) (hb : PW X (.BoolOp .And (b :: rest) pos) tB') : PW X (.BoolOp .And (a :: b :: rest) pos) (tAnd tA tB') := by
  intro wh pins s σ H Q I h
  refine isTrue_and (thn (ha pins s σ H _ I h) fun c s1 ⟨H1, I1, q1⟩ => ?_)
  cases c with
  | true => exact hb wh pins s1 σ H1 Q I1 q1
  | false => exact ⟨H1, I1, q1⟩
theorem pw_or (ha : PT X a tA) (hb : PW X (.BoolOp .Or (b :: rest) pos) tB') : PW X (.BoolOp .Or (a :: b :: rest) pos) (tOr tA tB') := by
  intro wh pins s σ H Q I h
  refine isTrue_or (thn (ha pins s σ H _ I h) fun c s1 ⟨H1, I1, q1⟩ => ?_)
  cases c with
  | true => exact ⟨H1, I1, q1⟩
  | false => exact hb wh pins s1 σ H1 Q I1 q1
theorem pt_not (ha : PT X a tA) : PT X (.UnaryOp .Not a pos) (tNot tA) := by
  intro pins s σ H Q I h
  exact isTrue_not (ha pins s σ H (fun c H1 => Q (!c) H1) I h)
/-- .. as values (bools) -/
def tAndV (ta tb : TE) : TE := fun σ H Q => ta σ H fun x H1 => ∃ c, x = .bl c ∧ if c = true then tb σ H1 Q else Q (.bl false) H1
def tOrV (ta tb : TE) : TE := fun σ H Q => ta σ H fun x H1 => ∃ c, x = .bl c ∧ if c = true then Q (.bl true) H1 else tb σ H1 Q
def tNotV (ta : TE) : TE := fun σ H Q => ta σ H fun x H1 => ∃ c, x = .bl c ∧ Q (.bl (!c)) H1
theorem pe_one {op} {t : TE} (h : PE X a t) : PE X (.BoolOp op [a] pos) t := fun pins s σ H Q I hw => BoolOp_one (h pins s σ H Q I hw)
theorem pe_and (ha : PE X a ta) (hb : PE X (.BoolOp .And (b :: rest) pos) tb) : PE X (.BoolOp .And (a :: b :: rest) pos) (tAndV ta tb) := by
  intro pins s σ H Q I h
  refine BoolOp_and (thn (ha pins s σ H _ I h) fun v s1 ⟨x, H1, I1, r1, q1⟩ => ?_)
  obtain ⟨c, rfl, q1⟩ := q1
  cases r1
  refine wpAny_truthy_bool ?_
  cases c with
  | true => exact hb pins s1 σ H1 Q I1 q1
  | false => exact ⟨.bl false, H1, I1, rfl, q1⟩
theorem pe_or (ha : PE X a ta) (hb : PE X (.BoolOp .Or (b :: rest) pos) tb) : PE X (.BoolOp .Or (a :: b :: rest) pos) (tOrV ta tb) := by
  intro pins s σ H Q I h
  refine BoolOp_or (thn (ha pins s σ H _ I h) fun v s1 ⟨x, H1, I1, r1, q1⟩ => ?_)
  obtain ⟨c, rfl, q1⟩ := q1
  cases r1
  refine wpAny_truthy_bool ?_
  cases c with
  | false => exact hb pins s1 σ H1 Q I1 q1
  | true => exact ⟨.bl true, H1, I1, rfl, q1⟩
theorem pe_not (ha : PE X a ta) : PE X (.UnaryOp .Not a pos) (tNotV ta) := by
  intro pins s σ H Q I h
  refine UnaryOp_ (thn (ha pins s σ H _ I h) fun v s1 ⟨x, H1, I1, r1, q1⟩ => ?_)
  obtain ⟨c, rfl, q1⟩ := q1
  cases r1
  exact not_of (wpAny_truthy_bool ⟨.bl (!c), H1, I1, rfl, q1⟩)
/-- a if t else b -/
def tIf (t : TT) (ta tb : TE) : TE := fun σ H Q => t σ H fun c H1 => if c = true then ta σ H1 Q else tb σ H1 Q
theorem pe_ifExp {c : Expr} (hc : PT X c tA) (ha : PE X a ta) (hb : PE X b tb) : PE X (.IfExp c a b pos) (tIf tA ta tb) := by
  intro pins s σ H Q I h
  refine wpAny_IfExp (thn (hc pins s σ H _ I h) fun d s1 ⟨H1, I1, q1⟩ => ?_)
  cases d with
  | true => exact ha pins s1 σ H1 Q I1 q1
  | false => exact hb pins s1 σ H1 Q I1 q1
end
end L2

namespace L2
open PySem PySem.Spec PyProof.Rows

/-! ### a list, a tuple that is read: tracked, frozen, or an object of the module -/
def SqL (K : PySem.W.Frag) (H : Hp) (a : Addr) (xs : List V) : Prop :=
  Rd H a (.lst xs) ∨
    ∃ (o : Obj) (its : Array Value) (n : Nat), K.lookup a = some o ∧ o.cls = .type "list" ∧ o.dict = none ∧ o.data = .seq its n ∧ its.size ≤ sizeLine ∧ Vals xs its.toList
def SqT (K : PySem.W.Frag) (H : Hp) (a : Addr) (xs : List V) : Prop :=
  Rd H a (.tup xs) ∨
    ∃ (o : Obj) (its : Array Value) (n : Nat), K.lookup a = some o ∧ o.cls = .type "tuple" ∧ o.data = .seq its n ∧ its.size ≤ sizeLine ∧ Vals xs its.toList
def absV : Value → Option V
  | .none => some .non
  | .bool b => some (.bl b)
  | .int i _ => some (.int i)
  | .str x _ => some (.str x)
  | .bytes b _ => some (.byt b)
  | .float b _ => some (.flt b)
  | .ref a => some (.ref a)
  | .type n => some (.ty n)
  | _ => none
theorem RelV.abs {x : V} {u : Value} (r : RelV x u) : absV u = some x := by
  cases x with
  | non => cases r; rfl
  | bl _ => cases r; rfl
  | int _ => obtain ⟨t, rfl⟩ := r; rfl
  | str _ => obtain ⟨t, rfl⟩ := r; rfl
  | byt _ => obtain ⟨t, rfl⟩ := r; rfl
  | flt _ => obtain ⟨t, rfl⟩ := r; rfl
  | ref _ => cases r; rfl
  | ty _ => cases r; rfl
theorem RelV.inj {x y : V} {u : Value} (r : RelV x u) (q : RelV y u) : x = y := Option.some.inj (r.abs.symm.trans q.abs)
theorem Vals.inj : ∀ {xs ys : List V} {us : List Value}, Vals xs us → Vals ys us → xs = ys
  | _, _, _, .nil, .nil => rfl
  | _, _, _, .cons r t, .cons r' t' => by rw [r.inj r', Vals.inj t t']
section
variable {X : Cx} {pins : List (Addr × Obj)} {σ : St} {H : Hp} {s : Shared} {a : Addr} {xs ys : List V}
theorem SqL.of {K : PySem.W.Frag} (h : H a = some (.lst xs)) : SqL K H a xs := .inl (.inl h)
theorem SqT.of {K : PySem.W.Frag} (h : H a = some (.tup xs)) : SqT K H a xs := .inl (.inl h)
theorem Inv.list (I : Inv X pins σ H s) (h : SqL X.K H a xs) : ∃ its : List Value, Vals xs its ∧ PlainL s.heap a its.toArray ∧ xs.length ≤ sizeLine := by
  rcases h with h | ⟨o, its, n, hk, hc, hd, hs, hz, r⟩
  · obtain ⟨z, its, n, r, e⟩ := h.ok I.hok
    exact ⟨its, r, ⟨_, n, e, rfl, rfl, rfl⟩, z⟩
  · refine ⟨its.toList, r, ⟨o, n, I.kIn a o hk, hc, hd, by simpa using hs⟩, ?_⟩
    have e := r.length
    simp only [Array.length_toList] at e
    omega
theorem Inv.tuple (I : Inv X pins σ H s) (h : SqT X.K H a xs) : ∃ its : List Value, Vals xs its ∧ IsTup s.heap a its.toArray ∧ xs.length ≤ sizeLine := by
  rcases h with h | ⟨o, its, n, hk, hc, hs, hz, r⟩
  · obtain ⟨z, its, r, p⟩ := h.ok I.hok
    exact ⟨its, r, p, z⟩
  · refine ⟨its.toList, r, ⟨o, I.kIn a o hk, hc, n, by simpa using hs⟩, ?_⟩
    have e := r.length
    simp only [Array.length_toList] at e
    omega
theorem Inv.list_inj (I : Inv X pins σ H s) (h : SqL X.K H a xs) (h' : SqL X.K H a ys) : xs = ys := by
  obtain ⟨its, r, ⟨o, n, e, _, _, d⟩, _⟩ := I.list h
  obtain ⟨its', r', ⟨o', n', e', _, _, d'⟩, _⟩ := I.list h'
  rw [e] at e'; cases e'
  rw [d] at d'
  injection d' with d1 _
  have : its = its' := by simpa using congrArg Array.toList d1
  subst this
  exact r.inj r'
theorem Inv.tuple_inj (I : Inv X pins σ H s) (h : SqT X.K H a xs) (h' : SqT X.K H a ys) : xs = ys := by
  obtain ⟨its, r, ⟨o, e, _, n, d⟩, _⟩ := I.tuple h
  obtain ⟨its', r', ⟨o', e', _, n', d'⟩, _⟩ := I.tuple h'
  rw [e] at e'; cases e'
  rw [d] at d'
  injection d' with d1 _
  have : its = its' := by simpa using congrArg Array.toList d1
  subst this
  exact r.inj r'
end

/-! ### another wish about exceptions -/
abbrev Cx.wish (X : Cx) (E : Value → Shared → Prop) : Cx := { X with xe := E }
/-- no exception leaves -/
abbrev Cx.nox (X : Cx) : Cx := X.wish fun _ _ => False
theorem Cx.Ok.wish {X : Cx} (ok : X.Ok) (E : Value → Shared → Prop) : (X.wish E).Ok :=
  ⟨ok.mod, ok.kind, ok.glob, ok.blt, ok.above, ok.inj, ok.has, ok.cab, ok.hd, ok.frames, ok.stk, ok.exf, ok.bs, ok.bsz, ok.noex, ok.exfs, ok.funs, ok.frf⟩
theorem Cx.Ok.unwish {X : Cx} {E : Value → Shared → Prop} (ok : (X.wish E).Ok) : X.Ok :=
  ⟨ok.mod, ok.kind, ok.glob, ok.blt, ok.above, ok.inj, ok.has, ok.cab, ok.hd, ok.frames, ok.stk, ok.exf, ok.bs, ok.bsz, ok.noex, ok.exfs, ok.funs, ok.frf⟩
section
variable {X : Cx} {pins : List (Addr × Obj)} {σ : St} {H : Hp} {s : Shared} {E : Value → Shared → Prop}
theorem Inv.wish (I : Inv X pins σ H s) (E : Value → Shared → Prop) : Inv (X.wish E) pins σ H s := ⟨I.ok.wish E, I.os, I.bare, I.base, I.loc, I.cell, I.free, I.freeC, I.pin, I.hok, I.len⟩
theorem Inv.unwish (I : Inv (X.wish E) pins σ H s) : Inv X pins σ H s := ⟨I.ok.unwish, I.os, I.bare, I.base, I.loc, I.cell, I.free, I.freeC, I.pin, I.hok, I.len⟩
theorem SP.unwish {D : Ends} {f : Flow} {s' : Shared} (h : SP (X.wish E) pins D f s') : SP X pins D f s' := by
  cases f with
  | next => obtain ⟨σ', H', I, q⟩ := h; exact ⟨σ', H', I.unwish, q⟩
  | brk => obtain ⟨σ', H', I, q⟩ := h; exact ⟨σ', H', I.unwish, q⟩
  | cont => obtain ⟨σ', H', I, q⟩ := h; exact ⟨σ', H', I.unwish, q⟩
  | ret u => obtain ⟨v, σ', H', I, r, q⟩ := h; exact ⟨v, σ', H', I.unwish, r, q⟩
theorem PE.nox {e : Expr} {t : TE} (h : PE X.nox e t) : PE X e t := fun pins s σ H Q I hw =>
  wpAny_mono (h pins s σ H Q (I.wish _) hw) (fun _ _ ⟨v, H', I', r, q⟩ => ⟨v, H', I'.unwish, r, q⟩) fun _ _ z => False.elim z
theorem PT.nox {e : Expr} {t : TT} (h : PT X.nox e t) : PT X e t := fun pins s σ H Q I hw =>
  wpAny_mono (h pins s σ H Q (I.wish _) hw) (fun _ _ ⟨H', I', q⟩ => ⟨H', I'.unwish, q⟩) fun _ _ z => False.elim z
theorem PSs.nox {st : List Stmt} {t : TS} (h : PSs X.nox st t) : PSs X st t := fun pins s σ H D I hw =>
  wpAny_mono (h pins s σ H D (I.wish _) hw) (fun _ _ q => q.unwish) fun _ _ z => False.elim z
end

/-! ### blocks and small statements -/
section
variable {X : Cx} {st : Stmt} {rest : List Stmt} {t u : TS} {e : Expr} {te : TE} {pos : Pos}
def tNext : TS := fun D σ H => D.nx σ H
def tSeq (t u : TS) : TS := fun D σ H => t { D with nx := u D } σ H
theorem pss_nil : PSs X [] tNext := fun _ _ σ H _ I h => wpAny_execs_nil ⟨σ, H, I, h⟩
theorem pss_cons (h1 : PS X st t) (h2 : PSs X rest u) : PSs X (st :: rest) (tSeq t u) := by
  intro pins s σ H D I h
  refine wpAny_execs_cons (thn (h1 pins s σ H { D with nx := u D } I h) fun f s1 q => ?_)
  cases f with
  | next =>
    obtain ⟨σ', H', I', q⟩ := q
    exact h2 pins s1 σ' H' D I' q
  | ret v => exact q
  | brk => exact q
  | cont => exact q
theorem pss_one (h1 : PS X st t) : PSs X [st] t := by
  intro pins s σ H D I h
  refine wpAny_execs_cons (thn (h1 pins s σ H D I h) fun f s1 q => ?_)
  cases f with
  | next => exact wpAny_execs_nil q
  | ret v => exact q
  | brk => exact q
  | cont => exact q
def tBreak : TS := fun D σ H => D.bk σ H
def tCont : TS := fun D σ H => D.ct σ H
theorem ps_pass : PS X (.Pass pos) tNext := fun _ _ σ H _ I h => wpAny_Pass ⟨σ, H, I, h⟩
theorem ps_break : PS X (.Break pos) tBreak := fun _ _ σ H _ I h => wpAny_Break ⟨σ, H, I, h⟩
theorem ps_continue : PS X (.Continue pos) tCont := fun _ _ σ H _ I h => wpAny_Continue ⟨σ, H, I, h⟩
/-- in a def's body nothing is shown -/
theorem Inv.quiet {pins : List (Addr × Obj)} {σ : St} {H : Hp} {s : Shared} (I : Inv X pins σ H s) : interactive X.env = false := by simp [interactive, I.ok.kind]
/-- a docstring -/
theorem ps_doc {x j pos pos'} : PS X (.Expr (.Constant (.str x) j pos) pos') tNext := fun _ s σ H _ I h => wpAny_Expr (Calls.Constant_str (show SP X _ _ .next { s with toks := s.toks + 1 } from ⟨σ, H, I.tok _, h⟩)) I.quiet
/-- an expression whose value is dropped -/
def tDrop (te : TE) : TS := fun D σ H => te σ H fun _ H1 => D.nx σ H1
theorem ps_expr (he : PE X e te) (hs : swapsWith e none pos.line X.env = pure false := by rfl) : PS X (.Expr e pos) (tDrop te) := by
  intro pins s σ H D I h
  exact wpAny_Expr_any (thn (he pins s σ H _ I h) fun v s1 ⟨x, H1, I1, r1, q1⟩ => ⟨σ, H1, I1, q1⟩) I.quiet hs
def tRet (te : TE) : TS := fun D σ H => te σ H D.rt
theorem ps_ret (he : PE X e te) : PS X (.Return (some e) pos) (tRet te) := by
  intro pins s σ H D I h
  exact wpAny_Return_some (thn (he pins s σ H _ I h) fun v s1 ⟨x, H1, I1, r1, q1⟩ => ⟨x, σ, H1, I1, r1, q1⟩)
def tRetN : TS := fun D _ H => D.rt .non H
theorem ps_retN : PS X (.Return none pos) tRetN := fun _ _ σ H _ I h => wpAny_Return_none ⟨.non, σ, H, I, rfl, h⟩
def tIfS (c : TT) (t u : TS) : TS := fun D σ H => c σ H fun b H1 => if b = true then t D σ H1 else u D σ H1
theorem ps_if {c : Expr} {a b : List Stmt} {tc : TT} (hc : PT X c tc) (ha : PSs X a t) (hb : PSs X b u) : PS X (.If c a b pos) (tIfS tc t u) := by
  intro pins s σ H D I h
  refine wpAny_If (thn (hc pins s σ H _ I h) fun d s1 ⟨H1, I1, q1⟩ => ?_)
  cases d with
  | true => exact ha pins s1 σ H1 D I1 q1
  | false => exact hb pins s1 σ H1 D I1 q1
/-- code that the proof never comes to -/
def tNever : TS := fun _ _ _ => False
theorem ps_never : PS X st tNever := fun _ _ _ _ _ _ h => h.elim
theorem pss_never {sts : List Stmt} : PSs X sts tNever := fun _ _ _ _ _ _ h => h.elim
end

/-! ### targets -/
abbrev TG := V → St → Hp → (St → Hp → Prop) → Prop
abbrev TGs := List V → St → Hp → (St → Hp → Prop) → Prop
def PG (X : Cx) (target : Expr) (t : TG) : Prop :=
  ∀ (pins : List (Addr × Obj)) (s : Shared) (σ : St) (H : Hp) (v : V) (u : Value) (Q : St → Hp → Prop), Inv X pins σ H s → RelV v u → t v σ H Q →
    wpAny (model X.prog X.w) X.A (assign target X.env u) (fun _ s' => ∃ σ' H', Inv X pins σ' H' s' ∧ Q σ' H') X.xe s
/-- several targets, one after another -/
def PGs (X : Cx) (ts : List Expr) (t : TGs) : Prop :=
  ∀ (pins : List (Addr × Obj)) (s : Shared) (σ : St) (H : Hp) (vs : List V) (us : List Value) (Q : St → Hp → Prop), Inv X pins σ H s → Vals vs us → t vs σ H Q →
    wpAny (model X.prog X.w) X.A (assignInOrder ((assignEach ts X.env).map (·.2)) us) (fun _ s' => ∃ σ' H', Inv X pins σ' H' s' ∧ Q σ' H') X.xe s
/-- o[i] = v, by values -/
abbrev TSet := V → V → V → Hp → (Hp → Prop) → Prop
def PSet (X : Cx) (t : TSet) : Prop :=
  ∀ (pins : List (Addr × Obj)) (s : Shared) (σ : St) (H : Hp) (o i v : V) (ov iv u : Value) (Q : Hp → Prop), Inv X pins σ H s → RelV o ov → RelV i iv → RelV v u → t o i v H Q →
    wpAny (model X.prog X.w) X.A (setItem ov iv u) (fun _ s' => ∃ H', Inv X pins σ H' s' ∧ Q H') X.xe s
/-- a op= b, by values -/
abbrev TIp := V → V → Hp → VK → Prop
def PIp (X : Cx) (op : Operator) (t : TIp) : Prop :=
  ∀ (pins : List (Addr × Obj)) (s : Shared) (σ : St) (H : Hp) (x y : V) (v u : Value) (Q : VK), Inv X pins σ H s → RelV x v → RelV y u → t x y H Q →
    wpAny (model X.prog X.w) X.A (inplaceOp op v u) (EP X pins σ Q) X.xe s
section
variable {X : Cx} {pos : Pos}
def gName (i : Nat) : TG := fun v σ H Q => Q (σ.set i (some v)) H
theorem pg_name {i : Nat} {x : Str} (hN : X.N.Nodup) (hi : X.N[i]? = some x) (hx : Loc X.env.scope x) (hf : X.fn x = true ∨ X.env.scope.names.lookup x = some .local := by first | exact .inl rfl | exact .inr rfl | assumption) : PG X (.Name x pos) (gName i) := by
  intro pins s σ H v u Q I r h
  exact wpAny_assign_Name (store_ok I hN hi hx r (fun s' I' => ⟨_, H, I', h⟩) hf)
def gNil : TGs := fun vs σ H Q => vs = [] ∧ Q σ H
def gCons (t : TG) (u : TGs) : TGs := fun vs σ H Q => ∃ v r, vs = v :: r ∧ t v σ H fun σ' H' => u r σ' H' Q
theorem pgs_nil : PGs X [] gNil := by
  intro pins s σ H vs us Q I r h
  obtain ⟨e, h⟩ := h
  subst e
  cases r
  exact assignInOrder_nil ⟨σ, H, I, h⟩
theorem pgs_cons {e : Expr} {es : List Expr} {t : TG} {u : TGs} (h1 : PG X e t) (h2 : PGs X es u)
    (hs : (assignEach (e :: es) X.env).map (·.2) = assign e X.env :: (assignEach es X.env).map (·.2) := by rfl) : PGs X (e :: es) (gCons t u) := by
  intro pins s σ H vs us Q I r h
  obtain ⟨v, vr, e1, h⟩ := h
  subst e1
  cases r with
  | cons r rr =>
    rw [hs]
    refine assignInOrder_cons (thn (h1 pins s σ H _ _ _ I r h) fun _ s1 ⟨σ1, H1, I1, q1⟩ => ?_)
    exact h2 pins s1 σ1 H1 _ _ Q I1 rr q1
/-- (a, b, ..) = a tuple of that length -/
def gTup (K : PySem.W.Frag) (n : Nat) (t : TGs) : TG := fun v σ H Q => ∃ a xs, v = .ref a ∧ SqT K H a xs ∧ xs.length = n ∧ t xs σ H Q
theorem pg_tup {es : List Expr} {k : Nat} {t : TGs} {n : Nat} (hc : X.calm = true) (h : PGs X es t)
    (hn : (assignEach es X.env).length = n := by rfl) (hst : (assignEach es X.env).findIdx? (·.1) = none := by rfl) : PG X (.Tuple es k pos) (gTup X.K n t) := by
  intro pins s σ H v u Q I r hw
  obtain ⟨a, xs, e1, hq, hl, hw⟩ := hw
  subst e1
  cases r
  obtain ⟨its, rv, ht, hz⟩ := I.tuple hq
  refine assign_Tuple_tuple (I.ok.hd hc) ht (by simp [hn, ← hl, rv.length]) hst fun h' hx => ?_
  have I1 : Inv X pins σ H { s with heap := h' } := I.kept (t' := s.toks) fun b o e => hx b o (Nat.ne_of_lt (Heap.lt_size e)) e
  exact h pins _ σ H xs _ Q I1 (by simpa using rv) hw
/-- o[i] = .. -/
def gSub (to ti : TE) (t : TSet) : TG := fun v σ H Q => to σ H fun o H1 => ti σ H1 fun i H2 => t o i v H2 fun H3 => Q σ H3
theorem pg_sub {o i : Expr} {to ti : TE} {t : TSet} (ho : PE X o to) (hi : PE X i ti) (hs : PSet X t)
    (ha : ∀ v, assign (.Subscript o i pos) X.env v = (do
      let ov ← holding [v] (eval o X.env)
      let iv ← holding [v, ov] (eval i X.env)
      standAt pos
      holding [v, ov, iv] (setItem ov iv v)
      release [v, ov, iv] []) := by intro _; rfl) : PG X (.Subscript o i pos) (gSub to ti t) := by
  intro pins s σ H v u Q I r h
  rw [ha]
  refine wpAny_bind (wpAny_holding (thn (ho pins s σ H _ I h) fun ov s1 ⟨x, H1, I1, r1, q1⟩ => ?_))
  refine wpAny_bind (wpAny_holding (thn (hi pins s1 σ H1 _ I1 q1) fun iv s2 ⟨y, H2, I2, r2, q2⟩ => ?_))
  refine wpAny_bind (wpAny_standAt (wpAny_bind (wpAny_holding (thn (hs pins s2 σ H2 x y v ov iv u _ I2 r1 r2 r q2) fun _ s3 ⟨H3, I3, q3⟩ => ?_))))
  exact wpAny_release ⟨σ, H3, I3, q3⟩
/-- target = value -/
def tAsg (te : TE) (g : TG) : TS := fun D σ H => te σ H fun x H1 => g x σ H1 D.nx
theorem ps_asg {tg e : Expr} {te : TE} {g : TG} (he : PE X e te) (hg : PG X tg g) (hs : swapsWithSole [tg] e pos.line X.env = pure false := by rfl) (hw : swappedStores [tg] e X.env = pure none := by rfl)
    (h1 : (assignEach [tg] X.env).map (·.2) = [assign tg X.env] := by rfl) : PS X (.Assign [tg] e pos) (tAsg te g) := by
  intro pins s σ H D I h
  refine wpAny_Assign_stores (thn (he pins s σ H _ I h) fun v s1 ⟨x, H1, I1, r1, q1⟩ => ?_) hs hw
  rw [h1]
  exact thn (hg pins s1 σ H1 x v _ I1 r1 q1) fun _ s2 q => q
/-- name = value -/
theorem ps_set {i : Nat} {x : Str} {e : Expr} {te : TE} {pos' : Pos} (hN : X.N.Nodup) (hi : X.N[i]? = some x) (hx : Loc X.env.scope x) (he : PE X e te) (hs : swapsWith e (some (.Name x pos')) pos.line X.env = pure false := by rfl) (hf : X.fn x = true ∨ X.env.scope.names.lookup x = some .local := by first | exact .inl rfl | exact .inr rfl | assumption) :
    PS X (.Assign [.Name x pos'] e pos) (tAsg te (gName i)) := by
  intro pins s σ H D I h
  refine wpAny_Assign_Name (thn (he pins s σ H _ I h) fun v s1 ⟨y, H1, I1, r1, q1⟩ => ?_) hs
  exact store_ok I1 hN hi hx r1 (fun s2 I2 => ⟨_, H1, I2, q1⟩) hf
/-- a, b = x, y with plain local names: stored from the right; the pair itself is not tracked (the opening rows as in PyProof/Rows/TupAssign.lean:23) -/
def tPar (i j : Nat) (ta : TA) : TS := fun D σ H => ta σ H fun vs H1 => ∃ v w, vs = [v, w] ∧ D.nx ((σ.set i (some v)).set j (some w)) H1
theorem ps_par {i j : Nat} {x y : Str} {a b : Expr} {ta : TA} {px py pt : Pos} {kt k2 pt2} (hc : X.calm = true) (hN : X.N.Nodup) (hi : X.N[i]? = some x) (hj : X.N[j]? = some y) (hij : i ≠ j)
    (hx : X.env.scope.names.lookup x = some .local) (hy : X.env.scope.names.lookup y = some .local) (ha : PA X [a, b] ta)
    (hw : swappedStores [.Tuple [.Name x px, .Name y py] kt pt] (.Tuple [a, b] k2 pt2) X.env = pure (some [x, y]))
    (hs : swapsWithSole [.Tuple [.Name x px, .Name y py] kt pt] (.Tuple [a, b] k2 pt2) pos.line X.env = pure false := by rfl) :
    PS X (.Assign [.Tuple [.Name x px, .Name y py] kt pt] (.Tuple [a, b] k2 pt2) pos) (tPar i j ta) := by
  intro pins s σ H D I h
  rw [exec_Assign_arm]
  refine wpAny_bind (wpAny_standAt ?_)
  rw [hs]
  refine wpAny_bind (wpAny_pure ?_)
  rw [if_neg (by decide)]
  refine wpAny_bind (Tuple_ (thn (ha _ pins s σ H _ I h) fun us s1 ⟨vs, H1, I1, r1, q1⟩ => ?_))
  obtain ⟨v, w, e1, q1⟩ := q1
  subst e1
  obtain ⟨u1, u2, rfl, rv, rw'⟩ : ∃ u1 u2, us = [u1, u2] ∧ RelV v u1 ∧ RelV w u2 := by
    cases r1 with
    | cons p q =>
      cases q with
      | cons p' q' =>
        cases q'
        exact ⟨_, _, rfl, p, p'⟩
  refine wpAny_newObj_type ?_ (by show 2 ≤ sizeLine; decide)
  have I2 : Inv X pins σ H1 { s1 with heap := s1.heap.push { cls := .type "tuple", data := .seq [u1, u2].toArray } } := I1.kept (t' := s1.toks) fun b o e => Heap.get?_push_of_some _ e
  rw [hw]
  refine wpAny_bind (wpAny_pure ?_)
  show wpAny (model X.prog X.w) X.A (do rule "assign.swapped-stores"; let items ← unpackItems (.ref s1.heap.objs.size) 2 none; assignInOrder [fun v => bindName X.env y v, fun v => bindName X.env x v] items.reverse; pure Flow.next) _ _ _
  refine wpAny_bind (wpAny_rule (wpAny_bind (unpackItems_tuple (items := #[u1, u2]) (I.ok.hd hc) (IsTup.new s1.heap _) fun h' hx' => ?_)))
  have I3 := I2.kept (h' := h') (t' := s1.toks) fun b o e => hx' b o (Nat.ne_of_lt (Heap.lt_size e)) e
  show wpAny _ _ (assignInOrder [fun v => bindName X.env y v, fun v => bindName X.env x v] [u2, u1] >>= fun _ => pure Flow.next) _ _ _
  refine wpAny_bind (assignInOrder_cons (wpAny_bindName (store_ok I3 hN hj (.inl hy) rw' (fun s2 I4 => ?_) (.inr hy))))
  refine assignInOrder_cons (wpAny_bindName (store_ok I4 hN hi (.inl hx) rv (fun s3 I5 => assignInOrder_nil (wpAny_pure ?_)) (.inr hx)))
  rw [List.set_comm _ _ (Ne.symm hij)] at I5
  exact ⟨_, H1, I5, q1⟩
/-- name op= e -/
def tAug (i : Nat) (te : TE) (ti : TIp) : TS := fun D σ H => ∃ x, σ[i]? = some (some x) ∧ te σ H fun y H1 => ti x y H1 fun z H2 => D.nx (σ.set i (some z)) H2
theorem ps_aug {i : Nat} {x : Str} {e : Expr} {te : TE} {op : Operator} {ti : TIp} {pos' : Pos} (hN : X.N.Nodup) (hi : X.N[i]? = some x) (hx : Loc X.env.scope x) (he : PE X e te) (ho : PIp X op ti) (hf : X.fn x = true ∨ X.env.scope.names.lookup x = some .local := by first | exact .inl rfl | exact .inr rfl | assumption) :
    PS X (.AugAssign (.Name x pos') op e pos) (tAug i te ti) := by
  intro pins s σ H D I h
  obtain ⟨v, e1, h⟩ := h
  obtain ⟨m, hn, hl⟩ := I.loc
  have vis : Vis X.env.scope x := by rcases hx with k | k; exact .inl k; exact .inr (.inl k)
  obtain ⟨u, r, l⟩ := hl i x v hi e1 vis
  refine wpAny_AugAssign_Name ?_
  have go : wpAny (model X.prog X.w) X.A (eval e X.env) (fun w s₂ => wpAny (model X.prog X.w) X.A (inplaceOp op u w) (fun r s₃ => wpAny (model X.prog X.w) X.A (storeName X.env x r) (fun _ => SP X pins D .next) X.xe s₃) X.xe s₂) X.xe s := by
    refine thn (he pins s σ H _ I h) fun w s1 ⟨y, H1, I1, r1, q1⟩ => ?_
    refine thn (ho pins s1 σ H1 v y u w _ I1 r r1 q1) fun z s2 ⟨zv, H2, I2, r2, q2⟩ => ?_
    exact store_ok I2 hN hi hx r2 (fun s3 I3 => ⟨_, H2, I3, q2⟩) hf
  rcases l with ⟨hk, hm⟩ | ⟨hk, c, hc, hcell⟩
  · exact wpAny_loadName_local I.ok.kind hk hn hm go
  · rcases hk with hk | hk
    · exact wpAny_loadName_cell I.ok.kind hk hc hcell go
    · rcases hx with k | k
      · have : X.env.scope.names.lookup x = some .free := hk
        rw [k] at this; cases this
      · have : X.env.scope.names.lookup x = some .free := hk
        rw [k] at this; cases this
/-- o[i] op= e -/
def tAugS (to ti te : TE) (tget : V → V → Hp → VK → Prop) (tip : TIp) (tset : TSet) : TS := fun D σ H => to σ H fun o H1 => ti σ H1 fun i H2 => tget o i H2 fun x H3 => te σ H3 fun y H4 => tip x y H4 fun z H5 => tset o i z H5 fun H6 => D.nx σ H6
/-- o[i], by values -/
def PGet (X : Cx) (t : V → V → Hp → VK → Prop) : Prop :=
  ∀ (pins : List (Addr × Obj)) (s : Shared) (σ : St) (H : Hp) (o i : V) (ov iv : Value) (Q : VK), Inv X pins σ H s → RelV o ov → RelV i iv → t o i H Q →
    wpAny (model X.prog X.w) X.A (getItem ov iv) (EP X pins σ Q) X.xe s
theorem ps_augS {o i e : Expr} {to ti te : TE} {tget : V → V → Hp → VK → Prop} {tip : TIp} {tset : TSet} {op : Operator} {tpos : Pos} (ho : PE X o to) (hi : PE X i ti) (hg : PGet X tget) (he : PE X e te) (hp : PIp X op tip) (hs : PSet X tset)
    (ha : ∀ ov iv new, augStore i ov iv new = (do holding [new, ov, iv] (setItem ov iv new); release [new, ov, iv] []; pure .next) := by intros; rfl) : PS X (.AugAssign (.Subscript o i tpos) op e pos) (tAugS to ti te tget tip tset) := by
  intro pins s σ H D I h
  refine wpAny_AugAssign_SubscriptAny (thn (ho pins s σ H _ I h) fun ov s1 ⟨x1, H1, I1, r1, q1⟩ => ?_) ha
  refine thn (hi pins s1 σ H1 _ I1 q1) fun iv s2 ⟨x2, H2, I2, r2, q2⟩ => ?_
  refine thn (hg pins s2 σ H2 x1 x2 ov iv _ I2 r1 r2 q2) fun old s3 ⟨x3, H3, I3, r3, q3⟩ => ?_
  refine thn (he pins s3 σ H3 _ I3 q3) fun v s4 ⟨x4, H4, I4, r4, q4⟩ => ?_
  refine thn (hp pins s4 σ H4 x3 x4 old v _ I4 r3 r4 q4) fun new s5 ⟨x5, H5, I5, r5, q5⟩ => ?_
  exact thn (hs pins s5 σ H5 x1 x2 x5 ov iv new _ I5 r1 r2 r5 q5) fun _ s6 ⟨H6, I6, q6⟩ => ⟨σ, H6, I6, q6⟩
/-- ints -/
def ipI (f : Int → Int → Int) : TIp := fun x y H Q => ∃ i j, x = .int i ∧ y = .int j ∧ Q (.int (f i j)) H
theorem ip_add : PIp X .Add (ipI fun i j => i + j) := by
  intro pins s σ H x y v u Q I r1 r2 h
  obtain ⟨i, j, e1, e2, q⟩ := h
  subst e1; subst e2
  obtain ⟨t, rfl⟩ := r1
  obtain ⟨t', rfl⟩ := r2
  exact iadd_int ⟨.int _, H, I.tok _, ⟨_, rfl⟩, q⟩
theorem ip_sub : PIp X .Sub (ipI fun i j => i - j) := by
  intro pins s σ H x y v u Q I r1 r2 h
  obtain ⟨i, j, e1, e2, q⟩ := h
  subst e1; subst e2
  obtain ⟨t, rfl⟩ := r1
  obtain ⟨t', rfl⟩ := r2
  exact isub_int ⟨.int _, H, I.tok _, ⟨_, rfl⟩, q⟩
end

/-! ### while -/
section
variable {X : Cx} {pos : Pos}
/-- the invariant W with its measure -/
def tWhile (c : TT) (tb : TS) : TS := fun D σ H => ∃ W : Nat → St → Hp → Prop, (∃ m, W m σ H) ∧ ∀ m σ H, W m σ H →
  c σ H fun b H1 => if b = true then ∃ N : St → Hp → Prop, (∀ σ' H', N σ' H' → ∃ m', m' < m ∧ W m' σ' H') ∧ tb { D with nx := N, ct := N, bk := D.nx } σ H1 else D.nx σ H1
theorem ps_while {c : Expr} {body : List Stmt} {tc : TT} {tb : TS} (hp : PassesOwn (model X.prog X.w) X.A X.env X.xe) (hc : PT X c tc) (hb : PSs X body tb) : PS X (.While c body [] pos) (tWhile tc tb) := by
  intro pins s σ H D I h
  obtain ⟨W, ⟨m0, w0⟩, turn⟩ := h
  refine wpAny_While (codeAny_whileLoop (fun n s' => ∃ σ' H', Inv X pins σ' H' s' ∧ W n σ' H') ?_ m0 ⟨σ, H, I, w0⟩)
  rintro n s1 ⟨σ1, H1, I1, w1⟩
  refine wpAny_passesOwn hp (thn (hc pins s1 σ1 H1 _ I1 (turn n σ1 H1 w1)) fun b s2 ⟨H2, I2, q2⟩ => ?_)
  cases b with
  | true =>
    obtain ⟨N, hN, q2⟩ := q2
    rw [if_pos rfl]
    refine wpAny_passesOwn hp (thn (hb pins s2 σ1 H2 _ I2 q2) fun f s3 q3 => ?_)
    cases f with
    | next =>
      obtain ⟨σ3, H3, I3, n3⟩ := q3
      obtain ⟨m', hm, w3⟩ := hN σ3 H3 n3
      exact ⟨m', hm, σ3, H3, I3, w3⟩
    | cont =>
      obtain ⟨σ3, H3, I3, n3⟩ := q3
      obtain ⟨m', hm, w3⟩ := hN σ3 H3 n3
      exact ⟨m', hm, σ3, H3, I3, w3⟩
    | brk => exact q3
    | ret v => exact q3
  | false =>
    rw [if_neg Bool.false_ne_true]
    exact wpAny_execs_nil ⟨σ1, H2, I2, q2⟩
end

/-! ### what a loop or a comprehension walks -/
/-- at turn i: it yields x (the heap may grow), or it stops -/
structure It where
  go : Nat → Hp → Prop
  yld : Nat → Hp → V → Hp → Prop
  stop : Nat → Hp → Prop
/-- the iterator's own objects may turn: they are not the frame's, not pinned, younger than the entry (or a comprehension's own) -/
def FpOk (X : Cx) (pins : List (Addr × Obj)) (H : Hp) (b : Addr) : Prop :=
  H b = none ∧ b ≠ X.env.locals ∧ b ∉ X.fs ∧ (b ∈ X.ex ∨ X.s₀.heap.objs.size ≤ b) ∧ (∀ x c, X.env.cells.lookup x = some c → c ≠ b) ∧ ∀ p ∈ X.pn ++ pins, p.1 ≠ b
theorem Inv.fpOk {X : Cx} {pins : List (Addr × Obj)} {σ : St} {H H' : Hp} {s : Shared} {b : Addr} (I : Inv X pins σ H s) (hb : s.heap.objs.size ≤ b) (hn : H' b = none) : FpOk X pins H' b := by
  refine ⟨hn, Nat.ne_of_gt (Nat.lt_of_lt_of_le I.lt hb), I.nofs hb, .inr (Nat.le_trans I.sz hb), fun x c e z => ?_, fun p hp z => ?_⟩
  · obtain ⟨v, q⟩ := I.cell x c e
    exact absurd (Nat.lt_of_lt_of_le q.lt (by rw [z]; exact hb)) (Nat.lt_irrefl _)
  · exact absurd (Nat.lt_of_lt_of_le (Heap.lt_size (I.pin p hp).1) (by rw [z]; exact hb)) (Nat.lt_irrefl _)
structure Turn (P : Program) (w : World) (K : PySem.W.Frag) (tg : Expr) (J : It) (fp : List Addr) (it : Addr) (tn : Nat → Heap → Prop) : Prop where
  mem : it ∈ fp
  obj : ∀ i h, tn i h → ∀ b ∈ fp, ∃ o, h.get? b = some o ∧ ∀ v, o.data ≠ .cell v
  keep : ∀ i h h', tn i h → (∀ b ∈ fp, ∀ o, h.get? b = some o → h'.get? b = some o) → tn i h'
  item : ∀ (X : Cx), X.prog = P → X.w = w → X.K = K → X.calm = true → ∀ (i : Nat) (pins : List (Addr × Obj)) (s : Shared) (σ : St) (H : Hp) (E : Value → Shared → Prop), Inv X pins σ H s → (∀ b ∈ fp, FpOk X pins H b) → tn i s.heap → J.go i H →
    wpAny (model P w) X.A (pyNext (.ref it)) (fun r s1 => ∃ u, r = some u ∧
      wpAny (model P w) X.A (letOwnedTupleGo tg (.ref it) u) (fun _ s2 => ∃ x H', Inv X pins σ H' s2 ∧ RelV x u ∧ J.yld i H x H' ∧ tn (i + 1) s2.heap ∧ ∀ b ∈ fp, H' b = none) E s1) E s
  done : ∀ (X : Cx), X.prog = P → X.w = w → X.K = K → X.calm = true → ∀ (i : Nat) (pins : List (Addr × Obj)) (s : Shared) (σ : St) (H : Hp) (E : Value → Shared → Prop), Inv X pins σ H s → (∀ b ∈ fp, FpOk X pins H b) → tn i s.heap → J.stop i H →
    wpAny (model P w) X.A (pyNext (.ref it)) (fun r s1 => r = none ∧ Inv X pins σ H s1) E s
  self : ∀ (A : Around) (i : Nat) (s : Shared) (Q : Value → Shared → Prop) (E : Value → Shared → Prop), tn i s.heap → Q (.ref it) s → wpAny (model P w) A (pyIter (.ref it)) Q E s
abbrev TI := St → Hp → (It → Hp → Prop) → Prop
/-- an iterator has come -/
def PIE (X : Cx) (pins : List (Addr × Obj)) (σ : St) (tg : Expr) (R : It → Hp → Prop) (itv : Value) (s2 : Shared) : Prop :=
  ∃ (it : Addr) (fp : List Addr) (tn : Nat → Heap → Prop) (J : It) (H' : Hp), itv = .ref it ∧ Inv X pins σ H' s2 ∧ Turn X.prog X.w X.K tg J fp it tn ∧ tn 0 s2.heap ∧ (∀ b ∈ fp, FpOk X pins H' b) ∧ R J H'
def PI (X : Cx) (tg iter : Expr) (wi : TI) : Prop :=
  ∀ (pins : List (Addr × Obj)) (s : Shared) (σ : St) (H : Hp) (R : It → Hp → Prop), Inv X pins σ H s → wi σ H R →
    wpAny (model X.prog X.w) X.A (eval iter X.env) (fun v s1 => wpAny (model X.prog X.w) X.A (pyIter v) (PIE X pins σ tg R) X.xe s1) X.xe s

/-- the step ahead of the store is nothing for an iterator that keeps no tuple -/
theorem go_of {M : Model} {A : Around} {E : Value → Shared → Prop} {s : Shared} {tg : Expr} {it : Addr} {u : Value} {o : Obj} {n : String} {vs : Array Value} {Q : Unit → Shared → Prop} (ho : s.heap.get? it = some o) (hc : o.cls = .type n) (hd : o.data = .fields vs)
    (hn : ["enumerate", "zip", "dict_itemiterator", "dict_reverseitemiterator", "odict_iterator", "itertools.zip_longest", "itertools.pairwise"].contains n = false) (hQ : Q () s) : wpAny M A (letOwnedTupleGo tg (.ref it) u) Q E s := by
  unfold letOwnedTupleGo
  cases tg <;> first
    | exact wpAny_pure hQ
    | (cases u <;> first
        | exact wpAny_pure hQ
        | (refine wpAny_bind (wpAny_load ho ?_)
           rw [hc, hd]
           show wpAny M A (if (["enumerate", "zip", "dict_itemiterator", "dict_reverseitemiterator", "odict_iterator", "itertools.zip_longest", "itertools.pairwise"].contains n && vs[0]? == some (rawInt _)) = true then _ else _) Q E s
           rw [if_neg (by intro h; rw [hn, Bool.false_and] at h; cases h)]
           exact wpAny_pure hQ))

/-- the list at a, as it stands at each turn (a loop may append to it) -/
def Itl (K : PySem.W.Frag) (a : Addr) : It :=
  ⟨fun i H => ∃ xs x, SqL K H a xs ∧ xs[i]? = some x, fun i H x H' => H' = H ∧ ∀ xs, SqL K H a xs → xs[i]? = some x, fun i H => ∃ xs, SqL K H a xs ∧ xs.length ≤ i⟩
def Itt (K : PySem.W.Frag) (a : Addr) : It :=
  ⟨fun i H => ∃ xs x, SqT K H a xs ∧ xs[i]? = some x, fun i H x H' => H' = H ∧ ∀ xs, SqT K H a xs → xs[i]? = some x, fun i H => ∃ xs, SqT K H a xs ∧ xs.length ≤ i⟩
/-- lo, lo + 1, .. (n of them) -/
def Itr (lo : Int) (n : Nat) : It := ⟨fun i _ => i < n, fun i H x H' => H' = H ∧ x = .int (lo + i), fun i _ => n ≤ i⟩
theorem turn_list {P : Program} {w : World} {K : PySem.W.Frag} {tg : Expr} (a it : Addr) : Turn P w K tg (Itl K a) [it] it (fun i h => h.IsListIter it a i) where
  mem := by simp
  obj := fun i h st b hb => by
    have e : b = it := by simpa using hb
    subst e
    obtain ⟨o, e, c, d⟩ := st
    exact ⟨o, e, fun v z => by rw [d] at z; cases z⟩
  keep := fun i h h' st k => st.at fun o e => k it (by simp) o e
  item := by
    intro X hP hw hK hc i pins s σ H E I hf st hg
    subst hP hw hK
    obtain ⟨xs, x, hq, hx⟩ := hg
    obtain ⟨its, rv, p, hz⟩ := I.list hq
    obtain ⟨u, hu, ru⟩ := rv.get hx
    obtain ⟨f0, f1, f2, f3, f4, f5⟩ := hf it (by simp)
    refine wpAny_pyNext_list_item st p.isList (x := u) (by simpa using hu) fun h' st' sb => ?_
    have I1 : Inv X pins σ H { s with heap := h' } := I.turned (t' := s.toks) (fun b o hb e => (sb.2 b hb).trans e) f0 f1 f3 f4 f5
    obtain ⟨o, e, c, d⟩ := id st'
    exact ⟨u, rfl, go_of (s := { s with heap := h' }) e c d (by decide) ⟨x, H, I1, ru, ⟨rfl, fun ys hy => by rw [I.list_inj hy hq]; exact hx⟩, st', fun b hb => (hf b hb).1⟩⟩
  done := by
    intro X hP hw hK hc i pins s σ H E I hf st hg
    subst hP hw hK
    obtain ⟨xs, hq, hx⟩ := hg
    obtain ⟨its, rv, p, hz⟩ := I.list hq
    obtain ⟨f0, f1, f2, f3, f4, f5⟩ := hf it (by simp)
    have hl := rv.length
    exact wpAny_pyNext_list_end (I.ok.hd hc) st p.isList (by simp; omega) fun h' eb => ⟨rfl, I.turned (t' := s.toks) (fun b o hb e => eb b o hb e) f0 f1 f3 f4 f5⟩
  self := fun _ _ _ _ _ st h => wpAny_pyIter_listiter st h
theorem turn_tuple {P : Program} {w : World} {K : PySem.W.Frag} {tg : Expr} (a it : Addr) : Turn P w K tg (Itt K a) [it] it (fun i h => h.IsTupleIter it a i) where
  mem := by simp
  obj := fun i h st b hb => by
    have e : b = it := by simpa using hb
    subst e
    obtain ⟨o, e, c, d⟩ := st
    exact ⟨o, e, fun v z => by rw [d] at z; cases z⟩
  keep := fun i h h' st k => st.at fun o e => k it (by simp) o e
  item := by
    intro X hP hw hK hc i pins s σ H E I hf st hg
    subst hP hw hK
    obtain ⟨xs, x, hq, hx⟩ := hg
    obtain ⟨its, rv, p, hz⟩ := I.tuple hq
    obtain ⟨u, hu, ru⟩ := rv.get hx
    obtain ⟨f0, f1, f2, f3, f4, f5⟩ := hf it (by simp)
    refine wpAny_pyNext_tuple_item st (show s.heap.IsTuple a its.toArray from p) (x := u) (by simpa using hu) fun h' st' sb => ?_
    have I1 : Inv X pins σ H { s with heap := h' } := I.turned (t' := s.toks) (fun b o hb e => (sb.2 b hb).trans e) f0 f1 f3 f4 f5
    obtain ⟨o, e, c, d⟩ := id st'
    exact ⟨u, rfl, go_of (s := { s with heap := h' }) e c d (by decide) ⟨x, H, I1, ru, ⟨rfl, fun ys hy => by rw [I.tuple_inj hy hq]; exact hx⟩, st', fun b hb => (hf b hb).1⟩⟩
  done := by
    intro X hP hw hK hc i pins s σ H E I hf st hg
    subst hP hw hK
    obtain ⟨xs, hq, hx⟩ := hg
    obtain ⟨its, rv, p, hz⟩ := I.tuple hq
    obtain ⟨f0, f1, f2, f3, f4, f5⟩ := hf it (by simp)
    have hl := rv.length
    exact wpAny_pyNext_tuple_end (I.ok.hd hc) st (show s.heap.IsTuple a its.toArray from p) (by simp; omega) fun h' eb => ⟨rfl, I.turned (t' := s.toks) (fun b o hb e => eb b o hb e) f0 f1 f3 f4 f5⟩
  self := fun _ _ _ _ _ st h => wpAny_pyIter_tupleiter st h
theorem turn_range {P : Program} {w : World} {K : PySem.W.Frag} {tg : Expr} (it : Addr) (lo : Int) (n : Nat) : Turn P w K tg (Itr lo n) [it] it (fun i h => IsRangeIter h it (lo + (i : Nat) * 1) ((n : Int) - (i : Nat)) 1) where
  mem := by simp
  obj := fun i h st b hb => by
    have e : b = it := by simpa using hb
    subst e
    exact ⟨_, st, fun v z => by
      have z' : Data.fields _ = Data.cell v := z
      cases z'⟩
  keep := fun i h h' st k => k it (by simp) _ st
  item := by
    intro X hP hw hK hc i pins s σ H E I hf st hg
    subst hP hw hK
    obtain ⟨f0, f1, f2, f3, f4, f5⟩ := hf it (by simp)
    have W := Walks.range (prog := X.prog) (w := X.w) (I.ok.hd hc) it lo 1 n
    refine W.item i s _ _ hg st fun v h' tk hv st' kk => ?_
    obtain ⟨t, rfl⟩ := hv
    have I1 : Inv X pins σ H { s with heap := h', toks := tk } := I.turned (fun b o hb e => kk b o (by simpa using hb) e) f0 f1 f3 f4 f5
    refine ⟨_, rfl, go_of (s := { s with heap := h', toks := tk }) (n := "range_iterator") st' rfl rfl (by decide) ⟨.int (lo + i), H, I1, ⟨t, ?_⟩, ⟨rfl, rfl⟩, st', fun b hb => (hf b hb).1⟩⟩
    rw [Int.mul_one]
  done := by
    intro X hP hw hK hc i pins s σ H E I hf st hg
    subst hP hw hK
    obtain ⟨f0, f1, f2, f3, f4, f5⟩ := hf it (by simp)
    exact wpAny_pyNext_range_end (I.ok.hd hc) st (by have : n ≤ i := hg; omega) fun h' eb => ⟨rfl, I.turned (t' := s.toks) (fun b o hb e => eb b o hb e) f0 f1 f3 f4 f5⟩
  self := fun _ _ _ _ _ st h => wpAny_pyIter_rangeiter st h
end L2

namespace L2
open PySem PySem.Spec PyProof.Rows
section
variable {X : Cx} {tg : Expr}
def iList (K : PySem.W.Frag) (tl : TE) : TI := fun σ H R => tl σ H fun x H1 => ∃ a, x = .ref a ∧ (∃ xs, SqL K H1 a xs) ∧ R (Itl K a) H1
def iTup (K : PySem.W.Frag) (tl : TE) : TI := fun σ H R => tl σ H fun x H1 => ∃ a, x = .ref a ∧ (∃ xs, SqT K H1 a xs) ∧ R (Itt K a) H1
theorem pi_list {l : Expr} {tl : TE} (hl : PE X l tl) : PI X tg l (iList X.K tl) := by
  intro pins s σ H R I h
  refine thn (hl pins s σ H _ I h) fun v s1 ⟨x, H1, I1, r1, q1⟩ => ?_
  obtain ⟨a, e, ⟨xs, hq⟩, q⟩ := q1
  subst e
  cases r1
  obtain ⟨its, rv, p, hz⟩ := I1.list hq
  refine wpAny_pyIter_list p.isList ?_
  refine ⟨s1.heap.objs.size, [s1.heap.objs.size], _, _, H1, rfl, I1.kept (t' := s1.toks) fun b o e => Heap.get?_push_of_some _ e, turn_list a _, ⟨_, Heap.get?_push_size _ rfl, rfl, rfl⟩, fun b hb => ?_, q⟩
  have e : b = s1.heap.objs.size := by simpa using hb
  subst e
  exact I1.fpOk (Nat.le_refl _) (I1.hok.fresh (Nat.le_refl _))
theorem pi_tup {l : Expr} {tl : TE} (hl : PE X l tl) : PI X tg l (iTup X.K tl) := by
  intro pins s σ H R I h
  refine thn (hl pins s σ H _ I h) fun v s1 ⟨x, H1, I1, r1, q1⟩ => ?_
  obtain ⟨a, e, ⟨xs, hq⟩, q⟩ := q1
  subst e
  cases r1
  obtain ⟨its, rv, p, hz⟩ := I1.tuple hq
  refine wpAny_pyIter_tuple (show s1.heap.IsTuple a its.toArray from p) ?_
  refine ⟨s1.heap.objs.size, [s1.heap.objs.size], _, _, H1, rfl, I1.kept (t' := s1.toks) fun b o e => Heap.get?_push_of_some _ e, turn_tuple a _, ⟨_, Heap.get?_push_size _ rfl, rfl, rfl⟩, fun b hb => ?_, q⟩
  have e : b = s1.heap.objs.size := by simpa using hb
  subst e
  exact I1.fpOk (Nat.le_refl _) (I1.hok.fresh (Nat.le_refl _))
/-- a range object just made, walked -/
theorem range_it {pins : List (Addr × Obj)} {σ : St} {H : Hp} {s : Shared} {R : It → Hp → Prop} {E : Value → Shared → Prop} {lo hi : Int} {t u v : Tok} {tk : Nat} (I : Inv X pins σ H s) (h1 : -(2 ^ 62) ≤ lo) (h2 : lo < 2 ^ 62) (h3 : -(2 ^ 62) ≤ hi) (h4 : hi < 2 ^ 62)
    (q : R (Itr lo (hi - lo).toNat) H) : wpAny (model X.prog X.w) X.A (pyIter (.ref s.heap.objs.size)) (PIE X pins σ tg R) E { s with heap := s.heap.push { cls := .type "range", data := .fields #[.int lo t, .int hi u, .int 1 v] }, toks := tk } := by
  refine wpAny_pyIter_range (IsRange.new ..) (small_one h1 h2 h3 h4) ?_
  have I1 : Inv X pins σ H { s with heap := s.heap.push { cls := .type "range", data := .fields #[.int lo t, .int hi u, .int 1 v] }, toks := tk } := I.kept fun b o e => Heap.get?_push_of_some _ e
  refine ⟨(s.heap.push { cls := .type "range", data := .fields #[.int lo t, .int hi u, .int 1 v] }).objs.size, [(s.heap.push { cls := .type "range", data := .fields #[.int lo t, .int hi u, .int 1 v] }).objs.size], _, _, H, rfl,
    I1.kept (t' := tk) fun b o e => Heap.get?_push_of_some _ e, turn_range _ lo (hi - lo).toNat, ?_, fun b hb => ?_, q⟩
  · have e1 : lo + ((0 : Nat) : Int) * 1 = lo := by simp
    have e2 : (((hi - lo).toNat : Nat) : Int) - ((0 : Nat) : Int) = Builtin.Range.rangeSize lo hi 1 := by rw [rangeSize_one]; split <;> omega
    show IsRangeIter _ _ (lo + ((0 : Nat) : Int) * 1) ((((hi - lo).toNat : Nat) : Int) - ((0 : Nat) : Int)) 1
    rw [e1, e2]
    exact Heap.get?_push_size _ rfl
  · have e : b = (s.heap.push { cls := .type "range", data := .fields #[.int lo t, .int hi u, .int 1 v] }).objs.size := by simpa using hb
    subst e
    exact I1.fpOk (Nat.le_refl _) (I1.hok.fresh (Nat.le_refl _))
def iRng1 (ta : TA) : TI := fun σ H R => ta σ H fun vs H1 => ∃ j : Int, vs = [.int j] ∧ -(2 ^ 62) ≤ j ∧ j < 2 ^ 62 ∧ R (Itr 0 j.toNat) H1
def iRng2 (ta : TA) : TI := fun σ H R => ta σ H fun vs H1 => ∃ i j : Int, vs = [.int i, .int j] ∧ (-(2 ^ 62) ≤ i ∧ i < 2 ^ 62 ∧ -(2 ^ 62) ≤ j ∧ j < 2 ^ 62) ∧ R (Itr i (j - i).toNat) H1
theorem pi_range1 {a : Expr} {ta : TA} {p pos : Pos} (hg : Gl X "range") (hm : X.mg "range" = none) (ha : PA X [a] ta) (hs : starEach [a] X.env = [(false, eval a X.env)] := by rfl) : PI X tg (.Call (.Name "range" p) [a] [] pos) (iRng1 ta) := by
  intro pins s σ H R I h
  refine Call_ (ld_blt I hg hm boot_range (PyProof.Rows.callWith_type1 (thn (ha pos pins s σ H _ I h) fun us s1 ⟨vs, H1, I1, r1, q1⟩ => ?_) hs rfl))
  obtain ⟨j, e, q1, q2, q⟩ := q1
  subst e
  cases r1 with
  | cons r rr =>
    cases rr
    obtain ⟨t, rfl⟩ := r
    exact call_range_1 (range_it I1 (by omega) (by omega) q1 q2 (by simpa using q))
theorem pi_range2 {a b : Expr} {ta : TA} {p pos : Pos} (hg : Gl X "range") (hm : X.mg "range" = none) (ha : PA X [a, b] ta) (hs : starEach [a, b] X.env = [(false, eval a X.env), (false, eval b X.env)] := by rfl) (hs2 : starEach [b] X.env = [(false, eval b X.env)] := by rfl) :
    PI X tg (.Call (.Name "range" p) [a, b] [] pos) (iRng2 ta) := by
  intro pins s σ H R I h
  refine Call_ (ld_blt I hg hm boot_range (PyProof.Rows.callWith_type1 (thn (ha pos pins s σ H _ I h) fun us s1 ⟨vs, H1, I1, r1, q1⟩ => ?_) (by rw [hs, hs2]) (by rw [hs2]; rfl)))
  obtain ⟨i, j, e, ⟨q1, q2, q3, q4⟩, q⟩ := q1
  subst e
  cases r1 with
  | cons r rr =>
    cases rr with
    | cons r' rr =>
      cases rr
      obtain ⟨t, rfl⟩ := r
      obtain ⟨t', rfl⟩ := r'
      exact call_range_2 (range_it I1 q1 q2 q3 q4 q)

/-! ### for -/
/-- W: the invariant by the turn and a measure; N: what the body is to reach -/
def tFor (wi : TI) (g : TG) (tb : TS) : TS := fun D σ H => wi σ H fun J H1 => ∃ W : Nat → Nat → St → Hp → Prop, (∃ m, W 0 m σ H1) ∧ ∀ i m σ H, W i m σ H →
  (J.stop i H ∧ D.nx σ H) ∨ (J.go i H ∧ ∃ N : St → Hp → Prop, (∀ σ' H', N σ' H' → ∃ m', m' < m ∧ W (i + 1) m' σ' H') ∧ ∀ x H', J.yld i H x H' → g x σ H' fun σ2 H2 => tb { D with nx := N, ct := N, bk := D.nx } σ2 H2)
/-- the records at fp as they stand -/
def pinsAt (fp : List Addr) (h : Heap) : List (Addr × Obj) := fp.filterMap fun b => (h.get? b).map fun o => (b, o)
theorem mem_pinsAt {fp : List Addr} {h : Heap} {b : Addr} {o : Obj} (hb : b ∈ fp) (e : h.get? b = some o) : (b, o) ∈ pinsAt fp h := List.mem_filterMap.mpr ⟨b, hb, by rw [e]; rfl⟩
theorem of_pinsAt {fp : List Addr} {h : Heap} {p : Addr × Obj} (hp : p ∈ pinsAt fp h) : p.1 ∈ fp ∧ h.get? p.1 = some p.2 := by
  obtain ⟨b, hb, e⟩ := List.mem_filterMap.mp hp
  cases q : h.get? b with
  | none => rw [q] at e; cases e
  | some o =>
    rw [q] at e
    have e' : (b, o) = p := Option.some.inj e
    subst e'
    exact ⟨hb, q⟩
theorem Inv.pinned {pins : List (Addr × Obj)} {σ : St} {H : Hp} {s : Shared} {fp : List Addr} (I : Inv X pins σ H s) (hf : ∀ b ∈ fp, FpOk X pins H b) (ho : ∀ b ∈ fp, ∃ o, s.heap.get? b = some o ∧ ∀ v, o.data ≠ .cell v) : Inv X (pins ++ pinsAt fp s.heap) σ H s :=
  I.pins_of fun p hp => (List.mem_append.mp hp).elim (fun z => I.pin p (List.mem_append_right _ z)) fun z => by
    obtain ⟨hb, e⟩ := of_pinsAt z
    obtain ⟨f0, f1, f2, _⟩ := hf p.1 hb
    obtain ⟨o, e', d⟩ := ho p.1 hb
    rw [e] at e'; cases e'
    exact ⟨e, f0, f1, f2, d⟩
theorem Inv.unpinned {pins pl : List (Addr × Obj)} {σ : St} {H : Hp} {s : Shared} (I : Inv X (pins ++ pl) σ H s) : Inv X pins σ H s := I.pins_of fun p hp => I.pin p (List.mem_append_right _ (List.mem_append_left _ hp))
theorem ps_for {iter : Expr} {body : List Stmt} {wi : TI} {g : TG} {tb : TS} {pos : Pos} (hp : PassesOwn (model X.prog X.w) X.A X.env X.xe) (hc : X.calm = true) (hi : PI X tg iter wi) (hg : PG X tg g) (hb : PSs X body tb)
    (hs : ∀ x, foldedSetIterable iter X.env x = pure x := by intro _; rfl) : PS X (.For tg iter body [] pos) (tFor wi g tb) := by
  intro pins s σ H D I h
  refine wpAny_For (thn (hi pins s σ H _ I h) fun v s1 h1 => thn h1 fun itv s2 h2 => ?_) hs
  obtain ⟨it, fp, tn, J, H2, e, I2, T, st2, f2, W, ⟨m0, w0⟩, turn⟩ := h2
  subst e
  -- what stays true of the iterator's objects through the loop
  have stat : ∀ {H' : Hp}, (∀ b ∈ fp, H' b = none) → ∀ b ∈ fp, FpOk X pins H' b := fun hn b hb => ⟨hn b hb, (f2 b hb).2⟩
  refine codeAny_forLoop_any (fun n s' => ∃ i σ' H', Inv X pins σ' H' s' ∧ tn i s'.heap ∧ (∀ b ∈ fp, H' b = none) ∧ W i n σ' H') ?_ m0 ⟨0, σ, H2, I2, st2, fun b hb => (f2 b hb).1, w0⟩
  rintro n s3 ⟨i, σ3, H3, I3, st3, fr3, w3⟩
  rcases turn i n σ3 H3 w3 with ⟨stop, qn⟩ | ⟨go, N, hN, step⟩
  · refine wpAny_passesOwn hp (thn (T.done X rfl rfl rfl hc i pins s3 σ3 H3 X.xe I3 (stat fr3) st3 stop) fun r s4 ⟨hr, I4⟩ => ?_)
    subst hr
    exact wpAny_execs_nil ⟨σ3, H3, I4, qn⟩
  · refine wpAny_passesOwn hp (thn (T.item X rfl rfl rfl hc i pins s3 σ3 H3 X.xe I3 (stat fr3) st3 go) fun r s4 ⟨u, hr, h4⟩ => ?_)
    subst hr
    refine wpAny_passesOwn hp (thn h4 fun _ s5 ⟨x, H5, I5, r5, y5, st5, fr5⟩ => ?_)
    have I5' := I5.pinned (stat fr5) (T.obj _ _ st5)
    refine wpAny_passesOwn hp (thn (hg _ s5 σ3 H5 x u _ I5' r5 (step x H5 y5)) fun _ s6 ⟨σ6, H6, I6, q6⟩ => ?_)
    refine wpAny_passesOwn hp (thn (hb _ s6 σ6 H6 _ I6 q6) fun f s7 q7 => ?_)
    have again : ∀ {σ7 : St} {H7 : Hp}, Inv X (pins ++ pinsAt fp s5.heap) σ7 H7 s7 → N σ7 H7 → ∃ m, m < n ∧ ∃ i σ' H', Inv X pins σ' H' s7 ∧ tn i s7.heap ∧ (∀ b ∈ fp, H' b = none) ∧ W i m σ' H' := fun {σ7 H7} I7 n7 => by
      obtain ⟨m', hm, w7⟩ := hN σ7 H7 n7
      refine ⟨m', hm, i + 1, σ7, H7, I7.unpinned, T.keep _ _ _ st5 fun b hb o e => (I7.pin (b, o) (List.mem_append_right _ (List.mem_append_right _ (mem_pinsAt hb e)))).1, fun b hb => ?_, w7⟩
      obtain ⟨o, e, d⟩ := T.obj _ _ st5 b hb
      exact (I7.pin (b, o) (List.mem_append_right _ (List.mem_append_right _ (mem_pinsAt hb e)))).2.1
    cases f with
    | next => obtain ⟨σ7, H7, I7, n7⟩ := q7; exact again I7 n7
    | cont => obtain ⟨σ7, H7, I7, n7⟩ := q7; exact again I7 n7
    | brk => obtain ⟨σ7, H7, I7, q7⟩ := q7; exact ⟨σ7, H7, I7.unpinned, q7⟩
    | ret v => obtain ⟨x7, σ7, H7, I7, r7, q7⟩ := q7; exact ⟨x7, σ7, H7, I7.unpinned, r7, q7⟩
end

/-! ### the forms one uses -/
/-- over a list that the body leaves as it is -/
theorem for_list {K : PySem.W.Frag} {a : Addr} {xs : List V} {g : TG} {tb : TS} {D : Ends} {σ : St} {H : Hp} (Pv : Nat → St → Hp → Prop) (h0 : Pv 0 σ H) (hl : ∀ i σ H, i ≤ xs.length → Pv i σ H → SqL K H a xs)
    (hs : ∀ i x σ H, xs[i]? = some x → Pv i σ H → g x σ H fun σ2 H2 => tb { D with nx := Pv (i + 1), ct := Pv (i + 1), bk := D.nx } σ2 H2) (hd : ∀ σ H, Pv xs.length σ H → D.nx σ H) :
    ∃ W : Nat → Nat → St → Hp → Prop, (∃ m, W 0 m σ H) ∧ ∀ i m σ H, W i m σ H →
      ((Itl K a).stop i H ∧ D.nx σ H) ∨ ((Itl K a).go i H ∧ ∃ N : St → Hp → Prop, (∀ σ' H', N σ' H' → ∃ m', m' < m ∧ W (i + 1) m' σ' H') ∧ ∀ x H', (Itl K a).yld i H x H' → g x σ H' fun σ2 H2 => tb { D with nx := N, ct := N, bk := D.nx } σ2 H2) := by
  refine ⟨fun i m σ H => m = xs.length - i ∧ i ≤ xs.length ∧ Pv i σ H, ⟨xs.length, by simp, Nat.zero_le _, h0⟩, ?_⟩
  rintro i m σ H ⟨rfl, hi, p⟩
  have q := hl i σ H hi p
  by_cases hlt : i < xs.length
  · refine .inr ⟨⟨xs, xs[i], q, by simp [hlt]⟩, Pv (i + 1), fun σ' H' p' => ⟨xs.length - (i + 1), by omega, rfl, hlt, p'⟩, fun x H' y => ?_⟩
    obtain ⟨e, y⟩ := y
    subst e
    exact hs i x σ _ (y xs q) p
  · have e : i = xs.length := by omega
    subst e
    exact .inl ⟨⟨xs, q, Nat.le_refl _⟩, hd σ H p⟩
theorem for_tup {K : PySem.W.Frag} {a : Addr} {xs : List V} {g : TG} {tb : TS} {D : Ends} {σ : St} {H : Hp} (Pv : Nat → St → Hp → Prop) (h0 : Pv 0 σ H) (hl : ∀ i σ H, i ≤ xs.length → Pv i σ H → SqT K H a xs)
    (hs : ∀ i x σ H, xs[i]? = some x → Pv i σ H → g x σ H fun σ2 H2 => tb { D with nx := Pv (i + 1), ct := Pv (i + 1), bk := D.nx } σ2 H2) (hd : ∀ σ H, Pv xs.length σ H → D.nx σ H) :
    ∃ W : Nat → Nat → St → Hp → Prop, (∃ m, W 0 m σ H) ∧ ∀ i m σ H, W i m σ H →
      ((Itt K a).stop i H ∧ D.nx σ H) ∨ ((Itt K a).go i H ∧ ∃ N : St → Hp → Prop, (∀ σ' H', N σ' H' → ∃ m', m' < m ∧ W (i + 1) m' σ' H') ∧ ∀ x H', (Itt K a).yld i H x H' → g x σ H' fun σ2 H2 => tb { D with nx := N, ct := N, bk := D.nx } σ2 H2) := by
  refine ⟨fun i m σ H => m = xs.length - i ∧ i ≤ xs.length ∧ Pv i σ H, ⟨xs.length, by simp, Nat.zero_le _, h0⟩, ?_⟩
  rintro i m σ H ⟨rfl, hi, p⟩
  have q := hl i σ H hi p
  by_cases hlt : i < xs.length
  · refine .inr ⟨⟨xs, xs[i], q, by simp [hlt]⟩, Pv (i + 1), fun σ' H' p' => ⟨xs.length - (i + 1), by omega, rfl, hlt, p'⟩, fun x H' y => ?_⟩
    obtain ⟨e, y⟩ := y
    subst e
    exact hs i x σ _ (y xs q) p
  · have e : i = xs.length := by omega
    subst e
    exact .inl ⟨⟨xs, q, Nat.le_refl _⟩, hd σ H p⟩
theorem for_range {lo : Int} {n : Nat} {g : TG} {tb : TS} {D : Ends} {σ : St} {H : Hp} (Pv : Nat → St → Hp → Prop) (h0 : Pv 0 σ H)
    (hs : ∀ i σ H, i < n → Pv i σ H → g (.int (lo + i)) σ H fun σ2 H2 => tb { D with nx := Pv (i + 1), ct := Pv (i + 1), bk := D.nx } σ2 H2) (hd : ∀ σ H, Pv n σ H → D.nx σ H) :
    ∃ W : Nat → Nat → St → Hp → Prop, (∃ m, W 0 m σ H) ∧ ∀ i m σ H, W i m σ H →
      ((Itr lo n).stop i H ∧ D.nx σ H) ∨ ((Itr lo n).go i H ∧ ∃ N : St → Hp → Prop, (∀ σ' H', N σ' H' → ∃ m', m' < m ∧ W (i + 1) m' σ' H') ∧ ∀ x H', (Itr lo n).yld i H x H' → g x σ H' fun σ2 H2 => tb { D with nx := N, ct := N, bk := D.nx } σ2 H2) := by
  refine ⟨fun i m σ H => m = n - i ∧ i ≤ n ∧ Pv i σ H, ⟨n, by simp, Nat.zero_le _, h0⟩, ?_⟩
  rintro i m σ H ⟨rfl, hi, p⟩
  by_cases hlt : i < n
  · refine .inr ⟨hlt, Pv (i + 1), fun σ' H' p' => ⟨n - (i + 1), by omega, rfl, hlt, p'⟩, fun x H' y => ?_⟩
    obtain ⟨e, y⟩ := y
    subst e y
    exact hs i σ _ hlt p
  · have e : i = n := by omega
    subst e
    exact .inl ⟨Nat.le_refl _, hd σ H p⟩
/-- while, by a word and a measure of the state -/
theorem while_by {c : TT} {tb : TS} {D : Ends} {σ : St} {H : Hp} (Pv : St → Hp → Prop) (μ : St → Hp → Nat) (h0 : Pv σ H)
    (hs : ∀ σ H, Pv σ H → c σ H fun b H1 => if b = true then tb { D with nx := fun σ' H' => Pv σ' H' ∧ μ σ' H' < μ σ H, ct := fun σ' H' => Pv σ' H' ∧ μ σ' H' < μ σ H, bk := D.nx } σ H1 else D.nx σ H1)
    (mono : ∀ σ H Q Q', (∀ b H1, Q b H1 → Q' b H1) → c σ H Q → c σ H Q') : tWhile c tb D σ H := by
  refine ⟨fun m σ H => m = μ σ H ∧ Pv σ H, ⟨_, rfl, h0⟩, ?_⟩
  rintro m σ H ⟨rfl, p⟩
  refine mono σ H _ _ (fun b H1 q => ?_) (hs σ H p)
  cases b with
  | true => exact ⟨_, fun σ' H' ⟨p', l⟩ => ⟨_, l, rfl, p'⟩, q⟩
  | false => exact q
end L2

namespace L2
open PySem PySem.Spec PyProof.Rows

abbrev R2 := V → V → Hp → VK → Prop
/-- a two-place operation on values: f is binaryOp op, inplaceOp op or compareOp op -/
def OpR (X : Cx) (f : Value → Value → Sem Value) (r : R2) : Prop :=
  ∀ (pins : List (Addr × Obj)) (s : Shared) (σ : St) (H : Hp) (x y : V) (v u : Value) (Q : VK), Inv X pins σ H s → RelV x v → RelV y u → r x y H Q →
    wpAny (model X.prog X.w) X.A (f v u) (EP X pins σ Q) X.xe s
/-- a one-place operation -/
def UnR (X : Cx) (f : Value → Sem Value) (r : V → Hp → VK → Prop) : Prop :=
  ∀ (pins : List (Addr × Obj)) (s : Shared) (σ : St) (H : Hp) (x : V) (v : Value) (Q : VK), Inv X pins σ H s → RelV x v → r x H Q →
    wpAny (model X.prog X.w) X.A (f v) (EP X pins σ Q) X.xe s
/-- a call of a value that is known (a builtin, a type) with values -/
def CallR (X : Cx) (f : Value) (r : List V → Hp → VK → Prop) : Prop :=
  ∀ (pins : List (Addr × Obj)) (s : Shared) (σ : St) (H : Hp) (xs : List V) (us : List Value) (Q : VK), Inv X pins σ H s → Vals xs us → r xs H Q →
    wpAny (model X.prog X.w) X.A (call f us) (EP X pins σ Q) X.xe s
/-- a value's truth -/
def TruR (X : Cx) (r : V → Hp → (Bool → Hp → Prop) → Prop) : Prop :=
  ∀ (pins : List (Addr × Obj)) (s : Shared) (σ : St) (H : Hp) (x : V) (v : Value) (Q : Bool → Hp → Prop), Inv X pins σ H s → RelV x v → r x H Q →
    wpAny (model X.prog X.w) X.A (truthy v) (TP X pins σ Q) X.xe s

def tOp (r : R2) (ta tb : TE) : TE := fun σ H Q => ta σ H fun x H1 => tb σ H1 fun y H2 => r x y H2 Q
def tUn (r : V → Hp → VK → Prop) (ta : TE) : TE := fun σ H Q => ta σ H fun x H1 => r x H1 Q
/-- ints in, under C, and a value out -/
def rI (C : Int → Int → Prop) (g : Int → Int → V) : R2 := fun x y H Q => ∃ i j, x = .int i ∧ y = .int j ∧ C i j ∧ Q (g i j) H
def rI0 (g : Int → Int → V) : R2 := fun x y H Q => ∃ i j, x = .int i ∧ y = .int j ∧ Q (g i j) H
def rU (g : Int → V) : V → Hp → VK → Prop := fun x H Q => ∃ i, x = .int i ∧ Q (g i) H

section
variable {X : Cx} {a b c : Expr} {ta tb tc : TE} {pos : Pos}

theorem binT (ha : PE X a ta) (hb : PE X b tb) {pins : List (Addr × Obj)} {s : Shared} {σ : St} {H : Hp} {R : V → V → Hp → Prop} (I : Inv X pins σ H s)
    (h : ta σ H fun x H1 => tb σ H1 fun y H2 => R x y H2) {Q : Value → Shared → Prop} {f : Value → Value → Sem Value}
    (hf : ∀ v u s2 x y H2, Inv X pins σ H2 s2 → RelV x v → RelV y u → R x y H2 → wpAny (model X.prog X.w) X.A (f v u) Q X.xe s2) :
    wpAny (model X.prog X.w) X.A (eval a X.env) (fun v s₁ => wpAny (model X.prog X.w) X.A (eval b X.env) (fun u s₂ => wpAny (model X.prog X.w) X.A (f v u) Q X.xe s₂) X.xe s₁) X.xe s := by
  refine thn (ha pins s σ H _ I h) fun v s1 ⟨x, H1, I1, r1, q1⟩ => ?_
  refine thn (hb pins s1 σ H1 _ I1 q1) fun u s2 ⟨y, H2, I2, r2, q2⟩ => ?_
  exact hf v u s2 x y H2 I2 r1 r2 q2

theorem pe_op {op : Operator} {r : R2} (ho : OpR X (binaryOp op) r) (ha : PE X a ta) (hb : PE X b tb) : PE X (.BinOp a op b pos) (tOp r ta tb) := by
  intro pins s σ H Q I h
  exact wpAny_BinOp (binT ha hb I h fun v u s2 x y H2 I2 rx ry q => ho pins s2 σ H2 x y v u Q I2 rx ry q)
theorem pe_un {op : UnaryOp} {r : V → Hp → VK → Prop} (ho : UnR X (unaryOp op) r) (ha : PE X a ta) : PE X (.UnaryOp op a pos) (tUn r ta) := by
  intro pins s σ H Q I h
  exact UnaryOp_ (thn (ha pins s σ H _ I h) fun v s1 ⟨x, H1, I1, r1, q1⟩ => ho pins s1 σ H1 x v Q I1 r1 q1)
/-- a op= e at a name: the name's slot i -/
theorem augR {op : Operator} {r : R2} (ho : OpR X (inplaceOp op) r) {pins : List (Addr × Obj)} {s : Shared} {σ : St} {H : Hp} {x y : V} {v u : Value} {Q : VK} (I : Inv X pins σ H s)
    (rx : RelV x v) (ry : RelV y u) (q : r x y H Q) : wpAny (model X.prog X.w) X.A (inplaceOp op v u) (EP X pins σ Q) X.xe s := ho pins s σ H x y v u Q I rx ry q

/-! ### ints -/
theorem opI {f : Value → Value → Sem Value} {C : Int → Int → Prop} {g : Int → Int → Int}
    (rule : ∀ (i j : Int) (t u : Tok) (s : Shared) (Q : Value → Shared → Prop) (E : Value → Shared → Prop), C i j → Q (.int (g i j) s.toks) { s with toks := s.toks + 1 } → wpAny (model X.prog X.w) X.A (f (.int i t) (.int j u)) Q E s) :
    OpR X f (rI C fun i j => .int (g i j)) := by
  intro pins s σ H x y v u Q I rx ry h
  obtain ⟨i, j, rfl, rfl, hc, q⟩ := h
  obtain ⟨t, rfl⟩ := rx
  obtain ⟨t', rfl⟩ := ry
  exact rule i j t t' s _ _ hc ⟨.int (g i j), H, I.tok _, ⟨_, rfl⟩, q⟩
theorem opI0 {f : Value → Value → Sem Value} {g : Int → Int → Int}
    (rule : ∀ (i j : Int) (t u : Tok) (s : Shared) (Q : Value → Shared → Prop) (E : Value → Shared → Prop), Q (.int (g i j) s.toks) { s with toks := s.toks + 1 } → wpAny (model X.prog X.w) X.A (f (.int i t) (.int j u)) Q E s) :
    OpR X f (rI0 fun i j => .int (g i j)) := by
  intro pins s σ H x y v u Q I rx ry h
  obtain ⟨i, j, rfl, rfl, q⟩ := h
  obtain ⟨t, rfl⟩ := rx
  obtain ⟨t', rfl⟩ := ry
  exact rule i j t t' s _ _ ⟨.int (g i j), H, I.tok _, ⟨_, rfl⟩, q⟩
theorem opB0 {f : Value → Value → Sem Value} {g : Int → Int → Bool}
    (rule : ∀ (i j : Int) (t u : Tok) (s : Shared) (Q : Value → Shared → Prop) (E : Value → Shared → Prop), Q (.bool (g i j)) s → wpAny (model X.prog X.w) X.A (f (.int i t) (.int j u)) Q E s) :
    OpR X f (rI0 fun i j => .bl (g i j)) := by
  intro pins s σ H x y v u Q I rx ry h
  obtain ⟨i, j, rfl, rfl, q⟩ := h
  obtain ⟨t, rfl⟩ := rx
  obtain ⟨t', rfl⟩ := ry
  exact rule i j t t' s _ _ ⟨.bl (g i j), H, I, rfl, q⟩

def CDiv (i j : Int) : Prop := 0 < j ∧ j < 1073741824
def CDivN (i j : Int) : Prop := j ≠ 0 ∧ j.natAbs < 1073741824
def CPow (i j : Int) : Prop := 0 ≤ j ∧ j ≤ 1000000 ∧ i.natAbs < 2 ^ 64
def CMul (i j : Int) : Prop := (-(2 ^ 64) < i ∧ i < 2 ^ 64) ∨ (-(2 ^ 64) < j ∧ j < 2 ^ 64)
theorem CMul.ok {i j : Int} (h : CMul i j) : IntMulOk i j := by
  rcases h with ⟨h1, h2⟩ | ⟨h1, h2⟩
  · exact .of_left (intBits_le_64 h1 h2)
  · exact .of_right (intBits_le_64 h1 h2)
theorem two_pow_nn (k : Nat) : (0 : Int) ≤ 2 ^ k := by
  rw [two_pow_cast]
  exact Int.natCast_nonneg _

theorem op_add : OpR X (binaryOp .Add) (rI0 fun i j => .int (i + j)) := opI0 fun _ _ _ _ _ _ _ q => add_int q
theorem op_sub : OpR X (binaryOp .Sub) (rI0 fun i j => .int (i - j)) := opI0 fun _ _ _ _ _ _ _ q => sub_int q
theorem op_mul : OpR X (binaryOp .Mult) (rI CMul fun i j => .int (i * j)) := opI fun _ _ _ _ _ _ _ hc q => mul_int q hc.ok
/-- // by a positive divisor -/
theorem op_fdiv : OpR X (binaryOp .FloorDiv) (rI CDiv fun i j => .int (i / j)) := opI fun i j _ _ _ _ _ hc q => by
  have h1 : (0 : Int) < j := hc.1
  have h2 : j < 1073741824 := hc.2
  exact floordiv_int (by omega) (by rw [Int.fdiv_eq_ediv_of_nonneg i (by omega)]; exact q) (.inl (PyProof.noPylong_small (by omega)))
theorem op_fdivN : OpR X (binaryOp .FloorDiv) (rI CDivN fun i j => .int (i.fdiv j)) := opI fun _ _ _ _ _ _ _ hc q => floordiv_int hc.1 q (.inl (PyProof.noPylong_small hc.2))
/-- % by a positive divisor of any size -/
theorem op_mod : OpR X (binaryOp .Mod) (rI (fun _ j => 0 < j) fun i j => .int (i % j)) := opI fun i j _ _ _ _ _ hc q => by
  have h1 : (0 : Int) < j := hc
  exact mod_int' (by omega) (by rw [Int.fmod_eq_emod_of_nonneg i (by omega)]; exact q)
theorem op_modN : OpR X (binaryOp .Mod) (rI (fun _ j => j ≠ 0) fun i j => .int (i.fmod j)) := opI fun _ _ _ _ _ _ _ hc q => mod_int' hc q
theorem op_pow : OpR X (binaryOp .Pow) (rI CPow fun i j => .int (i ^ j.toNat)) := opI fun _ _ _ _ _ _ _ hc q => pow_int_small hc.1 hc.2.1 hc.2.2 q
theorem op_shl : OpR X (binaryOp .LShift) (rI CPow fun i j => .int (i * 2 ^ j.toNat)) := opI fun _ _ _ _ _ _ _ hc q => lshift_int_small hc.1 hc.2.1 hc.2.2 q
theorem op_shr : OpR X (binaryOp .RShift) (rI (fun _ j => 0 ≤ j) fun i j => .int (i / 2 ^ j.toNat)) := opI fun i j _ _ _ _ _ hc q =>
  rshift_int hc (by rw [Int.fdiv_eq_ediv_of_nonneg i (two_pow_nn _)]; exact q)
theorem op_and : OpR X (binaryOp .BitAnd) (rI0 fun i j => .int (Builtin.bitAnd i j)) := opI0 fun _ _ _ _ _ _ _ q => and_int q
theorem op_or : OpR X (binaryOp .BitOr) (rI0 fun i j => .int (Builtin.bitOr i j)) := opI0 fun _ _ _ _ _ _ _ q => or_int q
theorem op_xor : OpR X (binaryOp .BitXor) (rI0 fun i j => .int (Builtin.bitXor i j)) := opI0 fun _ _ _ _ _ _ _ q => xor_int q

theorem iop_add : OpR X (inplaceOp .Add) (rI0 fun i j => .int (i + j)) := opI0 fun _ _ _ _ _ _ _ q => iadd_int q
theorem iop_sub : OpR X (inplaceOp .Sub) (rI0 fun i j => .int (i - j)) := opI0 fun _ _ _ _ _ _ _ q => isub_int q
theorem iop_mul : OpR X (inplaceOp .Mult) (rI CMul fun i j => .int (i * j)) := opI fun _ _ _ _ _ _ _ hc q => imul_int q hc.ok
theorem iop_fdiv : OpR X (inplaceOp .FloorDiv) (rI CDiv fun i j => .int (i / j)) := opI fun i j _ _ _ _ _ hc q => by
  have h1 : (0 : Int) < j := hc.1
  have h2 : j < 1073741824 := hc.2
  exact ifloordiv_int (by omega) (by rw [Int.fdiv_eq_ediv_of_nonneg i (by omega)]; exact q) (.inl (PyProof.noPylong_small (by omega)))
theorem iop_mod : OpR X (inplaceOp .Mod) (rI (fun _ j => 0 < j) fun i j => .int (i % j)) := opI fun i j _ _ _ _ _ hc q => by
  have h1 : (0 : Int) < j := hc
  exact imod_int (by omega) (by rw [Int.fmod_eq_emod_of_nonneg i (by omega)]; exact q)
theorem iop_shl : OpR X (inplaceOp .LShift) (rI CPow fun i j => .int (i * 2 ^ j.toNat)) := opI fun _ _ _ _ _ _ _ hc q => ilshift_int_small hc.1 hc.2.1 hc.2.2 q
theorem iop_shr : OpR X (inplaceOp .RShift) (rI (fun _ j => 0 ≤ j) fun i j => .int (i / 2 ^ j.toNat)) := opI fun i j _ _ _ _ _ hc q =>
  irshift_int hc (by rw [Int.fdiv_eq_ediv_of_nonneg i (two_pow_nn _)]; exact q)
theorem iop_and : OpR X (inplaceOp .BitAnd) (rI0 fun i j => .int (Builtin.bitAnd i j)) := opI0 fun _ _ _ _ _ _ _ q => iand_int q
theorem iop_or : OpR X (inplaceOp .BitOr) (rI0 fun i j => .int (Builtin.bitOr i j)) := opI0 fun _ _ _ _ _ _ _ q => ior_int q
theorem iop_xor : OpR X (inplaceOp .BitXor) (rI0 fun i j => .int (Builtin.bitXor i j)) := opI0 fun _ _ _ _ _ _ _ q => ixor_int q

theorem unI {f : Value → Sem Value} {g : Int → Int}
    (rule : ∀ (i : Int) (t : Tok) (s : Shared) (Q : Value → Shared → Prop) (E : Value → Shared → Prop), Q (.int (g i) s.toks) { s with toks := s.toks + 1 } → wpAny (model X.prog X.w) X.A (f (.int i t)) Q E s) :
    UnR X f (rU fun i => .int (g i)) := by
  intro pins s σ H x v Q I rx h
  obtain ⟨i, rfl, q⟩ := h
  obtain ⟨t, rfl⟩ := rx
  exact rule i t s _ _ ⟨.int (g i), H, I.tok _, ⟨_, rfl⟩, q⟩
theorem un_neg : UnR X (unaryOp .USub) (rU fun i => .int (-i)) := unI fun _ _ _ _ _ q => neg_int q
theorem un_inv : UnR X (unaryOp .Invert) (rU fun i => .int (Builtin.bitNot i)) := unI fun _ _ _ _ _ q => invert_int q

/-! ### bools among ints: n += (a < b) -/
theorem op_add_ib : OpR X (binaryOp .Add) (fun x y H Q => ∃ i k, x = .int i ∧ y = .bl k ∧ Q (.int (i + b2i k)) H) := by
  intro pins s σ H x y v u Q I rx ry h
  obtain ⟨i, k, rfl, rfl, q⟩ := h
  obtain ⟨t, rfl⟩ := rx
  cases ry
  exact add_int_bool ⟨.int (i + b2i k), H, I.tok _, ⟨_, rfl⟩, q⟩
end

/-! ### comparisons -/
/-- the scalars that == tells apart as data does -/
def scal : V → V → Bool
  | .non, .non => true | .non, .int _ => true | .int _, .non => true | .non, .bl _ => true | .bl _, .non => true | .non, .str _ => true | .str _, .non => true
  | .int _, .int _ => true | .bl _, .bl _ => true | .str _, .str _ => true | .byt _, .byt _ => true
  | .int _, .str _ => true | .str _, .int _ => true | .bl _, .str _ => true | .str _, .bl _ => true
  | _, _ => false
def rEq : R2 := fun x y H Q => scal x y = true ∧ Q (.bl (decide (x = y))) H
def rNe : R2 := fun x y H Q => scal x y = true ∧ Q (.bl (!decide (x = y))) H

theorem dec_int {i j : Int} : decide (V.int i = V.int j) = (i == j) := by
  rw [Bool.eq_iff_iff]
  simp
theorem dec_bl {i j : Bool} : decide (V.bl i = V.bl j) = (i == j) := by
  rw [Bool.eq_iff_iff]
  simp
theorem dec_str {i j : Str} : decide (V.str i = V.str j) = (i == j) := by
  rw [Bool.eq_iff_iff]
  simp
theorem dec_byt {i j : Array UInt8} : decide (V.byt i = V.byt j) = (i.toList == j.toList) := by
  rw [Bool.eq_iff_iff]
  cases i
  cases j
  simp

section
variable {X : Cx} {a b c : Expr} {ta tb tc : TE} {pos : Pos}
theorem fin_bl {pins : List (Addr × Obj)} {σ : St} {H : Hp} {s : Shared} {Q : VK} {k k' : Bool} (I : Inv X pins σ H s) (q : Q (.bl k) H) (e : k = k') : EP X pins σ Q (.bool k') s := by
  subst e
  exact ⟨.bl k, H, I, rfl, q⟩
theorem op_eq : OpR X (compareOp .Eq) rEq := by
  intro pins s σ H x y v u Q I rx ry h
  obtain ⟨hs, q⟩ := h
  cases x with
  | non =>
    cases rx
    cases y with
    | non => cases ry; exact PySem.EqNone.eq_none_none (fin_bl I q (by simp))
    | bl j => cases ry; exact PySem.EqNone.eq_none_bool (fin_bl I q (by simp))
    | int j => obtain ⟨t', rfl⟩ := ry; exact PySem.EqNone.eq_none_int (fin_bl I q (by simp))
    | str j => obtain ⟨t', rfl⟩ := ry; exact PySem.EqNone.eq_none_str (fin_bl I q (by simp))
    | _ => exact absurd (show false = true from hs) Bool.false_ne_true
  | bl i =>
    cases rx
    cases y with
    | non => cases ry; exact PySem.EqNone.eq_bool_none (fin_bl I q (by simp))
    | bl j => cases ry; exact eq_bool (fin_bl I q dec_bl)
    | str j => obtain ⟨t', rfl⟩ := ry; exact PySem.EqMixed.eq_bool_str (fin_bl I q (by simp))
    | _ => exact absurd (show false = true from hs) Bool.false_ne_true
  | int i =>
    obtain ⟨t, rfl⟩ := rx
    cases y with
    | non => cases ry; exact PySem.EqNone.eq_int_none (fin_bl I q (by simp))
    | int j => obtain ⟨t', rfl⟩ := ry; exact eq_int (fin_bl I q dec_int)
    | str j => obtain ⟨t', rfl⟩ := ry; exact PySem.EqMixed.eq_int_str (fin_bl I q (by simp))
    | _ => exact absurd (show false = true from hs) Bool.false_ne_true
  | str i =>
    obtain ⟨t, rfl⟩ := rx
    cases y with
    | non => cases ry; exact PySem.EqNone.eq_str_none (fin_bl I q (by simp))
    | bl j => cases ry; exact PySem.EqMixed.eq_str_bool (fin_bl I q (by simp))
    | int j => obtain ⟨t', rfl⟩ := ry; exact PySem.EqMixed.eq_str_int (fin_bl I q (by simp))
    | str j => obtain ⟨t', rfl⟩ := ry; exact eq_str (fin_bl I q dec_str)
    | _ => exact absurd (show false = true from hs) Bool.false_ne_true
  | byt i =>
    obtain ⟨t, rfl⟩ := rx
    cases y with
    | byt j => obtain ⟨t', rfl⟩ := ry; exact PySem.W.eq_bytes (fin_bl I q dec_byt)
    | _ => exact absurd (show false = true from hs) Bool.false_ne_true
  | _ => cases y <;> exact absurd (show false = true from hs) Bool.false_ne_true
theorem op_ne : OpR X (compareOp .NotEq) rNe := by
  intro pins s σ H x y v u Q I rx ry h
  obtain ⟨hs, q⟩ := h
  cases x with
  | non =>
    cases rx
    cases y with
    | non => cases ry; exact PySem.EqNone.ne_none_none (fin_bl I q (by simp))
    | bl j => cases ry; exact PySem.EqNone.ne_none_bool (fin_bl I q (by simp))
    | int j => obtain ⟨t', rfl⟩ := ry; exact PySem.EqNone.ne_none_int (fin_bl I q (by simp))
    | str j => obtain ⟨t', rfl⟩ := ry; exact PySem.EqNone.ne_none_str (fin_bl I q (by simp))
    | _ => exact absurd (show false = true from hs) Bool.false_ne_true
  | bl i =>
    cases rx
    cases y with
    | non => cases ry; exact PySem.EqNone.ne_bool_none (fin_bl I q (by simp))
    | bl j => cases ry; exact ne_bool (fin_bl I q (congrArg not dec_bl))
    | str j => obtain ⟨t', rfl⟩ := ry; exact PySem.EqMixed.ne_bool_str (fin_bl I q (by simp))
    | _ => exact absurd (show false = true from hs) Bool.false_ne_true
  | int i =>
    obtain ⟨t, rfl⟩ := rx
    cases y with
    | non => cases ry; exact PySem.EqNone.ne_int_none (fin_bl I q (by simp))
    | int j => obtain ⟨t', rfl⟩ := ry; exact ne_int (fin_bl I q (congrArg not dec_int))
    | str j => obtain ⟨t', rfl⟩ := ry; exact PySem.EqMixed.ne_int_str (fin_bl I q (by simp))
    | _ => exact absurd (show false = true from hs) Bool.false_ne_true
  | str i =>
    obtain ⟨t, rfl⟩ := rx
    cases y with
    | non => cases ry; exact PySem.EqNone.ne_str_none (fin_bl I q (by simp))
    | bl j => cases ry; exact PySem.EqMixed.ne_str_bool (fin_bl I q (by simp))
    | int j => obtain ⟨t', rfl⟩ := ry; exact PySem.EqMixed.ne_str_int (fin_bl I q (by simp))
    | str j => obtain ⟨t', rfl⟩ := ry; exact ne_str (fin_bl I q (congrArg not dec_str))
    | _ => exact absurd (show false = true from hs) Bool.false_ne_true
  | byt i =>
    obtain ⟨t, rfl⟩ := rx
    cases y with
    | byt j => obtain ⟨t', rfl⟩ := ry; exact PySem.W.ne_bytes (fin_bl I q (congrArg not dec_byt))
    | _ => exact absurd (show false = true from hs) Bool.false_ne_true
  | _ => cases y <;> exact absurd (show false = true from hs) Bool.false_ne_true

theorem op_lt : OpR X (compareOp .Lt) (rI0 fun i j => .bl (decide (i < j))) := opB0 fun _ _ _ _ _ _ _ q => lt_int q
theorem op_le : OpR X (compareOp .LtE) (rI0 fun i j => .bl (decide (i ≤ j))) := opB0 fun _ _ _ _ _ _ _ q => le_int q
theorem op_gt : OpR X (compareOp .Gt) (rI0 fun i j => .bl (decide (j < i))) := opB0 fun _ _ _ _ _ _ _ q => gt_int q
theorem op_ge : OpR X (compareOp .GtE) (rI0 fun i j => .bl (decide (j ≤ i))) := opB0 fun _ _ _ _ _ _ _ q => ge_int q
theorem op_lt_str : OpR X (compareOp .Lt) (fun x y H Q => ∃ i j, x = .str i ∧ y = .str j ∧ Q (.bl (decide (i.cps.toList < j.cps.toList))) H) := by
  intro pins s σ H x y v u Q I rx ry h
  obtain ⟨i, j, rfl, rfl, q⟩ := h
  obtain ⟨t, rfl⟩ := rx
  obtain ⟨t', rfl⟩ := ry
  exact lt_str (fin_bl I q rfl)
/-- the one string within the other -/
theorem op_in_str : OpR X (compareOp .In) (fun x y H Q => ∃ i j, x = .str i ∧ y = .str j ∧ Q (.bl (!(Builtin.Str.occurrences j i 0 j.length 1).isEmpty)) H) := by
  intro pins s σ H x y v u Q I rx ry h
  obtain ⟨i, j, rfl, rfl, q⟩ := h
  obtain ⟨t, rfl⟩ := rx
  obtain ⟨t', rfl⟩ := ry
  exact in_str (fin_bl I q rfl)

/-- is None, is not None: the right side a value none -/
theorem op_isN : OpR X (compareOp .Is) (fun x y H Q => y = .non ∧ Q (.bl (decide (x = .non))) H) := by
  intro pins s σ H x y v u Q I rx ry h
  obtain ⟨rfl, q⟩ := h
  cases ry
  refine is_none_gen (fin_bl I q ?_)
  cases x <;> first
    | (cases rx; rfl)
    | (obtain ⟨t, rfl⟩ := rx; rfl)
theorem op_notN : OpR X (compareOp .IsNot) (fun x y H Q => y = .non ∧ Q (.bl (!decide (x = .non))) H) := by
  intro pins s σ H x y v u Q I rx ry h
  obtain ⟨rfl, q⟩ := h
  cases ry
  refine isnot_none_gen (fin_bl I q ?_)
  cases x <;> first
    | (cases rx; rfl)
    | (obtain ⟨t, rfl⟩ := rx; rfl)

theorem op_notin_str : OpR X (compareOp .NotIn) (fun x y H Q => ∃ i j, x = .str i ∧ y = .str j ∧ Q (.bl (!(!(Builtin.Str.occurrences j i 0 j.length 1).isEmpty))) H) := by
  intro pins s σ H x y v u Q I rx ry h
  obtain ⟨i, j, rfl, rfl, q⟩ := h
  obtain ⟨t, rfl⟩ := rx
  obtain ⟨t', rfl⟩ := ry
  exact notIn_str (fin_bl I q rfl)
/-- is, is not of two objects that are tracked lists or instances -/
def isObj : HO → Bool
  | .lst _ => true
  | .ins _ _ _ => true
  | _ => false
theorem obj_there {pins : List (Addr × Obj)} {s : Shared} {σ : St} {H : Hp} {a : Addr} {o : HO} (I : Inv X pins σ H s) (h : H a = some o) (p : isObj o = true) : ∃ ob, s.heap.get? a = some ob ∧ ob.cls ≠ .type "tuple" := by
  cases o with
  | lst xs =>
    obtain ⟨_, its, n, _, e⟩ : xs.length ≤ sizeLine ∧ ∃ (its : List Value) (n : Nat), Vals xs its ∧ s.heap.get? a = some { cls := .type "list", data := .seq its.toArray n } := I.hok a _ h
    exact ⟨_, e, (by show Value.type "list" ≠ .type "tuple"; decide +kernel)⟩
  | ins C dx fs =>
    have x := I.hok a _ h
    obtain ⟨_, _, _, e, _⟩ := x
    exact ⟨_, e, (by show Value.ref C ≠ .type "tuple"; exact fun z => by cases z)⟩
  | _ => exact absurd (show false = true from p) Bool.false_ne_true
theorem op_is_ref : OpR X (compareOp .Is) (fun x y H Q => ∃ a b oa ob, x = .ref a ∧ y = .ref b ∧ H a = some oa ∧ isObj oa = true ∧ H b = some ob ∧ isObj ob = true ∧ Q (.bl (decide (a = b))) H) := by
  intro pins s σ H x y v u Q I rx ry h
  obtain ⟨a, b, oa, ob, rfl, rfl, ha, pa, hb, pb, q⟩ := h
  cases rx
  cases ry
  obtain ⟨o1, e1, n1⟩ := obj_there I ha pa
  obtain ⟨o2, e2, _⟩ := obj_there I hb pb
  by_cases z : a = b
  · subst z
    exact wpAny_is_ref_self (fin_bl I q (by simp))
  · exact wpAny_is_ref_other z e1 e2 n1 (fin_bl I q (by simp [z]))
theorem op_isnot_ref : OpR X (compareOp .IsNot) (fun x y H Q => ∃ a b oa ob, x = .ref a ∧ y = .ref b ∧ H a = some oa ∧ isObj oa = true ∧ H b = some ob ∧ isObj ob = true ∧ Q (.bl (!decide (a = b))) H) := by
  intro pins s σ H x y v u Q I rx ry h
  obtain ⟨a, b, oa, ob, rfl, rfl, ha, pa, hb, pb, q⟩ := h
  cases rx
  cases ry
  obtain ⟨o1, e1, n1⟩ := obj_there I ha pa
  obtain ⟨o2, e2, _⟩ := obj_there I hb pb
  by_cases z : a = b
  · subst z
    exact wpAny_isNot_ref_self (fin_bl I q (by simp))
  · exact wpAny_isNot_ref_other z e1 e2 n1 (fin_bl I q (by simp [z]))

/-- two rules for one operation: by cases -/
theorem OpR.or {f : Value → Value → Sem Value} {r r' : R2} (h : OpR X f r) (h' : OpR X f r') : OpR X f (fun x y H Q => r x y H Q ∨ r' x y H Q) := by
  intro pins s σ H x y v u Q I rx ry q
  rcases q with q | q
  · exact h pins s σ H x y v u Q I rx ry q
  · exact h' pins s σ H x y v u Q I rx ry q

theorem nomark (b : Expr) {op : CmpOp} (h : op ≠ .In := by decide) (h2 : op ≠ .NotIn := by decide) : behindInMarks op b = false := by
  have e1 : (op == CmpOp.In) = false := by cases op <;> first | rfl | exact absurd rfl h
  have e2 : (op == CmpOp.NotIn) = false := by cases op <;> first | rfl | exact absurd rfl h2
  cases b <;> simp [behindInMarks, e1, e2]
/-- a comparison as a value; hm: nomark b, or (for in, not in) by with_unfolding_all rfl -/
theorem pe_cmpR {op : CmpOp} {r : R2} (ho : OpR X (compareOp op) r) (ha : PE X a ta) (hb : PE X b tb) (hm : behindInMarks op b = false) : PE X (.Compare a [op] [b] pos) (tOp r ta tb) := by
  intro pins s σ H Q I h
  exact wpAny_Compare1 (binT ha hb I h fun v u s2 x y H2 I2 rx ry q => ho pins s2 σ H2 x y v u Q I2 rx ry q) hm
/-- a reading of a value as a test -/
def tTest (t : TE) : TT := fun σ H Q => t σ H fun x H' => ∃ k, x = .bl k ∧ Q k H'
theorem pt_cmpR {op : CmpOp} {r : R2} (ho : OpR X (compareOp op) r) (ha : PE X a ta) (hb : PE X b tb) (hm : behindInMarks op b = false) : PT X (.Compare a [op] [b] pos) (tTest (tOp r ta tb)) := by
  intro pins s σ H Q I h
  refine wpAny_isTrue_Compare1 (thn (ha pins s σ H _ I h) fun v s1 ⟨x, H1, I1, r1, q1⟩ => thn (hb pins s1 σ H1 _ I1 q1) fun u s2 ⟨y, H2, I2, r2, q2⟩ =>
    thn (ho pins s2 σ H2 x y v u _ I2 r1 r2 q2) fun c s3 ⟨z, H3, I3, r3, k, e, q3⟩ => ?_) hm
  subst e
  cases r3
  exact wpAny_truthy_bool ⟨H3, I3, q3⟩
/-- a op1 b op2 c -/
def tChain (r r' : R2) (ta tb tc : TE) : TE := fun σ H Q => ta σ H fun x H1 => tb σ H1 fun y H2 => r x y H2 fun z H3 => ∃ k, z = .bl k ∧
  (if k = true then tc σ H3 fun w' H4 => r' y w' H4 Q else Q (.bl false) H3)
theorem pe_chain {op op' : CmpOp} {r r' : R2} (ho : OpR X (compareOp op) r) (ho' : OpR X (compareOp op') r') (ha : PE X a ta) (hb : PE X b tb) (hc : PE X c tc)
    (hm : lastMarks [op, op'] [b, c] = false := by with_unfolding_all rfl) : PE X (.Compare a [op, op'] [b, c] pos) (tChain r r' ta tb tc) := by
  intro pins s σ H Q I h
  refine Compare_chain (thn (ha pins s σ H _ I h) fun v s1 ⟨x, H1, I1, r1, q1⟩ => chain_link (thn (hb pins s1 σ H1 _ I1 q1) fun u s2 ⟨y, H2, I2, r2, q2⟩ =>
    thn (ho pins s2 σ H2 x y v u _ I2 r1 r2 q2) fun d s3 ⟨z, H3, I3, r3, k, e, q3⟩ => ?_)) hm
  subst e
  cases r3
  refine wpAny_truthy_bool ?_
  cases k with
  | false => exact ite_ff ⟨.bl false, H3, I3, rfl, q3⟩
  | true => exact ite_tt (chain_last (thn (hc pins s3 σ H3 _ I3 q3) fun w' s4 ⟨z', H4, I4, r4, q4⟩ => ho' pins s4 σ H4 y z' u w' Q I4 r2 r4 q4))
theorem pt_chain {op op' : CmpOp} {r r' : R2} (ho : OpR X (compareOp op) r) (ho' : OpR X (compareOp op') r') (ha : PE X a ta) (hb : PE X b tb) (hc : PE X c tc)
    (hm : lastMarks [op, op'] [b, c] = false := by with_unfolding_all rfl) : PT X (.Compare a [op, op'] [b, c] pos) (tTest (tChain r r' ta tb tc)) := by
  intro pins s σ H Q I h
  refine isTrue_chain (thn (ha pins s σ H _ I h) fun v s1 ⟨x, H1, I1, r1, q1⟩ => test_link (thn (hb pins s1 σ H1 _ I1 q1) fun u s2 ⟨y, H2, I2, r2, q2⟩ =>
    thn (ho pins s2 σ H2 x y v u _ I2 r1 r2 q2) fun d s3 ⟨z, H3, I3, r3, k, e, q3⟩ => ?_)) hm
  subst e
  cases r3
  refine wpAny_truthy_bool ?_
  cases k with
  | false =>
    obtain ⟨k', e', q'⟩ := q3
    cases e'
    exact ite_ff ⟨H3, I3, q'⟩
  | true =>
    refine ite_tt (test_last (thn (hc pins s3 σ H3 _ I3 q3) fun w' s4 ⟨z', H4, I4, r4, q4⟩ => thn (ho' pins s4 σ H4 y z' u w' _ I4 r2 r4 q4) fun d' s5 ⟨z2, H5, I5, r5, k2, e2, q5⟩ => ?_))
    subst e2
    cases r5
    exact wpAny_truthy_bool ⟨H5, I5, q5⟩

/-! ### truth -/
/-- a value's truth by the abstract heap -/
def TruV (K : PySem.W.Frag) (x : V) (H : Hp) (k : Bool) : Prop :=
  match x with
  | .non => k = false
  | .bl b => k = b
  | .int i => k = (i != 0)
  | .str y => y.length ≤ sizeLine ∧ k = ((y.length : Int) != 0)
  | .byt y => y.size ≤ sizeLine ∧ k = ((y.size : Int) != 0)
  | .ref p => (∃ xs, SqL K H p xs ∧ k = !xs.isEmpty) ∨ (∃ xs, SqT K H p xs ∧ k = !xs.isEmpty) ∨ ∃ kvs, H p = some (.dK kvs) ∧ k = !kvs.isEmpty
  | _ => False
theorem isEmpty_kv {κ : Type} {kvs : List (κ × V)} {vs : List (κ × Value)} (r : KV kvs vs) : (!vs.isEmpty) = !kvs.isEmpty := by
  cases r <;> rfl
theorem isEmpty_of {xs : List V} {its : List Value} (r : Vals xs its) : (!its.toArray.isEmpty) = !xs.isEmpty := by
  cases r <;> simp
theorem line63 : (sizeLine : Nat) < 2 ^ 63 := by rw [sizeLine_eq]; decide
theorem tru_ok : TruR X (fun x H Q => ∃ k, TruV X.K x H k ∧ Q k H) := by
  intro pins s σ H x v Q I rx h
  obtain ⟨k, e, q⟩ := h
  have hl := line63
  have hs : sizeLine = 16777216 := sizeLine_eq
  cases x with
  | non =>
    cases rx
    have e' : k = false := e
    subst e'
    exact truthy_none ⟨H, I, q⟩
  | bl b =>
    cases rx
    have e' : k = b := e
    subst e'
    exact wpAny_truthy_bool ⟨H, I, q⟩
  | int i =>
    obtain ⟨t, rfl⟩ := rx
    have e' : k = (i != 0) := e
    subst e'
    exact PySem.P.truthy_int ⟨H, I, q⟩
  | str y =>
    obtain ⟨t, rfl⟩ := rx
    obtain ⟨hy, e'⟩ : y.length ≤ sizeLine ∧ k = ((y.length : Int) != 0) := e
    subst e'
    exact PySem.P.truthy_str (by omega) ⟨H, I.tok _, q⟩
  | byt y =>
    obtain ⟨t, rfl⟩ := rx
    obtain ⟨hy, e'⟩ : y.size ≤ sizeLine ∧ k = ((y.size : Int) != 0) := e
    subst e'
    exact PySem.W.truthy_bytes (by omega) ⟨H, I.tok _, q⟩
  | ref p =>
    cases rx
    have e' : (∃ xs, SqL X.K H p xs ∧ k = !xs.isEmpty) ∨ (∃ xs, SqT X.K H p xs ∧ k = !xs.isEmpty) ∨ ∃ kvs, H p = some (.dK kvs) ∧ k = !kvs.isEmpty := e
    rcases e' with ⟨xs, hx, e'⟩ | ⟨xs, hx, e'⟩ | ⟨kvs, hx, e'⟩
    · subst e'
      obtain ⟨its, r, pl, hz⟩ := I.list hx
      have hlen := r.length
      exact wpAny_truthy_list pl.isList (by simp only [List.size_toArray]; omega) ⟨H, I.tok _, by rw [isEmpty_of r]; exact q⟩
    · subst e'
      obtain ⟨its, r, pl, hz⟩ := I.tuple hx
      have hlen := r.length
      exact truthy_tuple pl (by simp only [List.size_toArray]; omega) ⟨H, I.tok _, by rw [isEmpty_of r]; exact q⟩
    · subst e'
      obtain ⟨hz, hS, vs, r, m⟩ : kvs.length ≤ sizeLine ∧ (p == sysModules) = false ∧ ∃ vs, KV kvs vs ∧ s.heap.DictOf (mixKind X.prog X.w) p vs := I.hok p _ hx
      have hlen : kvs.length = vs.length := Paired.length r
      exact wpAny_truthy_dict hS m (by omega) ⟨H, I.tok _, by rw [isEmpty_kv r]; exact q⟩
  | _ => exact (show False from e).elim
/-- any expression whose test is its value's truth (a name, a call, a subscript, a field ..: he by fun _ => rfl) -/
theorem pt_truth (ha : PE X a ta) (he : ∀ whole, isTrue a X.env whole = (do let v ← whole; standAt a.pos; holding [v] (truthy v))) :
    PT X a (fun σ H Q => ta σ H fun x H' => ∃ k, TruV X.K x H' k ∧ Q k H') := by
  intro pins s σ H Q I h
  exact isTrue_plain (thn (ha pins s σ H _ I h) fun v s1 ⟨x, H1, I1, r1, q1⟩ => tru_ok pins s1 σ H1 x v Q I1 r1 q1) (he _)

/-! ### strs and bytes -/
theorem pe_byt {x : List UInt8} {k : Nat} : PE X (.Constant (.bytes x) k pos) (fun _ H Q => Q (.byt x.toArray) H) := fun _ _ _ H _ I h => PySem.W.Constant_bytes ⟨.byt x.toArray, H, I.tok _, ⟨_, rfl⟩, h⟩
theorem op_add_str : OpR X (binaryOp .Add) (fun x y H Q => ∃ i j, x = .str i ∧ y = .str j ∧ i.length + j.length ≤ sizeLine ∧ Q (.str (i ++ j)) H) := by
  intro pins s σ H x y v u Q I rx ry h
  obtain ⟨i, j, rfl, rfl, hz, q⟩ := h
  obtain ⟨t, rfl⟩ := rx
  obtain ⟨t', rfl⟩ := ry
  exact add_str (fun t' tk => ⟨.str (i ++ j), H, I.tok _, ⟨_, rfl⟩, q⟩) hz
theorem iop_add_str : OpR X (inplaceOp .Add) (fun x y H Q => ∃ i j, x = .str i ∧ y = .str j ∧ i.length + j.length ≤ sizeLine ∧ Q (.str (i ++ j)) H) := by
  intro pins s σ H x y v u Q I rx ry h
  obtain ⟨i, j, rfl, rfl, hz, q⟩ := h
  obtain ⟨t, rfl⟩ := rx
  obtain ⟨t', rfl⟩ := ry
  exact iadd_str (fun t' tk => ⟨.str (i ++ j), H, I.tok _, ⟨_, rfl⟩, q⟩) hz
theorem op_add_byt : OpR X (binaryOp .Add) (fun x y H Q => ∃ i j, x = .byt i ∧ y = .byt j ∧ i.size + j.size ≤ 16777216 ∧ Q (.byt (i ++ j)) H) := by
  intro pins s σ H x y v u Q I rx ry h
  obtain ⟨i, j, rfl, rfl, hz, q⟩ := h
  obtain ⟨t, rfl⟩ := rx
  obtain ⟨t', rfl⟩ := ry
  exact PySem.W.KBy.add_bytes hz (fun t' tk => ⟨.byt (i ++ j), H, I.tok _, ⟨_, rfl⟩, q⟩)

def PlainIxT (b : Expr) : Prop := ∀ o i, subscripted b false o i = operate [o, i] (getItem o i)
/-- s[i], 0 ≤ i < len -/
theorem pe_item_str (ha : PE X a ta) (hb : PE X b tb) (hs : PlainIxT b) :
    PE X (.Subscript a b pos) (tOp (fun x y H Q => ∃ z i c, x = .str z ∧ y = .int i ∧ 0 ≤ i ∧ i < 2 ^ 63 ∧ i < z.length ∧ z.cps[i.toNat]? = some c ∧ Q (.str ⟨#[c]⟩) H) ta tb) := by
  intro pins s σ H Q I h
  refine Subscript_ (binT ha hb I h fun v u s2 x y H2 I2 rx ry q => ?_)
  obtain ⟨z, i, c, rfl, rfl, h0, h63, h1, hc, q⟩ := q
  obtain ⟨t, rfl⟩ := rx
  obtain ⟨t', rfl⟩ := ry
  have e : seqIndex? i z.length = some i.toNat := PySem.StrLaws.seqIndex_nonneg h0 h1
  exact tail_any (typeIs_str s2 z t) slot_str_getitem.lookup (getItem_str (c := c) (by
    have e1 : decide (i < -(2 ^ 63 : Int)) = false := decide_eq_false (by omega)
    have e2 : decide (i ≥ 2 ^ 63) = false := decide_eq_false (by omega)
    rw [e1, e2] <;> rfl) (by rw [e]; exact hc) ⟨.str ⟨#[c]⟩, H2, I2.tok _, ⟨_, rfl⟩, q⟩) (hs _ _)
/-- b[i], 0 ≤ i < len -/
theorem pe_item_byt (ha : PE X a ta) (hb : PE X b tb) (hs : PlainIxT b) :
    PE X (.Subscript a b pos) (tOp (fun x y H Q => ∃ (z : List UInt8) (i : Int), x = .byt z.toArray ∧ y = .int i ∧ z.length ≤ sizeLine ∧ 0 ≤ i ∧ i < z.length ∧ Q (.int ((z.getD i.toNat 0).toNat : Nat)) H) ta tb) := by
  intro pins s σ H Q I h
  refine Subscript_ (binT ha hb I h fun v u s2 x y H2 I2 rx ry q => ?_)
  obtain ⟨z, i, rfl, rfl, hz, h0, h1, q⟩ := q
  obtain ⟨t, rfl⟩ := rx
  obtain ⟨t', rfl⟩ := ry
  have hl : sizeLine = 16777216 := sizeLine_eq
  exact tail_any (PySem.W.typeIs_bytes s2 z.toArray t) PySem.W.FB.slot_bytes_getitem.lookup (PySem.W.getItem_bytes (by omega) h0 h1 ⟨.int ((z.getD i.toNat 0).toNat : Nat), H2, I2.tok _, ⟨_, rfl⟩, q⟩) (hs _ _)

/-! ### scalar builtins, by CallR -/
theorem vals1 {x : V} {us : List Value} (r : Vals [x] us) : ∃ u, us = [u] ∧ RelV x u := by
  cases r with
  | cons r1 r2 => cases r2; exact ⟨_, rfl, r1⟩
theorem vals2 {x y : V} {us : List Value} (r : Vals [x, y] us) : ∃ u w', us = [u, w'] ∧ RelV x u ∧ RelV y w' := by
  cases r with
  | cons r1 r2 =>
    cases r2 with
    | cons r3 r4 => cases r4; exact ⟨_, _, rfl, r1, r3⟩
theorem call_abs : CallR X (.builtin "abs") (fun xs H Q => ∃ i, xs = [.int i] ∧ Q (.int (if i < 0 then -i else i)) H) := by
  intro pins s σ H xs us Q I r h
  obtain ⟨i, rfl, q⟩ := h
  obtain ⟨u, rfl, t, rfl⟩ := vals1 r
  exact call_abs_int fun u tk => ⟨.int (if i < 0 then -i else i), H, I.tok _, ⟨_, rfl⟩, q⟩
theorem call_max2 (hc : X.calm = true) : CallR X (.builtin "max") (fun xs H Q => ∃ i j, xs = [.int i, .int j] ∧ Q (.int (if j > i then j else i)) H) := by
  intro pins s σ H xs us Q I r h
  obtain ⟨i, j, rfl, q⟩ := h
  obtain ⟨u, w', rfl, ⟨t, rfl⟩, ⟨t', rfl⟩⟩ := vals2 r
  refine max_two_ints (I.ok.hd hc) fun h' tk k => ⟨_, H, I.kept k, ?_, q⟩
  by_cases hj : j > i
  · rw [if_pos hj, if_pos hj]; exact ⟨_, rfl⟩
  · rw [if_neg hj, if_neg hj]; exact ⟨_, rfl⟩
theorem call_min2 (hc : X.calm = true) : CallR X (.builtin "min") (fun xs H Q => ∃ i j, xs = [.int i, .int j] ∧ Q (.int (if j < i then j else i)) H) := by
  intro pins s σ H xs us Q I r h
  obtain ⟨i, j, rfl, q⟩ := h
  obtain ⟨u, w', rfl, ⟨t, rfl⟩, ⟨t', rfl⟩⟩ := vals2 r
  refine min_two_ints (I.ok.hd hc) fun h' tk k => ⟨_, H, I.kept k, ?_, q⟩
  by_cases hj : j < i
  · rw [if_pos hj, if_pos hj]; exact ⟨_, rfl⟩
  · rw [if_neg hj, if_neg hj]; exact ⟨_, rfl⟩
theorem call_int1 : CallR X (.type "int") (fun xs H Q => (∃ i, xs = [.int i] ∧ Q (.int i) H) ∨ ∃ k, xs = [.bl k] ∧ Q (.int (if k then 1 else 0)) H) := by
  intro pins s σ H xs us Q I r h
  rcases h with ⟨i, rfl, q⟩ | ⟨k, rfl, q⟩
  · obtain ⟨u, rfl, t, rfl⟩ := vals1 r
    exact call_int_int ⟨.int i, H, I, ⟨_, rfl⟩, q⟩
  · obtain ⟨u, rfl, r1⟩ := vals1 r
    cases r1
    exact call_int_bool ⟨.int (if k then 1 else 0), H, I.tok _, ⟨_, rfl⟩, q⟩
theorem call_bool1 : CallR X (.type "bool") (fun xs H Q => (∃ i, xs = [.int i] ∧ Q (.bl (i != 0)) H) ∨ ∃ k, xs = [.bl k] ∧ Q (.bl k) H) := by
  intro pins s σ H xs us Q I r h
  rcases h with ⟨i, rfl, q⟩ | ⟨k, rfl, q⟩
  · obtain ⟨u, rfl, t, rfl⟩ := vals1 r
    exact call_bool_int ⟨.bl (i != 0), H, I, rfl, q⟩
  · obtain ⟨u, rfl, r1⟩ := vals1 r
    cases r1
    exact call_bool_bool ⟨.bl k, H, I, rfl, q⟩
theorem call_str_int : CallR X (.type "str") (fun xs H Q => ∃ i, xs = [.int i] ∧ i.natAbs.log2 < 1920 ∧ Q (.str (toString i)) H) := by
  intro pins s σ H xs us Q I r h
  obtain ⟨i, rfl, hz, q⟩ := h
  obtain ⟨u, rfl, t, rfl⟩ := vals1 r
  exact PySem.P.str_of_int hz ⟨.str _, H, I.tok _, ⟨_, rfl⟩, q⟩
theorem call_ord : CallR X (.builtin "ord") (fun xs H Q => ∃ x, xs = [.str x] ∧ x.length = 1 ∧ Q (.int (x.cps.getD 0 0 : Nat)) H) := by
  intro pins s σ H xs us Q I r h
  obtain ⟨x, rfl, hz, q⟩ := h
  obtain ⟨u, rfl, t, rfl⟩ := vals1 r
  exact ord_of_one hz ⟨.int _, H, I.tok _, ⟨_, rfl⟩, q⟩
theorem call_chr : CallR X (.builtin "chr") (fun xs H Q => ∃ i, xs = [.int i] ∧ 0 ≤ i ∧ i ≤ 1114111 ∧ Q (.str ⟨#[i.toNat]⟩) H) := by
  intro pins s σ H xs us Q I r h
  obtain ⟨i, rfl, h0, h1, q⟩ := h
  obtain ⟨u, rfl, t, rfl⟩ := vals1 r
  exact chr_of_range h0 h1 ⟨.str _, H, I.tok _, ⟨_, rfl⟩, q⟩
/-- len of a str, a bytes, a list, a tuple -/
def LenV (K : PySem.W.Frag) (x : V) (H : Hp) (n : Nat) : Prop :=
  match x with
  | .str y => y.length ≤ sizeLine ∧ n = y.length
  | .byt y => y.size ≤ sizeLine ∧ n = y.size
  | .ref p => (∃ xs, SqL K H p xs ∧ n = xs.length) ∨ ∃ xs, SqT K H p xs ∧ n = xs.length
  | _ => False
theorem call_len : CallR X (.builtin "len") (fun xs H Q => ∃ x n, xs = [x] ∧ LenV X.K x H n ∧ Q (.int n) H) := by
  intro pins s σ H xs us Q I r h
  obtain ⟨x, n, rfl, e, q⟩ := h
  obtain ⟨u, rfl, rx⟩ := vals1 r
  have hl := line63
  have hs : sizeLine = 16777216 := sizeLine_eq
  cases x with
  | str y =>
    obtain ⟨t, rfl⟩ := rx
    obtain ⟨hy, e'⟩ : y.length ≤ sizeLine ∧ n = y.length := e
    subst e'
    exact len_str (by omega) ⟨.int _, H, I.tok _, ⟨_, rfl⟩, q⟩
  | byt y =>
    obtain ⟨t, rfl⟩ := rx
    obtain ⟨hy, e'⟩ : y.size ≤ sizeLine ∧ n = y.size := e
    subst e'
    exact PySem.W.len_bytes (by omega) ⟨.int _, H, I.tok _, ⟨_, rfl⟩, q⟩
  | ref p =>
    cases rx
    have e' : (∃ xs, SqL X.K H p xs ∧ n = xs.length) ∨ ∃ xs, SqT X.K H p xs ∧ n = xs.length := e
    rcases e' with ⟨xs, hx, e'⟩ | ⟨xs, hx, e'⟩
    · subst e'
      obtain ⟨its, r', pl, hz⟩ := I.list hx
      have hlen := r'.length
      exact Calls.call_len_list pl.isList (by simp only [List.size_toArray]; omega) ⟨.int xs.length, H, I.tok _, ⟨_, by simp only [List.size_toArray]; rw [hlen]⟩, q⟩
    · subst e'
      obtain ⟨its, r', pl, hz⟩ := I.tuple hx
      have hlen := r'.length
      exact len_tuple pl (by simp only [List.size_toArray]; omega) ⟨.int xs.length, H, I.tok _, ⟨_, by simp only [List.size_toArray]; rw [hlen]⟩, q⟩
  | _ => exact (show False from e).elim
/-- divmod: a new tuple -/
theorem call_divmod : CallR X (.builtin "divmod") (fun xs H Q => ∃ i j, xs = [.int i, .int j] ∧ CDiv i j ∧ ∀ p, H p = none → Q (.ref p) (upd H p (.tup [.int (i / j), .int (i % j)]))) := by
  intro pins s σ H xs us Q I r h
  obtain ⟨i, j, rfl, ⟨h1, h2⟩, q⟩ := h
  obtain ⟨u, w', rfl, ⟨t, rfl⟩, ⟨t', rfl⟩⟩ := vals2 r
  refine divmod_int (by omega) ?_ (.inl (PyProof.noPylong_small (by omega)))
  rw [Int.fdiv_eq_ediv_of_nonneg i (by omega), Int.fmod_eq_emod_of_nonneg i (by omega)]
  have hn : H s.heap.objs.size = none := I.hok.fresh (Nat.le_refl _)
  refine ⟨.ref s.heap.objs.size, _, ?_, rfl, q _ hn⟩
  refine I.laid (fun b o e => Heap.get?_push_of_some _ e) (Nat.le_refl _) ⟨by simp only [List.length_cons, List.length_nil]; rw [sizeLine_eq]; decide, [.int (i / j) s.toks, .int (i % j) (s.toks + 1)], .cons ⟨_, rfl⟩ (.cons ⟨_, rfl⟩ .nil), ?_⟩
  exact ⟨_, Heap.get?_push_size s.heap rfl, rfl, 0, rfl⟩
end
end L2

namespace L2
open PySem PySem.Spec PyProof.Rows

/-! ### an instance, its attributes a map -/
structure ObjM (h : Heap) (x dx C : Addr) (mA : Str → Option Value) : Prop where
  obj : h.get? x = some (PySem.W.instObj C dx)
  ns : h.Ns1 dx mA
  ne : dx ≠ x

theorem lookIn_ns {h : Heap} {dx : Addr} {mA : Str → Option Value} (n : h.Ns1 dx mA) : ∃ od, h.get? dx = some od ∧ ∀ name, PySem.W.lookIn name od = some (mA name) := by
  obtain ⟨o, es, ep, ho, hd, hk, _, hm⟩ := n
  refine ⟨o, ho, fun name => ?_⟩
  have e := hm name
  unfold nsFind findBy at e
  rw [← Array.find?_toList] at e
  unfold PySem.W.lookIn
  rw [hd]
  dsimp only
  split
  · rename_i y q
    rw [q] at e
    exact congrArg some e
  · rename_i q
    rw [q] at e
    have a : es.toList.any (·.refKey) = false := by
      rw [List.any_eq_false]
      intro y hy
      obtain ⟨z, t, hkey⟩ := hk y (Array.mem_toList_iff.mp hy)
      simp [DictEntry.refKey, hkey]
    have a' : ¬ es.toList.any (·.refKey) = true := by rw [a]; exact Bool.false_ne_true
    rw [if_neg a']
    exact congrArg some e

theorem ObjM.look {h : Heap} {x dx C : Addr} {mA : Str → Option Value} (I : ObjM h x dx C mA) : ∃ od, PySem.W.InstAt h x (PySem.W.instObj C dx) C (some od) ∧ ∀ name, PySem.W.lookIn name od = some (mA name) :=
  let ⟨od, ho, hl⟩ := lookIn_ns I.ns
  ⟨od, ⟨I.obj, rfl, rfl, ho⟩, hl⟩

section
variable {prog : Program} {w : World} {A : Around} {E : Value → Shared → Prop} {s : Shared} {K : PySem.W.Frag} {x dx C f : Addr} {mA : Str → Option Value} {name : Str} {v : Value}

theorem get_map {expr : Bool} {Q : Value → Shared → Prop} (X : K.In s.heap) (I : ObjM s.heap x dx C mA) (hg : PySem.W.plainGet K C name = true) (hh : PySem.W.hasDictIn K C = true)
    (ha : PySem.W.findIn K (.ref C) name = some none) (hv : mA name = some v) (hv' : PySem.W.handedIn v = true) (h : Q v { s with toks := s.toks + 1 }) :
    wpAny (model prog w) A (getAttr (.ref x) name expr) Q E s := by
  obtain ⟨od, J, hl⟩ := I.look
  exact PySem.W.get_value X J (PySem.W.plainGet_of hg).1 (PySem.W.findObj_own hh ha rfl (by rw [hl, hv])) hv' h

theorem get_const {expr : Bool} {a : Value} {Q : Value → Shared → Prop} (X : K.In s.heap) (I : ObjM s.heap x dx C mA) (hg : PySem.W.plainGet K C name = true) (hh : PySem.W.hasDictIn K C = true)
    (ha : PySem.W.findIn K (.ref C) name = some (some a)) (hn : PySem.W.specialIn K a "__get__" = some none) (hc : PySem.W.copiedNames.contains name = false) (hv : mA name = none) (hv' : PySem.W.handedIn a = true)
    (h : Q a { s with toks := s.toks + 1 }) : wpAny (model prog w) A (getAttr (.ref x) name expr) Q E s := by
  obtain ⟨od, J, hl⟩ := I.look
  exact PySem.W.get_value X J (PySem.W.plainGet_of hg).1 (PySem.W.findObj_cls hh ha hn hv' hc (by rw [hl, hv])) hv' h

theorem get_meth {pl : Sem Bool} {Q : Value × List Value → Shared → Prop} (X : K.In s.heap) (I : ObjM s.heap x dx C mA) (hg : PySem.W.plainGet K C name = true)
    (hf : PySem.W.findIn K (.ref C) name = some (some (.ref f))) (ht : PySem.W.isFn K (.ref f) = true) (hv : mA name = none) (h : Q (.ref f, [.ref x]) s) :
    wpAny (model prog w) A (getMethod (.ref x) name pl) Q E s := by
  obtain ⟨od, J, hl⟩ := I.look
  exact PySem.W.method_fn X J (PySem.W.plainGet_of hg).1 (PySem.W.plainGet_of hg).2 hf (beq_iff_eq.mp ht) (by show (PySem.W.lookIn name od).map (·.isSome) = some false; rw [hl, hv]; rfl) h

theorem set_map {ns : List Str} {Q : Unit → Shared → Prop} (X : K.In s.heap) (I : ObjM s.heap x dx C mA)
    (hs : PySem.W.findIn K (.ref C) "__setattr__" = some (some (.builtin "object.__setattr__"))) (hp : PySem.W.plainOver K C = true) (ht : PySem.W.takerIn K C name = some none) (hh : PySem.W.hasDictIn K C = true)
    (hw : PySem.Within mA ns) (hsz : ns.length ≤ sizeLine)
    (h : ∀ h', ObjM h' x dx C (fun y => if y = name then some v else mA y) → Heap.SameBut dx s.heap h' → Q () { s with heap := h', toks := s.toks + 2 }) :
    wpAny (model prog w) A (setAttr (.ref x) name v) Q E s := by
  obtain ⟨od, J, hl⟩ := I.look
  refine PySem.W.set_plain X J hs (PySem.W.osa_open (s := { s with toks := s.toks + 1 }) (r := none) X J hp ht fun b => ?_)
  obtain ⟨cd, hc, hd'⟩ := PySem.W.any_some hh
  have hx : s.heap.get? x = some ⟨.ref C, some dx, .plain, #[]⟩ := I.obj
  refine wpAny_bind (wpAny_pure (wpAny_bind (wpAny_bind (wpAny_loadPart hx (wpAny_bind (PySem.W.Looks.here (s := { s with toks := s.toks + 1 }) (PySem.W.looks_clsIn X hc) ?_))))))
  rw [hd']
  refine wpAny_pure (a := some dx) (wpAny_bind (wpAny_pure (wpAny_bind ?_)))
  refine wpAny_nsSet1 (s := { s with toks := s.toks + 1 }) I.ns fun h' hn2 hs2 => ?_
  obtain ⟨oD, esD, epD, hoD, hdD, hcD⟩ := hn2.count (PySem.Within.cons name v hw)
  refine wpAny_bind (wpAny_lookBehind hoD (by rw [hdD]; exact pastItsLine_dict (Nat.le_trans hcD (by rw [List.length_cons]; omega))) ?_)
  exact wpAny_pure (h _ ⟨(hs2.2 _ (Ne.symm I.ne)).trans I.obj, hn2, I.ne⟩ hs2)

/-- C(..): the dict at the heap's end, the instance behind it; then its __init__ -/
theorem make_map {R : Result → Shared → Prop} {vs : List Value} {kw : List (Str × Value)} (X : K.In s.heap) (hm : PySem.W.makesIn K C = true)
    (hi : PySem.W.findIn K (.ref C) "__init__" = some (some (.ref f))) (hf : PySem.W.typeIn K (.ref f) = some (.type "function"))
    (h : codeAny (model prog w) (A.under (.builtin "type.__call__" ⟨.ref C :: vs, kw⟩)) (.call (.ref f) ⟨.ref (s.heap.objs.size + 1) :: vs, kw⟩) (PySem.W.InitBack (s.heap.objs.size + 1) R)
      { s with heap := (s.heap.push PySem.W.emptyDict).push (PySem.W.instObj C s.heap.objs.size) }) :
    codeAny (model prog w) A (.call (.ref C) ⟨vs, kw⟩) R s := by
  obtain ⟨hh, g, d, t, os⟩ := s
  exact PySem.W.make_core (PySem.W.makes_of X hm) (PySem.W.looks_findIn X hi) (fun self => PySem.W.bind_fn X self hf) (.inl rfl) h
/-- C() where there is no __init__ but object's -/
theorem make_map0 {R : Result → Shared → Prop} (X : K.In s.heap) (hm : PySem.W.makesIn K C = true)
    (hi : PySem.W.findIn K (.ref C) "__init__" = some (some (.builtin "object.__init__")))
    (hb : ∀ self, PySem.W.Looks (model prog w) s.heap (bindSpecial (.builtin "object.__init__") self) (.builtin "object.__init__", [self]))
    (h : codeAny (model prog w) (A.under (.builtin "type.__call__" ⟨[.ref C], []⟩)) (.call (.builtin "object.__init__") ⟨[.ref (s.heap.objs.size + 1)], []⟩) (PySem.W.InitBack (s.heap.objs.size + 1) R)
      { s with heap := (s.heap.push PySem.W.emptyDict).push (PySem.W.instObj C s.heap.objs.size) }) :
    codeAny (model prog w) A (.call (.ref C) ⟨[], []⟩) R s := by
  obtain ⟨hh, g, d, t, os⟩ := s
  exact PySem.W.make_core (PySem.W.makes_of X hm) (PySem.W.looks_findIn X hi) hb (.inr ⟨rfl, rfl⟩) h
end

/-! ### the attributes as a list of pairs -/
def putF (f : Str) (v : V) : List (Str × V) → List (Str × V)
  | [] => [(f, v)]
  | (g, x) :: r => if g = f then (g, v) :: r else (g, x) :: putF f v r
theorem lookup_putF (f g : Str) (v : V) : ∀ fs : List (Str × V), (putF f v fs).lookup g = if g = f then some v else fs.lookup g
  | [] => by
    show List.lookup g [(f, v)] = _
    by_cases h : g = f
    · have hb : (g == f) = true := beq_iff_eq.mpr h
      simp only [List.lookup, hb, if_pos h]
    · have hb : (g == f) = false := beq_eq_false_iff_ne.mpr h
      simp only [List.lookup, hb, if_neg h]
  | (k, x) :: r => by
    have ih := lookup_putF f g v r
    rw [show putF f v ((k, x) :: r) = (if k = f then (k, v) :: r else (k, x) :: putF f v r) from rfl]
    by_cases hk : k = f
    · rw [if_pos hk]
      by_cases h : g = k
      · have hb : (g == k) = true := beq_iff_eq.mpr h
        simp only [List.lookup, hb, if_pos (h.trans hk)]
      · have hb : (g == k) = false := beq_eq_false_iff_ne.mpr h
        simp only [List.lookup, hb, if_neg (fun e : g = f => h (e.trans hk.symm))]
    · rw [if_neg hk]
      by_cases h : g = k
      · have hb : (g == k) = true := beq_iff_eq.mpr h
        simp only [List.lookup, hb, if_neg (fun e : g = f => hk (h.symm.trans e))]
      · have hb : (g == k) = false := beq_eq_false_iff_ne.mpr h
        simp only [List.lookup, hb]
        exact ih
theorem keys_putF (f : Str) (v : V) : ∀ fs : List (Str × V), f ∈ (putF f v fs).map (·.1) ∧ ∀ g, g ∈ fs.map (·.1) → g ∈ (putF f v fs).map (·.1)
  | [] => ⟨by simp [putF], fun g h => by simp at h⟩
  | (k, x) :: r => by
    obtain ⟨i1, i2⟩ := keys_putF f v r
    rw [show putF f v ((k, x) :: r) = (if k = f then (k, v) :: r else (k, x) :: putF f v r) from rfl]
    by_cases hk : k = f
    · rw [if_pos hk]
      subst hk
      exact ⟨by simp, fun g h => by simpa using h⟩
    · rw [if_neg hk]
      refine ⟨?_, fun g h => ?_⟩
      · rw [List.map_cons]
        exact List.mem_cons_of_mem _ i1
      · rw [List.map_cons] at h ⊢
        rcases List.mem_cons.mp h with e | e
        · exact List.mem_cons.mpr (.inl e)
        · exact List.mem_cons_of_mem _ (i2 g e)
theorem length_putF (f : Str) (v : V) : ∀ fs : List (Str × V), (putF f v fs).length ≤ fs.length + 1
  | [] => by simp [putF]
  | (k, x) :: r => by
    have ih := length_putF f v r
    rw [show putF f v ((k, x) :: r) = (if k = f then (k, v) :: r else (k, x) :: putF f v r) from rfl]
    by_cases hk : k = f
    · rw [if_pos hk, List.length_cons, List.length_cons]; omega
    · rw [if_neg hk, List.length_cons, List.length_cons]; omega

theorem RelO.some_of {v : V} {o : Option Value} (r : RelO (some v) o) : ∃ u, o = some u ∧ RelV v u := by
  cases o with
  | none => exact (show False from r).elim
  | some u => exact ⟨u, rfl, r⟩
theorem RelO.none_of {o : Option Value} (r : RelO none o) : o = none := by
  cases o with
  | none => rfl
  | some u => exact (show False from r).elim
theorem handed_of {v : V} {u : Value} (r : RelV v u) : PySem.W.handedIn u = true := by
  cases v with
  | non => cases (show u = Value.none from r); rfl
  | bl b => cases (show u = Value.bool b from r); rfl
  | int i => obtain ⟨t, e⟩ := (show ∃ t, u = Value.int i t from r); cases e; rfl
  | str x => obtain ⟨t, e⟩ := (show ∃ t, u = Value.str x t from r); cases e; rfl
  | byt b => obtain ⟨t, e⟩ := (show ∃ t, u = Value.bytes b t from r); cases e; rfl
  | flt b => obtain ⟨t, e⟩ := (show ∃ t, u = Value.float b t from r); cases e; rfl
  | ref a => cases (show u = Value.ref a from r); rfl
  | ty n => cases (show u = Value.type n from r); rfl

section
variable {P : Program} {w : World} {H H' : Hp} {h h' : Heap} {a C dx : Addr} {fs fs' : List (Str × V)}
theorem ins_get (hok : HOk P w H h) (e : H a = some (.ins C dx fs)) : ∃ mA, ObjM h a dx C mA ∧ (∀ f, RelO (fs.lookup f) (mA f)) ∧ PySem.Within mA (fs.map (·.1)) ∧ fs.length ≤ 1000 ∧ H dx = some (.own a) := by
  obtain ⟨d, z, ne, ob, mA, n, r, q⟩ := (show ObjOk P w H h a (.ins C dx fs) from hok a _ e)
  exact ⟨mA, ⟨ob, n, ne⟩, r, q, z, d⟩
end

/-! ### what of the text a class must have -/
structure Cls (K : PySem.W.Frag) (C : Addr) : Prop where
  pg : PySem.W.plainGet K C Str.empty = true
  hd : PySem.W.hasDictIn K C = true
  po : PySem.W.plainOver K C = true
  sa : PySem.W.findIn K (.ref C) "__setattr__" = some (some (.builtin "object.__setattr__"))
theorem Cls.get {K : PySem.W.Frag} {C : Addr} (c : Cls K C) (f : Str) : PySem.W.plainGet K C f = true := c.pg
/-- no class of it has the name -/
def NoAttr (K : PySem.W.Frag) (C : Addr) (f : Str) : Prop := PySem.W.findIn K (.ref C) f = some none
theorem NoAttr.taker {K : PySem.W.Frag} {C : Addr} {f : Str} (n : NoAttr K C f) : PySem.W.takerIn K C f = some none := by
  unfold PySem.W.takerIn
  rw [show PySem.W.findIn K (.ref C) f = some none from n]
  rfl
/-- a constant of the class -/
structure Con (K : PySem.W.Frag) (C : Addr) (f : Str) (v : V) (u : Value) : Prop where
  at_ : PySem.W.findIn K (.ref C) f = some (some u)
  rel : RelV v u
  get : PySem.W.specialIn K u "__get__" = some none
  cp : PySem.W.copiedNames.contains f = false
/-- a method: a plain def of the class or of one above it -/
structure Meth (K : PySem.W.Frag) (C : Addr) (m : Str) (f : Addr) : Prop where
  at_ : PySem.W.findIn K (.ref C) m = some (some (.ref f))
  fn : PySem.W.isFn K (.ref f) = true
  kp : PySem.W.keepIn K (.ref f) = true

section
variable {X : Cx} {pins : List (Addr × Obj)} {σ : St} {H : Hp} {s : Shared} {a C dx : Addr} {fs : List (Str × V)} {f : Str} {v : V} {A : Around} {E : Value → Shared → Prop}

theorem getattr_ok {b : Bool} {Q : Value → Shared → Prop} (I : Inv X pins σ H s) (e : H a = some (.ins C dx fs)) (c : Cls X.K C) (n : NoAttr X.K C f) (l : fs.lookup f = some v)
    (h : ∀ u s', Inv X pins σ H s' → RelV v u → Q u s') : wpAny (model X.prog X.w) A (getAttr (.ref a) f b) Q E s := by
  obtain ⟨mA, O, r, _, _, _⟩ := ins_get I.hok e
  obtain ⟨u, hu, ru⟩ := RelO.some_of (v := v) (o := mA f) (by rw [← l]; exact r f)
  exact get_map I.kIn O (c.get f) c.hd n hu (handed_of ru) (h u _ (I.tok _) ru)

theorem getcon_ok {b : Bool} {u : Value} {Q : Value → Shared → Prop} (I : Inv X pins σ H s) (e : H a = some (.ins C dx fs)) (c : Cls X.K C) (k : Con X.K C f v u) (l : fs.lookup f = none)
    (h : ∀ s', Inv X pins σ H s' → Q u s') : wpAny (model X.prog X.w) A (getAttr (.ref a) f b) Q E s := by
  obtain ⟨mA, O, r, _, _, _⟩ := ins_get I.hok e
  have hn : mA f = none := RelO.none_of (by rw [← l]; exact r f)
  exact get_const I.kIn O (c.get f) c.hd k.at_ k.get k.cp hn (handed_of k.rel) (h _ (I.tok _))

theorem getmeth_ok {m : Str} {g : Addr} {pl : Sem Bool} {Q : Value × List Value → Shared → Prop} (I : Inv X pins σ H s) (e : H a = some (.ins C dx fs)) (c : Cls X.K C) (k : Meth X.K C m g) (l : fs.lookup m = none)
    (h : Q (.ref g, [.ref a]) s) : wpAny (model X.prog X.w) A (getMethod (.ref a) m pl) Q E s := by
  obtain ⟨mA, O, r, _, _, _⟩ := ins_get I.hok e
  have hn : mA m = none := RelO.none_of (by rw [← l]; exact r m)
  exact get_meth I.kIn O (c.get m) k.at_ k.fn hn h

theorem setattr_ok {y : V} {u : Value} {Q : Unit → Shared → Prop} (I : Inv X pins σ H s) (e : H a = some (.ins C dx fs)) (c : Cls X.K C) (n : NoAttr X.K C f) (hl : fs.length < 1000) (ry : RelV y u)
    (h : ∀ s', Inv X pins σ (upd H a (.ins C dx (putF f y fs))) s' → Q () s') : wpAny (model X.prog X.w) A (setAttr (.ref a) f u) Q E s := by
  obtain ⟨mA, O, r, wi, _, ho⟩ := ins_get I.hok e
  have hz : (fs.map (·.1)).length ≤ sizeLine := by rw [List.length_map, sizeLine_eq]; omega
  refine set_map I.kIn O c.sa c.po n.taker c.hd wi hz fun h' O' sb => h _ ?_
  have hd : ∃ o, h'.get? dx = some o := let ⟨o, _, _, e', _⟩ := O'.ns; ⟨o, e'⟩
  refine I.write (x := a) (e := dx) (by rw [e]; exact True.intro) (.inr ho) (fun b q hb z => (sb.2 b hb).trans z) hd ?_
  refine ⟨by rw [upd_ne O.ne]; exact ho, ?_, O.ne, O'.obj, _, O'.ns, fun g => ?_, fun g hg => ?_⟩
  · have := length_putF f y fs; omega
  · show RelO ((putF f y fs).lookup g) (if g = f then some u else mA g)
    rw [lookup_putF]
    by_cases q : g = f
    · rw [if_pos q, if_pos q]; exact ry
    · rw [if_neg q, if_neg q]; exact r g
  · by_cases q : g = f
    · rw [q]; exact (keys_putF f y fs).1
    · refine (keys_putF f y fs).2 g (wi g fun z => hg ?_)
      show (if g = f then some u else mA g) = none
      rw [if_neg q]; exact z

/-- a new instance, tracked, without attributes -/
theorem Inv.made (I : Inv X pins σ H s) : Inv X pins σ (upd (upd H s.heap.objs.size (.own (s.heap.objs.size + 1))) (s.heap.objs.size + 1) (.ins C s.heap.objs.size []))
    { s with heap := (s.heap.push PySem.W.emptyDict).push (PySem.W.instObj C s.heap.objs.size) } := by
  have e1 : (s.heap.push PySem.W.emptyDict).get? s.heap.objs.size = some PySem.W.emptyDict := Heap.get?_push_size s.heap rfl
  have e2 : ((s.heap.push PySem.W.emptyDict).push (PySem.W.instObj C s.heap.objs.size)).get? (s.heap.objs.size + 1) = some (PySem.W.instObj C s.heap.objs.size) := by
    have := Heap.get?_push_size (s.heap.push PySem.W.emptyDict) (o := PySem.W.instObj C s.heap.objs.size) rfl
    rwa [Heap.size_push] at this
  have e3 : (s.heap.push PySem.W.emptyDict).Ns s.heap.objs.size (fun _ => none) := ⟨PySem.W.emptyDict, #[], _, e1, rfl, (fun e he => absurd he (by simp)), fun _ => rfl⟩
  have I1 := I.laid (a := s.heap.objs.size) (o := .own (s.heap.objs.size + 1)) (h' := s.heap.push PySem.W.emptyDict) (t' := s.toks) (fun b u q => Heap.get?_push_of_some _ q) (Nat.le_refl _) ⟨_, e1⟩
  refine I1.laid (a := s.heap.objs.size + 1) (o := .ins C s.heap.objs.size []) (t' := s.toks) (fun b u q => Heap.get?_push_of_some _ q) (Nat.le_of_eq (Heap.size_push _ _)) ?_
  have ne : s.heap.objs.size ≠ s.heap.objs.size + 1 := Nat.ne_of_lt (Nat.lt_succ_self _)
  refine ⟨by rw [upd_ne ne, upd_same], Nat.zero_le _, ne, e2, fun _ => none, (Heap.Ns1.of_empty e3).at fun o q => Heap.get?_push_of_some _ q, fun _ => True.intro, fun y hy => absurd rfl hy⟩

/-- e.f where nothing but the object is asked: through attributeBase (super) and the last hold -/
theorem attr_of {prog : Program} {w : World} {env : Env} {e : Expr} {f : Str} {pos : Pos} {s : Shared} {Q : Value → Shared → Prop} (hb : attributeBase e f env (eval e env) = eval e env)
    (h : wpAny (model prog w) A (eval e env) (fun o s₁ => wpAny (model prog w) A (getAttr o f true) Q E s₁) E s) : wpAny (model prog w) A (eval (.Attribute e f pos) env) Q E s :=
  Attribute_any_ h (by rw [arm_eval_Attribute, hb])
end

/-! ### readings and rules -/
/-- e.f, an attribute of the instance -/
def tFld (K : PySem.W.Frag) (ta : TE) (f : Str) : TE := fun σ H Q => ta σ H fun x H1 => ∃ a C dx fs v, x = .ref a ∧ H1 a = some (.ins C dx fs) ∧ Cls K C ∧ NoAttr K C f ∧ fs.lookup f = some v ∧ Q v H1
/-- e.f, a constant of the class -/
def tCon (K : PySem.W.Frag) (ta : TE) (f : Str) : TE := fun σ H Q => ta σ H fun x H1 => ∃ a C dx fs v u, x = .ref a ∧ H1 a = some (.ins C dx fs) ∧ Cls K C ∧ Con K C f v u ∧ fs.lookup f = none ∧ Q v H1
/-- e.f = value -/
def sFld (K : PySem.W.Frag) (ta tv : TE) (f : Str) : TS := fun D σ H => tv σ H fun y H1 => ta σ H1 fun x H2 => ∃ a C dx fs, x = .ref a ∧ H2 a = some (.ins C dx fs) ∧ Cls K C ∧ NoAttr K C f ∧ fs.length < 1000 ∧
  D.nx σ (upd H2 a (.ins C dx (putF f y fs)))
/-- an augmented operator on two values -/
def InOp (X : Cx) (op : Operator) (rd : V → V → Hp → VK → Prop) : Prop :=
  ∀ (pins : List (Addr × Obj)) (s : Shared) (σ : St) (H : Hp) (x y : V) (u v : Value) (Q : VK), Inv X pins σ H s → RelV x u → RelV y v → rd x y H Q → wpAny (model X.prog X.w) X.A (inplaceOp op u v) (EP X pins σ Q) X.xe s
/-- e.f op= value -/
def sFldAug (K : PySem.W.Frag) (ta tv : TE) (rd : V → V → Hp → VK → Prop) (f : Str) : TS := fun D σ H => ta σ H fun x H1 => ∃ a C dx fs v, x = .ref a ∧ H1 a = some (.ins C dx fs) ∧ Cls K C ∧ NoAttr K C f ∧ fs.lookup f = some v ∧
  tv σ H1 fun y H2 => rd v y H2 fun z H3 => ∃ dx' fs', H3 a = some (.ins C dx' fs') ∧ fs'.length < 1000 ∧ D.nx σ (upd H3 a (.ins C dx' (putF f z fs')))

section
variable {X : Cx} {o e value : Expr} {f : Str} {pos pos' tpos : Pos} {ta tv : TE}
theorem pe_fld (he : PE X e ta) (hb : attributeBase e f X.env (eval e X.env) = eval e X.env) : PE X (.Attribute e f pos) (tFld X.K ta f) := by
  intro pins s σ H Q I h
  refine attr_of hb (thn (he pins s σ H _ I h) fun u s1 ⟨x, H1, I1, rx, a, C, dx, fs, v, ex, ea, c, n, l, q⟩ => ?_)
  subst ex
  obtain rfl : u = Value.ref a := rx
  exact getattr_ok I1 ea c n l fun u' s2 I2 ru => ⟨v, H1, I2, ru, q⟩
theorem pe_con (he : PE X e ta) (hb : attributeBase e f X.env (eval e X.env) = eval e X.env) : PE X (.Attribute e f pos) (tCon X.K ta f) := by
  intro pins s σ H Q I h
  refine attr_of hb (thn (he pins s σ H _ I h) fun u s1 ⟨x, H1, I1, rx, a, C, dx, fs, v, u0, ex, ea, c, k, l, q⟩ => ?_)
  subst ex
  obtain rfl : u = Value.ref a := rx
  exact getcon_ok I1 ea c k l fun s2 I2 => ⟨v, H1, I2, k.rel, q⟩
theorem ps_fld (ha : PE X o ta) (hv : PE X value tv) (hs : swapsWith value (some (.Attribute o f pos')) pos.line X.env = pure false) : PS X (.Assign [.Attribute o f pos'] value pos) (sFld X.K ta tv f) := by
  intro pins s σ H D I h
  refine plainObj_wpAny_Assign_Attribute (thn (hv pins s σ H _ I h) fun u s1 ⟨y, H1, I1, ry, q⟩ => thn (ha pins s1 σ H1 _ I1 q) fun ov s2 ⟨x, H2, I2, rx, a, C, dx, fs, ex, ea, c, n, l, q2⟩ => ?_) hs
  subst ex
  obtain rfl : ov = Value.ref a := rx
  exact setattr_ok I2 ea c n l ry fun s3 I3 => ⟨σ, _, I3, q2⟩
theorem ps_fldaug {op : Operator} {rd : V → V → Hp → VK → Prop} (ha : PE X o ta) (hv : PE X value tv) (hop : InOp X op rd) : PS X (.AugAssign (.Attribute o f tpos) op value pos) (sFldAug X.K ta tv rd f) := by
  intro pins s σ H D I h
  refine wpAny_AugAssign_AttributeAny (thn (ha pins s σ H _ I h) fun ov s1 ⟨x, H1, I1, rx, a, C, dx, fs, v, ex, ea, c, n, l, q⟩ => ?_)
  subst ex
  obtain rfl : ov = Value.ref a := rx
  refine getattr_ok I1 ea c n l fun u s2 I2 ru => thn (hv pins s2 σ H1 _ I2 q) fun w3 s3 ⟨y, H2, I3, ry, q3⟩ => thn (hop pins s3 σ H2 v y u w3 _ I3 ru ry q3) fun w4 s4 ⟨z, H3, I4, rz, dx', fs', ea', l', q4⟩ => ?_
  exact setattr_ok I4 ea' c n l' rz fun s5 I5 => ⟨σ, _, I5, q4⟩
def rAdd : V → V → Hp → VK → Prop := fun x y H Q => ∃ i j, x = .int i ∧ y = .int j ∧ Q (.int (i + j)) H
def rSub : V → V → Hp → VK → Prop := fun x y H Q => ∃ i j, x = .int i ∧ y = .int j ∧ Q (.int (i - j)) H
theorem in_add : InOp X .Add rAdd := by
  rintro pins s σ H x y u v Q I rx ry ⟨i, j, rfl, rfl, q⟩
  obtain ⟨t, rfl⟩ := (show ∃ t, u = Value.int i t from rx)
  obtain ⟨t', rfl⟩ := (show ∃ t', v = Value.int j t' from ry)
  exact PyProof.Rows.iadd_int ⟨.int (i + j), H, I.tok _, ⟨_, rfl⟩, q⟩
theorem in_sub : InOp X .Sub rSub := by
  rintro pins s σ H x y u v Q I rx ry ⟨i, j, rfl, rfl, q⟩
  obtain ⟨t, rfl⟩ := (show ∃ t, u = Value.int i t from rx)
  obtain ⟨t', rfl⟩ := (show ∃ t', v = Value.int j t' from ry)
  exact PyProof.Rows.isub_int ⟨.int (i - j), H, I.tok _, ⟨_, rfl⟩, q⟩

/-- what is between an instance and its method: the tree of a method call -/
theorem methcall_of {pl : Sem Bool} {m : Str} {apos : Pos} {args : List Expr} {pins : List (Addr × Obj)} {s : Shared} {σ : St} {H : Hp} {Q : Value → Shared → Prop} {te : TE} (he : PE X e te) (I : Inv X pins σ H s)
    (h : te σ H fun x H1 => ∃ a C dx fs g, x = .ref a ∧ H1 a = some (.ins C dx fs) ∧ Cls X.K C ∧ Meth X.K C m g ∧ fs.lookup m = none ∧
      ∀ s1, Inv X pins σ H1 s1 → wpAny (model X.prog X.w) X.A (callWith pos (.ref g) [.ref a] (backTo pos (starEach args X.env)) (backToKw pos (keywordEach [] X.env))) Q X.xe s1)
    (ht : eval (.Call (.Attribute e m apos) args [] pos) X.env = (do
      let ov ← eval e X.env
      standAt apos.atName
      let (f, first) ← holding [ov] (getMethod ov m pl)
      callWith pos f first (backTo pos (starEach args X.env)) (backToKw pos (keywordEach [] X.env)))) :
    wpAny (model X.prog X.w) X.A (eval (.Call (.Attribute e m apos) args [] pos) X.env) Q X.xe s := by
  refine PySem.W.methodCall_KW (pl := pl) (thn (he pins s σ H _ I h) fun u s1 ⟨x, H1, I1, rx, a, C, dx, fs, g, ex, ea, c, k, l, q⟩ => ?_) ht
  subst ex
  obtain rfl : u = Value.ref a := rx
  exact getmeth_ok I1 ea c k l (q s1 I1)
end

/-! ### isinstance -/
section
variable {X : Cx} {pins : List (Addr × Obj)} {σ : St} {H : Hp} {s : Shared} {A : Around} {E : Value → Shared → Prop} {Q : Value → Shared → Prop} {c : Value} {b : Bool}
/-- the type of a value, as the fragment's deciders take it; for an instance its class -/
inductive TyOf (K : PySem.W.Frag) (H : Hp) : V → Value → Prop where
  | non : TyOf K H .non (.type "NoneType")
  | bl (x : Bool) : TyOf K H (.bl x) (.type "bool")
  | int (i : Int) : TyOf K H (.int i) (.type "int")
  | str (x : Str) : TyOf K H (.str x) (.type "str")
  | flt (x : UInt64) : TyOf K H (.flt x) (.type "float")
  | lst {a : Addr} {xs : List V} (e : H a = some (.lst xs)) : TyOf K H (.ref a) (.type "list")
  | frz {a : Addr} {o : Obj} {xs : List V} (e : H a = some (.frz o (.lst xs))) : TyOf K H (.ref a) (.type "list")
  | tup {a : Addr} {xs : List V} (e : H a = some (.tup xs)) : TyOf K H (.ref a) (.type "tuple")
  | dK {a : Addr} {kvs : List (Key × V)} (e : H a = some (.dK kvs)) : TyOf K H (.ref a) (.type "dict")
  | dT {a : Addr} {kvs : List (List Key × V)} (e : H a = some (.dT kvs)) : TyOf K H (.ref a) (.type "dict")
  | ins {a C dx : Addr} {fs : List (Str × V)} (e : H a = some (.ins C dx fs)) (cl : Cls K C) (ha : PySem.W.findIn K (.ref C) "__class__" = some (some (.builtin "object.__class__")))
      (hn : PySem.W.specialIn K (.builtin "object.__class__") "__get__" = some (some (.builtin "getset_descriptor.__get__"))) (htk : PySem.W.takesIn K (.builtin "object.__class__") = some true)
      (hm : PySem.W.mroIn K C (.type "object") = some true) : TyOf K H (.ref a) (.ref C)
/-- isinstance(x, c) for one class c, a built-in or an own one: kitOne's answer -/
theorem isinst_ok {x : V} {u t : Value} (I : Inv X pins σ H s) (rx : RelV x u) (ty : TyOf X.K H x t) (e : PySem.W.kitOne X.K t c = some b) (h : ∀ tk, Q (.bool b) { s with toks := tk }) :
    wpAny (model X.prog X.w) A (call (.builtin "isinstance") [u, c]) Q E s := by
  cases ty with
  | non => cases (show u = Value.none from rx); exact PySem.W.kia_one PySem.W.kitx_none I.kIn True.intro e (fun z => nomatch z) h
  | bl y => cases (show u = Value.bool y from rx); exact PySem.W.kia_one PySem.W.kitx_bool I.kIn True.intro e (fun z => nomatch z) h
  | int i => obtain ⟨t, q⟩ := (show ∃ t, u = Value.int i t from rx); cases q; exact PySem.W.kia_one PySem.W.kitx_int I.kIn True.intro e (fun z => nomatch z) h
  | str y => obtain ⟨t, q⟩ := (show ∃ t, u = Value.str y t from rx); cases q; exact PySem.W.kia_one PySem.W.kitx_str I.kIn True.intro e (fun z => nomatch z) h
  | flt y => obtain ⟨t, q⟩ := (show ∃ t, u = Value.float y t from rx); cases q; exact PySem.W.kia_one PySem.W.kitx_float I.kIn True.intro e (fun z => nomatch z) h
  | @lst a xs ea =>
    cases (show u = Value.ref a from rx)
    obtain ⟨_, _, n, _, h1⟩ := (show ObjOk X.prog X.w H s.heap a (.lst xs) from I.hok a _ ea)
    exact PySem.W.kia_one PySem.W.kitx_list I.kIn ⟨_, h1, rfl⟩ e (fun z => nomatch z) h
  | @frz a ob xs ea =>
    cases (show u = Value.ref a from rx)
    obtain ⟨_, _, _, n, _, h1⟩ := (show ObjOk X.prog X.w H s.heap a (.frz ob (.lst xs)) from I.hok a _ ea)
    exact PySem.W.kia_one PySem.W.kitx_list I.kIn ⟨_, h1, rfl⟩ e (fun z => nomatch z) h
  | @tup a xs ea =>
    cases (show u = Value.ref a from rx)
    obtain ⟨_, _, _, p⟩ := (show ObjOk X.prog X.w H s.heap a (.tup xs) from I.hok a _ ea)
    obtain ⟨o, h1, h2, _⟩ := p
    exact PySem.W.kia_one PySem.W.kitx_tuple I.kIn ⟨o, h1, h2⟩ e (fun z => nomatch z) h
  | @dK a kvs ea =>
    cases (show u = Value.ref a from rx)
    obtain ⟨_, _, vs, _, p⟩ := (show ObjOk X.prog X.w H s.heap a (.dK kvs) from I.hok a _ ea)
    obtain ⟨o, es, ep, h1, h2, _⟩ := p
    exact PySem.W.kia_one PySem.W.kitx_dict I.kIn ⟨o, h1, h2.1⟩ e (fun z => nomatch z) h
  | @dT a kvs ea =>
    cases (show u = Value.ref a from rx)
    obtain ⟨_, _, xs, _, o, es, ep, h1, h2, _⟩ := (show ObjOk X.prog X.w H s.heap a (.dT kvs) from I.hok a _ ea)
    exact PySem.W.kia_one PySem.W.kitx_dict I.kIn ⟨o, h1, h2.1⟩ e (fun z => nomatch z) h
  | @ins a C dx fs ea cl ha hn htk hm =>
    cases (show u = Value.ref a from rx)
    obtain ⟨mA, O, _⟩ := ins_get I.hok ea
    obtain ⟨od, J, _⟩ := O.look
    exact PySem.W.kia_one (PySem.W.kitx_own (cl.get _) cl.hd ha hn htk hm) I.kIn J e (fun z => nomatch z) h
end
end L2

namespace L2
open PySem PySem.Spec PyProof.Rows

/-! ### room -/
structure Room (k : Nat) (A : Around) : Prop where
  hd : A.handled = none
  dp : A.depth + 3 * k + 5 < recursionLimit
  un : A.units + 16 * k + 200 < cLine
theorem Room.mono {j k : Nat} {A : Around} (r : Room k A) (h : j ≤ k) : Room j A := ⟨r.hd, by have := r.dp; omega, by have := r.un; omega⟩
theorem Room.deeper {k : Nat} {A : Around} (r : Room (k + 1) A) (env : Env) : Room k (A.deeper env) :=
  ⟨r.hd, by have := r.dp; show A.depth + 1 + 3 * k + 5 < _; omega, by have := r.un; show A.units + 3 + 16 * k + 200 < _; omega⟩
theorem Room.in1 {k : Nat} {A : Around} (r : Room (k + 1) A) : Room k A.in1 :=
  ⟨r.hd, by have := r.dp; show A.depth + 3 * k + 5 < _; omega, by have := r.un; show A.units + 1 + 16 * k + 200 < _; omega⟩
theorem make_depth {A : Around} {C : Addr} {us : List Value} {kw : List (Str × Value)} : (A.under (.builtin "type.__call__" ⟨.ref C :: us, kw⟩)).depth = A.depth + 1 := by
  first | rfl | simp [Around.under, Code.weight, Code.isCreation, Code.isGuard, Code.isCaller, Code.frames, Code.isFrame, guardIds]
theorem make_units {A : Around} {C : Addr} {us : List Value} {kw : List (Str × Value)} : (A.under (.builtin "type.__call__" ⟨.ref C :: us, kw⟩)).units = A.units + 1 := by
  first | rfl | simp [Around.under, Code.cUnits, Code.frames, Code.isFrame]
theorem Room.make {k : Nat} {A : Around} (r : Room (k + 1) A) (C : Addr) (us : List Value) (kw : List (Str × Value)) : Room k (A.under (.builtin "type.__call__" ⟨.ref C :: us, kw⟩)) :=
  ⟨r.hd, by have := r.dp; rw [make_depth]; omega, by have := r.un; rw [make_units]; omega⟩
theorem Room.depth {k : Nat} {A : Around} (r : Room k A) : A.depth < recursionLimit := by have := r.dp; omega
theorem Room.units {k : Nat} {A : Around} (r : Room k A) : A.units + 64 < cLine := by have := r.un; omega
theorem Room.units0 {k : Nat} {A : Around} (r : Room k A) : A.units < cLine := by have := r.un; omega

/-! ### argument lists and displays -/
def tNil : TA := fun _ H Q => Q [] H
def tCons (ta : TE) (tr : TA) : TA := fun σ H Q => ta σ H fun x H1 => tr σ H1 fun xs H2 => Q (x :: xs) H2
section
variable {X : Cx} {e : Expr} {es : List Expr} {te : TE} {t : TA} {pos : Pos}
theorem pa_nil : PA X [] tNil := fun _ _ _ _ H Q I h => Calls.spliced_nil ⟨[], H, I, .nil, h⟩
theorem pa_cons (ha : PE X e te) (hr : PA X es t) (hs : starEach (e :: es) X.env = (false, eval e X.env) :: starEach es X.env := by rfl) : PA X (e :: es) (tCons te t) := by
  intro pos pins s σ H Q I h
  rw [hs]
  show wpAny _ _ (spliced ((false, eval e X.env) :: backTo pos (starEach es X.env))) _ _ s
  refine Calls.spliced_cons (thn (ha pins s σ H _ I h) fun u s1 ⟨x, H1, I1, r1, q1⟩ => ?_)
  exact thn (hr pos pins s1 σ H1 _ I1 q1) fun us s2 ⟨xs, H2, I2, r2, q2⟩ => ⟨x :: xs, H2, I2, .cons r1 r2, q2⟩

/-- a tuple, a list of written items -/
def tTup (t : TA) : TE := fun σ H Q => t σ H fun xs H1 => xs.length ≤ sizeLine ∧ ∀ p, H1 p = none → Q (.ref p) (upd H1 p (.tup xs))
def tLst (t : TA) : TE := fun σ H Q => t σ H fun xs H1 => xs.length ≤ sizeLine ∧ ∀ p, H1 p = none → Q (.ref p) (upd H1 p (.lst xs))
theorem pe_tup {x1} (h : PA X es t) : PE X (.Tuple es x1 pos) (tTup t) := by
  intro pins s σ H Q I hq
  refine wpAny_Tuple_spliced (thn (h pos pins s σ H _ I hq) fun us s1 ⟨xs, H1, I1, r, z, q⟩ => ⟨by rw [← r.length]; exact z, ?_⟩)
  have hf : H1 s1.heap.objs.size = none := I1.hok.fresh (Nat.le_refl _)
  refine ⟨.ref s1.heap.objs.size, upd H1 s1.heap.objs.size (.tup xs), I1.laid (t' := s1.toks) (fun b u e => Heap.get?_push_of_some _ e) (Nat.le_refl _) ?_, rfl, q _ hf⟩
  exact ⟨z, us, r, ⟨_, Heap.get?_push_size _ rfl, rfl, _, rfl⟩⟩
theorem pe_lst (h : PA X es t) : PE X (.List es pos) (tLst t) := by
  intro pins s σ H Q I hq
  refine wpAny_List_spliced (thn (h pos pins s σ H _ I hq) fun us s1 ⟨xs, H1, I1, r, z, q⟩ => ⟨by rw [← r.length]; exact z, ?_⟩)
  have hf : H1 s1.heap.objs.size = none := I1.hok.fresh (Nat.le_refl _)
  refine ⟨.ref s1.heap.objs.size, upd H1 s1.heap.objs.size (.lst xs), I1.laid (t' := s1.toks) (fun b u e => Heap.get?_push_of_some _ e) (Nat.le_refl _) ?_, rfl, q _ hf⟩
  exact ⟨z, us, 0, r, Heap.get?_push_size _ rfl⟩
end

/-! ### what a def promises -/
/-- a def's promise: the bound arguments in the parameters' order, the heap, the wanted end, the wanted exception -/
abbrev Sp := List V → Hp → VK → XK → Prop
/-- how an exception lies behind a call (file 08 gives it): the callers' frames, abstract heap and state ahead of the call, the wish, the exception, the state -/
abbrev CXT := List Env → Hp → Shared → XK → Value → Shared → Prop

/-- the state at a call -/
structure Env0 (P : Program) (w : World) (K : PySem.W.Frag) (mg : Str → Option Value) (base : Heap) (A : Around) (outer : List Env) (s : Shared) (H : Hp) : Prop where
  frames : A.frames = some outer
  mod : Mod K mg base
  bs : ∀ b o, base.get? b = some o → s.heap.get? b = some o ∧ H b = none
  bsz : base.objs.size ≤ s.heap.objs.size
  funs : s.heap.FunFrames base outer
  frf : ∀ b ∈ frs outer, H b = none
  hok : HOk P w H s.heap
  bare : AllBare s.gens
/-- a call's end -/
def CE (outer : List Env) (P : Program) (w : World) (H : Hp) (s : Shared) (Q : VK) (u : Value) (s' : Shared) : Prop :=
  ∃ v H', s'.os = s.os ∧ AllBare s'.gens ∧ Un (frs outer) [] H H' s.heap s'.heap ∧ HOk P w H' s'.heap ∧ RelV v u ∧ Q v H'
def CR (CX : CXT) (outer : List Env) (P : Program) (w : World) (H : Hp) (s : Shared) (Q : VK) (E : XK) (r : Result) (s' : Shared) : Prop :=
  match r with
  | .ok (.ret u) => CE outer P w H s Q u s'
  | .ok _ => False
  | .error e => CX outer H s E e s'
structure FnOk (P : Program) (w : World) (K : PySem.W.Frag) (mg : Str → Option Value) (base : Heap) (CX : CXT) (k : Nat) (f : Addr) (fd : FuncData) (ps : List Str) (sp : Sp) : Prop where
  len : ∀ vs H Q E, sp vs H Q E → vs.length = ps.length
  run : ∀ (A : Around) (outer : List Env) (s : Shared) (H : Hp) (args : Args) (us : List Value) (vs : List V) (Q : VK) (E : XK), Room k A → Env0 P w K mg base A outer s H → BindsTo s fd args (ps.zip us) → Vals vs us → sp vs H Q E →
    codeAny (model P w) A (.call (.ref f) args) (CR CX outer P w H s Q E) s
theorem FnOk.mono {P : Program} {w : World} {K : PySem.W.Frag} {mg : Str → Option Value} {base : Heap} {CX : CXT} {j k : Nat} {f : Addr} {fd : FuncData} {ps : List Str} {sp : Sp} (F : FnOk P w K mg base CX j f fd ps sp) (h : j ≤ k) :
    FnOk P w K mg base CX k f fd ps sp := ⟨F.len, fun A outer s H args us vs Q E hr => F.run A outer s H args us vs Q E (hr.mono h)⟩
/-- a weaker promise -/
theorem FnOk.imp {P : Program} {w : World} {K : PySem.W.Frag} {mg : Str → Option Value} {base : Heap} {CX : CXT} {k : Nat} {f : Addr} {fd : FuncData} {ps : List Str} {sp sp' : Sp} (F : FnOk P w K mg base CX k f fd ps sp)
    (h : ∀ vs H Q E, sp' vs H Q E → sp vs H Q E) : FnOk P w K mg base CX k f fd ps sp' :=
  ⟨fun vs H Q E q => F.len vs H Q E (h _ _ _ _ q), fun A outer s H args us vs Q E hr he hb hv hs => F.run A outer s H args us vs Q E hr he hb hv (h _ _ _ _ hs)⟩

theorem Env0.make {P : Program} {w : World} {K : PySem.W.Frag} {mg : Str → Option Value} {base : Heap} {A : Around} {outer : List Env} {s : Shared} {H : Hp} (e : Env0 P w K mg base A outer s H) (C : Addr) (us : List Value) (kw : List (Str × Value)) :
    Env0 P w K mg base (A.under (.builtin "type.__call__" ⟨.ref C :: us, kw⟩)) outer s H := ⟨by first | exact e.frames | (simpa [Around.under, Code.envs, Code.isFrame, pushEnvs] using e.frames), e.mod, e.bs, e.bsz, e.funs, e.frf, e.hok, e.bare⟩
theorem Env0.in1 {P : Program} {w : World} {K : PySem.W.Frag} {mg : Str → Option Value} {base : Heap} {A : Around} {outer : List Env} {s : Shared} {H : Hp} (e : Env0 P w K mg base A outer s H) :
    Env0 P w K mg base A.in1 outer s H := ⟨e.frames, e.mod, e.bs, e.bsz, e.funs, e.frf, e.hok, e.bare⟩

section
variable {X : Cx} {pins : List (Addr × Obj)} {σ : St} {H : Hp} {s s' : Shared}
/-- from a body: what a callee wants -/
theorem Inv.env0 (I : Inv X pins σ H s) : Env0 X.prog X.w X.K X.mg X.base X.A X.stack s H :=
  ⟨I.ok.frames, I.ok.mod, I.bs, Nat.le_trans I.ok.bsz I.sz, I.stack, I.stkFree, I.hok, I.bare⟩
/-- behind a call -/
theorem Inv.after {Q : VK} {u : Value} (I : Inv X pins σ H s) (h : CE X.stack X.prog X.w H s Q u s') : EP X pins σ Q u s' := by
  obtain ⟨v, H', os, bare, un, hok, r, q⟩ := h
  obtain ⟨hh, g, d, t, os'⟩ := s'
  obtain rfl : os' = s.os := os
  exact ⟨v, H', I.call (h' := hh) (g' := g) (d' := d) (t' := t) (ch := []) un hok bare (fun b z => absurd z (by simp)), r, q⟩
end

/-! ### calls -/
/-- f(..): the written arguments, then the defaults dvs; E: what is wanted of an exception -/
def tCall (sp : Sp) (dvs : List V) (E : XK) (t : TA) : TE := fun σ H Q => t σ H fun vs H1 => sp (vs ++ dvs) H1 Q E
/-- o.m(..) of an instance of the class at C -/
def tMeth (C : Addr) (m : Str) (sp : Sp) (dvs : List V) (E : XK) (ta : TE) (t : TA) : TE := fun σ H Q => ta σ H fun x H1 => ∃ a dx fs, x = .ref a ∧ H1 a = some (.ins C dx fs) ∧ fs.lookup m = none ∧
  t σ H1 fun vs H2 => sp (x :: (vs ++ dvs)) H2 Q E
/-- C(..): a new instance and its dict, then __init__ -/
def tMake (C : Addr) (sp : Sp) (dvs : List V) (E : XK) (t : TA) : TE := fun σ H Q => t σ H fun vs H1 => ∀ x dx, H1 x = none → H1 dx = none → dx ≠ x →
  sp (.ref x :: (vs ++ dvs)) (upd (upd H1 dx (.own x)) x (.ins C dx [])) (fun v H2 => v = .non ∧ Q (.ref x) H2) E

/-- how the parameters are bound: us the positional arguments, kw the keywords' values by name, ds the defaults that fill up -/
def Binds (K : PySem.W.Frag) (fd : FuncData) (ps : List Str) (ds : List Value) : Prop :=
  ∀ (s : Shared) (us : List Value), K.In s.heap → (us ++ ds).length = ps.length → BindsTo s fd ⟨us, []⟩ (ps.zip (us ++ ds))
/-- every parameter is given -/
theorem Binds.all {K : PySem.W.Frag} {fd : FuncData} {ps : List Str} (h : ∀ us : List Value, us.length = ps.length → bindArgs fd ⟨us, []⟩ = pure (ps.zip us)) : Binds K fd ps [] := fun s us _ hl => by
  rw [List.append_nil] at hl ⊢
  exact .of_eq (h us hl)

/-- an exception of a callee reaches what this body wants of exceptions -/
def Passes (CX : CXT) (X : Cx) (E : XK) : Prop := ∀ (pins : List (Addr × Obj)) (σ : St) (H : Hp) (s : Shared) (e : Value) (s' : Shared), Inv X pins σ H s → CX X.stack H s E e s' → X.xe e s'

section
variable {X : Cx} {CX : CXT} {k : Nat} {f C : Addr} {fd : FuncData} {ps : List Str} {sp : Sp} {dvs : List V} {ds : List Value} {E : XK} {x m : Str} {p pos apos : Pos} {e o : Expr} {es : List Expr} {ta : TE} {t : TA}

/-- the callee runs -/
theorem run_fn {pins : List (Addr × Obj)} {σ : St} {H : Hp} {s : Shared} {Q : VK} {us : List Value} {vs : List V} (F : FnOk X.prog X.w X.K X.mg X.base CX k f fd ps sp) (hr : Room k X.A) (hb : Binds X.K fd ps ds) (hd : Vals dvs ds) (hx : Passes CX X E)
    (I : Inv X pins σ H s) (r : Vals vs us) (h : sp (vs ++ dvs) H Q E) : wpAny (model X.prog X.w) X.A (call (.ref f) us) (EP X pins σ Q) X.xe s := by
  have r2 : Vals (vs ++ dvs) (us ++ ds) := r.append hd
  have hl : (us ++ ds).length = ps.length := by rw [← r2.length]; exact F.len _ _ _ _ h
  refine wpAny_call (codeAny_mono (F.run X.A X.stack s H ⟨us, []⟩ (us ++ ds) (vs ++ dvs) Q E hr I.env0 (hb s us I.kIn hl) r2 h) fun r s' hq => ?_)
  cases r with
  | error e => exact hx pins σ H s e s' I hq
  | ok fl =>
    cases fl with
    | ret u => exact I.after hq
    | next => exact False.elim hq
    | brk => exact False.elim hq
    | cont => exact False.elim hq

theorem pe_call (F : FnOk X.prog X.w X.K X.mg X.base CX k f fd ps sp) (hr : Room k X.A) (hg : Gl X x) (hm : X.mg x = some (.ref f)) (hk : PySem.W.keepIn X.K (.ref f) = true) (hb : Binds X.K fd ps ds) (hd : Vals dvs ds) (hx : Passes CX X E)
    (ha : PA X (e :: es) t) (hdb : (x == ("__debug__" : Str)) = false := by decide) (he : starEach (e :: es) X.env = (false, eval e X.env) :: starEach es X.env := by rfl) (hpl : (backTo pos (starEach es X.env)).any (·.1) = false := by rfl) :
    PE X (.Call (.Name x p) (e :: es) [] pos) (tCall sp dvs E t) := by
  intro pins s σ H Q I h
  refine wpAny_Call_Name_kw (ld_glob I hg hm ?_ hdb)
  refine PySem.W.callWith_K (h₀ := X.base) I.ok.mod.kin hk (thn (ha pos pins s σ H _ I h) fun us s1 ⟨vs, H1, I1, r, q⟩ => ⟨I1.kIn, ?_⟩) he hpl
  exact run_fn F hr hb hd hx I1 r q
theorem pe_call0 (F : FnOk X.prog X.w X.K X.mg X.base CX k f fd ps sp) (hr : Room k X.A) (hg : Gl X x) (hm : X.mg x = some (.ref f)) (hk : PySem.W.keepIn X.K (.ref f) = true) (hb : Binds X.K fd ps ds) (hd : Vals dvs ds) (hx : Passes CX X E)
    (hdb : (x == ("__debug__" : Str)) = false := by decide) : PE X (.Call (.Name x p) [] [] pos) (tCall sp dvs E tNil) := by
  intro pins s σ H Q I h
  refine wpAny_Call_Name_kw (ld_glob I hg hm ?_ hdb)
  exact PySem.W.callWith_K0 I.kIn hk (run_fn (us := []) F hr hb hd hx I .nil h)

/-- o.m(e, ..) -/
theorem pe_meth {pl : Sem Bool} (he : PE X o ta) (c : Cls X.K C) (hm : Meth X.K C m f) (F : FnOk X.prog X.w X.K X.mg X.base CX k f fd ps sp) (hr : Room k X.A) (hb : Binds X.K fd ps ds) (hd : Vals dvs ds) (hx : Passes CX X E) (ha : PA X (e :: es) t)
    (hst : starEach (e :: es) X.env = (false, eval e X.env) :: starEach es X.env := by rfl) (hpl : (backTo pos (starEach es X.env)).any (·.1) = false := by rfl)
    (ht : eval (.Call (.Attribute o m apos) (e :: es) [] pos) X.env = (do
      let ov ← eval o X.env
      standAt apos.atName
      let (f, first) ← holding [ov] (getMethod ov m pl)
      callWith pos f first (backTo pos (starEach (e :: es) X.env)) (backToKw pos (keywordEach [] X.env))) := by rfl) :
    PE X (.Call (.Attribute o m apos) (e :: es) [] pos) (tMeth C m sp dvs E ta t) := by
  intro pins s σ H Q I h
  refine PySem.W.methodCall_KW (pl := pl) (thn (he pins s σ H _ I h) fun u s1 ⟨x, H1, I1, rx, a, dx, fs, ex, ea, l, q⟩ => ?_) ht
  subst ex
  obtain rfl : u = Value.ref a := rx
  refine getmeth_ok I1 ea c hm l ?_
  refine PySem.W.callWith_K (first := [.ref a]) (h₀ := X.base) I.ok.mod.kin hm.kp (thn (ha pos pins s1 σ H1 _ I1 q) fun us s2 ⟨vs, H2, I2, r, q2⟩ => ⟨I2.kIn, ?_⟩) hst hpl
  exact run_fn (us := .ref a :: us) (vs := .ref a :: vs) F hr hb hd hx I2 (.cons rfl r) q2
/-- o.m() -/
theorem pe_meth0 {pl : Sem Bool} (he : PE X o ta) (c : Cls X.K C) (hm : Meth X.K C m f) (F : FnOk X.prog X.w X.K X.mg X.base CX k f fd ps sp) (hr : Room k X.A) (hb : Binds X.K fd ps ds) (hd : Vals dvs ds) (hx : Passes CX X E)
    (ht : eval (.Call (.Attribute o m apos) [] [] pos) X.env = (do
      let ov ← eval o X.env
      standAt apos.atName
      let (f, first) ← holding [ov] (getMethod ov m pl)
      callWith pos f first (backTo pos (starEach [] X.env)) (backToKw pos (keywordEach [] X.env))) := by rfl) :
    PE X (.Call (.Attribute o m apos) [] [] pos) (tMeth C m sp dvs E ta tNil) := by
  intro pins s σ H Q I h
  refine PySem.W.methodCall_KW (pl := pl) (thn (he pins s σ H _ I h) fun u s1 ⟨x, H1, I1, rx, a, dx, fs, ex, ea, l, q⟩ => ?_) ht
  subst ex
  obtain rfl : u = Value.ref a := rx
  refine getmeth_ok I1 ea c hm l ?_
  exact PySem.W.callWith_K0 (first := [.ref a]) I1.kIn hm.kp (run_fn (us := [.ref a]) (vs := [.ref a]) F hr hb hd hx I1 (.cons rfl .nil) q)

/-- what a class must have to be made -/
structure Mk (K : PySem.W.Frag) (C f : Addr) : Prop where
  makes : PySem.W.makesIn K C = true
  init : PySem.W.findIn K (.ref C) "__init__" = some (some (.ref f))
  fn : PySem.W.isFn K (.ref f) = true
  kp : PySem.W.keepIn K (.ref C) = true

theorem run_make {pins : List (Addr × Obj)} {σ : St} {H : Hp} {s : Shared} {Q : VK} {us : List Value} {vs : List V} (M : Mk X.K C f) (F : FnOk X.prog X.w X.K X.mg X.base CX k f fd ps sp) (hr : Room (k + 1) X.A) (hb : Binds X.K fd ps ds) (hd : Vals dvs ds)
    (hx : Passes CX X E) (I : Inv X pins σ H s) (r : Vals vs us)
    (h : ∀ x dx, H x = none → H dx = none → dx ≠ x → sp (.ref x :: (vs ++ dvs)) (upd (upd H dx (.own x)) x (.ins C dx [])) (fun v H2 => v = .non ∧ Q (.ref x) H2) E) :
    wpAny (model X.prog X.w) X.A (call (.ref C) us) (EP X pins σ Q) X.xe s := by
  have hq := h (s.heap.objs.size + 1) s.heap.objs.size (I.hok.fresh (Nat.le_succ _)) (I.hok.fresh (Nat.le_refl _)) (Nat.ne_of_lt (Nat.lt_succ_self _))
  have I2 := Inv.made (C := C) I
  have r2 : Vals (V.ref (s.heap.objs.size + 1) :: (vs ++ dvs)) (Value.ref (s.heap.objs.size + 1) :: (us ++ ds)) := .cons rfl (r.append hd)
  have hl : (Value.ref (s.heap.objs.size + 1) :: us ++ ds).length = ps.length := by
    have e := r2.length
    rw [F.len _ _ _ _ hq] at e
    exact e.symm
  refine wpAny_call (make_map (f := f) I.kIn M.makes M.init (beq_iff_eq.mp M.fn) (codeAny_mono (F.run _ X.stack _ _ ⟨Value.ref (s.heap.objs.size + 1) :: us, []⟩ (Value.ref (s.heap.objs.size + 1) :: (us ++ ds)) _ _ E (hr.make C us [])
    (I2.env0.make C us []) (hb _ (Value.ref (s.heap.objs.size + 1) :: us) I2.kIn hl) r2 hq) fun r s' hq' => ?_))
  cases r with
  | error e => exact hx pins σ _ _ e s' I2 hq'
  | ok fl =>
    cases fl with
    | ret u =>
      obtain ⟨v, H', I3, rv, ev, q3⟩ := I2.after hq'
      subst ev
      exact ⟨rv, ⟨V.ref (s.heap.objs.size + 1), H', I3, rfl, q3⟩⟩
    | next => exact False.elim hq'
    | brk => exact False.elim hq'
    | cont => exact False.elim hq'
theorem pe_make (M : Mk X.K C f) (F : FnOk X.prog X.w X.K X.mg X.base CX k f fd ps sp) (hr : Room (k + 1) X.A) (hg : Gl X x) (hm : X.mg x = some (.ref C)) (hb : Binds X.K fd ps ds) (hd : Vals dvs ds) (hx : Passes CX X E)
    (ha : PA X (e :: es) t) (hdb : (x == ("__debug__" : Str)) = false := by decide) (he : starEach (e :: es) X.env = (false, eval e X.env) :: starEach es X.env := by rfl) (hpl : (backTo pos (starEach es X.env)).any (·.1) = false := by rfl) :
    PE X (.Call (.Name x p) (e :: es) [] pos) (tMake C sp dvs E t) := by
  intro pins s σ H Q I h
  refine wpAny_Call_Name_kw (ld_glob I hg hm ?_ hdb)
  refine PySem.W.callWith_K (h₀ := X.base) I.ok.mod.kin M.kp (thn (ha pos pins s σ H _ I h) fun us s1 ⟨vs, H1, I1, r, q⟩ => ⟨I1.kIn, ?_⟩) he hpl
  exact run_make M F hr hb hd hx I1 r q
theorem pe_make0 (M : Mk X.K C f) (F : FnOk X.prog X.w X.K X.mg X.base CX k f fd ps sp) (hr : Room (k + 1) X.A) (hg : Gl X x) (hm : X.mg x = some (.ref C)) (hb : Binds X.K fd ps ds) (hd : Vals dvs ds) (hx : Passes CX X E)
    (hdb : (x == ("__debug__" : Str)) = false := by decide) : PE X (.Call (.Name x p) [] [] pos) (tMake C sp dvs E tNil) := by
  intro pins s σ H Q I h
  refine wpAny_Call_Name_kw (ld_glob I hg hm ?_ hdb)
  exact PySem.W.callWith_K0 I.kIn M.kp (run_make (us := []) M F hr hb hd hx I .nil h)
end

/-! ### keywords -/
/-- the values of the keywords, from the left -/
def PK (X : Cx) (kws : List Keyword) (t : TA) : Prop :=
  ∀ (pos : Pos) (pins : List (Addr × Obj)) (s : Shared) (σ : St) (H : Hp) (Q : List V → Hp → Prop), Inv X pins σ H s → t σ H Q → wpAny (model X.prog X.w) X.A (evalAll ((backToKw pos (keywordEach kws X.env)).map (·.2))) (AP X pins σ Q) X.xe s
section
variable {X : Cx} {CX : CXT} {k : Nat} {f C : Addr} {fd : FuncData} {ps ks : List Str} {sp : Sp} {E : XK} {x m : Str} {p pos apos kpos : Pos} {e o : Expr} {es : List Expr} {kws : List Keyword} {te ta : TE} {t tk : TA} {nm : Option Str}
theorem pk_nil : PK X [] tNil := fun _ _ _ _ H Q I h => wpAny_evalAll_nil ⟨[], H, I, .nil, h⟩
theorem pk_cons (ha : PE X e te) (hr : PK X kws t) : PK X (⟨nm, e, kpos⟩ :: kws) (tCons te t) := by
  intro pos pins s σ H Q I h
  show wpAny _ _ (evalAll ((do let v ← eval e X.env; standAt pos; pure v) :: (backToKw pos (keywordEach kws X.env)).map (·.2))) _ _ s
  refine wpAny_evalAll_cons (wpAny_bind (thn (ha pins s σ H _ I h) fun u s1 ⟨x, H1, I1, r1, q1⟩ => wpAny_bind (wpAny_standAt (wpAny_pure ?_))))
  exact thn (hr pos pins s1 σ H1 _ I1 q1) fun us s2 ⟨xs, H2, I2, r2, q2⟩ => ⟨x :: xs, H2, I2, .cons r1 r2, q2⟩

/-- how a call with keywords binds: g puts the positional values us and the keywords' values ws (names ks) in the parameters' order, defaults among them -/
structure KBinds (K : PySem.W.Frag) (fd : FuncData) (ps ks : List Str) (g : List Value → List Value → List Value) (gV : List V → List V → List V) : Prop where
  to : ∀ (s : Shared) (us ws : List Value), K.In s.heap → (g us ws).length = ps.length → BindsTo s fd ⟨us, ks.zip ws⟩ (ps.zip (g us ws))
  rel : ∀ {vs : List V} {us : List Value} {zs : List V} {ws : List Value}, Vals vs us → Vals zs ws → Vals (gV vs zs) (g us ws)
def tCallK (sp : Sp) (gV : List V → List V → List V) (E : XK) (t tk : TA) : TE := fun σ H Q => t σ H fun vs H1 => tk σ H1 fun zs H2 => sp (gV vs zs) H2 Q E
variable {g : List Value → List Value → List Value} {gV : List V → List V → List V}
theorem run_fnk {pins : List (Addr × Obj)} {σ : St} {H : Hp} {s : Shared} {Q : VK} {us ws : List Value} {vs zs : List V} (F : FnOk X.prog X.w X.K X.mg X.base CX k f fd ps sp) (hr : Room k X.A) (hb : KBinds X.K fd ps ks g gV) (hx : Passes CX X E)
    (I : Inv X pins σ H s) (r : Vals vs us) (rz : Vals zs ws) (h : sp (gV vs zs) H Q E) : wpAny (model X.prog X.w) X.A (call (.ref f) us (ks.zip ws)) (EP X pins σ Q) X.xe s := by
  have r2 := hb.rel r rz
  have hl : (g us ws).length = ps.length := by rw [← r2.length]; exact F.len _ _ _ _ h
  refine wpAny_call (codeAny_mono (F.run X.A X.stack s H ⟨us, ks.zip ws⟩ (g us ws) (gV vs zs) Q E hr I.env0 (hb.to s us ws I.kIn hl) r2 h) fun r s' hq => ?_)
  cases r with
  | error e => exact hx pins σ H s e s' I hq
  | ok fl =>
    cases fl with
    | ret u => exact I.after hq
    | next => exact False.elim hq
    | brk => exact False.elim hq
    | cont => exact False.elim hq
/-- f(e, .., k = v, ..) -/
theorem pe_callK (F : FnOk X.prog X.w X.K X.mg X.base CX k f fd ps sp) (hr : Room k X.A) (hg : Gl X x) (hm : X.mg x = some (.ref f)) (hk : PySem.W.keepIn X.K (.ref f) = true) (hb : KBinds X.K fd ps ks g gV) (hx : Passes CX X E)
    (ha : PA X (e :: es) t) (hkw : PK X kws tk) (hall : (backToKw pos (keywordEach kws X.env)).all (·.1.isSome) = true := by rfl) (hks : (backToKw pos (keywordEach kws X.env)).filterMap (·.1) = ks := by rfl)
    (hdb : (x == ("__debug__" : Str)) = false := by decide) (he : starEach (e :: es) X.env = (false, eval e X.env) :: starEach es X.env := by rfl)
    (hpl : ((backTo pos (starEach (e :: es) X.env)).any (·.1) || (backToKw pos (keywordEach kws X.env)).any (·.1.isNone)) = false := by rfl) :
    PE X (.Call (.Name x p) (e :: es) kws pos) (tCallK sp gV E t tk) := by
  intro pins s σ H Q I h
  refine wpAny_Call_Name_kw (ld_glob I hg hm ?_ hdb)
  refine PySem.W.callWith_KW (h₀ := X.base) I.ok.mod.kin hk hall (thn (ha pos pins s σ H _ I h) fun us s1 ⟨vs, H1, I1, r, q⟩ => ?_) hpl he
  refine thn (hkw pos pins s1 σ H1 _ I1 q) fun ws s2 ⟨zs, H2, I2, rz, q2⟩ => ⟨I2.kIn, ?_⟩
  rw [hks]
  exact run_fnk F hr hb hx I2 r rz q2
end

/-! ### a def's body keeps its promise -/
/-- names: the parameters first -/
structure FnScope (N P : List Str) (sc : Scope) : Prop where
  kind : sc.kind = .function
  co : sc.isCoroutine = false
  gen : sc.isGenerator = false
  nd : N.Nodup
  pre : N.take P.length = P
  par : ∀ x ∈ P, sc.names.lookup x = some .local ∨ sc.names.lookup x = some .cell
  nofree : ∀ y ∈ sc.names, y.2 ≠ .free

theorem bindL_out {kindOf : Str → Option NameKind} {x : Str} : ∀ {binds : List (Str × Value)} {m : Str → Option Value}, (∀ v, (x, v) ∉ binds) → bindL kindOf binds m x = m x
  | [], _, _ => rfl
  | (n, v) :: r, m, h => by
    unfold bindL
    rw [bindL_out fun w hw => h w (List.mem_cons_of_mem _ hw)]
    split
    · have : x ≠ n := by rintro rfl; exact h v List.mem_cons_self
      simp [this]
    · rfl
theorem bindC_out {kindOf : Str → Option NameKind} {x : Str} : ∀ {binds : List (Str × Value)} {m : Str → Option Value}, (∀ v, (x, v) ∉ binds) → bindC kindOf binds m x = m x
  | [], _, _ => rfl
  | (n, v) :: r, m, h => by
    unfold bindC
    rw [bindC_out fun w hw => h w (List.mem_cons_of_mem _ hw)]
    split
    · rfl
    · have : x ≠ n := by rintro rfl; exact h v List.mem_cons_self
      simp [this]
theorem bindL_get {kindOf : Str → Option NameKind} {x : Str} {v : Value} : ∀ {P : List Str} {vs : List Value} {i : Nat} {m : Str → Option Value}, P.Nodup → P[i]? = some x → vs[i]? = some v → kindOf x = some .local →
    bindL kindOf (P.zip vs) m x = some v
  | [], _, _, _, _, h, _, _ => by simp at h
  | _ :: _, [], _, _, _, _, h, _ => by simp at h
  | p :: P, w :: vs, 0, m, nd, h1, h2, hk => by
    simp at h1 h2; subst h1; subst h2
    show bindL kindOf ((p, w) :: P.zip vs) m p = _
    unfold bindL
    rw [bindL_out fun v hv => (List.nodup_cons.mp nd).1 (List.of_mem_zip hv).1, if_pos hk]
    simp
  | p :: P, w :: vs, i + 1, m, nd, h1, h2, hk => by
    show bindL kindOf ((p, w) :: P.zip vs) m x = _
    unfold bindL
    exact bindL_get (i := i) (List.nodup_cons.mp nd).2 (by simpa using h1) (by simpa using h2) hk
theorem bindC_get {kindOf : Str → Option NameKind} {x : Str} {v : Value} : ∀ {P : List Str} {vs : List Value} {i : Nat} {m : Str → Option Value}, P.Nodup → P[i]? = some x → vs[i]? = some v → kindOf x ≠ some .local →
    bindC kindOf (P.zip vs) m x = some v
  | [], _, _, _, _, h, _, _ => by simp at h
  | _ :: _, [], _, _, _, _, h, _ => by simp at h
  | p :: P, w :: vs, 0, m, nd, h1, h2, hk => by
    simp at h1 h2; subst h1; subst h2
    show bindC kindOf ((p, w) :: P.zip vs) m p = _
    unfold bindC
    rw [bindC_out fun v hv => (List.nodup_cons.mp nd).1 (List.of_mem_zip hv).1, if_neg hk]
    simp
  | p :: P, w :: vs, i + 1, m, nd, h1, h2, hk => by
    show bindC kindOf ((p, w) :: P.zip vs) m x = _
    unfold bindC
    exact bindC_get (i := i) (List.nodup_cons.mp nd).2 (by simpa using h1) (by simpa using h2) hk

/-- the names' values at the entry -/
def start (N : List Str) (vs : List V) : St := vs.map some ++ List.replicate (N.length - vs.length) none

/-- the context of a def's body, at its entry; an exception leaves the frame, then lies as CX says -/
def cxOf (CX : CXT) (P : Program) (w : World) (K : PySem.W.Frag) (mg : Str → Option Value) (base : Heap) (N : List Str) (qual : Str) (scope : Scope) (f : Addr) (cd : Value) (A : Around) (outer : List Env) (s : Shared) (H : Hp) (E : XK) : Cx where
  prog := P
  w := w
  K := K
  mg := mg
  base := base
  A := A.deeper (envOfC qual scope s.heap.objs.size f cd)
  N := N
  s₀ := s
  H₀ := H
  env := envOfC qual scope s.heap.objs.size f cd
  outer := outer
  stack := envOfC qual scope s.heap.objs.size f cd :: outer
  ex := []
  calm := true
  fn := fun _ => true
  pn := []
  xe := fun e s' => wpAny (model P w) (A.deeper (envOfC qual scope s.heap.objs.size f cd)) (leaving (envOfC qual scope s.heap.objs.size f cd) e) (fun _ s'' => CX outer H s E e s'') (fun e' s'' => CX outer H s E e' s'') s'

theorem cell_has {sc : Scope} {n : Nat} {x : Str} (h : sc.names.lookup x = some .cell) : ∃ c, (cellsFrom n sc.names []).lookup x = some c := by
  have q := PySem.W.cellsFrom_some sc.names n [] (.inl h)
  exact Option.isSome_iff_exists.mp q

theorem inv_start {CX : CXT} {P : Program} {w : World} {K : PySem.W.Frag} {mg : Str → Option Value} {base : Heap} {N ps : List Str} {qual : Str} {scope : Scope} {f : Addr} {cd : Value} {A : Around} {outer : List Env} {s s1 : Shared} {H : Hp} {E : XK} {us : List Value} {vs : List V}
    (S : FnScope N ps scope) (hd : A.handled = none) (e0 : Env0 P w K mg base A outer s H) (hl : vs.length = ps.length) (r : Vals vs us)
    (x : InCallC s s.heap.objs.size (bindL (envOfC qual scope s.heap.objs.size f cd).kindOf (ps.zip us) fun _ => none) (cellsFrom (s.heap.objs.size + 1) scope.names []) (bindC (envOfC qual scope s.heap.objs.size f cd).kindOf (ps.zip us) fun _ => none) s1) :
    Inv (cxOf CX P w K mg base N qual scope f cd A outer s H E) [] (start N vs) H s1 := by
  have hpl : ps.length ≤ N.length := by have := congrArg List.length S.pre; rw [List.length_take] at this; omega
  obtain ⟨h1, tk, rfl, hk⟩ := x.done
  have noA : ∀ b : Addr, b ∉ (cxOf CX P w K mg base N qual scope f cd A outer s H E).ex := fun b z => absurd (show b ∈ ([] : List Addr) from z) (by simp)
  refine ⟨⟨e0.mod, S.kind, rfl, rfl, Nat.le_refl _, fun y z c h1 h2 => ?_, fun y hy => ?_, fun y c _ h => ?_, fun _ => hd, Around.frames_deeper e0.frames, .inr ⟨rfl, rfl⟩, fun b z => absurd z (noA b), e0.bs, e0.bsz, fun b _ _ => noA b, fun b z => absurd z (noA b), e0.funs, e0.frf⟩,
    rfl, e0.bare, Un.kept hk, ⟨_, x.toInCall.ns, fun i y v h1 h2 h3 => ?_⟩, fun y c h => ⟨_, x.cell y c h⟩, e0.hok.fresh (Nat.le_refl _), fun y c h => ?_, fun p hp => absurd (show p ∈ ([] : List (Addr × Obj)) from hp) (by simp), e0.hok.kept hk, ?_⟩
  · exact name_of_addr x.apart (PySem.mem_of_lookup h1) (PySem.mem_of_lookup h2)
  · have hy : scope.names.lookup y = some .cell ∨ scope.names.lookup y = some .free := hy
    rcases hy with hy | hy
    · exact cell_has hy
    · exact absurd rfl (S.nofree _ (PySem.mem_of_lookup hy))
  · exact Nat.le_of_lt (x.above y c (PySem.mem_of_lookup h))
  · have hi : i < vs.length := by
      unfold start at h2
      by_cases hi : i < vs.length
      · exact hi
      · rw [List.getElem?_append_right (by simpa using hi)] at h2
        rw [List.getElem?_replicate] at h2
        split at h2 <;> cases h2
    have ha : vs[i]? = some v := by
      unfold start at h2
      rw [List.getElem?_append_left (by simpa using hi), List.getElem?_map] at h2
      cases e : vs[i]? with
      | none => rw [e] at h2; cases h2
      | some a => rw [e] at h2; cases h2; rfl
    obtain ⟨u, hu, rv⟩ := r.get ha
    have hp : ps[i]? = some y := by
      rw [← S.pre, List.getElem?_take_of_lt (by omega)]; exact h1
    have ndP : ps.Nodup := by rw [← S.pre]; exact S.nd.sublist (List.take_sublist _ _)
    refine ⟨u, rv, ?_⟩
    rcases S.par y (List.mem_of_getElem? hp) with k | k
    · exact .inl ⟨k, bindL_get ndP hp hu k⟩
    · obtain ⟨c, e⟩ := cell_has (n := s.heap.objs.size + 1) k
      refine .inr ⟨.inl k, c, e, ?_⟩
      have q := x.cell y c e
      rw [bindC_get ndP hp hu (by show scope.names.lookup y ≠ _; rw [k]; decide)] at q
      exact q
  · exact e0.hok.fresh (Nat.le_of_lt (x.above y c (PySem.mem_of_lookup h)))
  · unfold start
    show _ = N.length
    rw [List.length_append, List.length_map, List.length_replicate]
    omega

/-- THE RULE: a def (or a method) of the text, by its body. The body's reading t is chosen for each entry; it is run at the parameters' values -/
theorem fn_of {CX : CXT} {P : Program} {w : World} {K : PySem.W.Frag} {mg : Str → Option Value} {base : Heap} {k : Nat} {f : Addr} {name qual : Str} {params : Arguments} {body : List Stmt} {scope : Scope} {dV kV doc pm cdv ct oc : Value} {an od : Option Addr}
    {osl : Array (Option Value)} {N ps : List Str} {sp : Sp} (lk : K.lookup f = some ⟨oc, od, .func (PySem.W.fnOf name qual params body scope dV kV doc pm an cdv ct), osl⟩) (hcd : PySem.W.codeIn K cdv qual = true) (S : FnScope N ps scope)
    (len : ∀ vs H Q E, sp vs H Q E → vs.length = ps.length)
    (hbody : ∀ (A : Around) (outer : List Env) (s : Shared) (H : Hp) (vs : List V) (Q : VK) (E : XK), Room k (A.deeper (envOfC qual scope s.heap.objs.size f cdv)) → sp vs H Q E →
      ∃ t, PSs (cxOf CX P w K mg base N qual scope f cdv A outer s H E) body t ∧ t { nx := fun _ H' => Q .non H', rt := Q } (start N vs) H) :
    FnOk P w K mg base CX (k + 1) f (PySem.W.fnOf name qual params body scope dV kV doc pm an cdv ct) ps sp := by
  refine ⟨len, fun A outer s H args us vs Q E hr e0 hb r hsp => ?_⟩
  have hl := len _ _ _ _ hsp
  have KX : K.In s.heap := e0.mod.kin.keeps fun b o e => (e0.bs b o e).1
  have lim : s.heap.NoLimit := e0.mod.nolimit.keeps fun b o e => (e0.bs b o e).1
  have hkind : ∀ y ∈ ps.zip us, scope.names.lookup y.1 = some .local ∨ (scope.names.lookup y.1 = some .cell ∧ ((cellsFrom (s.heap.objs.size + 1) scope.names []).lookup y.1).isSome = true) := fun ⟨n, v⟩ hy => by
    rcases S.par n (List.of_mem_zip hy).1 with q | q
    · exact .inl q
    · exact .inr ⟨q, PySem.W.cellsFrom_some _ _ _ (.inl q)⟩
  refine codeAny_call_function hr.depth (KX _ _ lk) rfl S.co S.gen rfl (PySem.W.codeRec_of KX hcd) (hb _ _ _ _ ?_)
  refine wpAny_newFunctionEnv_cells S.kind hkind fun env he s1 x => ?_
  subst he
  refine ⟨lim.keeps x.toInCall.keep, codeAny_func ?_⟩
  obtain ⟨t, ht, hq⟩ := hbody A outer s H vs Q E (hr.deeper _) hsp
  have I : Inv (cxOf CX P w K mg base N qual scope f cdv A outer s H E) [] (start N vs) H s1 := inv_start S hr.hd e0 hl r x
  refine wpAny_mono (ht [] s1 (start N vs) H _ I hq) (fun fl s' hs => ?_) fun e s' hs => hs
  have fin : ∀ {σ' : St} {H' : Hp} {v : V} {u : Value}, Inv (cxOf CX P w K mg base N qual scope f cdv A outer s H E) [] σ' H' s' → RelV v u → Q v H' → CE outer P w H s Q u s' :=
    fun {σ' H' v u} J rv q => ⟨v, H', J.os, J.bare, J.base, J.hok, rv, q⟩
  cases fl with
  | ret u =>
    obtain ⟨v, σ', H', J, rv, q⟩ := hs
    exact fin J rv q
  | next =>
    obtain ⟨σ', H', J, q⟩ := hs
    exact fin (v := V.non) (u := Value.none) J rfl q
  | brk =>
    obtain ⟨_, _, _, q⟩ := hs
    exact False.elim q
  | cont =>
    obtain ⟨_, _, _, q⟩ := hs
    exact False.elim q
end L2

namespace L2
open PySem PySem.Spec PyProof.Rows
section
variable {X : Cx} {x : Str} {p pos : Pos} {e : Expr} {es : List Expr} {t : TA} {id T : String} {r : List V → Hp → VK → Prop}

def tCB (r : List V → Hp → VK → Prop) (t : TA) : TE := fun σ H Q => t σ H fun vs H1 => r vs H1 Q
/-- f(e, ..), f a built-in function -/
theorem pe_callB (hc : CallR X (.builtin id) r) (hg : Gl X x) (hm : X.mg x = none) (hv : bootBuiltins x = some (.builtin id)) (ha : PA X (e :: es) t) (hn : x ≠ "__name__" := by decide) (hdb : (x == ("__debug__" : Str)) = false := by decide)
    (he : starEach (e :: es) X.env = (false, eval e X.env) :: starEach es X.env := by rfl) (hpl : (backTo pos (starEach es X.env)).any (·.1) = false := by rfl) : PE X (.Call (.Name x p) (e :: es) [] pos) (tCB r t) := by
  intro pins s σ H Q I h
  refine wpAny_Call_Name_kw (ld_blt I hg hm hv ?_ hn hdb)
  exact PyProof.Rows.callWith_builtin1 (thn (ha pos pins s σ H _ I h) fun us s1 ⟨vs, H1, I1, r1, q1⟩ => hc pins s1 σ H1 vs us Q I1 r1 q1) he hpl
/-- T(e, ..), T a built-in type -/
theorem pe_callTy (hc : CallR X (.type T) r) (hg : Gl X x) (hm : X.mg x = none) (hv : bootBuiltins x = some (.type T)) (ha : PA X (e :: es) t) (hn : x ≠ "__name__" := by decide) (hdb : (x == ("__debug__" : Str)) = false := by decide)
    (he : starEach (e :: es) X.env = (false, eval e X.env) :: starEach es X.env := by rfl) (hpl : (backTo pos (starEach es X.env)).any (·.1) = false := by rfl) : PE X (.Call (.Name x p) (e :: es) [] pos) (tCB r t) := by
  intro pins s σ H Q I h
  refine wpAny_Call_Name_kw (ld_blt I hg hm hv ?_ hn hdb)
  exact PyProof.Rows.callWith_type1 (thn (ha pos pins s σ H _ I h) fun us s1 ⟨vs, H1, I1, r1, q1⟩ => hc pins s1 σ H1 vs us Q I1 r1 q1) he hpl
/-- T() -/
theorem pe_callTy0 (hc : CallR X (.type T) r) (hg : Gl X x) (hm : X.mg x = none) (hv : bootBuiltins x = some (.type T)) (hn : x ≠ "__name__" := by decide) (hdb : (x == ("__debug__" : Str)) = false := by decide) :
    PE X (.Call (.Name x p) [] [] pos) (tCB r tNil) := by
  intro pins s σ H Q I h
  refine wpAny_Call_Name_kw (ld_blt I hg hm hv ?_ hn hdb)
  exact PyProof.Rows.callWith_type0 (hc pins s σ H [] [] Q I .nil h)
end
end L2


end

section
set_option Elab.async false
set_option linter.all false
set_option maxRecDepth 100000
namespace HT
open PySem PyProof.Rows

/-- t < u of tuples of ints -/
def lexLt : List Int → List Int → Bool
  | [], [] => false
  | [], _ :: _ => true
  | _ :: _, [] => false
  | x :: xs, y :: ys => if x = y then lexLt xs ys else decide (x < y)
theorem lexLt_cons (x y : Int) (xs ys : List Int) : lexLt (x :: xs) (y :: ys) = if x = y then lexLt xs ys else decide (x < y) := rfl
theorem lexLt_nil_nil : lexLt [] [] = false := rfl
theorem lexLt_nil_cons (y : Int) (ys : List Int) : lexLt [] (y :: ys) = true := rfl
theorem lexLt_cons_nil (x : Int) (xs : List Int) : lexLt (x :: xs) [] = false := rfl

theorem eqAt_int (A : Around) (s : Shared) (a : Int) (t : Tok) (c : Int) (u : Tok) : ∃ e, SeqAt.EqAt A s (.int a t) (.int c u) e ∧ (e = true ↔ a = c) :=
  ⟨(a == c), SeqAt.EqAt.int_int a t c u, by simp⟩
theorem rcLt_int (A : Around) (s : Shared) (a : Int) (t : Tok) (c : Int) (u : Tok) (prog : Program) (w : World) (E : Value → Shared → Prop) (Q : Value → Shared → Prop) (h : Q (.bool (decide (a < c))) s) :
    wpAny (model prog w) A (richCompare .Lt (.int a t) (.int c u)) Q E s :=
  (PyProof.Rows.lt_int h : wpAny (model prog w) A (compareOp .Lt (.int a t) (.int c u)) Q E s)

section
open PySem.SeqAt
open PySem.AutoSeq1 (wpAny_loadPart')
open PySem.MeetsSeq PySem.MeetsSeq2 PySem.MeetsSeq3

theorem tuple_lt_ints (l b : Addr) (items items2 : Array Value) (n n2 : Nat) (dd dd2 : Option Addr) (sl sl2 : Array (Option Value)) (ns ms : List Int) (hi : IntsAre items.toList ns) (hj : IntsAre items2.toList ms) :
    Meets (Builtin.«tuple.__lt__» ⟨[.ref l, .ref b], []⟩)
      (fun _ R s => s.heap.get? l = some { cls := .type "tuple", dict := dd, data := .seq items n, slots := sl } ∧ s.heap.get? b = some { cls := .type "tuple", dict := dd2, data := .seq items2 n2, slots := sl2 } ∧
        R (.ok (.ret (.bool (lexLt ns ms)))) s) :=
  .of_wp fun prog w A R s h => by
    obtain ⟨hp, g, d, tk, os⟩ := s; obtain ⟨hl, hb, h⟩ := h
    have f2 := AutoSeq1.sub_tuple_tuple
    have z1 : items.size = ns.length := by rw [← hi.length]; simp
    have z2 : items2.size = ms.length := by rw [← hj.length]; simp
    wp_walk using wpAny_loadPart' hl, wpAny_loadPart' hb, wpAny_forIn_list _ (fun rest b s' => b.1 = none ∧ s' = ⟨hp, g, d, tk, os⟩ ∧ ∃ (vs ws : List Value) (ns' ms' : List Int), rest = vs.zip ws ∧
      IntsAre vs ns' ∧ IntsAre ws ms' ∧ ns'.length + items2.size = ms'.length + items.size ∧ R (.ok (.ret (.bool (lexLt ns' ms')))) ⟨hp, g, d, tk, os⟩) _
    case turn =>
      rintro ⟨y, x⟩ rest b s' ⟨hb', rfl, vs, ws, ns', ms', hz, hvi, hwi, hlen, hR⟩
      cases hvi with
      | nil => rw [List.zip_nil_left] at hz; cases hz
      | cons a t hvi' =>
        cases hwi with
        | nil => rw [List.zip_nil_right] at hz; cases hz
        | cons c u hwi' =>
          rw [List.zip_cons_cons] at hz
          injection hz with hyx hrest
          injection hyx with hy hx
          subst hy hx
          rw [lexLt_cons] at hR
          simp only [List.length_cons] at hlen
          obtain ⟨e, he, hiff⟩ := eqAt_int A.in1 ⟨hp, g, d, tk, os⟩ a t c u
          refine wpAny_bind (he prog w _ _ ?_)
          cases e with
          | true =>
            rw [if_pos (hiff.mp rfl)] at hR
            wp_walk
            exact ⟨rfl, rfl, _, _, _, _, hrest, hvi', hwi', by omega, hR⟩
          | false =>
            rw [if_neg (fun q => absurd (hiff.mpr q) Bool.false_ne_true)] at hR
            have hri := rcLt_int A.in1 ⟨hp, g, d, tk, os⟩ a t c u prog w
            wp_walk using hri
            exact ⟨_, rfl, by simpa using hR⟩
    case fin =>
      rintro ⟨b1, b2⟩ s' ⟨hb', rfl, vs, ws, ns', ms', hz, hvi, hwi, hlen, hR⟩
      simp only at hb'
      subst hb'
      have hv : lexLt ns' ms' = decide (items.size < items2.size) := by
        cases hvi with
        | nil =>
          cases hwi with
          | nil =>
            simp only [List.length_nil] at hlen
            rw [lexLt_nil_nil]
            exact (decide_eq_false (by omega)).symm
          | cons c u hw =>
            simp only [List.length_nil, List.length_cons] at hlen
            rw [lexLt_nil_cons]
            exact (decide_eq_true (by omega)).symm
        | cons a t hv =>
          cases hwi with
          | nil =>
            simp only [List.length_nil, List.length_cons] at hlen
            rw [lexLt_cons_nil]
            exact (decide_eq_false (by omega)).symm
          | cons c u hw =>
            rw [List.zip_cons_cons] at hz
            cases hz
      rw [hv] at hR
      wp_walk
      exact ⟨_, rfl, by simpa [Builtin.Tuple.tupleCompareSizes] using hR⟩
    case h =>
      exact ⟨rfl, rfl, items.toList, items2.toList, ns, ms, rfl, hi, hj, by omega, h⟩
end

section
variable {prog : Program} {w : World} {A : Around} {E : Value → Shared → Prop} {s : Shared}

theorem lt_tupInts {l b : Addr} {items items2 : Array Value} {ns ms : List Int} {Q : Value → Shared → Prop} (hl : IsTup s.heap l items) (hb : IsTup s.heap b items2) (hi : IntsAre items.toList ns) (hj : IntsAre items2.toList ms)
    (hu : A.units < cLine) (h : Q (.bool (lexLt ns ms)) s) : wpAny (model prog w) A (compareOp .Lt (.ref l) (.ref b)) Q E s := by
  obtain ⟨⟨cls, dd, data, sl⟩, ho, hc, n, hd⟩ := id hl
  obtain ⟨⟨cls2, dd2, data2, sl2⟩, ho2, hc2, n2, hd2⟩ := id hb
  simp only at hc hd hc2 hd2
  subst hc hd hc2 hd2
  exact richCompare_meets_room (op := .Lt) ⟨_, ho, rfl⟩ ⟨_, ho2, rfl⟩ PySem.F.slot_tuple_lt PySem.F.entry_tuple_lt (PySem.F.args_tuple_lt_2 _ _) (tuple_lt_ints l b items items2 n n2 dd dd2 sl sl2 ns ms hi hj)
    ⟨ho, ho2, show Value.bool (lexLt ns ms) ≠ Value.notImplemented ∧ Q (.bool (lexLt ns ms)) s from ⟨(fun x => nomatch x), h⟩⟩ hu

/-- t + u, t not empty -/
theorem cat_tup {t b : Addr} {vs ws : List Value} {Q : Value → Shared → Prop} (ht : IsTup s.heap t vs.toArray) (hb : IsTup s.heap b ws.toArray) (hv : vs ≠ [])
    (h1 : ws = [] → Q (.ref t) s) (h2 : ws ≠ [] → Q (.ref s.heap.objs.size) { s with heap := s.heap.push { cls := .type "tuple", data := .seq (vs ++ ws).toArray } })
    (hsz : vs.length + ws.length ≤ sizeLine) : wpAny (model prog w) A (binaryOp .Add (.ref t) (.ref b)) Q E s := by
  obtain ⟨⟨cls, dd, data, sl⟩, ho, hc, n, hd⟩ := id ht
  obtain ⟨⟨cls2, dd2, data2, sl2⟩, ho2, hc2, n2, hd2⟩ := id hb
  simp only at hc hd hc2 hd2
  subst hc hd hc2 hd2
  have e : vs.toArray ++ ws.toArray = (vs ++ ws).toArray := by simp
  by_cases hw : ws = []
  · exact concat_meets ⟨_, ho, rfl⟩ ⟨_, ho2, rfl⟩ noFill_tuple_add seq_tuple_add PySem.F.slot_tuple_add PySem.F.entry_tuple_add (PySem.F.args_tuple_add_2 _ _)
      (tuple_addW1 t b vs.toArray ws.toArray n n2 dd dd2 sl sl2 (by simpa using hv) (by simp [hw])) ⟨ho, ho2, h1 hw⟩
  · refine concat_meets ⟨_, ho, rfl⟩ ⟨_, ho2, rfl⟩ noFill_tuple_add seq_tuple_add PySem.F.slot_tuple_add PySem.F.entry_tuple_add (PySem.F.args_tuple_add_2 _ _)
      (tuple_addW2 t b vs.toArray ws.toArray n n2 dd dd2 sl sl2 (by simpa using hv) (by simpa using hw) (by rw [List.size_toArray, List.size_toArray]; exact hsz)) ⟨ho, ho2, ?_⟩
    rw [e]
    exact h2 hw

/-! ### t[a:b], not the whole -/
/-- a slice's bound as a place among n (d where it is left out) -/
def sIx (n d : Nat) : Option Int → Nat
  | none => d
  | some v => if v < 0 then (v + (n : Int)).toNat else min v.toNat n
theorem sIx_none (n d : Nat) : sIx n d none = d := rfl
theorem sIx_nat (n d k : Nat) : sIx n d (some (k : Int)) = min k n := by
  show (if (k : Int) < 0 then ((k : Int) + (n : Int)).toNat else min (k : Int).toNat n) = min k n
  rw [if_neg (by omega), Int.toNat_natCast]
theorem sIx_le (n d : Nat) (hd : d ≤ n) (o : Option Int) : sIx n d o ≤ n := by
  cases o with
  | none => exact hd
  | some v =>
    show (if v < 0 then (v + (n : Int)).toNat else min v.toNat n) ≤ n
    by_cases hv : v < 0
    · rw [if_pos hv]; omega
    · rw [if_neg hv]; exact Nat.min_le_right _ _
theorem clip_eq (v : Int) (n d : Nat) : (if v < 0 then max (v + (n : Int)) 0 else min v (n : Int)) = ((sIx n d (some v) : Nat) : Int) := by
  show (if v < 0 then max (v + (n : Int)) 0 else min v (n : Int)) = (((if v < 0 then (v + (n : Int)).toNat else min v.toNat n) : Nat) : Int)
  by_cases hv : v < 0
  · simp only [if_pos hv]; omega
  · simp only [if_neg hv]; omega
theorem adjust_gen (lo hi : Option Int) (n : Nat) : Builtin.Slice.sliceAdjust lo hi 1 (n : Int) = (((sIx n 0 lo : Nat) : Int), ((sIx n n hi : Nat) : Int)) := by
  have h1 : ¬ ((1 : Int) < 0) := by omega
  unfold Builtin.Slice.sliceAdjust
  simp only [h1, if_false]
  refine Prod.ext ?_ ?_
  · cases lo with
    | none => rfl
    | some v => exact clip_eq v n 0
  · cases hi with
    | none => rfl
    | some v => exact clip_eq v n n
theorem places_gen (i j : Nat) : Builtin.Slice.slicePlaces (i : Int) (j : Int) 1 = j - i := by
  unfold Builtin.Slice.slicePlaces
  have h1 : (1 : Int) > 0 := by omega
  simp only [h1, if_true, Int.ediv_one]
  split <;> omega
theorem slicePart_ {v : Value} {o : Option Int} {Q : Option Int → Shared → Prop} (p : IsPart v o) (h : Q o s) : wpAny (model prog w) A (Builtin.Slice.slicePartIndex v) Q E s := by
  cases p with
  | none => exact slicePart_none h
  | int i t => exact slicePart_int h
theorem sliceApplied_gen {sl : Addr} {vl vu : Value} {lo hi : Option Int} {n : Nat} {Q : Int × Int × Nat → Shared → Prop} (hs : s.heap.IsSliceOf sl vl vu .none) (pl : IsPart vl lo) (pu : IsPart vu hi)
    (h : Q (((sIx n 0 lo : Nat) : Int), 1, sIx n n hi - sIx n 0 lo) s) : wpAny (model prog w) A (Builtin.Slice.sliceApplied (.ref sl) (pure (n : Int))) Q E s := by
  obtain ⟨os, hos, hcs, hds⟩ := id hs
  unfold Builtin.Slice.sliceApplied Builtin.Slice.sliceFields
  refine wpAny_bind (wpAny_bind (wpAny_field hos hds (x := vl) rfl (wpAny_bind (wpAny_field hos hds (x := vu) rfl (wpAny_bind (wpAny_field hos hds (x := .none) rfl (wpAny_pure ?_)))))))
  refine wpAny_bind (slicePart_none ?_)
  show wpAny _ _ (if ((1 : Int) == 0) = true then _ else _) _ _ s
  rw [if_neg (by decide)]
  refine wpAny_bind (slicePart_ pl (wpAny_bind (slicePart_ pu (wpAny_bind (wpAny_pure ?_)))))
  show wpAny _ _ (match Builtin.Slice.sliceAdjust lo hi 1 (n : Int) with | (lo, hi) => pure (lo, (1 : Int), Builtin.Slice.slicePlaces lo hi 1)) _ _ s
  rw [adjust_gen lo hi n]
  show wpAny _ _ (pure (((sIx n 0 lo : Nat) : Int), (1 : Int), Builtin.Slice.slicePlaces ((sIx n 0 lo : Nat) : Int) ((sIx n n hi : Nat) : Int) 1)) _ _ s
  rw [places_gen]
  exact wpAny_pure h
theorem pick_gen (xs : Array Value) (i k : Nat) : ((List.range k).filterMap fun (m : Nat) => xs[((i : Int) + (m : Int) * 1).toNat]?).toArray = ((xs.toList.drop i).take k).toArray := by
  have e : (fun (m : Nat) => xs[((i : Int) + (m : Int) * 1).toNat]?) = fun m => xs[i + m]? := by
    funext m
    have : ((i : Int) + (m : Int) * 1).toNat = i + m := by omega
    rw [this]
  rw [e]
  have := pick_run xs i k
  rw [List.filterMap_map] at this
  have e2 : ((fun x => xs[x]?) ∘ fun x => i + x) = fun m => xs[i + m]? := rfl
  rw [e2] at this
  rw [this]

theorem getItem_tuple_cut {t sl : Addr} {items : Array Value} {vl vu : Value} {lo hi : Option Int} {Q : Value → Shared → Prop} (ht : IsTup s.heap t items) (hs : s.heap.IsSliceOf sl vl vu .none) (pl : IsPart vl lo) (pu : IsPart vu hi)
    (hw : ¬ (sIx items.size 0 lo = 0 ∧ sIx items.size items.size hi = items.size))
    (h : Q (.ref s.heap.objs.size) { s with heap := s.heap.push { cls := .type "tuple", data := .seq ((items.toList.drop (sIx items.size 0 lo)).take (sIx items.size items.size hi - sIx items.size 0 lo)).toArray } })
    (hsz : items.size ≤ sizeLine) : wpAny (model prog w) A (getItem (.ref t) (.ref sl)) Q E s := by
  have htake : sizeOk (.seq ((items.toList.drop (sIx items.size 0 lo)).take (sIx items.size items.size hi - sIx items.size 0 lo)).toArray) := by
    show ((items.toList.drop (sIx items.size 0 lo)).take (sIx items.size items.size hi - sIx items.size 0 lo)).toArray.size ≤ sizeLine
    rw [List.size_toArray, List.length_take, List.length_drop, Array.length_toList]
    omega
  have hj : sIx items.size items.size hi ≤ items.size := sIx_le _ _ (Nat.le_refl _) hi
  obtain ⟨os, hos, hcs, hds⟩ := id hs
  have hTs : s.TypeIs (.ref sl) "slice" := ⟨os, hos, hcs⟩
  unfold getItem
  try with_reducible refine wpAny_holding ?_
  first | refine wpAny_bind (wpAny_pure ?_) | skip
  refine wpAny_bind (wpAny_sequenceKey ht.typeIs (by decide) ?_)
  refine wpAny_bind (wpAny_callSpecial?_slot (name := Str.ofString "__getitem__") ht.typeIs PyProof.Rows.slot_tuple_getitem
    (wpAny_call_entry PyProof.Rows.slot_tuple_getitem ht.typeIs entry_tuple_getitem ?_ (args_tuple_getitem _ _)))
  show wpAny _ _ (Builtin.Tuple.tupleItemsOf (.ref t) >>= _) _ _ s
  refine wpAny_bind (tupleItemsOf_ ht ?_)
  refine wpAny_bind (wpAny_typeOf hTs ?_)
  rw [if_pos (by decide)]
  refine wpAny_bind (sliceApplied_gen hs pl pu ?_)
  have hno : ¬ ((((sIx items.size 0 lo : Nat) : Int) == 0 && (1 : Int) == 1 && (sIx items.size items.size hi - sIx items.size 0 lo) == items.size) = true) := by
    intro q
    rw [Bool.and_eq_true, Bool.and_eq_true] at q
    have q1 : ((sIx items.size 0 lo : Nat) : Int) = 0 := eq_of_beq q.1.1
    have q2 : sIx items.size items.size hi - sIx items.size 0 lo = items.size := eq_of_beq q.2
    exact hw ⟨by omega, by omega⟩
  show wpAny _ _ (if (((sIx items.size 0 lo : Nat) : Int) == 0 && (1 : Int) == 1 && (sIx items.size items.size hi - sIx items.size 0 lo) == items.size) = true then _ else _) _ _ s
  rw [if_neg hno, pick_gen]
  first
    | exact wpAny_bind (m := Builtin.Tuple.tupleExact _) (wpAny_newObj_type (wpAny_pure ⟨_, rfl, wpAny_pure h⟩) htake)
    | exact wpAny_bind (m := Builtin.Tuple.tupleExact _) (wpAny_newObj_type (wpAny_bind (wpAny_pure (wpAny_pure ⟨_, rfl, wpAny_pure h⟩))) htake)
    | exact wpAny_bind (wpAny_bind (m := Builtin.Tuple.tupleExact _) (wpAny_newObj_type (wpAny_pure (wpAny_pure ⟨_, rfl, wpAny_pure h⟩)) htake))
    | exact wpAny_bind (wpAny_bind (m := Builtin.Tuple.tupleExact _) (wpAny_newObj_type (wpAny_pure ⟨_, rfl, wpAny_pure h⟩) htake))
end
end HT

namespace L2
open PySem PySem.Spec PyProof.Rows

/-! ### the parts of a slice -/
abbrev TO := St → Hp → (Option Int → Hp → Prop) → Prop
/-- a slice's part (left out, or an int) -/
def PO (X : Cx) (e : Option Expr) (t : TO) : Prop :=
  ∀ (pins : List (Addr × Obj)) (s : Shared) (σ : St) (H : Hp) (Q : Option Int → Hp → Prop), Inv X pins σ H s → t σ H Q →
    wpAny (model X.prog X.w) X.A (evalPart e X.env) (fun u s' => ∃ o H', Inv X pins σ H' s' ∧ IsPart u o ∧ Q o H') X.xe s
def tNoPart : TO := fun _ H Q => Q none H
def tPart (t : TE) : TO := fun σ H Q => t σ H fun x H1 => ∃ i, x = .int i ∧ Q (some i) H1

theorem intsAre_of {ns : List Int} : ∀ {us : List Value}, Vals (ns.map V.int) us → IntsAre us ns := by
  induction ns with
  | nil => intro us r; rw [List.map_nil] at r; cases r; exact .nil
  | cons n ns ih =>
    intro us r
    rw [List.map_cons] at r
    cases r with
    | cons r1 r2 =>
      obtain ⟨t, e⟩ := r1
      subst e
      exact .cons n t (ih r2)

section
variable {X : Cx} {e : Expr} {te : TE} {lo hi : Option Expr} {tl th : TO} {pos p2 : Pos}

theorem po_none : PO X none tNoPart := by
  intro pins s σ H Q I h
  rw [evalPart_none]
  exact wpAny_pure ⟨none, H, I, .none, h⟩
theorem po_some (h : PE X e te) : PO X (some e) (tPart te) := by
  intro pins s σ H Q I hw
  rw [evalPart_some]
  refine thn (h pins s σ H _ I hw) fun u s1 ⟨x, H1, I1, r1, q1⟩ => ?_
  obtain ⟨i, rfl, q⟩ := q1
  obtain ⟨t, rfl⟩ := r1
  exact ⟨some i, H1, I1, .int i t, q⟩

/-- what a slice of a value is, by values: the slice object stands at sl -/
def SlR (X : Cx) (r : V → Option Int → Option Int → Hp → VK → Prop) : Prop :=
  ∀ (pins : List (Addr × Obj)) (s : Shared) (σ : St) (H : Hp) (x : V) (v vl vu : Value) (lo hi : Option Int) (sl : Addr) (Q : VK), Inv X pins σ H s → RelV x v → s.heap.IsSliceOf sl vl vu .none → IsPart vl lo → IsPart vu hi → r x lo hi H Q →
    ∃ T id, typeLookup (.type T) "__getitem__" = pure (some (.builtin id)) ∧ s.TypeIs v T ∧ wpAny (model X.prog X.w) X.A (getItem v (.ref sl)) (EP X pins σ Q) X.xe s
theorem SlR.or {r r' : V → Option Int → Option Int → Hp → VK → Prop} (h : SlR X r) (h' : SlR X r') : SlR X (fun x lo hi H Q => r x lo hi H Q ∨ r' x lo hi H Q) := by
  intro pins s σ H x v vl vu lo hi sl Q I rx hs pl pu q
  rcases q with q | q
  · exact h pins s σ H x v vl vu lo hi sl Q I rx hs pl pu q
  · exact h' pins s σ H x v vl vu lo hi sl Q I rx hs pl pu q
def tSl (r : V → Option Int → Option Int → Hp → VK → Prop) (te : TE) (tl th : TO) : TE := fun σ H Q => te σ H fun x H1 => tl σ H1 fun l H2 => th σ H2 fun u H3 => r x l u H3 Q
/-- a[lo:hi], any a -/
theorem pe_slice {r : V → Option Int → Option Int → Hp → VK → Prop} (hr : SlR X r) (he : PE X e te) (hl : PO X lo tl) (hu : PO X hi th) : PE X (.Subscript e (.Slice lo hi none p2) pos) (tSl r te tl th) := by
  intro pins s σ H Q I h
  refine Subscript_ (thn (he pins s σ H _ I h) fun v s1 ⟨x, H1, I1, r1, q1⟩ => ?_)
  refine wpAny_Slice (thn (hl pins s1 σ H1 _ I1 q1) fun vl s2 ⟨l, H2, I2, pl, q2⟩ => thn (hu pins s2 σ H2 _ I2 q2) fun vu s3 ⟨u, H3, I3, pu, q3⟩ => ?_)
  rw [evalPart_none]
  refine wpAny_pure ?_
  have I4 : Inv X pins σ H3 { s3 with heap := s3.heap.push { cls := .type "slice", data := .fields #[vl, vu, .none] } } := I3.kept (t' := s3.toks) fun b ob q => Heap.get?_push_of_some _ q
  obtain ⟨T, id, hT, ht, hg⟩ := hr pins { s3 with heap := s3.heap.push { cls := .type "slice", data := .fields #[vl, vu, .none] } } σ H3 x v vl vu l u s3.heap.objs.size Q I4 r1 (Heap.IsSliceOf.new ..) pl pu q3
  show wpAny (model X.prog X.w) X.A (subscriptTail e (.Slice lo hi none p2) v (.ref s3.heap.objs.size)) (EP X pins σ Q) X.xe { s3 with heap := s3.heap.push { cls := .type "slice", data := .fields #[vl, vu, .none] } }
  exact tail_any (ops := [.ref s3.heap.objs.size, v]) ht hT hg (by with_unfolding_all rfl)

/-- the items of xs[lo:hi] -/
def cutV (xs : List V) (lo hi : Option Int) : List V := (xs.drop (HT.sIx xs.length 0 lo)).take (HT.sIx xs.length xs.length hi - HT.sIx xs.length 0 lo)
theorem cutV_length (xs : List V) (lo hi : Option Int) : (cutV xs lo hi).length ≤ xs.length := by
  unfold cutV
  rw [List.length_take, List.length_drop]
  omega
/-- t[lo:hi], not the whole of it (the whole would be t itself) -/
def rSlT (K : PySem.W.Frag) : V → Option Int → Option Int → Hp → VK → Prop := fun x lo hi H Q => ∃ a xs, x = .ref a ∧ SqT K H a xs ∧
  ¬ (HT.sIx xs.length 0 lo = 0 ∧ HT.sIx xs.length xs.length hi = xs.length) ∧ ∀ p, H p = none → Q (.ref p) (upd H p (.tup (cutV xs lo hi)))
theorem sl_tup : SlR X (rSlT X.K) := by
  intro pins s σ H x v vl vu lo hi sl Q I rx hs pl pu h
  obtain ⟨a, xs, rfl, hx, hw, q⟩ := h
  cases rx
  obtain ⟨its, r, ht, hz⟩ := I.tuple hx
  have hlen : its.toArray.size = xs.length := by rw [List.size_toArray]; exact r.length.symm
  refine ⟨"tuple", _, PyProof.Rows.slot_tuple_getitem.lookup, ht.typeIs, ?_⟩
  refine HT.getItem_tuple_cut ht hs pl pu (by rw [hlen]; exact hw) ?_ (by rw [hlen]; exact hz)
  rw [hlen]
  refine ⟨.ref s.heap.objs.size, _, I.laid (t' := s.toks) (o := .tup (cutV xs lo hi)) (fun b ob q => Heap.get?_push_of_some _ q) (Nat.le_refl _) ?_, rfl, q _ (I.hok.fresh (Nat.le_refl _))⟩
  exact ⟨Nat.le_trans (cutV_length xs lo hi) hz, _, (r.drop (HT.sIx xs.length 0 lo)).take (HT.sIx xs.length xs.length hi - HT.sIx xs.length 0 lo), IsTup.new _ _⟩

/-! ### t < u, t + u -/
def rLtT (K : PySem.W.Frag) : R2 := fun x y H Q => ∃ a b ns ms, x = .ref a ∧ y = .ref b ∧ SqT K H a (ns.map V.int) ∧ SqT K H b (ms.map V.int) ∧ Q (.bl (HT.lexLt ns ms)) H
theorem op_ltT (hu : X.A.units < cLine) : OpR X (compareOp .Lt) (rLtT X.K) := by
  intro pins s σ H x y v u Q I rx ry h
  obtain ⟨a, b, ns, ms, rfl, rfl, ha, hb, q⟩ := h
  cases rx
  cases ry
  obtain ⟨its, r1, p1, _⟩ := I.tuple ha
  obtain ⟨its2, r2, p2, _⟩ := I.tuple hb
  have i1 : IntsAre its.toArray.toList ns := intsAre_of r1
  have i2 : IntsAre its2.toArray.toList ms := intsAre_of r2
  exact HT.lt_tupInts p1 p2 i1 i2 hu ⟨.bl (HT.lexLt ns ms), H, I, rfl, q⟩
/-- t + u, t not empty: u empty gives t itself -/
def rCatT (K : PySem.W.Frag) : R2 := fun x y H Q => ∃ a b xs ys, x = .ref a ∧ y = .ref b ∧ SqT K H a xs ∧ SqT K H b ys ∧ xs ≠ [] ∧ xs.length + ys.length ≤ sizeLine ∧
  (ys = [] → Q (.ref a) H) ∧ (ys ≠ [] → ∀ p, H p = none → Q (.ref p) (upd H p (.tup (xs ++ ys))))
theorem Vals.nil_iff {xs : List V} {us : List Value} (r : Vals xs us) : us = [] ↔ xs = [] := by
  cases r with
  | nil => simp
  | cons _ _ => simp
theorem op_catT : OpR X (binaryOp .Add) (rCatT X.K) := by
  intro pins s σ H x y v u Q I rx ry h
  obtain ⟨a, b, xs, ys, rfl, rfl, ha, hb, hx, hz, q1, q2⟩ := h
  cases rx
  cases ry
  obtain ⟨its, r1, p1, _⟩ := I.tuple ha
  obtain ⟨its2, r2, p2, _⟩ := I.tuple hb
  refine HT.cat_tup p1 p2 (fun z => hx (r1.nil_iff.mp z)) (fun z => ⟨.ref a, H, I, rfl, q1 (r2.nil_iff.mp z)⟩) (fun z => ?_) (by rw [← r1.length, ← r2.length]; exact hz)
  refine ⟨.ref s.heap.objs.size, _, I.laid (t' := s.toks) (o := .tup (xs ++ ys)) (fun b ob q => Heap.get?_push_of_some _ q) (Nat.le_refl _) ?_, rfl, q2 (fun w => z (r2.nil_iff.mpr w)) _ (I.hok.fresh (Nat.le_refl _))⟩
  exact ⟨by rw [List.length_append]; exact hz, _, r1.append r2, IsTup.new _ _⟩
/-- tuple(t) -/
theorem call_tupleT : CallR X (.type "tuple") (fun xs H Q => ∃ a ys, xs = [.ref a] ∧ SqT X.K H a ys ∧ Q (.ref a) H) := by
  intro pins s σ H xs us Q I r h
  obtain ⟨a, ys, rfl, ha, q⟩ := h
  obtain ⟨u, rfl, ru⟩ := vals1 r
  cases ru
  obtain ⟨its, _, p1, _⟩ := I.tuple ha
  exact call_tuple_same (items := its.toArray) p1 ⟨.ref a, H, I, rfl, q⟩
end
end L2

namespace L2
open PySem PySem.Spec PyProof.Rows

/-! ### places -/
/-- the place that an index of any sign means -/
def ixN (n : Nat) (i : Int) : Option Nat := if 0 ≤ i then (if i < n then some i.toNat else none) else if -(n : Int) ≤ i then some (i + n).toNat else none
def atI {α : Type} (xs : List α) (i : Int) : Option α := (ixN xs.length i).bind fun j => xs[j]?
theorem ixN_seq {n : Nat} {i : Int} {j : Nat} (h : ixN n i = some j) : seqIndex? i n = some j ∧ j < n ∧ -(n : Int) ≤ i ∧ i < n := by
  unfold ixN at h
  by_cases h0 : 0 ≤ i
  · rw [if_pos h0] at h
    by_cases h1 : i < n
    · rw [if_pos h1] at h
      have e : i.toNat = j := Option.some.inj h
      exact ⟨by rw [seqIndex_of h0 h1, e], by omega, by omega, h1⟩
    · rw [if_neg h1] at h; cases h
  · rw [if_neg h0] at h
    by_cases h1 : -(n : Int) ≤ i
    · rw [if_pos h1] at h
      have e : (i + n).toNat = j := Option.some.inj h
      exact ⟨by rw [seqIndex_neg (by omega) h1, e], by omega, h1, by omega⟩
    · rw [if_neg h1] at h; cases h
theorem atI_get {α : Type} {xs : List α} {i : Int} {v : α} (h : atI xs i = some v) : ∃ j, seqIndex? i xs.length = some j ∧ xs[j]? = some v ∧ j < xs.length ∧ -(xs.length : Int) ≤ i ∧ i < xs.length := by
  unfold atI at h
  cases e : ixN xs.length i with
  | none => rw [e] at h; cases h
  | some j =>
    rw [e] at h
    obtain ⟨h1, h2, h3, h4⟩ := ixN_seq e
    exact ⟨j, h1, h, h2, h3, h4⟩
theorem atI_nat {α : Type} {xs : List α} {j : Nat} {v : α} (h : xs[j]? = some v) : atI xs (j : Int) = some v := by
  have hj : j < xs.length := (List.getElem?_eq_some_iff.mp h).1
  have e : ixN xs.length (j : Int) = some j := by
    unfold ixN
    rw [if_pos (by omega), if_pos (by omega)]; simp
  unfold atI; rw [e]; exact h
theorem atI_last {α : Type} (xs : List α) (v : α) : atI (xs ++ [v]) (-1) = some v := by
  have hl : (xs ++ [v]).length = xs.length + 1 := by simp
  have e : ixN (xs ++ [v]).length (-1) = some xs.length := by
    unfold ixN
    rw [hl, if_neg (by decide), if_pos (by omega)]
    congr 1
    omega
  unfold atI
  rw [e]
  show (xs ++ [v])[xs.length]? = some v
  simp

/-! ### what may be subscripted -/
/-- what stands as an index of a plain subscript -/
def PlainIx (b : Expr) : Prop := ∀ o i, subscripted b false o i = operate [o, i] (getItem o i)
/-- a subscript by values -/
def IxR (X : Cx) (r : R2) : Prop :=
  ∀ (value slice : Expr) (pins : List (Addr × Obj)) (s : Shared) (σ : St) (H : Hp) (x y : V) (v u : Value) (Q : VK), Inv X pins σ H s → RelV x v → RelV y u → r x y H Q →
    subscripted slice false v u = operate [v, u] (getItem v u) → wpAny (model X.prog X.w) X.A (subscriptTail value slice v u) (EP X pins σ Q) X.xe s
/-- a call of a builtin's method by values: the receiver, the arguments -/
def MtR (X : Cx) (id : String) (r : V → List V → Hp → VK → Prop) : Prop :=
  ∀ (pins : List (Addr × Obj)) (s : Shared) (σ : St) (H : Hp) (x : V) (xs : List V) (v : Value) (us : List Value) (Q : VK), Inv X pins σ H s → RelV x v → Vals xs us → r x xs H Q →
    wpAny (model X.prog X.w) X.A (call (.builtin id) (v :: us)) (EP X pins σ Q) X.xe s
section
variable {X : Cx} {a b : Expr} {ta tb : TE} {pos : Pos}
theorem IxR.or {r r' : R2} (h : IxR X r) (h' : IxR X r') : IxR X (fun x y H Q => r x y H Q ∨ r' x y H Q) := by
  intro value slice pins s σ H x y v u Q I rx ry q hs
  rcases q with q | q
  · exact h value slice pins s σ H x y v u Q I rx ry q hs
  · exact h' value slice pins s σ H x y v u Q I rx ry q hs
theorem MtR.or {id : String} {r r' : V → List V → Hp → VK → Prop} (h : MtR X id r) (h' : MtR X id r') : MtR X id (fun x xs H Q => r x xs H Q ∨ r' x xs H Q) := by
  intro pins s σ H x xs v us Q I rx rs q
  rcases q with q | q
  · exact h pins s σ H x xs v us Q I rx rs q
  · exact h' pins s σ H x xs v us Q I rx rs q
/-- a[b] -/
theorem pe_ix {r : R2} (hr : IxR X r) (ha : PE X a ta) (hb : PE X b tb) (hs : PlainIx b) : PE X (.Subscript a b pos) (tOp r ta tb) := by
  intro pins s σ H Q I h
  exact Subscript_ (binT ha hb I h fun v u s2 x y H2 I2 rx ry q => hr a b pins s2 σ H2 x y v u Q I2 rx ry q (hs _ _))

def rIxL (K : PySem.W.Frag) : R2 := fun x y H Q => ∃ p xs i v, x = .ref p ∧ y = .int i ∧ SqL K H p xs ∧ atI xs i = some v ∧ Q v H
def rIxT (K : PySem.W.Frag) : R2 := fun x y H Q => ∃ p xs i v, x = .ref p ∧ y = .int i ∧ SqT K H p xs ∧ atI xs i = some v ∧ Q v H
def rIxS : R2 := fun x y H Q => ∃ z i c, x = .str z ∧ y = .int i ∧ z.length ≤ sizeLine ∧ atI z.cps.toList i = some c ∧ Q (.str ⟨#[c]⟩) H
theorem ix_list : IxR X (rIxL X.K) := by
  intro value slice pins s σ H x y v u Q I rx ry h hs
  obtain ⟨p, xs, i, z, rfl, rfl, hq, he, q⟩ := h
  cases rx
  obtain ⟨t, rfl⟩ := ry
  obtain ⟨its, r, pl, hz⟩ := I.list hq
  obtain ⟨j, h1, h2, h3, h4, h5⟩ := atI_get he
  obtain ⟨w, ew, rw'⟩ := r.get h2
  have hl := r.length
  have hn := line63
  have fin : EP X pins σ Q w s := ⟨z, H, I, rw', q⟩
  by_cases h0 : 0 ≤ i
  · have hj : i.toNat = j := by
      rw [seqIndex_of h0 h5] at h1
      exact Option.some.inj h1
    exact item_listR pl.isList h0 (by omega) (by rw [hj]; simpa using ew) fin hs
  · have hj : (i + (its.toArray.size : Int)).toNat = j := by
      rw [seqIndex_neg (by omega) h4] at h1
      rw [List.size_toArray, ← hl]
      exact Option.some.inj h1
    exact subscriptTail_builtinR (x := w) pl.isList.typeIs slot_list_getitem.lookup
      (wpAny_getItem_list_neg (Q := fun r s' => r = w ∧ EP X pins σ Q r s') pl.isList (by omega) (by rw [List.size_toArray] <;> omega) (by omega) (by rw [hj]; simpa using ew) ⟨rfl, fin⟩) hs
theorem ix_tup : IxR X (rIxT X.K) := by
  intro value slice pins s σ H x y v u Q I rx ry h hs
  obtain ⟨p, xs, i, z, rfl, rfl, hq, he, q⟩ := h
  cases rx
  obtain ⟨t, rfl⟩ := ry
  obtain ⟨its, r, pl, hz⟩ := I.tuple hq
  obtain ⟨j, h1, h2, h3, h4, h5⟩ := atI_get he
  obtain ⟨w, ew, rw'⟩ := r.get h2
  have hl := r.length
  have hn := line63
  have fin : EP X pins σ Q w s := ⟨z, H, I, rw', q⟩
  exact subscriptTail_builtinR (x := w) pl.typeIs slot_tuple_getitem.lookup
    (getItem_tuple (j := j) (Q := fun r s' => r = w ∧ EP X pins σ Q r s') pl (by omega) (by omega) (by rw [List.size_toArray, ← hl]; exact h1) (by simpa using ew) ⟨rfl, fin⟩) hs
theorem ix_str : IxR X rIxS := by
  intro value slice pins s σ H x y v u Q I rx ry h hs
  obtain ⟨z, i, c, rfl, rfl, hz, he, q⟩ := h
  obtain ⟨t, rfl⟩ := rx
  obtain ⟨t', rfl⟩ := ry
  obtain ⟨j, h1, h2, h3, h4, h5⟩ := atI_get he
  have hl : z.cps.toList.length = z.length := by simp [Str.length]
  rw [hl] at h1 h4 h5
  have hn := line63
  exact tail_any (typeIs_str s z t) slot_str_getitem.lookup (getItem_str (c := c) (by
    have e1 : decide (i < -(2 ^ 63 : Int)) = false := decide_eq_false (by omega)
    have e2 : decide (i ≥ 2 ^ 63) = false := decide_eq_false (by omega)
    rw [e1, e2, Bool.or_false]) (by rw [h1]; simpa using h2) ⟨.str ⟨#[c]⟩, H, I.tok _, ⟨_, rfl⟩, q⟩) hs
/-- list, tuple or str -/
def rIx (K : PySem.W.Frag) : R2 := fun x y H Q => rIxL K x y H Q ∨ rIxT K x y H Q ∨ rIxS x y H Q
theorem ix_seq : IxR X (rIx X.K) := ix_list.or (ix_tup.or ix_str)

/-! ### xs[i] = v, any sign -/
/-- the list's object behind a store -/
theorem mapSeq_set (its : List Value) (n j : Nat) (u : Value) : Obj.mapSeq (·.setIfInBounds j u) { cls := .type "list", data := .seq its.toArray n } = { cls := .type "list", data := .seq (its.set j u).toArray n } := by
  simp [Obj.mapSeq]
theorem Inv.lst {pins : List (Addr × Obj)} {σ : St} {H : Hp} {s : Shared} {p : Addr} {xs : List V} (I : Inv X pins σ H s) (h : H p = some (.lst xs)) :
    ∃ (its : List Value) (n : Nat), Vals xs its ∧ s.heap.get? p = some { cls := .type "list", data := .seq its.toArray n } ∧ xs.length ≤ sizeLine := by
  obtain ⟨z, its, n, r, e⟩ := I.hok p _ h
  exact ⟨its, n, r, e, z⟩
/-- the list at p is written by an update of its object -/
theorem Inv.lstUpd {pins : List (Addr × Obj)} {σ : St} {H : Hp} {s : Shared} {p : Addr} {xs ys : List V} {its its' : List Value} {n n' : Nat} {f : Obj → Obj} (I : Inv X pins σ H s) (h : H p = some (.lst xs))
    (ho : s.heap.get? p = some { cls := .type "list", data := .seq its.toArray n }) (hf : f { cls := .type "list", data := .seq its.toArray n } = { cls := .type "list", data := .seq its'.toArray n' }) (r : Vals ys its') (hz : ys.length ≤ sizeLine) (t : Nat) :
    Inv X pins σ (upd H p (.lst ys)) { s with heap := s.heap.update p f, toks := t } := by
  have e : (s.heap.update p f).get? p = some { cls := .type "list", data := .seq its'.toArray n' } := by
    rw [Heap.get?_update_self f ho (by rw [hf] <;> rfl), hf]
  refine I.write (x := p) (e := p) (by rw [h]; trivial) (.inl rfl) (fun b u hb q => (Heap.get?_update_other _ _ (Ne.symm hb)).trans q) ⟨_, e⟩ ?_
  exact ⟨hz, its', n', r, e⟩
def rSetL : V → V → V → Hp → (Hp → Prop) → Prop := fun o i v H Q => ∃ p xs k j, o = .ref p ∧ i = .int k ∧ H p = some (.lst xs) ∧ ixN xs.length k = some j ∧ Q (upd H p (.lst (xs.set j v)))
theorem set_list : PSet X rSetL := by
  intro pins s σ H o i v ov iv u Q I ro ri rv h
  obtain ⟨p, xs, k, j, rfl, rfl, hp, hj, q⟩ := h
  cases ro
  obtain ⟨t, rfl⟩ := ri
  obtain ⟨its, n, r, ho, hz⟩ := I.lst hp
  obtain ⟨h1, h2, h3, h4⟩ := ixN_seq hj
  have hl := r.length
  have hn := line63
  have I' : Inv X pins σ (upd H p (.lst (xs.set j v))) { s with heap := s.heap.update p (Obj.mapSeq (·.setIfInBounds j u)) } :=
    I.lstUpd hp ho (mapSeq_set its n j u) (r.set rv j) (by rw [List.length_set]; exact hz) s.toks
  by_cases h0 : 0 ≤ k
  · have hk : k.toNat = j := by
      rw [seqIndex_of h0 h4] at h1
      exact Option.some.inj h1
    exact PySem.W.ki_setAt ho h0 (by omega) (by rw [List.size_toArray, ← hl]; exact h4) (by rw [hk]; exact ⟨_, I', q⟩)
  · have hk : (k + (its.toArray.size : Int)).toNat = j := by
      rw [seqIndex_neg (by omega) h3] at h1
      rw [List.size_toArray, ← hl]
      exact Option.some.inj h1
    exact PySem.W.ki_setBack ho (by omega) (by rw [List.size_toArray, ← hl]; exact h3) (by omega) (by rw [hk]; exact ⟨_, I', q⟩)

/-! ### slices -/
theorem slice_bounds (lo hi : Option Int) (n : Nat) : (sliceBounds lo hi none n).1 = ((HT.sIx n 0 lo : Nat) : Int) ∧ (sliceBounds lo hi none n).2.1 = ((HT.sIx n n hi : Nat) : Int) ∧ (sliceBounds lo hi none n).2.2 = 1 := by
  refine ⟨?_, ?_, rfl⟩
  · cases lo with
    | none => simp [sliceBounds, HT.sIx]
    | some i =>
      simp only [sliceBounds, HT.sIx, Option.getD_none, show (1 : Int) > 0 by decide, if_true]
      by_cases h : i < 0
      · simp only [h, if_true] <;> omega
      · simp only [h, if_false] <;> omega
  · cases hi with
    | none => simp [sliceBounds, HT.sIx]
    | some i =>
      simp only [sliceBounds, HT.sIx, Option.getD_none, show (1 : Int) > 0 by decide, if_true]
      by_cases h : i < 0
      · simp only [h, if_true] <;> omega
      · simp only [h, if_false] <;> omega
theorem slicePick_cut (its : List Value) (lo hi : Option Int) : slicePick its.toArray lo hi none = ((its.drop (HT.sIx its.length 0 lo)).take (HT.sIx its.length its.length hi - HT.sIx its.length 0 lo)).toArray := by
  obtain ⟨h1, h2, h3⟩ := slice_bounds lo hi its.toArray.size
  unfold slicePick
  rw [h1, h2, h3]
  simp only [sliceRange_one, pick_run, List.size_toArray] <;> rfl
/-- xs[lo:hi] of a list: a new list -/
def rSlL (K : PySem.W.Frag) : V → Option Int → Option Int → Hp → VK → Prop := fun x lo hi H Q => ∃ a xs, x = .ref a ∧ SqL K H a xs ∧ ∀ p, H p = none → Q (.ref p) (upd H p (.lst (cutV xs lo hi)))
theorem sl_list : SlR X (rSlL X.K) := by
  intro pins s σ H x v vl vu lo hi sl Q I rx hs pl pu h
  obtain ⟨a, xs, rfl, hx, q⟩ := h
  cases rx
  obtain ⟨its, r, ht, hz⟩ := I.list hx
  have hlen := r.length
  refine ⟨"list", _, slot_list_getitem.lookup, ht.isList.typeIs, ?_⟩
  refine wpAny_getItem_list_slice ht.isList hs pl pu .none (by simp) ?_ (by rw [List.size_toArray] <;> omega)
  rw [slicePick_cut, ← hlen]
  refine ⟨.ref s.heap.objs.size, _, I.laid (t' := s.toks) (o := .lst (cutV xs lo hi)) (fun b ob q => Heap.get?_push_of_some _ q) (Nat.le_refl _) ?_, rfl, q _ (I.hok.fresh (Nat.le_refl _))⟩
  exact ⟨Nat.le_trans (cutV_length xs lo hi) hz, _, 0, (r.drop (HT.sIx xs.length 0 lo)).take (HT.sIx xs.length xs.length hi - HT.sIx xs.length 0 lo), Heap.get?_push_size _ rfl⟩

/-! ### in, not in: flat items -/
def flatV : V → Bool
  | .non => true
  | .bl _ => true
  | .int _ => true
  | .str _ => true
  | _ => false
/-- == of flat values -/
def eqV : V → V → Bool
  | .non, .non => true
  | .bl a, .bl b => a == b
  | .bl a, .int b => (if a then 1 else 0) == b
  | .int a, .bl b => a == (if b then 1 else 0)
  | .int a, .int b => a == b
  | .str a, .str b => a == b
  | _, _ => false
theorem eqAt_V {A : Around} {s : Shared} {y x : V} {u v : Value} (ry : RelV y u) (rx : RelV x v) (fy : flatV y = true) (fx : flatV x = true) : SeqAt.EqAt A s u v (eqV y x) := by
  cases y with
  | non =>
    cases ry
    cases x with
    | non => cases rx; exact SeqAt.EqAt.same _
    | bl b => cases rx; exact SeqAt.EqAt.none_bool b
    | int b => obtain ⟨t, rfl⟩ := rx; exact SeqAt.EqAt.none_int b t
    | str b => obtain ⟨t, rfl⟩ := rx; exact SeqAt.EqAt.none_str b t
    | _ => exact absurd (show false = true from fx) Bool.false_ne_true
  | bl a =>
    cases ry
    cases x with
    | non => cases rx; exact SeqAt.EqAt.bool_none a
    | bl b => cases rx; exact SeqAt.EqAt.bool_bool a b
    | int b => obtain ⟨t, rfl⟩ := rx; exact SeqAt.EqAt.bool_int a b t
    | str b => obtain ⟨t, rfl⟩ := rx; exact SeqAt.EqAt.bool_str a b t
    | _ => exact absurd (show false = true from fx) Bool.false_ne_true
  | int a =>
    obtain ⟨t', rfl⟩ := ry
    cases x with
    | non => cases rx; exact SeqAt.EqAt.int_none a t'
    | bl b => cases rx; exact SeqAt.EqAt.int_bool a t' b
    | int b => obtain ⟨t, rfl⟩ := rx; exact SeqAt.EqAt.int_int a t' b t
    | str b => obtain ⟨t, rfl⟩ := rx; exact SeqAt.EqAt.int_str a t' b t
    | _ => exact absurd (show false = true from fx) Bool.false_ne_true
  | str a =>
    obtain ⟨t', rfl⟩ := ry
    cases x with
    | non => cases rx; exact SeqAt.EqAt.str_none a t'
    | bl b => cases rx; exact SeqAt.EqAt.str_bool a t' b
    | int b => obtain ⟨t, rfl⟩ := rx; exact SeqAt.EqAt.str_int a t' b t
    | str b => obtain ⟨t, rfl⟩ := rx; exact SeqAt.EqAt.str_str a t' b t
    | _ => exact absurd (show false = true from fx) Bool.false_ne_true
  | _ => exact absurd (show false = true from fy) Bool.false_ne_true
/-- the items' answers, read off the values (a value's own answer does not lean on its token) -/
def eqU (x : V) (u : Value) : Bool := match u with
  | .none => eqV .non x
  | .bool b => eqV (.bl b) x
  | .int i _ => eqV (.int i) x
  | .str z _ => eqV (.str z) x
  | _ => false
theorem eqU_of {x y : V} {u : Value} (r : RelV y u) (f : flatV y = true) : eqU x u = eqV y x := by
  cases y with
  | non => cases r; rfl
  | bl b => cases r; rfl
  | int i => obtain ⟨t, rfl⟩ := r; rfl
  | str z => obtain ⟨t, rfl⟩ := r; rfl
  | _ => exact absurd (show false = true from f) Bool.false_ne_true
theorem any_eqU {x : V} : ∀ {xs : List V} {us : List Value}, Vals xs us → xs.all flatV = true → us.any (eqU x) = xs.any fun y => eqV y x
  | _, _, .nil, _ => rfl
  | y :: xs, u :: us, .cons r t, f => by
    rw [List.all_cons, Bool.and_eq_true] at f
    rw [List.any_cons, List.any_cons, eqU_of r f.1, any_eqU t f.2]
theorem mem_eqAt {A : Around} {s : Shared} {x : V} {v : Value} (rx : RelV x v) (fx : flatV x = true) : ∀ {xs : List V} {us : List Value}, Vals xs us → xs.all flatV = true → ∀ u ∈ us, SeqAt.EqAt A s u v (eqU x u)
  | _, _, .nil, _ => fun u hu => by cases hu
  | y :: xs, u :: us, .cons r t, f => fun u' hu => by
    rw [List.all_cons, Bool.and_eq_true] at f
    rcases List.mem_cons.mp hu with rfl | hu
    · rw [eqU_of r f.1]; exact eqAt_V r rx f.1 fx
    · exact mem_eqAt rx fx t f.2 u' hu
def inV (x : V) (xs : List V) : Bool := xs.any fun y => eqV y x
/-- x in a list or tuple of flat items -/
def rIn (K : PySem.W.Frag) (neg : Bool) : R2 := fun x y H Q => ∃ p xs, y = .ref p ∧ (SqL K H p xs ∨ SqT K H p xs) ∧ flatV x = true ∧ xs.all flatV = true ∧ Q (.bl (if neg then !inV x xs else inV x xs)) H
theorem op_in_seq : OpR X (compareOp .In) (rIn X.K false) := by
  intro pins s σ H x y v u Q I rx ry h
  obtain ⟨p, xs, rfl, hq, fx, fs, q⟩ := h
  cases ry
  rcases hq with hq | hq
  · obtain ⟨its, r, pl, hz⟩ := I.list hq
    refine SeqAt.in_listAt (eqU x) pl.isList (fun w hw => mem_eqAt rx fx r fs w (by simpa using hw)) ⟨.bl _, H, I, rfl, ?_⟩
    rw [show its.toArray.any (eqU x) = its.any (eqU x) by simp, any_eqU r fs]
    exact q
  · obtain ⟨its, r, pl, hz⟩ := I.tuple hq
    refine SeqAt.in_tupleAt (eqU x) pl (fun w hw => mem_eqAt rx fx r fs w (by simpa using hw)) ⟨.bl _, H, I, rfl, ?_⟩
    rw [show its.toArray.any (eqU x) = its.any (eqU x) by simp, any_eqU r fs]
    exact q
theorem op_notIn_seq : OpR X (compareOp .NotIn) (rIn X.K true) := by
  intro pins s σ H x y v u Q I rx ry h
  obtain ⟨p, xs, rfl, hq, fx, fs, q⟩ := h
  cases ry
  rcases hq with hq | hq
  · obtain ⟨its, r, pl, hz⟩ := I.list hq
    refine SeqAt.notIn_listAt (eqU x) pl.isList (fun w hw => mem_eqAt rx fx r fs w (by simpa using hw)) ⟨.bl _, H, I, rfl, ?_⟩
    rw [show its.toArray.any (eqU x) = its.any (eqU x) by simp, any_eqU r fs]
    exact q
  · obtain ⟨its, r, pl, hz⟩ := I.tuple hq
    refine SeqAt.notIn_tupleAt (eqU x) pl (fun w hw => mem_eqAt rx fx r fs w (by simpa using hw)) ⟨.bl _, H, I, rfl, ?_⟩
    rw [show its.toArray.any (eqU x) = its.any (eqU x) by simp, any_eqU r fs]
    exact q
theorem op_notIn_str : OpR X (compareOp .NotIn) (fun x y H Q => ∃ i j, x = .str i ∧ y = .str j ∧ Q (.bl (!(!(Builtin.Str.occurrences j i 0 j.length 1).isEmpty))) H) := by
  intro pins s σ H x y v u Q I rx ry h
  obtain ⟨i, j, rfl, rfl, q⟩ := h
  obtain ⟨t, rfl⟩ := rx
  obtain ⟨t', rfl⟩ := ry
  exact notIn_str ⟨.bl _, H, I, rfl, q⟩

/-! ### len, list(x), tuple(x) of any list or tuple that is read -/
theorem call_len_seq : CallR X (.builtin "len") (fun xs H Q => ∃ p ys, xs = [.ref p] ∧ (SqL X.K H p ys ∨ SqT X.K H p ys) ∧ Q (.int ys.length) H) := by
  intro pins s σ H xs us Q I r h
  obtain ⟨p, ys, rfl, hq, q⟩ := h
  obtain ⟨u, rfl, rx⟩ := vals1 r
  cases rx
  have hn := line63
  rcases hq with hq | hq
  · obtain ⟨its, r', pl, hz⟩ := I.list hq
    have hlen := r'.length
    exact Calls.call_len_list pl.isList (by simp only [List.size_toArray] <;> omega) ⟨.int ys.length, H, I.tok _, ⟨s.toks + 1, by rw [List.size_toArray, hlen]⟩, q⟩
  · obtain ⟨its, r', pl, hz⟩ := I.tuple hq
    have hlen := r'.length
    exact len_tuple pl (by simp only [List.size_toArray] <;> omega) ⟨.int ys.length, H, I.tok _, ⟨s.toks + 1, by rw [List.size_toArray, hlen]⟩, q⟩
theorem call_len_str : CallR X (.builtin "len") (fun xs H Q => ∃ z, xs = [.str z] ∧ z.length ≤ sizeLine ∧ Q (.int z.length) H) := by
  intro pins s σ H xs us Q I r h
  obtain ⟨z, rfl, hz, q⟩ := h
  obtain ⟨u, rfl, t, rfl⟩ := vals1 r
  have hn := line63
  exact len_str (by omega) ⟨.int z.length, H, I.tok _, ⟨_, rfl⟩, q⟩
theorem CallR.or {f : Value} {r r' : List V → Hp → VK → Prop} (h : CallR X f r) (h' : CallR X f r') : CallR X f (fun xs H Q => r xs H Q ∨ r' xs H Q) := by
  intro pins s σ H xs us Q I rs q
  rcases q with q | q
  · exact h pins s σ H xs us Q I rs q
  · exact h' pins s σ H xs us Q I rs q
theorem call_list_of : CallR X (.type "list") (fun xs H Q => ∃ p ys, xs = [.ref p] ∧ (SqL X.K H p ys ∨ SqT X.K H p ys) ∧ ∀ l, H l = none → Q (.ref l) (upd H l (.lst ys))) := by
  intro pins s σ H xs us Q I r h
  obtain ⟨p, ys, rfl, hq, q⟩ := h
  obtain ⟨u, rfl, rx⟩ := vals1 r
  cases rx
  have fin : ∀ (its : List Value), Vals ys its → ys.length ≤ sizeLine → ∀ (h' : Heap) (c' : Nat), (∀ b o', s.heap.get? b = some o' → h'.get? b = some o') →
      h'.get? s.heap.objs.size = some { cls := .type "list", dict := none, data := .seq its.toArray c', slots := #[] } → EP X pins σ Q (.ref s.heap.objs.size) { s with heap := h' } := fun its r' hz h' c' kp e =>
    ⟨.ref s.heap.objs.size, _, I.laid (t' := s.toks) kp (Nat.le_refl _) (show ObjOk X.prog X.w _ h' _ (.lst ys) from ⟨hz, its, c', r', e⟩), rfl, q _ (I.hok.fresh (Nat.le_refl _))⟩
  rcases hq with hq | hq
  · obtain ⟨its, r', pl, hz⟩ := I.list hq
    have hlen := r'.length
    obtain ⟨o, ho, hc, n, hd⟩ := pl.isList
    exact call_list_seq p (.inl rfl) ho hc hd (fun h' c' kp e => fin its r' hz h' c' kp e) (by simp only [List.size_toArray] <;> omega)
  · obtain ⟨its, r', pl, hz⟩ := I.tuple hq
    have hlen := r'.length
    obtain ⟨o, ho, hc, n, hd⟩ := pl
    exact call_list_seq p (.inr rfl) ho hc hd (fun h' c' kp e => fin its r' hz h' c' kp e) (by simp only [List.size_toArray] <;> omega)
theorem call_tuple_of : CallR X (.type "tuple") (fun xs H Q => ∃ p ys, xs = [.ref p] ∧ ((SqL X.K H p ys ∧ ∀ l, H l = none → Q (.ref l) (upd H l (.tup ys))) ∨ (SqT X.K H p ys ∧ Q (.ref p) H))) := by
  intro pins s σ H xs us Q I r h
  obtain ⟨p, ys, rfl, h⟩ := h
  obtain ⟨u, rfl, rx⟩ := vals1 r
  cases rx
  rcases h with ⟨hq, q⟩ | ⟨hq, q⟩
  · obtain ⟨its, r', pl, hz⟩ := I.list hq
    have hlen := r'.length
    refine call_tuple_list pl.isList (fun h' kp => ?_) (by simp only [List.size_toArray] <;> omega)
    have I1 : Inv X pins σ H { s with heap := h' } := I.kept (t' := s.toks) kp
    have I2 : Inv X pins σ (upd H h'.objs.size (.tup ys)) { s with heap := h'.push { cls := .type "tuple", data := .seq its.toArray } } :=
      I1.laid (t' := s.toks) (fun b o e => Heap.get?_push_of_some _ e) (Nat.le_refl _) (show ObjOk X.prog X.w _ _ _ (.tup ys) from ⟨hz, its, r', IsTup.new _ _⟩)
    exact ⟨.ref h'.objs.size, _, I2, rfl, q _ (I1.hok.fresh (Nat.le_refl _))⟩
  · obtain ⟨its, r', pl, hz⟩ := I.tuple hq
    exact call_tuple_same pl ⟨.ref p, H, I, rfl, q⟩

/-! ### the call of a builtin's method: o.m(..) -/
/-- the value is of that builtin type -/
def tyV (K : PySem.W.Frag) (T : String) (x : V) (H : Hp) : Prop := match x with
  | .str _ => T = "str"
  | .int _ => T = "int"
  | .ref p => (T = "list" ∧ ∃ xs, SqL K H p xs) ∨ (T = "tuple" ∧ ∃ o, K.lookup p = some o ∧ o.cls = .type "tuple" ∧ o.dict = none) ∨
      (T = "dict" ∧ ((∃ kvs, H p = some (.dK kvs)) ∨ ∃ kvs, H p = some (.dT kvs))) ∨ (T = "set" ∧ ∃ S n, H p = some (.set S n))
  | _ => False
theorem tyV_is {pins : List (Addr × Obj)} {σ : St} {H : Hp} {s : Shared} {T : String} {x : V} {v : Value} (I : Inv X pins σ H s) (r : RelV x v) (ty : tyV X.K T x H) :
    s.TypeIs v T ∧ ∀ a, v = .ref a → ∃ ob, s.heap.get? a = some ob ∧ ob.dict = none := by
  cases x with
  | str z =>
    obtain ⟨t, rfl⟩ := r
    cases (show T = "str" from ty)
    exact ⟨typeIs_str s z t, fun _ e => nomatch e⟩
  | int i =>
    obtain ⟨t, rfl⟩ := r
    cases (show T = "int" from ty)
    exact ⟨typeIs_int s i t, fun _ e => nomatch e⟩
  | ref p =>
    cases r
    rcases ty with ⟨rfl, xs, hq⟩ | ⟨rfl, o, hk, hc, hd⟩ | ⟨rfl, hk⟩ | ⟨rfl, S, n, hk⟩
    · obtain ⟨its, _, pl, _⟩ := I.list hq
      refine ⟨pl.isList.typeIs, fun a e => ?_⟩
      cases e
      obtain ⟨o, n, e, c, hd, _⟩ := pl
      exact ⟨o, e, hd⟩
    · refine ⟨⟨o, I.kIn p o hk, hc⟩, fun a e => ?_⟩
      cases e
      exact ⟨o, I.kIn _ o hk, hd⟩
    · have z : ∃ o, s.heap.get? p = some o ∧ o.ExactDict := by
        rcases hk with ⟨kvs, hk⟩ | ⟨kvs, hk⟩
        · obtain ⟨_, _, _, _, o, _, _, e, ex, _⟩ := I.hok p _ hk
          exact ⟨o, e, ex⟩
        · obtain ⟨_, _, _, _, o, _, _, e, ex, _⟩ := I.hok p _ hk
          exact ⟨o, e, ex⟩
      obtain ⟨o, e, ex⟩ := z
      refine ⟨⟨o, e, ex.1⟩, fun a e2 => ?_⟩
      cases e2
      exact ⟨o, e, ex.2.1⟩
    · obtain ⟨o, _, _, _, e, ex, _⟩ := I.hok p _ hk
      refine ⟨⟨o, e, ex.1⟩, fun a e2 => ?_⟩
      cases e2
      exact ⟨o, e, ex.2.1⟩
  | _ => exact False.elim ty
def tBM0 (K : PySem.W.Frag) (T : String) (r : V → List V → Hp → VK → Prop) (to : TE) : TE := fun σ H Q => to σ H fun x H1 => tyV K T x H1 ∧ r x [] H1 Q
def tBM (K : PySem.W.Frag) (T : String) (r : V → List V → Hp → VK → Prop) (to : TE) (t : TA) : TE := fun σ H Q => to σ H fun x H1 => tyV K T x H1 ∧ t σ H1 fun xs H2 => r x xs H2 Q
variable {o e : Expr} {es : List Expr} {to : TE} {t : TA} {name : Str} {apos cpos : Pos} {T id : String} {r : V → List V → Hp → VK → Prop}
theorem pe_bm0 (pa : PlainAttrs T) (slot : Slot T name id) (hty : typeOf (.builtin id) = pure (.type "method_descriptor")) (hm : MtR X id r) (ho : PE X o to)
    (hbase : attributeBase o name X.env (eval o X.env) = eval o X.env := by rfl) (hline : (apos.endLine == cpos.line) = true := by rfl) : PE X (.Call (.Attribute o name apos) [] [] cpos) (tBM0 X.K T r to) := by
  intro pins s σ H Q I h
  refine wpAny_Call_method0_late hbase hline (thn (ho pins s σ H _ I h) fun v s1 ⟨x, H1, I1, r1, ty, q1⟩ => ?_)
  obtain ⟨h1, h2⟩ := tyV_is I1 r1 ty
  exact ⟨T, id, pa, slot, hty, h1, h2, Calls.callWith_builtin rfl (PySem.evalArgs_none (hm pins s1 σ H1 x [] v [] Q I1 r1 .nil q1))⟩
theorem pe_bm (pa : PlainAttrs T) (slot : Slot T name id) (hty : typeOf (.builtin id) = pure (.type "method_descriptor")) (hm : MtR X id r) (ho : PE X o to) (ha : PA X (e :: es) t)
    (hbase : attributeBase o name X.env (eval o X.env) = eval o X.env := by rfl)
    (hfew : ((backTo cpos (starEach (e :: es) X.env)).all (fun x => !x.1) && (backToKw cpos (keywordEach [] X.env)).all (fun x => x.1.isSome)
      && decide ((e :: es).length + ([] : List Keyword).length + (if ([] : List Keyword).isEmpty then 0 else 1) < 30)) = true := by rfl)
    (hline : (apos.endLine == cpos.line) = true := by rfl) (hs : starEach (e :: es) X.env = (false, eval e X.env) :: starEach es X.env := by rfl) (hplain : (backTo cpos (starEach es X.env)).any (·.1) = false := by rfl) :
    PE X (.Call (.Attribute o name apos) (e :: es) [] cpos) (tBM X.K T r to t) := by
  intro pins s σ H Q I h
  refine wpAny_Call_method_late hbase hfew hline rfl (thn (ho pins s σ H _ I h) fun v s1 ⟨x, H1, I1, r1, ty, q1⟩ => ?_)
  obtain ⟨h1, h2⟩ := tyV_is I1 r1 ty
  refine ⟨T, id, pa, slot, hty, h1, h2, ?_⟩
  have hA := ha cpos pins s1 σ H1 _ I1 q1
  rw [hs] at hA ⊢
  refine Calls.callWith_builtin (by show (false || (backTo cpos (starEach es X.env)).any (·.1)) = false; rw [hplain] <;> rfl) (Calls.evalArgs_plain ?_)
  exact thn hA fun us s2 ⟨vs, H2, I2, r2, q2⟩ => hm pins s2 σ H2 x vs v us Q I2 r1 r2 q2
/- xs.append(e), list.index on a module's tuple .. are MtR facts of 06m -/
end
end L2

namespace L2
open PySem PySem.Spec PyProof.Rows

def MtM (X : Cx) (id : String) (r : V → List V → Hp → VK → Prop) : Prop :=
  ∀ (pins : List (Addr × Obj)) (s : Shared) (σ : St) (H : Hp) (x : V) (xs : List V) (v : Value) (us : List Value) (Q : VK), Inv X pins σ H s → RelV x v → Vals xs us → r x xs H Q →
    wpAny (model X.prog X.w) X.A (call (.builtin id) (v :: us)) (EP X pins σ Q) X.xe s

/-! ### lists of values -/
theorem Vals.one : ∀ {x : V} {us : List Value}, Vals [x] us → ∃ u, us = [u] ∧ RelV x u
  | _, _, .cons r .nil => ⟨_, rfl, r⟩
theorem Vals.two : ∀ {x y : V} {us : List Value}, Vals [x, y] us → ∃ u v, us = [u, v] ∧ RelV x u ∧ RelV y v
  | _, _, _, .cons r (.cons q .nil) => ⟨_, _, rfl, r, q⟩
theorem Vals.zero : ∀ {us : List Value}, Vals [] us → us = []
  | _, .nil => rfl
theorem Vals.dropLast {xs : List V} {us : List Value} (h : Vals xs us) : Vals xs.dropLast us.dropLast := by
  induction h with
  | nil => exact .nil
  | cons r t ih =>
    cases t with
    | nil => exact .nil
    | cons q t' => exact .cons r ih
theorem Vals.eraseIdx : ∀ {xs : List V} {us : List Value} (i : Nat), Vals xs us → Vals (xs.eraseIdx i) (us.eraseIdx i)
  | _, _, _, .nil => .nil
  | _, _, 0, .cons _ t => t
  | _, _, i + 1, .cons r t => .cons r (Vals.eraseIdx i t)
theorem Vals.reverse {xs : List V} {us : List Value} (h : Vals xs us) : Vals xs.reverse us.reverse := by
  induction h with
  | nil => exact .nil
  | cons r t ih => rw [List.reverse_cons, List.reverse_cons]; exact Vals.append ih (.cons r .nil)
theorem Vals.rep {xs : List V} {us : List Value} (h : Vals xs us) : ∀ k : Nat, Vals (List.replicate k xs).flatten (List.replicate k us).flatten
  | 0 => .nil
  | k + 1 => by
    rw [List.replicate_succ, List.replicate_succ, List.flatten_cons, List.flatten_cons]
    exact Vals.append h (Vals.rep h k)
theorem erase_last {α : Type} (l : List α) : l.eraseIdx (l.length - 1) = l.dropLast := by
  induction l with
  | nil => rfl
  | cons a r ih =>
    cases r with
    | nil => rfl
    | cons b r =>
      have e : (a :: b :: r).length - 1 = ((b :: r).length - 1) + 1 := by
        have h1 : (a :: b :: r).length = r.length + 2 := rfl
        have h2 : (b :: r).length = r.length + 1 := rfl
        omega
      rw [e, List.eraseIdx_cons_succ, ih]
      all_goals rfl
theorem len_erase {α : Type} : ∀ (l : List α) (i : Nat), (l.eraseIdx i).length ≤ l.length
  | [], _ => Nat.le_refl _
  | _ :: _, 0 => Nat.le_succ _
  | _ :: r, i + 1 => Nat.succ_le_succ (len_erase r i)
theorem foldl_rep (its : List Value) : ∀ (k : Nat) (acc : List Value),
    List.foldl (fun x1 x2 => x1 ++ x2) acc.toArray (List.replicate k its.toArray) = (acc ++ (List.replicate k its).flatten).toArray
  | 0, acc => by simp
  | k + 1, acc => by
    have e : acc.toArray ++ its.toArray = (acc ++ its).toArray := by simp
    have e2 : (acc ++ its) ++ (List.replicate k its).flatten = acc ++ (List.replicate (k + 1) its).flatten := by
      rw [List.replicate_succ, List.flatten_cons, List.append_assoc]
    rw [← e2, ← foldl_rep its k (acc ++ its), ← e, List.replicate_succ, List.foldl_cons]

section
variable {X : Cx} {pins : List (Addr × Obj)} {σ : St} {H : Hp} {s : Shared} {l b : Addr} {xs ys zs : List V}

/-! ### the two steps: a tracked list is rewritten, a new list is laid -/
theorem Inv.lset {its its' : List Value} {n : Nat} {f : Array Value → Array Value} {t' : Nat} (I : Inv X pins σ H s) (hH : H l = some (.lst xs))
    (e : s.heap.get? l = some { cls := .type "list", data := .seq its.toArray n }) (hf : f its.toArray = its'.toArray) (hv : Vals ys its') (hz : ys.length ≤ sizeLine) :
    Inv X pins σ (upd H l (.lst ys)) { s with heap := s.heap.update l (Obj.mapSeq f), toks := t' } := by
  have q := PySem.IsL.update e f
  rw [hf] at q
  refine I.write (x := l) (e := l) (by rw [hH]; exact trivial) (.inl rfl) (fun b' u hb hu => (Heap.get?_update_other s.heap (Obj.mapSeq f) (Ne.symm hb)).trans hu) ⟨_, q⟩ ?_
  exact ⟨hz, its', _, hv, q⟩
theorem Inv.lnew {its : List Value} {t' : Nat} (I : Inv X pins σ H s) (hv : Vals ys its) (hz : ys.length ≤ sizeLine) :
    Inv X pins σ (upd H s.heap.objs.size (.lst ys)) { s with heap := s.heap.push { cls := .type "list", data := .seq its.toArray }, toks := t' } :=
  I.laid (fun _ _ q => Heap.get?_push_of_some _ q) (Nat.le_refl _) ⟨hz, its, 0, hv, Heap.get?_push_size _ rfl⟩
theorem Inv.fresh (I : Inv X pins σ H s) : H s.heap.objs.size = none := I.hok.fresh (Nat.le_refl _)
theorem Inv.lstM (I : Inv X pins σ H s) (hH : H l = some (.lst xs)) : xs.length ≤ sizeLine ∧ ∃ (its : List Value) (n : Nat), Vals xs its ∧ xs.length = its.length ∧ s.heap.get? l = some { cls := .type "list", data := .seq its.toArray n } := by
  obtain ⟨z, its, n, r, e⟩ := I.hok l _ hH
  exact ⟨z, its, n, r, r.length, e⟩

theorem notLongL {n : Nat} (h : n ≤ sizeLine) : Builtin.List.listTooLong n = false := by
  unfold Builtin.List.listTooLong
  exact decide_eq_false (by omega)
end

section
variable {X : Cx}

/-! ### methods -/
def rAppend : V → List V → Hp → VK → Prop := fun x vs H Q => ∃ l xs y, x = .ref l ∧ vs = [y] ∧ H l = some (.lst xs) ∧ xs.length < sizeLine ∧ Q .non (upd H l (.lst (xs ++ [y])))
theorem mt_append : MtM X "list.append" rAppend := by
  intro pins s σ H x vs v us Q I rx rv h
  obtain ⟨l, xs, y, rfl, rfl, hH, hz, q⟩ := h
  cases rx
  obtain ⟨u, rfl, ru⟩ := rv.one
  obtain ⟨z, its, n, r, hl, e⟩ := I.lstM hH
  refine call_meets F.slot_list_append ⟨_, e, rfl⟩ F.entry_list_append (F.args_list_append_2 _ _) (PySem.list_append l its.toArray n u (by rw [List.size_toArray]; omega)) ⟨e, ?_⟩
  refine ⟨.non, _, I.lset (its' := its ++ [u]) hH e (by simp) (r.append (.cons ru .nil)) ?_, rfl, q⟩
  rw [List.length_append, List.length_singleton]
  omega

def rExtend : V → List V → Hp → VK → Prop := fun x vs H Q => ∃ l b xs zs, x = .ref l ∧ vs = [.ref b] ∧ H l = some (.lst xs) ∧ H b = some (.lst zs) ∧ xs.length + zs.length ≤ sizeLine ∧ Q .non (upd H l (.lst (xs ++ zs)))
theorem mt_extend : MtM X "list.extend" rExtend := by
  intro pins s σ H x vs v us Q I rx rv h
  obtain ⟨l, b, xs, zs, rfl, rfl, hH, hB, hz, q⟩ := h
  cases rx
  obtain ⟨u, rfl, ru⟩ := rv.one
  cases ru
  obtain ⟨z, its, n, r, hl, e⟩ := I.lstM hH
  obtain ⟨z2, its2, n2, r2, hl2, e2⟩ := I.lstM hB
  have hsz : its.toArray.size + its2.toArray.size ≤ sizeLine := by rw [List.size_toArray, List.size_toArray]; omega
  have hlong : ¬ (!its.toArray.isEmpty && Builtin.List.listTooLong (its.toArray.size + its2.toArray.size)) = true := by
    rw [notLongL hsz, Bool.and_false]
    exact Bool.false_ne_true
  refine call_meets F.slot_list_extend ⟨_, e, rfl⟩ F.entry_list_extend (F.args_list_extend_2 _ _)
    (AutoSeq1.list_extend_list_list_0 l its.toArray n b its2.toArray n2 hlong (by rw [List.size_toArray]; omega) (by omega)) ⟨e, e2, ?_⟩
  refine ⟨.non, _, I.lset (its' := its ++ its2) hH e (by simp) (r.append r2) ?_, rfl, q⟩
  rw [List.length_append]
  omega

def rPop : V → List V → Hp → VK → Prop := fun x vs H Q => ∃ l xs y, x = .ref l ∧ vs = [] ∧ H l = some (.lst xs) ∧ xs[xs.length - 1]? = some y ∧ Q y (upd H l (.lst xs.dropLast))
theorem mt_pop : MtM X "list.pop" rPop := by
  intro pins s σ H x vs v us Q I rx rv h
  obtain ⟨l, xs, y, rfl, rfl, hH, hy, q⟩ := h
  cases rx
  have hus := rv.zero
  subst hus
  obtain ⟨z, its, n, r, hl, e⟩ := I.lstM hH
  obtain ⟨u, hu, ru⟩ := r.get hy
  have hy' : its.toArray[its.toArray.size - 1]? = some u := by
    show its.toArray[its.length - 1]? = some u
    rw [← Array.getElem?_toList, ← hl]
    exact hu
  refine call_meets F.slot_list_pop ⟨_, e, rfl⟩ F.entry_list_pop (F.args_list_pop_1 _) (MeetsSeq.list_pop_last l its.toArray n u hy' (by rw [List.size_toArray]; omega)) ⟨e, ?_⟩
  refine ⟨y, _, I.lset (its' := its.dropLast) hH e ?_ r.dropLast ?_, ru, q⟩
  · show its.toArray.eraseIdxIfInBounds (its.toArray.size - 1) = its.dropLast.toArray
    rw [List.size_toArray, List.eraseIdxIfInBounds_toArray, erase_last]
  · rw [List.length_dropLast]
    omega

def rPopAt : V → List V → Hp → VK → Prop := fun x vs H Q => ∃ l xs i k y, x = .ref l ∧ vs = [.int i] ∧ H l = some (.lst xs) ∧ -(2 ^ 63) ≤ i ∧ i < 2 ^ 63 ∧ seqIndex? i xs.length = some k ∧ xs[k]? = some y ∧ Q y (upd H l (.lst (xs.eraseIdx k)))
theorem mt_popAt : MtM X "list.pop" rPopAt := by
  intro pins s σ H x vs v us Q I rx rv h
  obtain ⟨l, xs, i, k, y, rfl, rfl, hH, h1, h2, hk, hy, q⟩ := h
  cases rx
  obtain ⟨u, rfl, ru⟩ := rv.one
  obtain ⟨t, rfl⟩ := ru
  obtain ⟨z, its, n, r, hl, e⟩ := I.lstM hH
  obtain ⟨w, hw, rw'⟩ := r.get hy
  refine call_meets F.slot_list_pop ⟨_, e, rfl⟩ F.entry_list_pop (F.args_list_pop_2 _ _)
    (MeetsSeq.list_pop_at l its.toArray n i t k w (fitsIndex_both h1 h2) (by rw [List.size_toArray, ← hl]; exact hk) (by rw [← Array.getElem?_toList]; exact hw) (by rw [List.size_toArray]; omega)) ⟨e, ?_⟩
  refine ⟨y, _, I.lset (its' := its.eraseIdx k) hH e ?_ (r.eraseIdx k) ?_, rw', q⟩
  · show its.toArray.eraseIdxIfInBounds k = (its.eraseIdx k).toArray
    rw [List.eraseIdxIfInBounds_toArray]
  · have := len_erase xs k
    omega

def rReverse : V → List V → Hp → VK → Prop := fun x vs H Q => ∃ l xs, x = .ref l ∧ vs = [] ∧ H l = some (.lst xs) ∧ Q .non (upd H l (.lst xs.reverse))
theorem mt_reverse : MtM X "list.reverse" rReverse := by
  intro pins s σ H x vs v us Q I rx rv h
  obtain ⟨l, xs, rfl, rfl, hH, q⟩ := h
  cases rx
  have hus := rv.zero
  subst hus
  obtain ⟨z, its, n, r, hl, e⟩ := I.lstM hH
  refine call_meets F.slot_list_reverse ⟨_, e, rfl⟩ F.entry_list_reverse (F.args_list_reverse_1 _) (AutoSeq1.list_reverse_list_0 l its.toArray n (by rw [List.size_toArray]; omega)) ⟨e, ?_⟩
  refine ⟨.non, _, I.lset (its' := its.reverse) hH e (by simp) r.reverse ?_, rfl, q⟩
  rw [List.length_reverse]
  omega

def rClear : V → List V → Hp → VK → Prop := fun x vs H Q => ∃ l xs, x = .ref l ∧ vs = [] ∧ H l = some (.lst xs) ∧ Q .non (upd H l (.lst []))
theorem mt_clear : MtM X "list.clear" rClear := by
  intro pins s σ H x vs v us Q I rx rv h
  obtain ⟨l, xs, rfl, rfl, hH, q⟩ := h
  cases rx
  have hus := rv.zero
  subst hus
  obtain ⟨z, its, n, r, hl, e⟩ := I.lstM hH
  refine call_meets F.slot_list_clear ⟨_, e, rfl⟩ F.entry_list_clear (F.args_list_clear_1 _) (AutoSeq1.list_clear_list_0 l its.toArray n (by rw [List.size_toArray]; omega)) ⟨e, ?_⟩
  exact ⟨.non, _, I.lset (its' := []) (ys := []) hH e rfl .nil (Nat.zero_le _), rfl, q⟩

/-! ### list + list, list += list, list * int -/
def rCat : R2 := fun x y H Q => ∃ l b xs zs, x = .ref l ∧ y = .ref b ∧ H l = some (.lst xs) ∧ H b = some (.lst zs) ∧ xs.length + zs.length ≤ sizeLine ∧ ∀ p, H p = none → Q (.ref p) (upd H p (.lst (xs ++ zs)))
theorem op_cat : OpR X (binaryOp .Add) rCat := by
  intro pins s σ H x y v u Q I rx ry h
  obtain ⟨l, b, xs, zs, rfl, rfl, hH, hB, hz, q⟩ := h
  cases rx
  cases ry
  obtain ⟨z, its, n, r, hl, e⟩ := I.lstM hH
  obtain ⟨z2, its2, n2, r2, hl2, e2⟩ := I.lstM hB
  refine PySem.P.add_list e e2 ?_ (by rw [List.size_toArray, List.size_toArray]; omega)
  have ea : its.toArray ++ its2.toArray = (its ++ its2).toArray := by simp
  rw [ea]
  exact ⟨.ref _, _, I.lnew (t' := s.toks) (r.append r2) (by rw [List.length_append]; omega), rfl, q _ I.fresh⟩
/-- a list times an int (a negative one is nothing) -/
def rRep : R2 := fun x y H Q => ∃ l k xs, x = .ref l ∧ y = .int k ∧ H l = some (.lst xs) ∧ -(2 ^ 63) ≤ k ∧ k < 2 ^ 63 ∧ xs.length * k.toNat ≤ sizeLine ∧
  ∀ p, H p = none → Q (.ref p) (upd H p (.lst (List.replicate k.toNat xs).flatten))
theorem len_rep {α : Type} (xs : List α) (k : Nat) : (List.replicate k xs).flatten.length = k * xs.length := by
  induction k with
  | zero => simp
  | succ k ih => rw [List.replicate_succ, List.flatten_cons, List.length_append, ih, Nat.succ_mul, Nat.add_comm]
theorem op_rep : OpR X (binaryOp .Mult) rRep := by
  intro pins s σ H x y v u Q I rx ry h
  obtain ⟨l, k, xs, rfl, rfl, hH, h1, h2, hz, q⟩ := h
  cases rx
  obtain ⟨t, rfl⟩ := ry
  obtain ⟨z, its, n, r, hl, e⟩ := I.lstM hH
  have hlen : its.toArray.size * k.toNat ≤ sizeLine := by rw [List.size_toArray, ← hl]; exact hz
  have hcap : ¬ its.toArray.size * k.toNat > (2 ^ 63 - 1) / 8 := by
    have : (sizeLine : Nat) ≤ (2 ^ 63 - 1) / 8 := by decide
    omega
  have hfit : ¬ (!Builtin.List.listFitsIndex k) = true := by
    rw [fitsIndex_both h1 h2]
    exact Bool.false_ne_true
  have hlong : ¬ Builtin.List.listTooLong (its.toArray.size * k.toNat) = true := by
    rw [notLongL hlen]
    exact Bool.false_ne_true
  have hnew : List.foldl (fun x1 x2 => x1 ++ x2) #[] (List.replicate (if its.toArray.isEmpty = true then 0 else k.toNat) its.toArray) = (List.replicate k.toNat its).flatten.toArray := by
    have f0 : ∀ m : Nat, List.foldl (fun x1 x2 => x1 ++ x2) #[] (List.replicate m its.toArray) = (List.replicate m its).flatten.toArray := fun m => by
      have := foldl_rep its m []
      rw [List.nil_append] at this
      exact this
    rw [f0]
    cases its with
    | nil => simp
    | cons a r' => rw [if_neg (by simp)]
  refine wpAny_binaryOp_repeat_ref (T := "list") (U := "int") (by decide) ⟨_, e, rfl⟩ (fun s' => typeIs_int s' k t) noFill_list_mul F.fills_int_mul F.slot_int_rmul repeat_list F.slot_int_index.lookup
    (call_meets F.slot_int_rmul (typeIs_int s k t) F.entry_int_rmul (F.args_int_rmul_2 _ _) (int___rmul___int_list k t l its.toArray n)
      ⟨e, rfl, ⟨_, e, rfl⟩, call_meets F.slot_list_mul ⟨_, e, rfl⟩ F.entry_list_mul (F.args_list_mul_2 _ _) (AutoListH.list___mul___list_int_3 l its.toArray n k t hfit hcap hlong) ⟨e, ?_⟩⟩)
  rw [hnew]
  exact ⟨.ref _, _, I.lnew (t' := s.toks) (r.rep k.toNat) (by rw [len_rep, Nat.mul_comm]; exact hz), rfl, q _ I.fresh⟩

/-! ### del xs[i] -/
theorem del_list {pins : List (Addr × Obj)} {s : Shared} {σ : St} {H : Hp} {l : Addr} {xs : List V} {i : Int} {t : Tok} {k : Nat} {Q : Unit → Shared → Prop} (I : Inv X pins σ H s) (hH : H l = some (.lst xs))
    (h1 : -(2 ^ 63) ≤ i) (h2 : i < 2 ^ 63) (hk : seqIndex? i xs.length = some k) (h : ∀ s', Inv X pins σ (upd H l (.lst (xs.eraseIdx k))) s' → Q () s') :
    wpAny (model X.prog X.w) X.A (delItem (.ref l) (.int i t)) Q X.xe s := by
  obtain ⟨z, its, n, r, hl, e⟩ := I.lstM hH
  refine PySem.P.delItem_list (k := k) e (fitsIndex_both h1 h2) (by rw [List.size_toArray, ← hl]; exact hk) (h _ ?_) (by rw [List.size_toArray]; omega)
  refine I.lset (its' := its.eraseIdx k) (t' := s.toks) hH e ?_ (r.eraseIdx k) ?_
  · show its.toArray.eraseIdxIfInBounds k = (its.eraseIdx k).toArray
    rw [List.eraseIdxIfInBounds_toArray]
  · have := len_erase xs k
    omega
end

/-! ### xs[a:b] = ys -/
section
variable {prog : Program} {w : World} {A : Around} {E : Value → Shared → Prop} {s : Shared}
theorem splice_eq (its its2 : List Value) (a c : Nat) : its.toArray.extract 0 a ++ its2.toArray ++ its.toArray.extract c its.toArray.size = (its.take a ++ its2 ++ its.drop c).toArray := by
  apply Array.toList_inj.mp
  first
    | (simp
       exact List.take_of_length_le (by simp))
    | simp [List.take_of_length_le]
    | simp
theorem bounds_run {a c n : Nat} (hac : a ≤ c) (hc : c ≤ n) : sliceBounds (some (a : Int)) (some (c : Int)) none n = ((a : Int), (c : Int), 1) := by
  simp only [sliceBounds, Option.getD_none]
  have h1 : ¬ ((a : Int) < 0) := by omega
  have h2 : ¬ ((c : Int) < 0) := by omega
  simp only [h1, h2, if_false, show (1 : Int) > 0 by decide, if_true]
  congr 1
  · omega
  · congr 1; omega
set_option maxRecDepth 100000 in
/-- list.__setitem__ with a slice of step one and another list -/
theorem setItem_slice {l b sl : Addr} {items new : Array Value} {n n2 : Nat} {vl vu : Value} {a c : Nat} {Q : Unit → Shared → Prop}
    (e : s.heap.get? l = some { cls := .type "list", data := .seq items n }) (e2 : s.heap.get? b = some { cls := .type "list", data := .seq new n2 }) (hne : l ≠ b)
    (hs : s.heap.IsSliceOf sl vl vu .none) (pl : IsPart vl (some (a : Int))) (pu : IsPart vu (some (c : Int))) (hac : a ≤ c) (hc : c ≤ items.size)
    (hsz : items.size + new.size ≤ sizeLine) (h : Q () { s with heap := s.heap.update l (Obj.mapSeq fun xs => xs.extract 0 a ++ new ++ xs.extract c xs.size) }) :
    wpAny (model prog w) A (setItem (.ref l) (.ref sl) (.ref b)) Q E s := by
  have hl : s.heap.IsList l items := PySem.IsL.isList e
  have hb : s.heap.IsList b new := PySem.IsL.isList e2
  obtain ⟨os, hos, hcs, hds⟩ := id hs
  have hTs : s.TypeIs (.ref sl) "slice" := ⟨os, hos, hcs⟩
  have hstep : ¬ ((rawPart none == rawInt 0) = true) := Bool.false_ne_true
  have hsame : Builtin.List.listSameRef (.ref l) (.ref b) = false := by
    unfold Builtin.List.listSameRef
    exact beq_eq_false_iff_ne.mpr hne
  have hmax : (max (a : Int) (c : Int)).toNat = c := by omega
  have hz' : ((fun xs : Array Value => xs.extract 0 a ++ new ++ xs.extract c xs.size) items).size ≤ sizeLine + 1 := by
    simp only [Array.size_append, Array.size_extract]
    omega
  unfold setItem
  try with_reducible refine wpAny_holding ?_
  first | refine wpAny_bind (wpAny_pure ?_) | skip
  refine wpAny_bind (wpAny_sequenceKey hl.typeIs (by decide) ?_)
  refine wpAny_bind (wpAny_callSpecial?_slot (name := Str.ofString "__setitem__") hl.typeIs slot_list_setitem
    (wpAny_call_entry slot_list_setitem hl.typeIs entry_list_setitem ?_ (args_list_setitem _ _ _)))
  show wpAny _ _ (Builtin.List.listSubscript? (.ref sl) >>= _) _ _ s
  refine wpAny_bind ?_
  unfold Builtin.List.listSubscript?
  refine wpAny_bind (wpAny_specialOf hTs slice_no_index ?_)
  simp only [Option.isNone_none, if_true]
  refine wpAny_pure ?_
  show wpAny _ _ (typeOf (.ref sl) >>= _) _ _ s
  refine wpAny_bind (wpAny_typeOf hTs ?_)
  first
    | rw [if_neg (by decide)]
    | refine PySem.W.KFB.if_not (by decide) ?_
  rw [listSliceParts_eq]
  refine wpAny_bind (wpAny_bind (wpAny_field hos hds (x := .none) rfl (wpAny_bind (wpAny_listPart .none ?_))))
  rw [if_neg hstep]
  refine wpAny_bind (wpAny_field hos hds (x := vl) rfl (wpAny_bind (wpAny_listPart pl ?_)))
  refine wpAny_bind (wpAny_field hos hds (x := vu) rfl (wpAny_bind (wpAny_listPart pu (wpAny_pure ?_))))
  first
    | simp only [hsame, Bool.false_eq_true, if_false]
    | refine PySem.W.KFB.if_not hsame ?_
    | (dsimp only
       rw [if_neg (by rw [hsame]; exact Bool.false_ne_true)])
  refine wpAny_bind (m := Builtin.List.listAllItems (.ref b) "must assign iterable to extended slice") ?_
  unfold Builtin.List.listAllItems
  refine wpAny_bind (wpAny_typeOf hb.typeIs ?_)
  first
    | refine PySem.W.KFB.if_so (by decide) ?_
    | rw [if_pos (by decide)]
    | simp only [beq_self_eq_true, Bool.true_or, if_true]
  unfold Builtin.List.listItems
  refine wpAny_bind (wpAny_seqItems e2 rfl (wpAny_pure ?_))
  refine wpAny_bind (wpAny_bind (wpAny_seqItems e rfl (wpAny_pure ?_)))
  refine wpAny_bind (wpAny_of_eq ((sliceIndices_raw (some (a : Int)) (some (c : Int)) none items.size (by simp)).trans (congrArg (pure : Int × Int × Int → Sem (Int × Int × Int)) (bounds_run hac hc))) ?_)
  show wpAny _ _ (if ((1 : Int) == 1) = true then _ else _) _ _ s
  rw [if_pos (by decide)]
  refine wpAny_bind (wpAny_rule ?_)
  first
    | simp only [notLongL hsz, Bool.false_eq_true, if_false]
    | refine PySem.W.KFB.if_not (notLongL hsz) ?_
  first | refine wpAny_bind (wpAny_pure ?_) | skip
  show wpAny _ _ (updateSeq l (fun xs => xs.extract 0 ((a : Int)).toNat ++ new ++ xs.extract (max (a : Int) (c : Int)).toNat xs.size) >>= _) _ _ s
  rw [hmax, Int.toNat_natCast]
  refine wpAny_bind (wpAny_updateSeq (hz := Nat.le_trans (Nat.le_add_right _ _) hsz) (_hz' := hz') e rfl ?_)
  refine wpAny_bind (wpAny_letGo ?_)
  first
    | exact wpAny_bind (wpAny_pure (wpAny_pure ⟨.none, rfl, wpAny_pure h⟩))
    | exact wpAny_pure ⟨.none, rfl, wpAny_pure h⟩
end

section
variable {X : Cx}
/-- xs[a:c] = ys of another list, at the value level: sl is the slice object that was just made -/
theorem set_slice {pins : List (Addr × Obj)} {s : Shared} {σ : St} {H : Hp} {l b sl : Addr} {xs ys : List V} {a c : Int} {vl vu : Value} {Q : Unit → Shared → Prop} (I : Inv X pins σ H s)
    (hH : H l = some (.lst xs)) (hB : H b = some (.lst ys)) (hne : l ≠ b) (hs : s.heap.IsSliceOf sl vl vu .none) (ra : RelV (.int a) vl) (rc : RelV (.int c) vu) (h0 : 0 ≤ a) (hac : a ≤ c) (hc : c ≤ xs.length)
    (hz : xs.length + ys.length ≤ sizeLine) (h : ∀ s', Inv X pins σ (upd H l (.lst (xs.take a.toNat ++ ys ++ xs.drop c.toNat))) s' → Q () s') :
    wpAny (model X.prog X.w) X.A (setItem (.ref l) (.ref sl) (.ref b)) Q X.xe s := by
  obtain ⟨ta, rfl⟩ := ra
  obtain ⟨tc, rfl⟩ := rc
  obtain ⟨z, its, n, r, hl, e⟩ := I.lstM hH
  obtain ⟨z2, its2, n2, r2, hl2, e2⟩ := I.lstM hB
  obtain ⟨a', rfl⟩ := Int.eq_ofNat_of_zero_le h0
  obtain ⟨c', rfl⟩ := Int.eq_ofNat_of_zero_le (Int.le_trans h0 hac)
  simp only [Int.toNat_natCast] at h
  refine setItem_slice (a := a') (c := c') e e2 hne hs (.int _ _) (.int _ _) (by omega) (by rw [List.size_toArray]; omega) (by rw [List.size_toArray, List.size_toArray]; omega) (h _ ?_)
  refine I.lset (its' := its.take a' ++ its2 ++ its.drop c') (t' := s.toks) hH e ?_ (Vals.append (Vals.append (r.take _) r2) (r.drop _)) ?_
  · exact splice_eq its its2 a' c'
  · rw [List.length_append, List.length_append, List.length_take, List.length_drop]
    omega
end
end L2

end

section
set_option Elab.async false
set_option linter.all false
set_option maxRecDepth 100000
namespace L2
open PySem PySem.Spec PyProof.Rows

/-! ### lists of pairs as tables -/
section
variable {κ : Type} [DecidableEq κ]
def valV (kvs : List (κ × V)) (k : κ) : Option V := (kvs.find? fun kv => decide (kv.1 = k)).map (·.2)
/-- in its place, or at the end -/
def putK (kvs : List (κ × V)) (k : κ) (v : V) : List (κ × V) :=
  if (kvs.any fun kv => decide (kv.1 = k)) = true then kvs.map (fun kv => if kv.1 = k then (kv.1, v) else kv) else kvs ++ [(k, v)]
def dropK (kvs : List (κ × V)) (k : κ) : List (κ × V) := kvs.filter fun kv => decide (kv.1 ≠ k)

theorem valV_nil {k : κ} : valV ([] : List (κ × V)) k = none := rfl
theorem valV_pos {p : κ × V} {r : List (κ × V)} {k : κ} (e : p.1 = k) : valV (p :: r) k = some p.2 := by simp [valV, List.find?_cons, e]
theorem valV_neg {p : κ × V} {r : List (κ × V)} {k : κ} (e : ¬ p.1 = k) : valV (p :: r) k = valV r k := by simp [valV, List.find?_cons, e]
theorem valV_any (k : κ) : ∀ kvs : List (κ × V), (kvs.any fun kv => decide (kv.1 = k)) = (valV kvs k).isSome
  | [] => rfl
  | p :: r => by
    rw [List.any_cons]
    by_cases e : p.1 = k
    · simp only [valV_pos e, decide_eq_true e, Bool.true_or, Option.isSome_some]
    · rw [valV_neg e, decide_eq_false e, Bool.false_or]; exact valV_any k r
theorem valV_map (k j : κ) (y : V) : ∀ kvs : List (κ × V), valV (kvs.map fun kv => if kv.1 = k then (kv.1, y) else kv) j = (valV kvs j).map fun x => if j = k then y else x
  | [] => rfl
  | p :: r => by
    have ih := valV_map k j y r
    rw [List.map_cons]
    by_cases h : p.1 = k
    · rw [if_pos h]
      by_cases e : p.1 = j
      · rw [valV_pos (p := (p.1, y)) e, valV_pos e, Option.map_some, if_pos (e.symm.trans h)]
      · rw [valV_neg (p := (p.1, y)) e, valV_neg e, ih]
    · rw [if_neg h]
      by_cases e : p.1 = j
      · rw [valV_pos (p := p) e, valV_pos e, Option.map_some, if_neg (fun z => h (e.trans z))]
      · rw [valV_neg (p := p) e, valV_neg e, ih]
theorem valV_snoc (k j : κ) (y : V) : ∀ kvs : List (κ × V), valV kvs k = none → valV (kvs ++ [(k, y)]) j = if j = k then some y else valV kvs j
  | [], _ => by
    by_cases e : k = j
    · rw [if_pos e.symm]; exact valV_pos (p := (k, y)) e
    · rw [if_neg (fun z => e z.symm)]; exact valV_neg (p := (k, y)) e
  | p :: r, hn => by
    rw [List.cons_append]
    have hk : ¬ p.1 = k := fun z => by rw [valV_pos z] at hn; cases hn
    rw [valV_neg hk] at hn
    have ih := valV_snoc k j y r hn
    by_cases e : p.1 = j
    · rw [valV_pos e, valV_pos e, if_neg (fun z => hk (e.trans z))]
    · rw [valV_neg e, valV_neg e, ih]
theorem valV_put (kvs : List (κ × V)) (k j : κ) (y : V) : valV (putK kvs k y) j = if j = k then some y else valV kvs j := by
  unfold putK
  by_cases a : (kvs.any fun kv => decide (kv.1 = k)) = true
  · rw [if_pos a, valV_map]
    rw [valV_any] at a
    by_cases e : j = k
    · obtain ⟨x, hx⟩ := Option.isSome_iff_exists.mp a
      rw [if_pos e, e, hx, Option.map_some, if_pos rfl]
    · rw [if_neg e]
      cases valV kvs j with
      | none => rfl
      | some x => rw [Option.map_some, if_neg e]
  · rw [if_neg a]
    refine valV_snoc k j y kvs ?_
    rw [valV_any] at a
    cases q : valV kvs k with
    | none => rfl
    | some x => rw [q] at a; exact (a rfl).elim
theorem length_putK (kvs : List (κ × V)) (k : κ) (v : V) : (putK kvs k v).length ≤ kvs.length + 1 := by
  unfold putK
  split
  · rw [List.length_map]; omega
  · rw [List.length_append, List.length_cons, List.length_nil]; omega
theorem putK_new {kvs : List (κ × V)} {k : κ} (v : V) (h : valV kvs k = none) : putK kvs k v = kvs ++ [(k, v)] := by
  unfold putK
  rw [valV_any, h]
  exact if_neg (by decide)

theorem RelO.isSome_eq {o : Option V} {u : Option Value} (r : RelO o u) : o.isSome = u.isSome := by
  cases o with
  | none => cases u with
    | none => rfl
    | some _ => exact (show False from r).elim
  | some _ => cases u with
    | none => exact (show False from r).elim
    | some _ => rfl
theorem RelO.getD {o : Option V} {u : Option Value} {d : V} {d' : Value} (r : RelO o u) (rd : RelV d d') : RelV (o.getD d) (u.getD d') := by
  cases o with
  | none => cases u with
    | none => exact rd
    | some _ => exact (show False from r).elim
  | some _ => cases u with
    | none => exact (show False from r).elim
    | some _ => exact r

/-- raw tables of the same keys -/
theorem KV.val {kvs : List (κ × V)} {vs : List (κ × Value)} (r : KV kvs vs) (k : κ) : RelO (valV kvs k) (valueAt vs k) := by
  unfold KV at r
  induction r with
  | nil => exact True.intro
  | @cons p q ps qs h t ih =>
    obtain ⟨h1, h2⟩ := h
    by_cases e : p.1 = k
    · have e' : q.1 = k := h1.symm.trans e
      have b : valueAt (q :: qs) k = some q.2 := by simp [valueAt, List.find?_cons, e']
      rw [valV_pos e, b]; exact h2
    · have e' : ¬ q.1 = k := fun z => e (h1.trans z)
      have b : valueAt (q :: qs) k = valueAt qs k := by simp [valueAt, List.find?_cons, e']
      rw [valV_neg e, b]; exact ih
theorem KV.any {kvs : List (κ × V)} {vs : List (κ × Value)} (r : KV kvs vs) (k : κ) : (kvs.any fun kv => decide (kv.1 = k)) = vs.any fun kv => decide (kv.1 = k) := by
  unfold KV at r
  induction r with
  | nil => rfl
  | cons h t ih => rw [List.any_cons, List.any_cons, ih, h.1]
theorem KV.repl {kvs : List (κ × V)} {vs : List (κ × Value)} (r : KV kvs vs) (k : κ) {y : V} {u : Value} (ry : RelV y u) :
    KV (kvs.map fun kv => if kv.1 = k then (kv.1, y) else kv) (vs.map fun kv => if kv.1 = k then (kv.1, u) else kv) := by
  unfold KV at r ⊢
  induction r with
  | nil => exact .nil
  | @cons p q ps qs h t ih =>
    rw [List.map_cons, List.map_cons]
    refine .cons ?_ ih
    obtain ⟨h1, h2⟩ := h
    by_cases e : p.1 = k
    · rw [if_pos e, if_pos (h1.symm.trans e)]; exact ⟨h1, ry⟩
    · rw [if_neg e, if_neg (fun z => e (h1.trans z))]; exact ⟨h1, h2⟩
theorem KV.put {kvs : List (κ × V)} {vs : List (κ × Value)} (r : KV kvs vs) (k : κ) {y : V} {u : Value} (ry : RelV y u) : KV (putK kvs k y) (stored vs k u) := by
  unfold putK stored
  rw [r.any k]
  by_cases e : (vs.any fun kv => decide (kv.1 = k)) = true
  · rw [if_pos e, if_pos e]; exact r.repl k ry
  · rw [if_neg e, if_neg e]; exact Paired.snoc r ⟨rfl, ry⟩
theorem KV.drop {kvs : List (κ × V)} {vs : List (κ × Value)} (r : KV kvs vs) (k : κ) : KV (dropK kvs k) (without vs k) := by
  unfold KV at r ⊢
  unfold dropK without
  induction r with
  | nil => exact .nil
  | @cons p q ps qs h t ih =>
    obtain ⟨h1, h2⟩ := h
    rw [List.filter_cons, List.filter_cons]
    by_cases e : p.1 = k
    · have a : ¬ decide (p.1 ≠ k) = true := by simp [e]
      have b : ¬ decide (q.1 ≠ k) = true := by simp [h1.symm.trans e]
      rw [if_neg a, if_neg b]; exact ih
    · have e' : ¬ q.1 = k := fun z => e (h1.trans z)
      have a : decide (p.1 ≠ k) = true := by simp [e]
      have b : decide (q.1 ≠ k) = true := by simp [e']
      rw [if_pos a, if_pos b]; exact .cons ⟨h1, h2⟩ ih
theorem KV.keys {kvs : List (κ × V)} {vs : List (κ × Value)} (r : KV kvs vs) : kvs.map (·.1) = vs.map (·.1) := by
  unfold KV at r
  induction r with
  | nil => rfl
  | cons h t ih => rw [List.map_cons, List.map_cons, ih, h.1]
theorem KV.length {kvs : List (κ × V)} {vs : List (κ × Value)} (r : KV kvs vs) : kvs.length = vs.length := Paired.length r
theorem dropK_le (kvs : List (κ × V)) (k : κ) : (dropK kvs k).length ≤ kvs.length := List.length_filter_le _ _
end


/-! ### a tracked dict, its keys ints and texts or tuples of these -/
theorem kV_is {P : Program} {w : World} {k : Key} {u : Value} (r : RelV (kV k) u) : (mixKind P w).is k u = true := by
  cases k with
  | inl i => obtain ⟨t, e⟩ := (show ∃ t, u = Value.int i t from r); subst e; exact mixKind_int P w i t
  | inr x => obtain ⟨t, e⟩ := (show ∃ t, u = Value.str x t from r); subst e; exact mixKind_str P w x t
theorem kV_inj {a b : Key} (e : kV a = kV b) : a = b := by
  cases a with
  | inl i => cases b with
    | inl j => have e' : V.int i = V.int j := e; injection e' with e'; rw [e']
    | inr y => exact nomatch (show V.int i = V.str y from e)
  | inr x => cases b with
    | inl j => exact nomatch (show V.str x = V.int j from e)
    | inr y => have e' : V.str x = V.str y := e; injection e' with e'; rw [e']
theorem kVs_inj : ∀ {a b : List Key}, a.map kV = b.map kV → a = b
  | [], [], _ => rfl
  | [], _ :: _, e => by simp at e
  | _ :: _, [], e => by simp at e
  | x :: xs, y :: ys, e => by
    rw [List.map_cons, List.map_cons] at e
    injection e with e1 e2
    rw [kV_inj e1, kVs_inj e2]
theorem items_are {P : Program} {w : World} : ∀ {ks : List Key} {us : List Value}, Vals (ks.map kV) us → ItemsAre (mixKind P w) ks us
  | [], _, r => by rw [List.map_nil] at r; cases r; exact .nil
  | k :: ks, _, r => by
    rw [List.map_cons] at r
    cases r with
    | cons h t => exact .cons (kV_is h) (items_are t)

/-- raw entries of a dict with tuple keys -/
abbrev KT (H : Hp) : List (List Key × V) → List (List Key × Addr × Value) → Prop := Paired fun p q => p.1 = q.1 ∧ H q.2.1 = some (.tup (p.1.map kV)) ∧ RelV p.2 q.2.2
theorem KT.val {H : Hp} {kvs : List (List Key × V)} {xs : List (List Key × Addr × Value)} (r : KT H kvs xs) (k : List Key) : RelO (valV kvs k) ((atKey xs k).map (·.2)) := by
  induction r with
  | nil => exact True.intro
  | @cons p q ps qs h t ih =>
    obtain ⟨h1, _, h2⟩ := h
    by_cases e : p.1 = k
    · have e' : q.1 = k := h1.symm.trans e
      have b : atKey (q :: qs) k = some q.2 := by simp [atKey, List.find?_cons, e']
      rw [valV_pos e, b]; exact h2
    · have e' : ¬ q.1 = k := fun z => e (h1.trans z)
      have b : atKey (q :: qs) k = atKey qs k := by simp [atKey, List.find?_cons, e']
      rw [valV_neg e, b]; exact ih
theorem KT.repl {H : Hp} {kvs : List (List Key × V)} {xs : List (List Key × Addr × Value)} (r : KT H kvs xs) (k : List Key) {y : V} {u : Value} (ry : RelV y u) :
    KT H (kvs.map fun kv => if kv.1 = k then (kv.1, y) else kv) (xs.map (putAt k u)) := by
  induction r with
  | nil => exact .nil
  | @cons p q ps qs h t ih =>
    rw [List.map_cons, List.map_cons]
    refine .cons ?_ ih
    obtain ⟨h1, h2, h3⟩ := h
    unfold putAt
    by_cases e : p.1 = k
    · rw [if_pos e, if_pos (h1.symm.trans e)]; exact ⟨h1, h2, ry⟩
    · rw [if_neg e, if_neg (fun z => e (h1.trans z))]; exact ⟨h1, h2, h3⟩
theorem KT.put {H : Hp} {kvs : List (List Key × V)} {xs : List (List Key × Addr × Value)} (r : KT H kvs xs) (k : List Key) {b : Addr} {y : V} {u : Value} (hb : H b = some (.tup (k.map kV))) (ry : RelV y u) :
    KT H (putK kvs k y) (storedH xs k b u) := by
  have e : (kvs.any fun kv => decide (kv.1 = k)) = (atKey xs k).isSome := by
    rw [valV_any, (r.val k).isSome_eq, Option.isSome_map]
  unfold putK storedH
  rw [e]
  by_cases q : (atKey xs k).isSome = true
  · rw [if_pos q, if_pos q]; exact r.repl k ry
  · rw [if_neg q, if_neg q]; exact Paired.snoc r ⟨rfl, hb, ry⟩
theorem KT.keeps {H H' : Hp} {kvs : List (List Key × V)} {xs : List (List Key × Addr × Value)} (r : KT H kvs xs) (ht : ∀ b ys, H b = some (.tup ys) → H' b = some (.tup ys)) : KT H' kvs xs :=
  Paired.mapP r fun _ _ z => ⟨z.1, ht _ _ z.2.1, z.2.2⟩

section
variable {P : Program} {w : World} {H : Hp} {h : Heap} {a : Addr}
theorem rd_of {u : HO} (ok : HOk P w H h) (e : Rd H a u) : ObjOk P w H h a u := e.ok ok
theorem dk_rd {kvs : List (Key × V)} (ok : HOk P w H h) (e : Rd H a (.dK kvs)) : kvs.length ≤ sizeLine ∧ (a == sysModules) = false ∧ ∃ vs, KV kvs vs ∧ h.DictOf (mixKind P w) a vs :=
  show ObjOk P w H h a (.dK kvs) from rd_of ok e
theorem dk_of {kvs : List (Key × V)} (ok : HOk P w H h) (e : H a = some (.dK kvs)) : kvs.length ≤ sizeLine ∧ (a == sysModules) = false ∧ ∃ vs, KV kvs vs ∧ h.DictOf (mixKind P w) a vs := dk_rd ok (.inl e)
/-- a tracked tuple of ints and texts is a key -/
theorem key_of {ks : List Key} (ok : HOk P w H h) (e : H a = some (.tup (ks.map kV))) : (tupleKind (mixKind P w)).is h ks a := by
  obtain ⟨_, its, r, o, h1, h2, n, h3⟩ := (show ObjOk P w H h a (.tup (ks.map kV)) from ok a _ e)
  exact ⟨o, its.toArray, n, h1, h2, h3, by simpa using items_are r⟩
theorem dt_rd {kvs : List (List Key × V)} (ok : HOk P w H h) (e : Rd H a (.dT kvs)) : kvs.length ≤ sizeLine ∧ (a == sysModules) = false ∧
    ∃ xs, KT H kvs xs ∧ h.DictOfH (tupleKind (mixKind P w)) a xs := by
  obtain ⟨z, y, xs, r, o, es, ep, h1, h2, h3, h4, h5⟩ := (show ObjOk P w H h a (.dT kvs) from rd_of ok e)
  refine ⟨z, y, xs, r, o, es, ep, h1, h2, h3, h4, fun x hx => ?_, h5⟩
  have all : ∀ {l : List (List Key × V)} {m : List (List Key × Addr × Value)}, KT H l m → ∀ x ∈ m, (tupleKind (mixKind P w)).is h x.1 x.2.1 := by
    intro l m q
    induction q with
    | nil => intro x hx; exact nomatch hx
    | @cons p q ps qs hq t ih =>
      intro x hx
      rcases List.mem_cons.mp hx with e | hx
      · subst e
        exact key_of ok (by rw [← hq.1]; exact hq.2.1)
      · exact ih x hx
  exact all r x hx
theorem dt_of {kvs : List (List Key × V)} (ok : HOk P w H h) (e : H a = some (.dT kvs)) : kvs.length ≤ sizeLine ∧ (a == sysModules) = false ∧
    ∃ xs, KT H kvs xs ∧ h.DictOfH (tupleKind (mixKind P w)) a xs := dt_rd ok (.inl e)
end

/-- what the dict at a holds at the key y -/
def DGet (H : Hp) (a : Addr) (y : V) (r : Option V) : Prop :=
  (∃ kvs k, Rd H a (.dK kvs) ∧ y = kV k ∧ r = valV kvs k) ∨ ∃ kvs k b, Rd H a (.dT kvs) ∧ y = .ref b ∧ H b = some (.tup (k.map kV)) ∧ r = valV kvs k
/-- the heap behind a[y] = v -/
def DPut (H : Hp) (a : Addr) (y v : V) (H' : Hp) : Prop :=
  (∃ kvs k, H a = some (.dK kvs) ∧ y = kV k ∧ kvs.length < sizeLine ∧ H' = upd H a (.dK (putK kvs k v))) ∨
  ∃ kvs k b, H a = some (.dT kvs) ∧ y = .ref b ∧ H b = some (.tup (k.map kV)) ∧ kvs.length < sizeLine ∧ H' = upd H a (.dT (putK kvs k v))
theorem DGet.k {H : Hp} {a : Addr} {kvs : List (Key × V)} {k : Key} (e : H a = some (.dK kvs)) : DGet H a (kV k) (valV kvs k) := .inl ⟨kvs, k, .inl e, rfl, rfl⟩
theorem DGet.t {H : Hp} {a b : Addr} {kvs : List (List Key × V)} {k : List Key} (e : H a = some (.dT kvs)) (eb : H b = some (.tup (k.map kV))) : DGet H a (.ref b) (valV kvs k) := .inr ⟨kvs, k, b, .inl e, rfl, eb, rfl⟩
theorem DPut.k {H : Hp} {a : Addr} {kvs : List (Key × V)} {k : Key} {v : V} (e : H a = some (.dK kvs)) (hl : kvs.length < sizeLine) : DPut H a (kV k) v (upd H a (.dK (putK kvs k v))) := .inl ⟨kvs, k, e, rfl, hl, rfl⟩
theorem DPut.t {H : Hp} {a b : Addr} {kvs : List (List Key × V)} {k : List Key} {v : V} (e : H a = some (.dT kvs)) (eb : H b = some (.tup (k.map kV))) (hl : kvs.length < sizeLine) :
    DPut H a (.ref b) v (upd H a (.dT (putK kvs k v))) := .inr ⟨kvs, k, b, e, rfl, eb, hl, rfl⟩


section
variable {X : Cx} {pins : List (Addr × Obj)} {σ : St} {H : Hp} {s : Shared} {a : Addr} {y v : V} {u r : Value} {o : Option V} {A : Around} {E : Value → Shared → Prop}

theorem Inv.big (I : Inv X pins σ H s) : sysModules < s.heap.objs.size := by
  have h : mainGlobals < s.heap.objs.size := (I.mod.glob.keeps I.bk).lt
  exact Nat.lt_trans (by decide) h

/-- d[y], there -/
theorem d_getItem {Q : Value → Shared → Prop} (hu : A.units + 1 < cLine) (I : Inv X pins σ H s) (g : DGet H a y (some v)) (ry : RelV y u) (h : ∀ w' s', Inv X pins σ H s' → RelV v w' → Q w' s') :
    wpAny (model X.prog X.w) A (getItem (.ref a) u) Q E s := by
  rcases g with ⟨kvs, k, e, ey, l⟩ | ⟨kvs, k, b, e, ey, eb, l⟩
  · subst ey
    obtain ⟨z, hd, vs, rel, dd⟩ := dk_rd I.hok e
    obtain ⟨w', hw, rw'⟩ := RelO.some_of (v := v) (o := valueAt vs k) (by rw [l]; exact rel.val k)
    exact wpAny_getItem_of (kV_is ry) dd.mapOf hw (h w' _ (I.tok _) rw')
  · subst ey
    cases (show u = Value.ref b from ry)
    obtain ⟨z, hd, xs, rel, dd⟩ := dt_rd I.hok e
    obtain ⟨w', hw, rw'⟩ := RelO.some_of (v := v) (o := (atKey xs k).map (·.2)) (by rw [l]; exact rel.val k)
    obtain ⟨p, hp, hp2⟩ := Option.map_eq_some_iff.mp hw
    refine wpAny_getItem_heap (tupleKind_room_in1 hu) (key_of I.hok eb) dd hp ?_
    rw [hp2]
    exact h w' _ (I.tok _) rw'
/-- y in d -/
theorem d_in {Q : Value → Shared → Prop} (hu : A.units + 1 < cLine) (I : Inv X pins σ H s) (g : DGet H a y o) (ry : RelV y u) (h : ∀ s', Inv X pins σ H s' → Q (.bool o.isSome) s') :
    wpAny (model X.prog X.w) A (compareOp .In u (.ref a)) Q E s := by
  rcases g with ⟨kvs, k, e, ey, l⟩ | ⟨kvs, k, b, e, ey, eb, l⟩
  · subst ey
    obtain ⟨z, hd, vs, rel, dd⟩ := dk_rd I.hok e
    refine wpAny_in_of (kV_is ry) hd dd.mapOf ?_
    rw [← (rel.val k).isSome_eq, ← l]
    exact h _ (I.tok _)
  · subst ey
    cases (show u = Value.ref b from ry)
    obtain ⟨z, hd, xs, rel, dd⟩ := dt_rd I.hok e
    refine wpAny_in_heap (tupleKind_room_in1 hu) (key_of I.hok eb) hd dd ?_
    have q := (rel.val k).isSome_eq
    rw [Option.isSome_map] at q
    rw [← q, ← l]
    exact h _ (I.tok _)
theorem d_notIn {Q : Value → Shared → Prop} (hu : A.units + 1 < cLine) (I : Inv X pins σ H s) (g : DGet H a y o) (ry : RelV y u) (h : ∀ s', Inv X pins σ H s' → Q (.bool (!o.isSome)) s') :
    wpAny (model X.prog X.w) A (compareOp .NotIn u (.ref a)) Q E s := by
  rcases g with ⟨kvs, k, e, ey, l⟩ | ⟨kvs, k, b, e, ey, eb, l⟩
  · subst ey
    obtain ⟨z, hd, vs, rel, dd⟩ := dk_rd I.hok e
    refine wpAny_notIn_of (kV_is ry) hd dd.mapOf ?_
    rw [← (rel.val k).isSome_eq, ← l]
    exact h _ (I.tok _)
  · subst ey
    cases (show u = Value.ref b from ry)
    obtain ⟨z, hd, xs, rel, dd⟩ := dt_rd I.hok e
    refine wpAny_notIn_heap (tupleKind_room_in1 hu) (key_of I.hok eb) hd dd ?_
    have q := (rel.val k).isSome_eq
    rw [Option.isSome_map] at q
    rw [← q, ← l]
    exact h _ (I.tok _)
/-- a dict's object is replaced -/
theorem d_write {h' : Heap} {t' : Nat} {ob : HO} (I : Inv X pins σ H s) (mu : Mut (H a)) (hs : Heap.SameBut a s.heap h') (he : ∃ q, h'.get? a = some q) (new : ObjOk X.prog X.w (upd H a ob) h' a ob) :
    Inv X pins σ (upd H a ob) { s with heap := h', toks := t' } :=
  I.write (x := a) (e := a) mu (.inl rfl) (fun b q hb z => (hs.2 b hb).trans z) he new
theorem dk_new {P : Program} {w : World} {H' : Hp} {h' : Heap} {kvs : List (Key × V)} {vs : List (Key × Value)} (z : kvs.length ≤ sizeLine) (hd : (a == sysModules) = false) (rel : KV kvs vs) (dd : h'.DictOf (mixKind P w) a vs) :
    ObjOk P w H' h' a (.dK kvs) := ⟨z, hd, vs, rel, dd⟩
/-- d[y] = v -/
theorem d_setItem {H' : Hp} {Q : Unit → Shared → Prop} (hu : A.units + 1 < cLine) (I : Inv X pins σ H s) (g : DPut H a y v H') (ry : RelV y u) (rv : RelV v r) (h : ∀ s', Inv X pins σ H' s' → Q () s') :
    wpAny (model X.prog X.w) A (setItem (.ref a) u r) Q E s := by
  rcases g with ⟨kvs, k, e, ey, l, eH⟩ | ⟨kvs, k, b, e, ey, eb, l, eH⟩
  · subst ey eH
    obtain ⟨z, hd, vs, rel, dd⟩ := dk_of I.hok e
    have hz : vs.length ≤ sizeLine := by rw [← rel.length]; exact z
    have hl : (putK kvs k v).length ≤ sizeLine := by have := length_putK kvs k v; omega
    refine wpAny_setItem_pairs (hsz := hz) (kV_is ry) dd fun h' dd' hs => h _ ?_
    have he : ∃ q, h'.get? a = some q := let ⟨q, _, _, hq, _⟩ := dd'; ⟨q, hq⟩
    exact d_write I (by rw [e]; exact True.intro) hs he (dk_new hl hd (rel.put k rv) dd')
  · subst ey eH
    cases (show u = Value.ref b from ry)
    obtain ⟨z, hd, xs, rel, dd⟩ := dt_of I.hok e
    have hz : xs.length ≤ sizeLine := by rw [← Paired.length rel]; exact z
    have hl : (putK kvs k v).length ≤ sizeLine := by have := length_putK kvs k v; omega
    refine wpAny_setItem_heap (hsz := hz) (tupleKind_room_in1 hu) (key_of I.hok eb) dd fun h' dd' hs => h _ ?_
    obtain ⟨q, es, ep, hq, h2, h3, h4, _, h5⟩ := dd'
    refine d_write I (by rw [e]; exact True.intro) hs ⟨q, hq⟩ ⟨hl, hd, _, (rel.put k eb rv).keeps fun c ys ec => ?_, q, es, ep, hq, h2, h3, h4, h5⟩
    rw [upd_ne (ne_of ec e (fun z => nomatch z))]
    exact ec
end

section
variable {X : Cx} {pins : List (Addr × Obj)} {σ : St} {H : Hp} {s : Shared} {a : Addr} {kvs : List (Key × V)} {k : Key} {u : Value} {A : Around} {E : Value → Shared → Prop}
/-- del d[k] -/
theorem d_delItem {Q : Unit → Shared → Prop} (I : Inv X pins σ H s) (e : H a = some (.dK kvs)) (ry : RelV (kV k) u) (l : (valV kvs k).isSome = true) (h : ∀ s', Inv X pins σ (upd H a (.dK (dropK kvs k))) s' → Q () s') :
    wpAny (model X.prog X.w) A (delItem (.ref a) u) Q E s := by
  obtain ⟨z, hd, vs, rel, dd⟩ := dk_of I.hok e
  refine wpAny_delItem_slot dd.typeIs (by decide) PySem.F.slot_dict_delitem
    (call_meetsIn PySem.F.slot_dict_delitem dd.typeIs PySem.F.entry_dict_delitem (PySem.F.args_dict_delitem_2 _ _) (meets_dict_delitem_pairs (mixKind X.prog X.w) a (kV_is ry)) ⟨vs, dd, by rw [← rel.length]; exact z, by rw [← (rel.val k).isSome_eq]; exact l, fun h' dd' hs => h _ ?_⟩)
  have he : ∃ q, h'.get? a = some q := let ⟨q, _, _, hq, _⟩ := dd'; ⟨q, hq⟩
  exact d_write I (by rw [e]; exact True.intro) hs he (dk_new (Nat.le_trans (dropK_le kvs k) z) hd (rel.drop k) dd')
/-- d.pop(k[, x]), there -/
theorem d_pop {v : V} {more : List Value} {Q : Value → Shared → Prop} (I : Inv X pins σ H s) (e : H a = some (.dK kvs)) (ry : RelV (kV k) u) (l : valV kvs k = some v) (hm : more = [] ∨ ∃ x, more = [x])
    (h : ∀ w' s', Inv X pins σ (upd H a (.dK (dropK kvs k))) s' → RelV v w' → Q w' s') : wpAny (model X.prog X.w) A (call (.builtin "dict.pop") (.ref a :: u :: more)) Q E s := by
  obtain ⟨z, hd, vs, rel, dd⟩ := dk_of I.hok e
  obtain ⟨w', hw, rw'⟩ := RelO.some_of (v := v) (o := valueAt vs k) (by rw [← l]; exact rel.val k)
  have hp : (keyPart u).isSome = true := by
    cases k with
    | inl i => obtain ⟨t, q⟩ := (show ∃ t, u = Value.int i t from ry); subst q; rfl
    | inr x => obtain ⟨t, q⟩ := (show ∃ t, u = Value.str x t from ry); subst q; rfl
  have ha : argsOk "dict.pop" ⟨.ref a :: u :: more, []⟩ := by
    rcases hm with q | ⟨x, q⟩
    · subst q; exact PySem.F.args_dict_pop_2 _ _
    · subst q; exact PySem.F.args_dict_pop_3 _ _ _
  refine call_meetsIn PySem.F.slot_dict_pop dd.typeIs PySem.F.entry_dict_pop ha (meets_dict_pop_there (mixKind X.prog X.w) a (kV_is ry) more hm hp)
    ⟨vs, w', dd, by rw [← rel.length]; exact z, hw, fun h' dd' hs => h w' _ ?_ rw'⟩
  have he : ∃ q, h'.get? a = some q := let ⟨q, _, _, hq, _⟩ := dd'; ⟨q, hq⟩
  exact d_write I (by rw [e]; exact True.intro) hs he (dk_new (Nat.le_trans (dropK_le kvs k) z) hd (rel.drop k) dd')
/-- d.pop(k, x), not there -/
theorem d_popD {r : Value} {Q : Value → Shared → Prop} (I : Inv X pins σ H s) (e : H a = some (.dK kvs)) (ry : RelV (kV k) u) (l : valV kvs k = none) (h : ∀ s', Inv X pins σ H s' → Q r s') :
    wpAny (model X.prog X.w) A (call (.builtin "dict.pop") [.ref a, u, r]) Q E s := by
  obtain ⟨z, hd, vs, rel, dd⟩ := dk_of I.hok e
  have hn : valueAt vs k = none := RelO.none_of (by rw [← l]; exact rel.val k)
  have hp : (keyPart u).isSome = true := by
    cases k with
    | inl i => obtain ⟨t, q⟩ := (show ∃ t, u = Value.int i t from ry); subst q; rfl
    | inr x => obtain ⟨t, q⟩ := (show ∃ t, u = Value.str x t from ry); subst q; rfl
  exact call_meetsIn PySem.F.slot_dict_pop dd.typeIs PySem.F.entry_dict_pop (PySem.F.args_dict_pop_3 _ _ _) (meets_dict_pop_default (mixKind X.prog X.w) a (kV_is ry) hd hp r) ⟨vs, dd, hn, h _ (I.tok _)⟩
/-- d.clear() -/
theorem d_clear {Q : Value → Shared → Prop} (I : Inv X pins σ H s) (e : H a = some (.dK kvs)) (h : ∀ s', Inv X pins σ (upd H a (.dK [])) s' → Q .none s') : wpAny (model X.prog X.w) A (call (.builtin "dict.clear") [.ref a]) Q E s := by
  obtain ⟨z, hd, vs, rel, dd⟩ := dk_of I.hok e
  refine call_meetsIn PySem.F.slot_dict_clear dd.typeIs PySem.F.entry_dict_clear (PySem.F.args_dict_clear_1 _) (meets_dict_clear (mixKind X.prog X.w) a) ⟨vs, dd, by rw [← rel.length]; exact z, fun h' dd' hs => h _ ?_⟩
  have he : ∃ q, h'.get? a = some q := let ⟨q, _, _, hq, _⟩ := dd'; ⟨q, hq⟩
  exact d_write (t' := s.toks) I (by rw [e]; exact True.intro) hs he (dk_new (Nat.zero_le _) hd .nil dd')
/-- len(d) -/
theorem d_len {Q : Value → Shared → Prop} (I : Inv X pins σ H s) (e : Rd H a (.dK kvs)) (h : ∀ t s', Inv X pins σ H s' → Q (.int kvs.length t) s') : wpAny (model X.prog X.w) A (call (.builtin "len") [.ref a]) Q E s := by
  obtain ⟨z, hd, vs, rel, dd⟩ := dk_rd I.hok e
  refine call_len_dict hd dd (by rw [← rel.length]; rw [sizeLine_eq] at z; omega) ?_
  rw [← rel.length]
  exact h _ _ (I.tok _)
/-- if d -/
theorem d_truth {Q : Bool → Shared → Prop} (I : Inv X pins σ H s) (e : Rd H a (.dK kvs)) (h : ∀ s', Inv X pins σ H s' → Q (!kvs.isEmpty) s') : wpAny (model X.prog X.w) A (truthy (.ref a)) Q E s := by
  obtain ⟨z, hd, vs, rel, dd⟩ := dk_rd I.hok e
  refine wpAny_truthy_dict hd dd (by rw [← rel.length]; rw [sizeLine_eq] at z; omega) ?_
  have q : kvs.isEmpty = vs.isEmpty := by cases rel <;> rfl
  rw [← q]
  exact h _ (I.tok _)
end


/-! ### readings and rules -/
/-- the element of a subscription, not a slice -/
def NoSl (i : Expr) : Prop := ∀ ov iv, subscripted i false ov iv = operate [ov, iv] (getItem ov iv)
theorem subD_of {prog : Program} {w : World} {A : Around} {E : Value → Shared → Prop} {s : Shared} {env : Env} {value slice : Expr} {pos : Pos} {T id : String} {Q : Value → Shared → Prop}
    (hl : typeLookup (.type T) "__getitem__" = pure (some (.builtin id))) (hs : NoSl slice)
    (h : wpAny (model prog w) A (eval value env) (fun o s₁ => wpAny (model prog w) A (eval slice env) (fun i s₂ => s₂.TypeIs o T ∧ wpAny (model prog w) A (getItem o i) Q E s₂) E s₁) E s) :
    wpAny (model prog w) A (eval (.Subscript value slice pos) env) Q E s := by
  refine Subscript_ (wpAny_mono h (fun o s₁ h₁ => wpAny_mono h₁ (fun i s₂ h₂ => ?_) fun _ _ x => x) fun _ _ x => x)
  obtain ⟨hT, h₂⟩ := h₂
  unfold subscriptTail
  refine wpAny_bind ?_
  rw [getitemInPython_of_ne hT.not_modules]
  refine wpAny_bind (wpAny_specialOf hT hl ?_)
  have fin : wpAny (model prog w) A (subscripted slice false o i) (fun r s₃ => wpAny (model prog w) A (letTemporaryGo value o r >>= fun _ => pure r) Q E s₃) E s₂ := by
    rw [hs o i]
    exact wpAny_operating (wpAny_mono h₂ (fun r s₃ h₃ => wpAny_bind (wpAny_letTemporaryGo (wpAny_pure h₃))) fun _ _ x => x)
  first
    | exact wpAny_pure (wpAny_bind fin)
    | exact wpAny_bind (wpAny_pure (wpAny_bind fin))
    | exact wpAny_bind fin

theorem dict_typeIs {X : Cx} {pins : List (Addr × Obj)} {σ : St} {H : Hp} {s : Shared} {a : Addr} {y : V} {o : Option V} (I : Inv X pins σ H s) (g : DGet H a y o) : s.TypeIs (.ref a) "dict" := by
  rcases g with ⟨kvs, k, e, _, _⟩ | ⟨kvs, k, b, e, _, _, _⟩
  · obtain ⟨_, _, vs, _, dd⟩ := dk_rd I.hok e
    exact dd.typeIs
  · obtain ⟨_, _, xs, _, dd⟩ := dt_rd I.hok e
    exact dd.typeIs
theorem dict_noDict {X : Cx} {pins : List (Addr × Obj)} {σ : St} {H : Hp} {s : Shared} {a : Addr} {y : V} {o : Option V} (I : Inv X pins σ H s) (g : DGet H a y o) :
    ∀ b, Value.ref a = .ref b → ∃ ob, s.heap.get? b = some ob ∧ ob.dict = none := fun b q => by
  cases q
  rcases g with ⟨kvs, k, e, _, _⟩ | ⟨kvs, k, b, e, _, _, _⟩
  · obtain ⟨_, _, vs, _, ob, _, _, h1, h2, _⟩ := dk_rd I.hok e
    exact ⟨ob, h1, h2.2.1⟩
  · obtain ⟨_, _, xs, _, ob, _, _, h1, h2, _⟩ := dt_rd I.hok e
    exact ⟨ob, h1, h2.2.1⟩

/-- d[y] -/
def tDGet (td ty : TE) : TE := fun σ H Q => td σ H fun x H1 => ty σ H1 fun y H2 => ∃ a v, x = .ref a ∧ DGet H2 a y (some v) ∧ Q v H2
/-- y in d, y not in d -/
def tDIn (ty td : TE) : TE := fun σ H Q => ty σ H fun y H1 => td σ H1 fun x H2 => ∃ a o, x = .ref a ∧ DGet H2 a y o ∧ Q (.bl o.isSome) H2
def tDNotIn (ty td : TE) : TE := fun σ H Q => ty σ H fun y H1 => td σ H1 fun x H2 => ∃ a o, x = .ref a ∧ DGet H2 a y o ∧ Q (.bl (!o.isSome)) H2
/-- d[y] = v -/
def sDPut (td ty tv : TE) : TS := fun D σ H => tv σ H fun v H1 => td σ H1 fun x H2 => ty σ H2 fun y H3 => ∃ a H4, x = .ref a ∧ DPut H3 a y v H4 ∧ D.nx σ H4
/-- d[y] op= v -/
def sDAug (td ty tv : TE) (rd : V → V → Hp → VK → Prop) : TS := fun D σ H => td σ H fun x H1 => ty σ H1 fun y H2 => ∃ a v, x = .ref a ∧ DGet H2 a y (some v) ∧
  tv σ H2 fun y2 H3 => rd v y2 H3 fun z H4 => ∃ H5, DPut H4 a y z H5 ∧ D.nx σ H5
/-- del d[y] -/
def sDDel (td ty : TE) : TS := fun D σ H => td σ H fun x H1 => ty σ H1 fun y H2 => ∃ a kvs k, x = .ref a ∧ H2 a = some (.dK kvs) ∧ y = kV k ∧ (valV kvs k).isSome = true ∧ D.nx σ (upd H2 a (.dK (dropK kvs k)))

section
variable {X : Cx} {o i e value : Expr} {pos pos' tpos : Pos} {td ty tv : TE}
theorem pe_dget (hu : X.A.units + 1 < cLine) (ho : PE X o td) (hi : PE X i ty) (hs : NoSl i) : PE X (.Subscript o i pos) (tDGet td ty) := by
  intro pins s σ H Q I h
  refine subD_of PySem.F.slot_dict_getitem.lookup hs (thn (ho pins s σ H _ I h) fun u s1 ⟨x, H1, I1, rx, q1⟩ => thn (hi pins s1 σ H1 _ I1 q1) fun iv s2 ⟨y, H2, I2, ry, a, v, ex, g, q2⟩ => ?_)
  subst ex
  obtain rfl : u = Value.ref a := rx
  exact ⟨dict_typeIs I2 g, d_getItem hu I2 g ry fun w' s3 I3 rw' => ⟨v, H2, I3, rw', q2⟩⟩
theorem pc_din (hu : X.A.units + 1 < cLine) (hi : PE X i ty) (ho : PE X o td) : PC X .In i o (tDIn ty td) := by
  intro pins s σ H Q I h
  refine thn (hi pins s σ H _ I h) fun iv s1 ⟨y, H1, I1, ry, q1⟩ => thn (ho pins s1 σ H1 _ I1 q1) fun u s2 ⟨x, H2, I2, rx, a, ov, ex, g, q2⟩ => ?_
  subst ex
  obtain rfl : u = Value.ref a := rx
  exact d_in hu I2 g ry fun s3 I3 => ⟨.bl ov.isSome, H2, I3, rfl, q2⟩
theorem pc_dnotin (hu : X.A.units + 1 < cLine) (hi : PE X i ty) (ho : PE X o td) : PC X .NotIn i o (tDNotIn ty td) := by
  intro pins s σ H Q I h
  refine thn (hi pins s σ H _ I h) fun iv s1 ⟨y, H1, I1, ry, q1⟩ => thn (ho pins s1 σ H1 _ I1 q1) fun u s2 ⟨x, H2, I2, rx, a, ov, ex, g, q2⟩ => ?_
  subst ex
  obtain rfl : u = Value.ref a := rx
  exact d_notIn hu I2 g ry fun s3 I3 => ⟨.bl (!ov.isSome), H2, I3, rfl, q2⟩
theorem ps_dput (hu : X.A.units + 1 < cLine) (ho : PE X o td) (hi : PE X i ty) (hv : PE X value tv) (hs : swapsWith value (some (.Subscript o i pos')) pos.line X.env = pure false) :
    PS X (.Assign [.Subscript o i pos'] value pos) (sDPut td ty tv) := by
  intro pins s σ H D I h
  refine wpAny_Assign_Subscript (thn (hv pins s σ H _ I h) fun r s1 ⟨v, H1, I1, rv, q1⟩ => thn (ho pins s1 σ H1 _ I1 q1) fun u s2 ⟨x, H2, I2, rx, q2⟩ => thn (hi pins s2 σ H2 _ I2 q2) fun iv s3 ⟨y, H3, I3, ry, a, H4, ex, g, q3⟩ => ?_) hs
  subst ex
  obtain rfl : u = Value.ref a := rx
  exact d_setItem hu I3 g ry rv fun s4 I4 => ⟨σ, H4, I4, q3⟩
theorem ps_daug {op : Operator} {rd : V → V → Hp → VK → Prop} (hu : X.A.units + 1 < cLine) (ho : PE X o td) (hi : PE X i ty) (hv : PE X value tv) (hop : InOp X op rd)
    (ha : ∀ ov iv new, augStore i ov iv new = (do holding [new, ov, iv] (setItem ov iv new); release [new, ov, iv] []; pure .next)) : PS X (.AugAssign (.Subscript o i tpos) op value pos) (sDAug td ty tv rd) := by
  intro pins s σ H D I h
  refine wpAny_AugAssign_SubscriptAny (thn (ho pins s σ H _ I h) fun u s1 ⟨x, H1, I1, rx, q1⟩ => thn (hi pins s1 σ H1 _ I1 q1) fun iv s2 ⟨y, H2, I2, ry, a, v, ex, g, q2⟩ => ?_) ha
  subst ex
  obtain rfl : u = Value.ref a := rx
  refine d_getItem hu I2 g ry fun w' s3 I3 rw' => thn (hv pins s3 σ H2 _ I3 q2) fun w2 s4 ⟨y2, H3, I4, ry2, q3⟩ => thn (hop pins s4 σ H3 v y2 w' w2 _ I4 rw' ry2 q3) fun w3 s5 ⟨z, H4, I5, rz, H5, g5, q4⟩ => ?_
  exact d_setItem hu I5 g5 ry rz fun s6 I6 => ⟨σ, H5, I6, q4⟩
theorem ps_ddel (ho : PE X o td) (hi : PE X i ty) : PS X (.Delete [.Subscript o i tpos] pos) (sDDel td ty) := by
  intro pins s σ H D I h
  refine wpAny_Delete (wpAny_deleteEach_cons (wpAny_delete_Subscript (thn (ho pins s σ H _ I h) fun u s1 ⟨x, H1, I1, rx, q1⟩ => thn (hi pins s1 σ H1 _ I1 q1) fun iv s2 ⟨y, H2, I2, ry, a, kvs, k, ex, e, ey, l, q2⟩ => ?_)))
  subst ex ey
  obtain rfl : u = Value.ref a := rx
  exact d_delItem I2 e ry l fun s3 I3 => wpAny_deleteEach_nil ⟨σ, _, I3, q2⟩
end


/-! ### displays -/
theorem dk_empty {P : Program} {w : World} {H : Hp} (h : Heap) (hb : sysModules < h.objs.size) : ObjOk P w H (h.push { cls := .type "dict", data := .dict #[] }) h.objs.size (.dK []) :=
  ⟨Nat.zero_le _, beq_eq_false_iff_ne.mpr (Ne.symm (Nat.ne_of_lt hb)), [], .nil, Heap.DictOf.new h⟩
theorem dt_empty {P : Program} {w : World} {H : Hp} (h : Heap) (hb : sysModules < h.objs.size) : ObjOk P w H (h.push { cls := .type "dict", data := .dict #[] }) h.objs.size (.dT []) :=
  ⟨Nat.zero_le _, beq_eq_false_iff_ne.mpr (Ne.symm (Nat.ne_of_lt hb)), [], .nil, _, #[], 0, Heap.get?_push_size _ rfl, ⟨rfl, rfl, rfl⟩, rfl, rfl, List.nodup_nil⟩
/-- {}, to be a dict of the kind that is wanted -/
def tDNewK : TE := fun _ H Q => ∀ p, H p = none → Q (.ref p) (upd H p (.dK []))
def tDNewT : TE := fun _ H Q => ∀ p, H p = none → Q (.ref p) (upd H p (.dT []))
section
variable {X : Cx} {pos : Pos}
theorem pe_dnewK : PE X (.Dict [] [] pos) tDNewK := fun pins s σ H Q I h =>
  wpAny_Dict_empty ⟨.ref s.heap.objs.size, _, I.laid (a := s.heap.objs.size) (o := .dK []) (t' := s.toks) (fun _ _ q => Heap.get?_push_of_some _ q) (Nat.le_refl _) (dk_empty s.heap I.big), rfl, h _ (I.hok.fresh (Nat.le_refl _))⟩
theorem pe_dnewT : PE X (.Dict [] [] pos) tDNewT := fun pins s σ H Q I h =>
  wpAny_Dict_empty ⟨.ref s.heap.objs.size, _, I.laid (a := s.heap.objs.size) (o := .dT []) (t' := s.toks) (fun _ _ q => Heap.get?_push_of_some _ q) (Nat.le_refl _) (dt_empty s.heap I.big), rfl, h _ (I.hok.fresh (Nat.le_refl _))⟩
end

/-- the pairs of a display, from the left -/
def tPairs : List (TE × TE) → St → Hp → (List (V × V) → Hp → Prop) → Prop
  | [], _, H, Q => Q [] H
  | (tk, tv) :: r, σ, H, Q => tk σ H fun x H1 => tv σ H1 fun y H2 => tPairs r σ H2 fun ps H3 => Q ((x, y) :: ps) H3
abbrev VV : List (V × V) → List (Value × Value) → Prop := Paired fun p q => RelV p.1 q.1 ∧ RelV p.2 q.2
def PPs (X : Cx) (pos : Pos) (keys : List (Option Expr)) (values : List Expr) (trs : List (TE × TE)) : Prop :=
  ∀ (pins : List (Addr × Obj)) (s : Shared) (σ : St) (H : Hp) (Q : List (V × V) → Hp → Prop), Inv X pins σ H s → tPairs trs σ H Q →
    wpAny (model X.prog X.w) X.A (evalPairs (pairTrees keys values X.env pos)) (fun vs s' => ∃ ps H', Inv X pins σ H' s' ∧ VV ps vs ∧ Q ps H') X.xe s
theorem pps_nil {X : Cx} {pos : Pos} : PPs X pos [] [] [] := fun pins s σ H Q I h => pairTrees_nil_walk ⟨[], H, I, .nil, h⟩
theorem pps_cons {X : Cx} {pos : Pos} {k v : Expr} {ks : List (Option Expr)} {vs : List Expr} {tk tv : TE} {trs : List (TE × TE)} (hk : PE X k tk) (hv : PE X v tv) (hr : PPs X pos ks vs trs) :
    PPs X pos (some k :: ks) (v :: vs) ((tk, tv) :: trs) := fun pins s σ H Q I h =>
  pairTrees_cons_walk (thn (hk pins s σ H _ I h) fun u s1 ⟨x, H1, I1, rx, q1⟩ => thn (hv pins s1 σ H1 _ I1 q1) fun w2 s2 ⟨y, H2, I2, ry, q2⟩ =>
    thn (hr pins s2 σ H2 _ I2 q2) fun ws s3 ⟨ps, H3, I3, rel, q3⟩ => ⟨(x, y) :: ps, H3, I3, .cons ⟨rx, ry⟩ rel, q3⟩)

def mergeK (kvs more : List (Key × V)) : List (Key × V) := more.foldl (fun acc kv => putK acc kv.1 kv.2) kvs
theorem KV.merge : ∀ {more : List (Key × V)} {rs : List (Key × Value)} {kvs : List (Key × V)} {vs : List (Key × Value)}, KV more rs → KV kvs vs → KV (mergeK kvs more) (merged vs rs) := by
  intro more rs kvs vs r
  unfold KV at r
  induction r generalizing kvs vs with
  | nil => intro q; exact q
  | @cons p q ps qs h t ih =>
    intro r0
    have e : KV (putK kvs p.1 p.2) (stored vs q.1 q.2) := by
      have := r0.put p.1 h.2
      rw [← h.1]; exact this
    exact ih e
theorem length_mergeK : ∀ (more kvs : List (Key × V)), (mergeK kvs more).length ≤ kvs.length + more.length
  | [], kvs => by show kvs.length ≤ kvs.length + 0; omega
  | p :: r, kvs => by
    have h1 := length_mergeK r (putK kvs p.1 p.2)
    have h2 := length_putK kvs p.1 p.2
    show (mergeK (putK kvs p.1 p.2) r).length ≤ _
    rw [List.length_cons]; omega
theorem carries_of {P : Program} {w : World} : ∀ {kvs : List (Key × V)} {ws : List (Value × Value)}, VV (kvs.map fun kv => (kV kv.1, kv.2)) ws → ∃ rs, Carries (mixKind P w) ws rs ∧ KV kvs rs
  | [], _, r => by rw [List.map_nil] at r; cases r; exact ⟨[], True.intro, .nil⟩
  | p :: kvs, _, r => by
    rw [List.map_cons] at r
    cases r with
    | @cons a b as bs h t =>
      obtain ⟨rs, c, q⟩ := carries_of (P := P) (w := w) t
      obtain ⟨b1, b2⟩ := b
      exact ⟨(p.1, b2) :: rs, ⟨kV_is h.1, rfl, c⟩, .cons ⟨rfl, h.2⟩ q⟩
/-- {k: v, ..} with keys ints and texts; the new dict stands empty while the pairs are made -/
def tDisp (trs : List (TE × TE)) : TE := fun σ H Q => ∀ p, H p = none → tPairs trs σ (upd H p (.dK [])) fun ps H2 => H2 p = some (.dK []) ∧ ∃ kvs : List (Key × V), ps = kvs.map (fun kv => (kV kv.1, kv.2)) ∧ kvs.length ≤ 15 ∧ Q (.ref p) (upd H2 p (.dK (mergeK [] kvs)))
theorem pe_disp {X : Cx} {pos : Pos} {keys : List (Option Expr)} {values : List Expr} {trs : List (TE × TE)} (h : PPs X pos keys values trs) (hall : keys.all (·.isSome) = true) (hl : keys.length = values.length) (h0 : keys ≠ [])
    (h15 : keys.length ≤ 15) : PE X (.Dict keys values pos) (tDisp trs) := by
  intro pins s σ H Q I q
  have hn := I.hok.fresh (Nat.le_refl s.heap.objs.size)
  have I1 := I.laid (a := s.heap.objs.size) (o := .dK []) (h' := s.heap.push { cls := .type "dict", data := .dict #[] }) (t' := s.toks) (fun _ _ q => Heap.get?_push_of_some _ q) (Nat.le_refl _) (dk_empty s.heap I.big)
  refine wpAny_Dict_walk (knd := mixKind X.prog X.w) hall hl h0 h15 (thn (h pins _ σ _ _ I1 (q _ hn)) fun ws s2 ⟨ps, H2, I2, rel, e, kvs, ep, lk, q2⟩ => ?_)
  subst ep
  obtain ⟨rs, c, rk⟩ := carries_of (P := X.prog) (w := X.w) rel
  obtain ⟨z, hd, vs0, r0, dd⟩ := dk_of I2.hok e
  cases r0
  refine ⟨rs, c, dd, fun h' dd' hs => ⟨.ref s.heap.objs.size, _, ?_, rfl, q2⟩⟩
  have hz : (mergeK [] kvs).length ≤ sizeLine := by
    have h1 := length_mergeK kvs []
    rw [List.length_nil] at h1
    rw [sizeLine_eq]; omega
  have he : ∃ q, h'.get? s.heap.objs.size = some q := let ⟨q, _, _, hq, _⟩ := dd'; ⟨q, hq⟩
  exact d_write I2 (by rw [e]; exact True.intro) hs he (dk_new hz hd (rk.merge .nil) dd')


/-! ### methods -/
/-- a method call o.m(e) of a built-in, with one argument: what must be seen of the text -/
structure M1 (X : Cx) (o : Expr) (m : Str) (apos : Pos) (e : Expr) (cpos : Pos) : Prop where
  base : attributeBase o m X.env (eval o X.env) = eval o X.env
  few : ((backTo cpos (starEach [e] X.env)).all (fun x => !x.1) && (backToKw cpos (keywordEach [] X.env)).all (fun x => x.1.isSome)
    && decide (([e] : List Expr).length + ([] : List Keyword).length + (if ([] : List Keyword).isEmpty then 0 else 1) < 30)) = true
  line : (apos.endLine == cpos.line) = true
  trees : backTo cpos (starEach [e] X.env) = [(false, eval e X.env)]
structure M2 (X : Cx) (o : Expr) (m : Str) (apos : Pos) (e f : Expr) (cpos : Pos) : Prop where
  base : attributeBase o m X.env (eval o X.env) = eval o X.env
  few : ((backTo cpos (starEach [e, f] X.env)).all (fun x => !x.1) && (backToKw cpos (keywordEach [] X.env)).all (fun x => x.1.isSome)
    && decide (([e, f] : List Expr).length + ([] : List Keyword).length + (if ([] : List Keyword).isEmpty then 0 else 1) < 30)) = true
  line : (apos.endLine == cpos.line) = true
  trees : backTo cpos (starEach [e, f] X.env) = [(false, eval e X.env), (false, eval f X.env)]

/-- a is a dict, whatever its keys -/
def IsD (H : Hp) (a : Addr) : Prop := (∃ kvs, Rd H a (.dK kvs)) ∨ ∃ kvs, Rd H a (.dT kvs)
theorem isD_at {X : Cx} {pins : List (Addr × Obj)} {σ : St} {H : Hp} {s : Shared} {a : Addr} (I : Inv X pins σ H s) (d : IsD H a) :
    s.TypeIs (.ref a) "dict" ∧ (∀ b, Value.ref a = .ref b → ∃ ob, s.heap.get? b = some ob ∧ ob.dict = none) ∧ (a == sysModules) = false := by
  rcases d with ⟨kvs, e⟩ | ⟨kvs, e⟩
  · obtain ⟨_, hd, vs, _, dd⟩ := dk_rd I.hok e
    refine ⟨dd.typeIs, fun b q => ?_, hd⟩
    cases q
    obtain ⟨ob, _, _, h1, h2, _⟩ := dd
    exact ⟨ob, h1, h2.2.1⟩
  · obtain ⟨_, hd, xs, _, dd⟩ := dt_rd I.hok e
    refine ⟨dd.typeIs, fun b q => ?_, hd⟩
    cases q
    obtain ⟨ob, _, _, h1, h2, _⟩ := dd
    exact ⟨ob, h1, h2.2.1⟩

section
variable {X : Cx} {pins : List (Addr × Obj)} {σ : St} {H : Hp} {s : Shared} {a : Addr} {y d : V} {u r : Value} {o : Option V} {A : Around} {E : Value → Shared → Prop}
/-- d.get(y) -/
theorem d_get1 {Q : Value → Shared → Prop} (hu : A.units + 1 < cLine) (I : Inv X pins σ H s) (g : DGet H a y o) (ry : RelV y u) (h : ∀ w' s', Inv X pins σ H s' → RelV (o.getD .non) w' → Q w' s') :
    wpAny (model X.prog X.w) A (call (.builtin "dict.get") [.ref a, u]) Q E s := by
  rcases g with ⟨kvs, k, e, ey, l⟩ | ⟨kvs, k, b, e, ey, eb, l⟩
  · subst ey
    obtain ⟨z, hd, vs, rel, dd⟩ := dk_rd I.hok e
    refine call_meetsIn PySem.F.slot_dict_get dd.typeIs PySem.F.entry_dict_get (PySem.F.args_dict_get_2 _ _) (meets_dict_get (mixKind X.prog X.w) a (kV_is ry) hd) ⟨_, dd.mapOf, h _ _ (I.tok _) ?_⟩
    rw [l]
    exact (rel.val k).getD rfl
  · subst ey
    cases (show u = Value.ref b from ry)
    obtain ⟨z, hd, xs, rel, dd⟩ := dt_rd I.hok e
    refine call_meetsIn PySem.F.slot_dict_get dd.typeIs PySem.F.entry_dict_get (PySem.F.args_dict_get_2 _ _) (meetsH_dict_get (tupleKind (mixKind X.prog X.w)) a b hd) ⟨tupleKind_room_in1 hu, k, xs, key_of I.hok eb, dd, h _ _ (I.tok _) ?_⟩
    rw [l]
    exact (rel.val k).getD rfl
/-- d.get(y, x) -/
theorem d_get2 {Q : Value → Shared → Prop} (hu : A.units + 1 < cLine) (I : Inv X pins σ H s) (g : DGet H a y o) (ry : RelV y u) (rd : RelV d r) (h : ∀ w' s', Inv X pins σ H s' → RelV (o.getD d) w' → Q w' s') :
    wpAny (model X.prog X.w) A (call (.builtin "dict.get") [.ref a, u, r]) Q E s := by
  rcases g with ⟨kvs, k, e, ey, l⟩ | ⟨kvs, k, b, e, ey, eb, l⟩
  · subst ey
    obtain ⟨z, hd, vs, rel, dd⟩ := dk_rd I.hok e
    refine call_meetsIn PySem.F.slot_dict_get dd.typeIs PySem.F.entry_dict_get (PySem.F.args_dict_get_3 _ _ _) (meets_dict_get_default (mixKind X.prog X.w) a (kV_is ry) hd r) ⟨_, dd.mapOf, h _ _ (I.tok _) ?_⟩
    rw [l]
    exact (rel.val k).getD rd
  · subst ey
    cases (show u = Value.ref b from ry)
    obtain ⟨z, hd, xs, rel, dd⟩ := dt_rd I.hok e
    refine call_meetsIn PySem.F.slot_dict_get dd.typeIs PySem.F.entry_dict_get (PySem.F.args_dict_get_3 _ _ _) (meetsH_dict_get_default (tupleKind (mixKind X.prog X.w)) a b hd r) ⟨tupleKind_room_in1 hu, k, xs, key_of I.hok eb, dd, h _ _ (I.tok _) ?_⟩
    rw [l]
    exact (rel.val k).getD rd
end

def tDGet1 (td ty : TE) : TE := fun σ H Q => td σ H fun x H1 => ∃ a, x = .ref a ∧ IsD H1 a ∧ ty σ H1 fun y H2 => ∃ o, DGet H2 a y o ∧ Q (o.getD .non) H2
def tDGet2 (td ty tx : TE) : TE := fun σ H Q => td σ H fun x H1 => ∃ a, x = .ref a ∧ IsD H1 a ∧ ty σ H1 fun y H2 => tx σ H2 fun z H3 => ∃ o, DGet H3 a y o ∧ Q (o.getD z) H3
/-- d.pop(k): there; d.pop(k, x): there or not -/
def tDPop1 (td ty : TE) : TE := fun σ H Q => td σ H fun x H1 => ∃ a, x = .ref a ∧ IsD H1 a ∧ ty σ H1 fun y H2 => ∃ kvs k v, H2 a = some (.dK kvs) ∧ y = kV k ∧ valV kvs k = some v ∧ Q v (upd H2 a (.dK (dropK kvs k)))
def tDPop2 (td ty tx : TE) : TE := fun σ H Q => td σ H fun x H1 => ∃ a, x = .ref a ∧ IsD H1 a ∧ ty σ H1 fun y H2 => tx σ H2 fun z H3 => ∃ kvs k, H3 a = some (.dK kvs) ∧ y = kV k ∧
  (∀ v, valV kvs k = some v → Q v (upd H3 a (.dK (dropK kvs k)))) ∧ (valV kvs k = none → Q z H3)
section
variable {X : Cx} {o e f : Expr} {apos cpos : Pos} {td ty tx : TE}
theorem pe_dget1 (hu : X.A.units + 1 < cLine) (ho : PE X o td) (he : PE X e ty) (m : M1 X o "get" apos e cpos) : PE X (.Call (.Attribute o "get" apos) [e] [] cpos) (tDGet1 td ty) := by
  intro pins s σ H Q I h
  refine wpAny_Call_method m.base m.few m.line PySem.F.plainAttrs_dict PySem.F.slot_dict_get PySem.F.type_dict_get (thn (ho pins s σ H _ I h) fun u s1 ⟨x, H1, I1, rx, a, ex, d, q1⟩ => ?_)
  subst ex
  obtain rfl : u = Value.ref a := rx
  obtain ⟨t1, t2, _⟩ := isD_at I1 d
  refine ⟨t1, t2, ?_⟩
  rw [m.trees]
  refine Calls.callWith_builtin rfl (Calls.evalArgs_plain (Calls.spliced_cons (thn (he pins s1 σ H1 _ I1 q1) fun iv s2 ⟨y, H2, I2, ry, ov, g, q2⟩ => Calls.spliced_nil ?_)))
  exact d_get1 hu I2 g ry fun w' s3 I3 rw' => ⟨_, H2, I3, rw', q2⟩
theorem pe_dget2 (hu : X.A.units + 1 < cLine) (ho : PE X o td) (he : PE X e ty) (hf : PE X f tx) (m : M2 X o "get" apos e f cpos) : PE X (.Call (.Attribute o "get" apos) [e, f] [] cpos) (tDGet2 td ty tx) := by
  intro pins s σ H Q I h
  refine wpAny_Call_method m.base m.few m.line PySem.F.plainAttrs_dict PySem.F.slot_dict_get PySem.F.type_dict_get (thn (ho pins s σ H _ I h) fun u s1 ⟨x, H1, I1, rx, a, ex, d, q1⟩ => ?_)
  subst ex
  obtain rfl : u = Value.ref a := rx
  obtain ⟨t1, t2, _⟩ := isD_at I1 d
  refine ⟨t1, t2, ?_⟩
  rw [m.trees]
  refine Calls.callWith_builtin rfl (Calls.evalArgs_plain (Calls.spliced_cons (thn (he pins s1 σ H1 _ I1 q1) fun iv s2 ⟨y, H2, I2, ry, q2⟩ =>
    Calls.spliced_cons (thn (hf pins s2 σ H2 _ I2 q2) fun fv s3 ⟨z, H3, I3, rz, ov, g, q3⟩ => Calls.spliced_nil ?_))))
  exact d_get2 hu I3 g ry rz fun w' s4 I4 rw' => ⟨_, H3, I4, rw', q3⟩
theorem pe_dpop1 (ho : PE X o td) (he : PE X e ty) (m : M1 X o "pop" apos e cpos) : PE X (.Call (.Attribute o "pop" apos) [e] [] cpos) (tDPop1 td ty) := by
  intro pins s σ H Q I h
  refine wpAny_Call_method m.base m.few m.line PySem.F.plainAttrs_dict PySem.F.slot_dict_pop PySem.F.type_dict_pop (thn (ho pins s σ H _ I h) fun u s1 ⟨x, H1, I1, rx, a, ex, d, q1⟩ => ?_)
  subst ex
  obtain rfl : u = Value.ref a := rx
  obtain ⟨t1, t2, _⟩ := isD_at I1 d
  refine ⟨t1, t2, ?_⟩
  rw [m.trees]
  refine Calls.callWith_builtin rfl (Calls.evalArgs_plain (Calls.spliced_cons (thn (he pins s1 σ H1 _ I1 q1) fun iv s2 ⟨y, H2, I2, ry, kvs, k, v, ea, ey, l, q2⟩ => Calls.spliced_nil ?_)))
  subst ey
  exact d_pop I2 ea ry l (.inl rfl) fun w' s3 I3 rw' => ⟨v, _, I3, rw', q2⟩
theorem pe_dpop2 (ho : PE X o td) (he : PE X e ty) (hf : PE X f tx) (m : M2 X o "pop" apos e f cpos) : PE X (.Call (.Attribute o "pop" apos) [e, f] [] cpos) (tDPop2 td ty tx) := by
  intro pins s σ H Q I h
  refine wpAny_Call_method m.base m.few m.line PySem.F.plainAttrs_dict PySem.F.slot_dict_pop PySem.F.type_dict_pop (thn (ho pins s σ H _ I h) fun u s1 ⟨x, H1, I1, rx, a, ex, d, q1⟩ => ?_)
  subst ex
  obtain rfl : u = Value.ref a := rx
  obtain ⟨t1, t2, _⟩ := isD_at I1 d
  refine ⟨t1, t2, ?_⟩
  rw [m.trees]
  refine Calls.callWith_builtin rfl (Calls.evalArgs_plain (Calls.spliced_cons (thn (he pins s1 σ H1 _ I1 q1) fun iv s2 ⟨y, H2, I2, ry, q2⟩ =>
    Calls.spliced_cons (thn (hf pins s2 σ H2 _ I2 q2) fun fv s3 ⟨z, H3, I3, rz, kvs, k, ea, ey, q3, q4⟩ => Calls.spliced_nil ?_))))
  subst ey
  cases l : valV kvs k with
  | some v => exact d_pop I3 ea ry l (.inr ⟨fv, rfl⟩) fun w' s4 I4 rw' => ⟨v, _, I4, rw', q3 v l⟩
  | none => exact d_popD I3 ea ry l fun s4 I4 => ⟨z, H3, I4, rz, q4 l⟩
end

/-! ### dict(d): a copy -/
section
variable {X : Cx} {pins : List (Addr × Obj)} {σ : St} {H : Hp} {s : Shared} {a : Addr} {kvs : List (Key × V)} {A : Around} {E : Value → Shared → Prop}
theorem d_copyOf {Q : Value → Shared → Prop} (I : Inv X pins σ H s) (e : Rd H a (.dK kvs)) (h : ∀ p s', H p = none → Inv X pins σ (upd H p (.dK kvs)) s' → Q (.ref p) s') : wpAny (model X.prog X.w) A (call (.type "dict") [.ref a]) Q E s := by
  obtain ⟨z, hd, vs, rel, dd⟩ := dk_rd I.hok e
  refine kt_call_dict hd dd (by rw [← rel.length]; exact z) fun h' dd' hs => ?_
  refine h _ _ (I.hok.fresh (Nat.le_refl _)) (I.laid (a := s.heap.objs.size) (o := .dK kvs) (t' := s.toks) (fun b q hq => ?_) (Nat.le_refl _) (dk_new z (beq_eq_false_iff_ne.mpr (Ne.symm (Nat.ne_of_lt I.big))) rel dd'))
  exact (hs.2 b (Nat.ne_of_lt (Heap.lt_size hq))).trans (Heap.get?_push_of_some _ hq)
end


section
variable {X : Cx} {pins : List (Addr × Obj)} {σ : St} {H : Hp} {s : Shared} {a : Addr} {y : V} {u : Value} {A : Around} {E : Value → Shared → Prop}
/-- d[y], not there: a KeyError -/
theorem d_missing {Q : Value → Shared → Prop} (hu : A.units + 1 < cLine) (hh : A.handled = none) (I : Inv X pins σ H s) (g : DGet H a y none) (ry : RelV y u)
    (h : ∀ h' e t', Heap.NewExc s.heap h' e "KeyError" → E (.ref e) { s with heap := h', toks := t' }) : wpAny (model X.prog X.w) A (getItem (.ref a) u) Q E s := by
  rcases g with ⟨kvs, k, e, ey, l⟩ | ⟨kvs, k, b, e, ey, eb, l⟩
  · subst ey
    obtain ⟨z, hd, vs, rel, dd⟩ := dk_rd I.hok e
    have hn : valueAt vs k = none := RelO.none_of (by rw [l]; exact rel.val k)
    exact wpAny_getItem_missing_of (kV_is ry) hd hh dd.mapOf hn fun h' ex ne => h h' ex _ ne
  · subst ey
    cases (show u = Value.ref b from ry)
    obtain ⟨z, hd, xs, rel, dd⟩ := dt_rd I.hok e
    have hn : (atKey xs k).map (·.2) = none := RelO.none_of (by rw [l]; exact rel.val k)
    exact wpAny_getItem_missing_heap (tupleKind_room_in1 hu) (key_of I.hok eb) hd hh dd (Option.map_eq_none_iff.mp hn) fun h' ex ne => h h' ex _ ne
end
end L2

end

section
set_option Elab.async false
set_option linter.all false
set_option maxRecDepth 100000

namespace Att
open PySem PySem.W PySem.Calls PyProof.Rows

/-! ### the script -/
theorem ints_of_wellAll {P : Params} {h : Heap} : ∀ (ns : List Int) (vs : List Value), WellAll P h vs (ns.map WData.int) → IntsAre vs ns := by
  intro ns
  induction ns with
  | nil =>
    intro vs w
    rw [List.map_nil] at w
    cases w
    exact .nil
  | cons n ns ih =>
    intro vs w
    rw [List.map_cons] at w
    cases w with
    | cons a b =>
      cases a
      exact .cons _ _ (ih _ b)

theorem script_of {l : OpenLaw} {n : Nat} (hn : l.most = some n) {P : Params} {h : Heap} {args : List WData} {vals : List Value}
    (hpre : l.row.toRowW.claim.pre args = true) (hwl : WellAll P h vals args) :
    ∃ a vs ns, vals = [Value.ref a] ∧ args = [WData.list (ns.map WData.int)] ∧ h.get? a = some { cls := .type "list", data := .seq vs.toArray } ∧ IntsAre vs ns ∧ ns.length ≤ n := by
  have hsh : WShape.hasAll [] args [.list .int] = true := (pre_splitW hpre).1
  have hc : l.pre.holds [] { args := args } = true := (pre_splitW hpre).2
  obtain ⟨d, r, rfl, h1, h2⟩ := hasAllW_cons hsh
  obtain rfl := hasAllW_nil h2
  obtain ⟨xs, rfl, h3⟩ := hasW_list h1
  obtain ⟨ns, rfl⟩ := items_int h3
  have hlen : ns.length ≤ n := by
    unfold OpenLaw.pre at hc
    have h4 : (WTm.not (.lt (.lit (.int (n : Int))) (.len (.arg 0)))).holds [] { args := [.list (ns.map .int)] } = true := by
      have h4 := (holds_andW hc).1
      rw [hn] at h4
      exact h4
    have h5 := condW_of h4 (w_not (w_lt w_lit (w_len_list (w_arg rfl))))
    rw [List.length_map] at h5
    refine Nat.le_of_not_lt fun q => ?_
    have q' : (n : Int) < ((ns.length : Nat) : Int) := by omega
    first
      | (rw [decide_eq_true q'] at h5; exact absurd h5 (by decide))
      | (simp at h5; omega)
  cases hwl with
  | cons w1 w2 =>
    cases w2
    cases w1 with
    | list ho hall => exact ⟨_, _, ns, rfl, rfl, ho, ints_of_wellAll ns _ hall, hlen⟩

theorem post_true (l : OpenLaw) (args : List WData) : l.row.toRowW.claim.post args (.bool true) args = true :=
  postW_of (r := l.row.toRowW) (X := (true == true))
    (show WShape.has [] (.bool true) .bool = true by first | rfl | decide | simp [WShape.has, WShape.arms, WShape.armsAll])
    (show (WTm.eq .res (.lit (.bool true))).value [] { args := args, res := some (.bool true), after := args } = some (.bool (true == true)) from w_eq_bool (w_res rfl) w_lit) rfl

/-! ### the attachment: holds_open's last premise (the goal 'hc' behind k_head) from a wpAny of the law's body -/
theorem attach {l : OpenLaw} {n : Nat} {q : Program} {loose : List Str} {XP : (Str → Option Value) → Heap → Prop} {YP : World → Heap → Prop} {d : DefRec} {x : Str}
    (hn : l.most = some n) (hdf : d.params.defaults = [])
    (hbind : ∀ pm cd doc v : Value, bindArgs (docDef d.name d.params d.body d.scope pm cd doc) ⟨[v], []⟩ = pure [(x, v)])
    (hx : d.scope.names.lookup x = some .local ∨ d.scope.names.lookup x = some .cell)
    (hk : d.scope.kind = .function) (hco : d.scope.isCoroutine = false) (hgen : d.scope.isGenerator = false)
    (body : ∀ (w : World) (s₀ s₁ s : Shared) (mg mb : Str → Option Value) (fa : Addr) (o : Obj) (pm cd doc : Value) (a : Addr) (vs : List Value) (ns : List Int),
      Ground q loose [] XP w s₀ mg mb s₁.heap → YP w s₁.heap →
      s₁.heap.get? fa = some o → o.data = .func (docDef d.name d.params d.body d.scope pm cd doc) → s₁.heap.CodeRec cd d.name → mg d.name = some (.ref fa) →
      s₁.heap.get? a = some { cls := .type "list", data := .seq vs.toArray } → IntsAre vs ns → ns.length ≤ n →
      s.gens = #[] → s.os = s₁.os →
      Fr s₁.heap s₁.heap.objs.size s.heap (bindL (envOfC d.name d.scope s₁.heap.objs.size fa cd).kindOf [(x, .ref a)] fun _ => none) →
      Cl s₁.heap.objs.size (cellsFrom (s₁.heap.objs.size + 1) d.scope.names []) s.heap (bindC (envOfC d.name d.scope s₁.heap.objs.size fa cd).kindOf [(x, .ref a)] fun _ => none) →
      wpAny (model l.prog w) (callerA.deeper (envOfC d.name d.scope s₁.heap.objs.size fa cd)) (execs d.body (envOfC d.name d.scope s₁.heap.objs.size fa cd))
        (fun f s' => f = .ret (.bool true) ∧ OldK s₁.heap s'.heap ∧ s'.os = s₁.os ∧ AllBare s'.gens) (fun _ _ => False) s) :
    WalkO q loose XP YP l.row.toRowW d [] (fun f vs => PySem.call f vs) := by
  intro w s₀ s₁ mg mb G Y fa o pm cd doc dV kV ho hd hcd hD hmg hg args vals as hpre hlay hrd hwl hlo
  obtain rfl : dV = .none := Dflts.none hD hdf
  obtain rfl : kV = .none := Dflts.noKw hD
  obtain ⟨a, vs, ns, rfl, rfl, hobj, hints, hlen⟩ := script_of hn hpre hwl
  refine enter_call ?_
  refine call_cells_ret (o := o) (by rw [depth_caller]; decide) ho (fd_plain hd) G.T.nolimit hcd (hbind pm cd doc (.ref a)) (fun y hy => ?_) (fun h₁ tk F X => ?_) hco hgen hk
  · obtain rfl : y = (x, Value.ref a) := List.mem_singleton.mp hy
    rcases hx with e | e
    · exact .inl e
    · exact .inr ⟨e, cellsFrom_some _ _ _ (.inl e)⟩
  · refine wpAny_mono (body w s₀ s₁ { s₁ with heap := h₁, toks := tk } mg mb fa o pm cd doc a vs ns G Y ho (fd_plain hd) hcd hmg hobj hints hlen hg rfl F X) (fun f s' hq => ?_) (fun _ _ hq => hq)
    obtain ⟨rfl, h2, h3, h4⟩ := hq
    exact ⟨.inl ⟨.bool true, .bool true, [], rfl, fun _ => rfl, .bool true, post_true l _, fun _ => ⟨List.Pairwise.nil, fun _ hm => (nomatch hm)⟩⟩, h2, h3, h4⟩

/-- the same from a codeAny of the CALL (for a layer whose function contracts speak of calls) -/
theorem attach_call {l : OpenLaw} {n : Nat} {q : Program} {loose : List Str} {XP : (Str → Option Value) → Heap → Prop} {YP : World → Heap → Prop} {d : DefRec}
    (hn : l.most = some n) (hdf : d.params.defaults = [])
    (call : ∀ (w : World) (s₀ s₁ : Shared) (mg mb : Str → Option Value) (fa : Addr) (o : Obj) (pm cd doc : Value) (a : Addr) (vs : List Value) (ns : List Int),
      Ground q loose [] XP w s₀ mg mb s₁.heap → YP w s₁.heap →
      s₁.heap.get? fa = some o → o.data = .func (docDef d.name d.params d.body d.scope pm cd doc) → s₁.heap.CodeRec cd d.name → mg d.name = some (.ref fa) →
      s₁.heap.get? a = some { cls := .type "list", data := .seq vs.toArray } → IntsAre vs ns → ns.length ≤ n → s₁.gens = #[] →
      codeAny (model l.prog w) callerA (.call (.ref fa) ⟨[.ref a], []⟩) (fun r s' => r = .ok (.ret (.bool true)) ∧ OldK s₁.heap s'.heap ∧ s'.os = s₁.os ∧ AllBare s'.gens) s₁) :
    WalkO q loose XP YP l.row.toRowW d [] (fun f vs => PySem.call f vs) := by
  intro w s₀ s₁ mg mb G Y fa o pm cd doc dV kV ho hd hcd hD hmg hg args vals as hpre hlay hrd hwl hlo
  obtain rfl : dV = .none := Dflts.none hD hdf
  obtain rfl : kV = .none := Dflts.noKw hD
  obtain ⟨a, vs, ns, rfl, rfl, hobj, hints, hlen⟩ := script_of hn hpre hwl
  refine enter_call (codeAny_mono (call w s₀ s₁ mg mb fa o pm cd doc a vs ns G Y ho (fd_plain hd) hcd hmg hobj hints hlen hg) fun r s' hq => ?_)
  obtain ⟨rfl, h2, h3, h4⟩ := hq
  exact ⟨.inl ⟨.bool true, .bool true, [], rfl, fun _ => rfl, .bool true, post_true l _, fun _ => ⟨List.Pairwise.nil, fun _ hm => (nomatch hm)⟩⟩, h2, h3, h4⟩

/-- the same where the top left finished generators (o_head chose holds_openN): nothing may have changed at all and no generator may be left -/
theorem attachN {l : OpenLaw} {n : Nat} {q : Program} {loose : List Str} {XP : (Str → Option Value) → Heap → Prop} {YP : World → Heap → Prop} {d : DefRec} {x : Str}
    (hn : l.most = some n) (hdf : d.params.defaults = [])
    (hbind : ∀ pm cd doc v : Value, bindArgs (docDef d.name d.params d.body d.scope pm cd doc) ⟨[v], []⟩ = pure [(x, v)])
    (hx : d.scope.names.lookup x = some .local ∨ d.scope.names.lookup x = some .cell)
    (hk : d.scope.kind = .function) (hco : d.scope.isCoroutine = false) (hgen : d.scope.isGenerator = false)
    (body : ∀ (w : World) (s₀ s₁ s : Shared) (mg mb : Str → Option Value) (fa : Addr) (o : Obj) (pm cd doc : Value) (a : Addr) (vs : List Value) (ns : List Int),
      Ground q loose [] XP w s₀ mg mb s₁.heap → YP w s₁.heap →
      s₁.heap.get? fa = some o → o.data = .func (docDef d.name d.params d.body d.scope pm cd doc) → s₁.heap.CodeRec cd d.name → mg d.name = some (.ref fa) →
      s₁.heap.get? a = some { cls := .type "list", data := .seq vs.toArray } → IntsAre vs ns → ns.length ≤ n →
      s.gens = #[] → s.os = s₁.os →
      Fr s₁.heap s₁.heap.objs.size s.heap (bindL (envOfC d.name d.scope s₁.heap.objs.size fa cd).kindOf [(x, .ref a)] fun _ => none) →
      Cl s₁.heap.objs.size (cellsFrom (s₁.heap.objs.size + 1) d.scope.names []) s.heap (bindC (envOfC d.name d.scope s₁.heap.objs.size fa cd).kindOf [(x, .ref a)] fun _ => none) →
      wpAny (model l.prog w) (callerA.deeper (envOfC d.name d.scope s₁.heap.objs.size fa cd)) (execs d.body (envOfC d.name d.scope s₁.heap.objs.size fa cd))
        (fun f s' => f = .ret (.bool true) ∧ (∀ b o, s₁.heap.get? b = some o → s'.heap.get? b = some o) ∧ s'.os = s₁.os ∧ s'.gens = #[]) (fun _ _ => False) s) :
    WalkN q loose XP YP l.row.toRowW d [] (fun f vs => PySem.call f vs) := by
  intro w s₀ s₁ mg mb G Y fa o pm cd doc dV kV ho hd hcd hD hmg hg args vals as hpre hlay hrd hwl hlo
  obtain rfl : dV = .none := Dflts.none hD hdf
  obtain rfl : kV = .none := Dflts.noKw hD
  obtain ⟨a, vs, ns, rfl, rfl, hobj, hints, hlen⟩ := script_of hn hpre hwl
  refine enter_callW ?_
  refine call_cells_ret (o := o) (by rw [depth_caller]; decide) ho (fd_plain hd) G.T.nolimit hcd (hbind pm cd doc (.ref a)) (fun y hy => ?_) (fun h₁ tk F X => ?_) hco hgen hk
  · obtain rfl : y = (x, Value.ref a) := List.mem_singleton.mp hy
    rcases hx with e | e
    · exact .inl e
    · exact .inr ⟨e, cellsFrom_some _ _ _ (.inl e)⟩
  · refine wpAny_mono (body w s₀ s₁ { s₁ with heap := h₁, toks := tk } mg mb fa o pm cd doc a vs ns G Y ho (fd_plain hd) hcd hmg hobj hints hlen hg rfl F X) (fun f s' hq => ?_) (fun _ _ hq => hq)
    obtain ⟨rfl, h2, h3, h4⟩ := hq
    exact ⟨.inl ⟨.bool true, .bool true, [], rfl, fun _ => rfl, .bool true, post_true l _, fun _ => ⟨List.Pairwise.nil, fun _ hm => (nomatch hm)⟩⟩, h2, h3, h4⟩

/-! ### rules over ANY heap (no ledger) from facts about the written part K: the library's own take a ledger (News) for what they write -/
section
variable {prog : Program} {w : World} {A : Around} {E : Value → Shared → Prop} {s : Shared} {K : Frag}

/-- a def of the module, or a method (qual 'C.m'), entered: the frame is the next address; cells behind it -/
theorem call_fn {R : Result → Shared → Prop} {name qual : Str} {params : Arguments} {body : List Stmt} {scope : Scope} {dV kV doc pm cdv ct oc : Value} {an od : Option Addr} {osl : Array (Option Value)} {f : Addr} {args : Args} {binds : List (Str × Value)}
    (X : K.In s.heap) (hlim : s.heap.NoLimit) (ho : K.lookup f = some ⟨oc, od, .func (fnOf name qual params body scope dV kV doc pm an cdv ct), osl⟩) (hcd : codeIn K cdv qual = true) (hroom : A.depth < recursionLimit)
    (hbind : BindsTo s (fnOf name qual params body scope dV kV doc pm an cdv ct) args binds)
    (hkind : (binds.all fun y => scope.names.lookup y.1 == some .local || scope.names.lookup y.1 == some .cell) = true)
    (h : ∀ s₁, InCallC s s.heap.objs.size (bindL (envOfC qual scope s.heap.objs.size f cdv).kindOf binds fun _ => none) (cellsFrom (s.heap.objs.size + 1) scope.names [])
        (bindC (envOfC qual scope s.heap.objs.size f cdv).kindOf binds fun _ => none) s₁ →
      wpAny (model prog w) (A.deeper (envOfC qual scope s.heap.objs.size f cdv)) (execs body (envOfC qual scope s.heap.objs.size f cdv))
        (fun fl s' => R (.ok (.ret (match fl with | .ret v => v | _ => .none))) s')
        (fun e s' => wpAny (model prog w) (A.deeper (envOfC qual scope s.heap.objs.size f cdv)) (leaving (envOfC qual scope s.heap.objs.size f cdv) e) (fun _ s'' => R (.error e) s'') (fun e' s'' => R (.error e') s'') s') s₁)
    (hco : scope.isCoroutine = false) (hgen : scope.isGenerator = false) (hk : scope.kind = .function) : codeAny (model prog w) A (.call (.ref f) args) R s := by
  refine codeAny_call_function hroom (X _ _ ho) rfl hco hgen rfl (codeRec_of X hcd) (hbind _ _ _ _ ?_)
  refine wpAny_newFunctionEnv_cells hk (kindsX hkind _) fun env he s₁ x => ?_
  subst he
  exact ⟨hlim.keeps x.toInCall.keep, codeAny_func (h s₁ x)⟩

/-- C(..): dict at size, instance at size + 1, then __init__ -/
theorem make_obj {R : Result → Shared → Prop} {C fI : Addr} {rest : List Value} {kw : List (Str × Value)}
    (X : K.In s.heap) (hm : makesIn K C = true) (hi : findIn K (.ref C) "__init__" = some (some (.ref fI))) (hf : isFn K (.ref fI) = true)
    (h : codeAny (model prog w) (A.under (.builtin "type.__call__" ⟨.ref C :: rest, kw⟩)) (.call (.ref fI) ⟨.ref (s.heap.objs.size + 1) :: rest, kw⟩) (InitBack (s.heap.objs.size + 1) R)
      { s with heap := (s.heap.push emptyDict).push (instObj C s.heap.objs.size) }) : codeAny (model prog w) A (.call (.ref C) ⟨rest, kw⟩) R s := by
  obtain ⟨hh, g, d, t, os⟩ := s
  exact make_core (makes_of X hm) (looks_findIn X hi) (fun self => bind_fn X self (beq_iff_eq.mp hf)) (.inl rfl) h

/-- x.name where the instance's dict holds the name and the class does not -/
theorem get_field {x C : Addr} {ox : Obj} {es : List DictEntry} {n : Nat} {name : Str} {expr : Bool} {v : Value} {Q : Value → Shared → Prop}
    (X : K.In s.heap) (I : PySem.W.InstAt s.heap x ox C (some (dictOf es n))) (hg : plainGet K C name = true) (hh : hasDictIn K C = true) (ha : findIn K (.ref C) name = some none)
    (hl : getL name es = some (some v)) (hv : handedIn v = true) (h : Q v { s with toks := s.toks + 1 }) : wpAny (model prog w) A (getAttr (.ref x) name expr) Q E s :=
  get_value X I (plainGet_of hg).1 (findObj_own hh ha rfl hl) hv h

/-- x.m(..): the method found in the class -/
theorem get_method {x C f : Addr} {ox : Obj} {es : List DictEntry} {n : Nat} {name : Str} {pl : Sem Bool} {Q : Value × List Value → Shared → Prop}
    (X : K.In s.heap) (I : PySem.W.InstAt s.heap x ox C (some (dictOf es n))) (hg : plainGet K C name = true) (hf : findIn K (.ref C) name = some (some (.ref f))) (ht : isFn K (.ref f) = true)
    (hl : getL name es = some none) (h : Q (.ref f, [.ref x]) s) : wpAny (model prog w) A (getMethod (.ref x) name pl) Q E s :=
  method_fn X I (plainGet_of hg).1 (plainGet_of hg).2 hf (beq_iff_eq.mp ht) (by show (lookIn name (dictOf es n)).map _ = _; rw [lookIn_dict, hl]; rfl) h

/-! the whole heap as the ledger: makes every rule that writes through a ledger a rule over any heap -/
def noObjs (h : Heap) : Heap := { h with objs := #[] }
theorem noObjs_get (h : Heap) (b : Addr) : (noObjs h).get? b = none := by
  cases e : (noObjs h).get? b with
  | none => rfl
  | some o => exact absurd (Heap.lt_size e) (Nat.not_lt_zero _)
def ledger (h : Heap) (L d : Addr) : List (Addr × Obj) := (List.range h.objs.size).filterMap fun a => if a = L ∨ a = d then none else (h.get? a).map fun o => (a, o)
theorem mem_ledger {h : Heap} {L d a : Addr} {o : Obj} : (a, o) ∈ ledger h L d ↔ a ≠ L ∧ a ≠ d ∧ h.get? a = some o := by
  unfold ledger
  rw [List.mem_filterMap]
  constructor
  · rintro ⟨b, _, e⟩
    split at e
    · cases e
    · rename_i hb
      obtain ⟨o', ho, e'⟩ := Option.map_eq_some_iff.mp e
      cases e'
      exact ⟨fun q => hb (.inl q), fun q => hb (.inr q), ho⟩
  · rintro ⟨n1, n2, ho⟩
    refine ⟨a, List.mem_range.mpr (Heap.lt_size ho), ?_⟩
    rw [if_neg (show ¬ (a = L ∨ a = d) from fun q => q.elim n1 n2), ho] <;> rfl
theorem news_ledger {h : Heap} {L d : Addr} {od : Obj} (hne : d ≠ L) (ho : h.get? d = some od) : News (noObjs h) L h ([] ++ (d, od) :: ledger h L d) := by
  rintro ⟨a, o⟩ hp
  rcases List.mem_cons.mp hp with e | hp
  · cases e
    exact ⟨ho, hne, noObjs_get _ _⟩
  · obtain ⟨n1, n2, e⟩ := mem_ledger.mp hp
    exact ⟨e, n1, noObjs_get _ _⟩
theorem fr_all {h : Heap} {L : Addr} {m : Str → Option Value} (n : h.Ns L m) : Fr (noObjs h) L h m :=
  ⟨n, fun b o e => (by rw [noObjs_get] at e; cases e), Nat.zero_le _⟩
/-- Upd of the head entry (for append_K, setItem_K ..) -/
theorem upd_ledger {h : Heap} {L d : Addr} {o o' : Obj} : Upd d o o' ((d, o) :: ledger h L d) ((d, o') :: ledger h L d) :=
  .head fun ⟨_, _⟩ hp => (mem_ledger.mp hp).2.1

/-- x.name = v over any heap: L is any namespace of the heap (the frame's, say): its map stays, its object is not told; all else but the dict stays -/
theorem set_field {x C dx L : Addr} {ox : Obj} {m : Str → Option Value} {es es' : List DictEntry} {n n' : Nat} {name : Str} {v : Value} {Q : Unit → Shared → Prop}
    (X : K.In s.heap) (I : PySem.W.InstAt s.heap x ox C (some (dictOf es n))) (hd : ox.dict = some dx) (hL : s.heap.Ns L m) (hne : dx ≠ L)
    (hs : findIn K (.ref C) "__setattr__" = some (some (.builtin "object.__setattr__"))) (hp : plainOver K C = true) (ht : takerIn K C name = some none) (hh : hasDictIn K C = true) (hl : (getL name es).isSome = true)
    (e : (putL name (PyData.keyHash w.params name) (.str name (s.toks + 1)) v es, putN name es n) = (es', n')) (hz : es'.length ≤ 1000)
    (h : ∀ h' : Heap, h'.Ns L m → h'.get? dx = some (dictOf es' n') → (∀ b o, b ≠ dx → b ≠ L → s.heap.get? b = some o → h'.get? b = some o) → Q () { s with heap := h', toks := s.toks + 2 }) :
    wpAny (model prog w) A (setAttr (.ref x) name v) Q E s := by
  obtain ⟨e1, e2⟩ := Prod.mk.inj e
  have hdx : s.heap.get? dx = some (dictOf es n) := by
    have := I.dict
    rw [hd] at this
    exact this
  refine set_plain X I hs (osa_dict (s := { s with toks := s.toks + 1 }) (h₀ := noObjs s.heap) (L := L) (m := m) (od := dictOf es n) (od' := dictOf es' n') (es := es') (n := n') (pre := []) (post := ledger s.heap L dx)
    (fr_all hL) (news_ledger hne hdx) X I hd hp ht hh hl (fun _ q => nomatch q) (fun ⟨_, _⟩ q => (mem_ledger.mp q).2.1) (by rw [putName_dict, e1, e2]) rfl hz fun h' F' N' => ?_)
  exact h h' F'.ns (N'.get (List.Mem.head _)) fun b o n1 n2 ho => N'.get (List.Mem.tail _ (mem_ledger.mpr ⟨n2, n1, ho⟩))
end
end Att

namespace L2
open PySem PySem.Spec PyProof.Rows

theorem vals_ints : ∀ {vs : List Value} {ns : List Int}, IntsAre vs ns → Vals (ns.map V.int) vs
  | _, _, .nil => .nil
  | _, _, .cons n t h => .cons ⟨t, rfl⟩ (vals_ints h)

/-- nothing is tracked but the script, known to the object (or it is an object of the module) -/
def Only (H : Hp) : Prop := ∀ b, H b = none ∨ ∃ o xs, H b = some (.frz o (.lst xs))

/-- THE HEAD: the law's promise, at the heap behind the top. F, the promise of the law's def, may use that base is part of the heap (so K.In base, base.Ns mainGlobals mg stand in Mod) -/
theorem law_call {P : Program} {w : World} {K : PySem.W.Frag} {mg mb : Str → Option Value} {CX : CXT} {k : Nat} {fa a : Addr} {fd : FuncData} {x : Str} {sp : Sp} {s₁ : Shared} {vs : List Value} {ns : List Int}
    (KX : K.In s₁.heap) (hns : s₁.heap.Ns mainGlobals mg) (hb : s₁.heap.Ns builtinsNs mb) (hbb : ∀ x : Str, x ≠ "__name__" → mb x = bootBuiltins x) (hlim : s₁.heap.NoLimit) (hg : s₁.gens = #[])
    (ha : s₁.heap.get? a = some { cls := .type "list", data := .seq vs.toArray }) (hi : IntsAre vs ns) (hl : ns.length ≤ sizeLine) (hr : Room k callerA)
    (F : ∀ base : Heap, K.In base → base.Ns mainGlobals mg → FnOk P w K mg base CX k fa fd [x] sp) (hbind : ∀ (s : Shared) (u : Value), BindsTo s fd ⟨[u], []⟩ [(x, u)])
    (hsp : ∀ H : Hp, Only H → SqL K H a (ns.map V.int) → sp [.ref a] H (fun v _ => v = .bl true) fun _ _ _ => False)
    (hCX : ∀ H e s', CX [] H s₁ (fun _ _ _ => False) e s' → False) :
    codeAny (model P w) callerA (.call (.ref fa) ⟨[.ref a], []⟩) (fun r s' => r = .ok (.ret (.bool true)) ∧ OldK s₁.heap s'.heap ∧ s'.os = s₁.os ∧ AllBare s'.gens) s₁ := by
  have rv := vals_ints hi
  have lenV := hi.length
  -- from an abstract heap in which nothing but the script may be tracked
  have core : ∀ H : Hp, Only H → SqL K H a (ns.map V.int) → HOk P w H s₁.heap → (∀ b, H b ≠ none → b = a) → (H a ≠ none → K.lookup a = none) →
      codeAny (model P w) callerA (.call (.ref fa) ⟨[.ref a], []⟩) (fun r s' => r = .ok (.ret (.bool true)) ∧ OldK s₁.heap s'.heap ∧ s'.os = s₁.os ∧ AllBare s'.gens) s₁ := by
    intro H hO hS hok hA hK
    have base_of : ∀ {b : Addr} {o : Obj}, s₁.heap.get? b = some o → H b = none → (hidT s₁.heap H).get? b = some o := fun e n => hidT_get e n
    have noA : ∀ {b : Addr} {o : Obj} {es : Array DictEntry} {ep : Nat}, s₁.heap.get? b = some o → o.data = .dict es ep → H b = none := fun {b o es ep} e d => by
      cases q : H b with
      | none => rfl
      | some u =>
        have e' : b = a := hA b (by rw [q]; simp)
        subst e'
        rw [ha] at e; cases e
        have d' : Data.seq vs.toArray _ = Data.dict es ep := d
        cases d'
    have nsK : ∀ {b : Addr} {m : Str → Option Value}, s₁.heap.Ns b m → (hidT s₁.heap H).Ns b m := fun {b m} ⟨o, es, ep, e, d, r⟩ => ⟨o, es, ep, base_of e (noA e d), d, r⟩
    have hKb : K.In (hidT s₁.heap H) := fun b o e => base_of (KX b o e) (by
      cases q : H b with
      | none => rfl
      | some u =>
        have e' : b = a := hA b (by rw [q]; simp)
        subst e'
        rw [hK (by rw [q]; simp)] at e; cases e)
    have hM : Mod K mg (hidT s₁.heap H) := ⟨hKb, nsK hns, ⟨mb, nsK hb, hbb⟩, let ⟨mc, h1, h2⟩ := hlim; ⟨mc, nsK h1, h2⟩⟩
    have e0 : Env0 P w K mg (hidT s₁.heap H) callerA [] s₁ H := ⟨rfl, hM, fun b o e => of_hidT e, Nat.le_of_eq (hidT_size _ _), trivial, fun b hb => absurd (show b ∈ ([] : List Addr) from hb) (by simp), hok, .of_eq hg⟩
    refine codeAny_mono ((F _ hKb (nsK hns)).run callerA [] s₁ H ⟨[.ref a], []⟩ [.ref a] [.ref a] _ _ hr e0 (hbind s₁ (.ref a)) (.cons rfl .nil) (hsp H hO hS)) fun r s' h => ?_
    cases r with
    | error e => exact (hCX H e s' h).elim
    | ok fl =>
      cases fl with
      | next => exact False.elim h
      | brk => exact False.elim h
      | cont => exact False.elim h
      | ret u =>
        obtain ⟨v, H', os, bare, un, hok', r', q⟩ := h
        have q' : v = .bl true := q
        subst q'
        obtain rfl : u = Value.bool true := r'
        refine ⟨rfl, OldK.of_keep fun b o e => ?_, os, bare⟩
        cases q : H b with
        | none => exact un.keep b o e q (by intro z; exact absurd (show b ∈ ([] : List Addr) from z) (by simp)) (by simp)
        | some u =>
          rcases hO b with z | ⟨ob, xs, z⟩
          · rw [q] at z; cases z
          · have z2 := un.frzs b ob _ z
            obtain ⟨e1, _⟩ := hok b _ z
            obtain ⟨e2, _⟩ := hok' b _ z2
            rw [e] at e1; cases e1
            exact e2
  cases hk : K.lookup a with
  | some o =>
    -- the script is one of the module's own objects
    have e := KX a o hk
    rw [ha] at e
    cases e
    refine core (fun _ => none) (fun _ => .inl rfl) (.inr ⟨_, vs.toArray, _, hk, rfl, rfl, rfl, by rw [List.size_toArray, lenV]; exact hl, by simpa using rv⟩) (fun b u z => by have z' : (none : Option HO) = some u := z; cases z') (fun b z => absurd rfl z) fun z => absurd rfl z
  | none =>
    refine core (fun b => if b = a then some (.frz { cls := .type "list", data := .seq vs.toArray } (.lst (ns.map V.int))) else none) (fun b => ?_) (.inl (.inr ⟨{ cls := .type "list", data := .seq vs.toArray }, if_pos rfl⟩)) (fun b u z => ?_) (fun b z => ?_) fun _ => hk
    · by_cases hb : b = a
      · exact .inr ⟨_, _, if_pos hb⟩
      · exact .inl (if_neg hb)
    · by_cases hb : b = a
      · have z' := (if_pos hb).symm.trans z
        cases z'
        subst hb
        exact ⟨ha, by rw [List.length_map]; exact hl, vs, _, rv, ha⟩
      · have z' := (if_neg hb).symm.trans z
        cases z'
    · by_cases hb : b = a
      · exact hb
      · exact absurd (if_neg hb) z
end L2

namespace L2
open PySem PySem.Spec PyProof.Rows

abbrev KOf {K : PySem.W.Frag} {h : Heap} (_ : K.In h) : PySem.W.Frag := K

/-- the goal that k_head leaves (case hc), from the law's promise. F gives the function object fd (K's own) once, then the promise over every base -/
theorem walk_of {l : PySem.W.OpenLaw} {n k : Nat} {q : Program} {loose : List Str} {XP : (Str → Option Value) → Heap → Prop} {YP : World → Heap → Prop} {d : DefRec} {K : Params → PySem.W.Frag} {CX : World → CXT} {sp : World → Sp} {x : Str}
    (hn : l.most = some n) (hn2 : n ≤ sizeLine) (hdf : d.params.defaults = []) (hr : Room k callerA)
    (hY : ∀ (w : World) (h : Heap), YP w h → (K w.params).In h)
    (F : ∀ (w : World) (mg : Str → Option Value) (fa : Addr) (h : Heap), (K w.params).In h → h.Ns mainGlobals mg → mg d.name = some (.ref fa) →
      ∃ fd : FuncData, (∀ (s : Shared) (u : Value), BindsTo s fd ⟨[u], []⟩ [(x, u)]) ∧
        ∀ base : Heap, (K w.params).In base → base.Ns mainGlobals mg → FnOk l.prog w (K w.params) mg base (CX w) k fa fd [x] (sp w))
    (hsp : ∀ (w : World) (H : Hp) (a : Addr) (ns : List Int), ns.length ≤ n → Only H → SqL (K w.params) H a (ns.map V.int) → sp w [.ref a] H (fun v _ => v = .bl true) fun _ _ _ => False)
    (hCX : ∀ (w : World) (H : Hp) (s : Shared) (e : Value) (s' : Shared), CX w [] H s (fun _ _ _ => False) e s' → False) :
    PySem.W.WalkO q loose XP YP l.row.toRowW d [] (fun f vs => PySem.call f vs) := by
  refine Att.attach_call hn hdf fun w s₀ s₁ mg mb fa o pm cd doc a vs ns G Y ho hd hcd hmg hobj hints hlen hg => ?_
  have KX := hY w _ Y
  obtain ⟨fd, hb, hF⟩ := F w mg fa _ KX G.T.g hmg
  exact law_call KX G.T.g G.T.b G.T.builtins G.T.nolimit hg hobj hints (Nat.le_trans hlen hn2) hr hF hb (fun H hO hS => hsp w H a ns hlen hO hS) fun H e s' => hCX w H s₁ e s'
/-- the same where the promise hangs on the written part alone: (sp := My.sp_law), no hole under a binder -/
theorem walk_ofK {l : PySem.W.OpenLaw} {n k : Nat} {q : Program} {loose : List Str} {XP : (Str → Option Value) → Heap → Prop} {YP : World → Heap → Prop} {d : DefRec} {K : Params → PySem.W.Frag} {CX : CXT} {sp : PySem.W.Frag → Sp} {x : Str}
    (hn : l.most = some n) (hn2 : n ≤ sizeLine) (hdf : d.params.defaults = []) (hr : Room k callerA)
    (hY : ∀ (w : World) (h : Heap), YP w h → (K w.params).In h)
    (F : ∀ (w : World) (mg : Str → Option Value) (fa : Addr) (h : Heap), (K w.params).In h → h.Ns mainGlobals mg → mg d.name = some (.ref fa) →
      ∃ fd : FuncData, (∀ (s : Shared) (u : Value), BindsTo s fd ⟨[u], []⟩ [(x, u)]) ∧
        ∀ base : Heap, (K w.params).In base → base.Ns mainGlobals mg → FnOk l.prog w (K w.params) mg base CX k fa fd [x] (sp (K w.params)))
    (hsp : ∀ (K : PySem.W.Frag) (H : Hp) (a : Addr) (ns : List Int), ns.length ≤ n → Only H → SqL K H a (ns.map V.int) → sp K [.ref a] H (fun v _ => v = .bl true) fun _ _ _ => False)
    (hCX : ∀ (H : Hp) (s : Shared) (e : Value) (s' : Shared), CX [] H s (fun _ _ _ => False) e s' → False) :
    PySem.W.WalkO q loose XP YP l.row.toRowW d [] (fun f vs => PySem.call f vs) :=
  walk_of (K := K) (CX := fun _ => CX) (sp := fun w => sp (K w.params)) hn hn2 hdf hr hY F (fun w H a ns h1 h2 h3 => hsp (K w.params) H a ns h1 h2 h3) fun _ H s e s' => hCX H s e s'
end L2

/- THE LAST THEOREM (shape; LID, My.* are yours):
   My.Adr: a structure of the addresses that your layer names (classes, functions); My.Txt K t: a structure (Prop) of the equations over K;
   My.txt_mk : {K} {implicit addresses ..} (e1 : nsIn K mainGlobals "law" = some (some (.ref f))) (e2 : K.lookup f = some ⟨oc, od, .func (fnOf "law" "law" params body scope dV kV doc pm an cdv ct), sl⟩) (e3 : codeIn K cdv "law" = true) .. : ∃ t, My.Txt K t

set_option maxRecDepth 100000 in
set_option maxHeartbeats 0 in
theorem PySem.Challenge.cw_LID_holds : PySem.Challenge.rw_LID.Holds := by
  w_on; o_law; k_head; (case hw => w_witness2)
  k_fill
  refine L2.walk_of (l := PySem.Challenge.rw_LID) (n := 63) (k := 40) (x := "script") (CX := fun w => ..) (sp := fun _ => My.sp_law) rfl (by decide) rfl ⟨rfl, by decide, by decide⟩ (fun w h Y => PySem.W.kIn_of Y) ?F ?S ?C
  case F =>
    intro w mg fa h KX G hmg
    have T : ∃ t, My.Txt (L2.KOf KX) t := by
      dsimp only [L2.KOf]                          -- K must stand as «<heap const> w.params» for k_is
      refine' My.txt_mk ?e1 ?e2 ?e3 ..
      (case e1 => PySem.W.k_is)                    -- in the order: a name -> its address -> its object -> its parts
      (case e2 => PySem.W.k_is)
      ..
    obtain ⟨t, T⟩ := T
    have e0 := hmg.symm.trans (PySem.W.mg_of KX G T.law)
    cases e0                                       -- fa is the law's own address
    exact ⟨_, fun s u => .of_eq rfl, fun base kb nb => My.law_fn T kb nb⟩     -- if «.of_eq rfl» comes too early: refine' ⟨_, ?b, fun base kb nb => My.law_fn T kb nb⟩; exact fun s u => .of_eq rfl
  case S => exact fun w H a ns hl hO hS => ..
  case C => exact ..
(the tactic k_is has no namespace: write k_is) -/

/-! SHORT WORDS over the layer: a def of the text, its body, what a loop and a test want. -/
namespace L2
open PySem PySem.Spec PyProof.Rows

/-! ### the text by places -/
/-- the j-th statement of a class's body -/
def inClass (s : Stmt) (j : Nat) : Stmt := match s with
  | .ClassDef _ _ _ body _ _ _ _ _ _ _ => body.getD j (.Pass ⟨0, 0, 0, 0⟩)
  | _ => .Pass ⟨0, 0, 0, 0⟩
def defArgs (s : Stmt) : Arguments := match s with
  | .FunctionDef _ a _ _ _ _ _ _ _ _ => a
  | _ => { posonlyargs := [], args := [], vararg := none, kwonlyargs := [], kw_defaults := [], kwarg := none, defaults := [] }
def defBody (s : Stmt) : List Stmt := match s with
  | .FunctionDef _ _ b _ _ _ _ _ _ _ => b
  | _ => []
def defScope (s : Stmt) : Scope := match s with
  | .FunctionDef _ _ _ _ _ _ sc _ _ _ => sc
  | _ => { kind := .function, names := [], isGenerator := false, isCoroutine := false }

/-! ### no exception leaves a def -/
abbrev CX0 : CXT := fun _ _ _ _ _ _ => False
abbrev E0 : XK := fun _ _ _ => False
theorem pass0 {X : Cx} : Passes CX0 X E0 := fun _ _ _ _ _ _ _ h => h.elim

/-! ### a def (or method) of the text as it stands behind the top -/
structure Fun (K : PySem.W.Frag) (x qual : Str) (st : Stmt) (f : Addr) (fd : FuncData) : Prop where
  ex : ∃ (oc : Value) (od : Option Addr) (kV doc pm : Value) (an : Option Addr) (cdv ct : Value) (osl : Array (Option Value)),
    fd = PySem.W.fnOf x qual (defArgs st) (defBody st) (defScope st) .none kV doc pm an cdv ct ∧ K.lookup f = some ⟨oc, od, .func fd, osl⟩ ∧ PySem.W.codeIn K cdv qual = true
  kp : PySem.W.keepIn K (.ref f) = true
section
variable {P : Program} {w : World} {K : PySem.W.Frag} {mg : Str → Option Value} {base : Heap}
/-- THE RULE for a def: its body as a term of rules, and the reading of that term -/
theorem Fun.ok {x qual : Str} {st : Stmt} {f : Addr} {fd : FuncData} {N ps : List Str} {k : Nat} {sp : Sp} (F : Fun K x qual st f fd) (S : FnScope N ps (defScope st)) (len : ∀ vs H Q E, sp vs H Q E → vs.length = ps.length)
    (hbody : ∀ (cdv : Value) (A : Around) (outer : List Env) (s : Shared) (H : Hp) (vs : List V) (Q : VK) (E : XK), Room k (A.deeper (envOfC qual (defScope st) s.heap.objs.size f cdv)) → sp vs H Q E →
      ∃ t, PSs (cxOf CX0 P w K mg base N qual (defScope st) f cdv A outer s H E).nox (defBody st) t ∧ t { nx := fun _ H' => Q .non H', rt := Q } (start N vs) H) : FnOk P w K mg base CX0 (k + 1) f fd ps sp := by
  obtain ⟨oc, od, kV, doc, pm, an, cdv, ct, osl, rfl, lk, hcd⟩ := F.ex
  refine fn_of lk hcd S len fun A outer s H vs Q E hr hsp => ?_
  obtain ⟨t, h, q⟩ := hbody cdv A outer s H vs Q E hr hsp
  exact ⟨t, h.nox, q⟩
/-- how its arguments bind (no defaults): h is «fun _ _ _ _ _ _ us hl => match us, hl with | [_, _], _ => rfl», one _ a parameter -/
theorem Fun.binds {x qual : Str} {st : Stmt} {f : Addr} {fd : FuncData} {ps : List Str} (F : Fun K x qual st f fd)
    (h : ∀ (kV doc pm : Value) (an : Option Addr) (cdv ct : Value) (us : List Value), us.length = ps.length → bindArgs (PySem.W.fnOf x qual (defArgs st) (defBody st) (defScope st) .none kV doc pm an cdv ct) ⟨us, []⟩ = pure (ps.zip us)) : Binds K fd ps [] := by
  obtain ⟨oc, od, kV, doc, pm, an, cdv, ct, osl, rfl, lk, hcd⟩ := F.ex
  exact .all (h kV doc pm an cdv ct)
theorem fun_mk {x qual : Str} {st : Stmt} {f : Addr} {oc : Value} {od an : Option Addr} {osl : Array (Option Value)} {kV doc pm cdv ct : Value} (l : K.lookup f = some ⟨oc, od, .func (PySem.W.fnOf x qual (defArgs st) (defBody st) (defScope st) .none kV doc pm an cdv ct), osl⟩)
    (c : PySem.W.codeIn K cdv qual = true) (k : PySem.W.keepIn K (.ref f) = true) : Fun K x qual st f (PySem.W.fnOf x qual (defArgs st) (defBody st) (defScope st) .none kV doc pm an cdv ct) := ⟨⟨oc, od, kV, doc, pm, an, cdv, ct, osl, rfl, l, c⟩, k⟩
end
theorem hu_of {A : Around} {k : Nat} (hr : Room k A) : A.units + 1 < cLine := Nat.lt_of_le_of_lt (Nat.add_le_add_left (by decide : 1 ≤ 64) _) hr.units
theorem small1000 {n : Nat} (h : n ≤ 1000) : n < sizeLine := Nat.lt_of_le_of_lt h (by decide)

/-! ### expressions in short: the name that stands in the i-th slot -/
section
variable {X : Cx}
theorem pv (i : Nat) {x : Str} {pos : Pos} (hN : X.N[i]? = some x := by rfl) (hv : Vis X.env.scope x := by first | exact Or.inl rfl | exact Or.inr (Or.inl rfl) | exact Or.inr (Or.inr rfl)) (hd : (x == ("__debug__" : Str)) = false := by decide)
    (hcd : (x == ("__classdict__" : Str)) = false := by decide) : PE X (.Name x pos) (tVar i) := pe_var hN hv hd hcd
end

/-! ### tests -/
theorem iteF {A B : Prop} (h : B) : if false = true then A else B := by
  rw [if_neg Bool.false_ne_true]
  exact h
theorem iteT {A B : Prop} (h : A) : if true = true then A else B := by
  rw [if_pos rfl]
  exact h
theorem ite2 {c A B : Prop} [Decidable c] (h1 : c → A) (h2 : ¬ c → B) : if c then A else B := by
  by_cases h : c
  · rw [if_pos h]
    exact h1 h
  · rw [if_neg h]
    exact h2 h
theorem iteNS {c A B : Prop} [Decidable c] (hc : c) (h : B) : if (!decide c) = true then A else B := by
  rw [decide_eq_true hc]
  exact iteF h

/-! ### heaps -/
/-- all that was tracked is as it was -/
def Same (H H' : Hp) : Prop := ∀ b o, H b = some o → H' b = some o
theorem Same.refl (H : Hp) : Same H H := fun _ _ h => h
theorem Same.trans {H H1 H2 : Hp} (a : Same H H1) (b : Same H1 H2) : Same H H2 := fun c o h => b c o (a c o h)
theorem Same.free {H H' : Hp} (e : Same H H') {l : Addr} (h : H' l = Option.none) : H l = Option.none := by
  cases q : H l with
  | none => rfl
  | some o =>
    rw [e l o q] at h
    cases h
theorem Same.seq {K : PySem.W.Frag} {H H' : Hp} {a : Addr} {xs : List V} (e : Same H H') (h : SqL K H a xs) : SqL K H' a xs := by
  rcases h with (h | ⟨o, h⟩) | h
  · exact .inl (.inl (e _ _ h))
  · exact .inl (.inr ⟨o, e _ _ h⟩)
  · exact .inr h

end L2


end

section
set_option Elab.async false
set_option linter.all false
set_option maxRecDepth 100000
namespace L2
open PySem PySem.Spec PyProof.Rows
section
variable {X : Cx}
/-- len of a dict -/
theorem call_lenD : CallR X (.builtin "len") (fun xs H Q => ∃ a kvs, xs = [V.ref a] ∧ H a = some (.dK kvs) ∧ Q (.int kvs.length) H) := by
  intro pins s σ H xs us Q I r h
  obtain ⟨a, kvs, rfl, ha, q⟩ := h
  obtain ⟨u, rfl, ru⟩ := vals1 r
  cases ru
  exact d_len I (.inl ha) fun t s' I' => ⟨.int kvs.length, H, I', ⟨t, rfl⟩, q⟩
end
/-! ### a dict's pairs: keys that differ -/
section
variable {κ : Type} [DecidableEq κ]
theorem valV_not {kvs : List (κ × V)} {k : κ} (h : valV kvs k = none) : ¬ k ∈ kvs.map (·.1) := by
  intro m
  obtain ⟨p, hp, e⟩ := List.mem_map.mp m
  have q : (kvs.any fun kv => decide (kv.1 = k)) = true := List.any_eq_true.mpr ⟨p, hp, decide_eq_true e⟩
  rw [valV_any, h] at q
  exact absurd q (by simp)
theorem valV_in {kvs : List (κ × V)} {k : κ} {v : V} (h : valV kvs k = some v) : k ∈ kvs.map (·.1) := by
  have q : (kvs.any fun kv => decide (kv.1 = k)) = true := by
    rw [valV_any, h]
    all_goals rfl
  obtain ⟨p, hp, e⟩ := List.any_eq_true.mp q
  exact List.mem_map.mpr ⟨p, hp, of_decide_eq_true e⟩
theorem nd_snoc : ∀ {l : List κ} {k : κ}, l.Nodup → ¬ k ∈ l → (l ++ [k]).Nodup
  | [], k, _, _ => by simp
  | a :: r, k, h, hk => by
    obtain ⟨h1, h2⟩ := List.nodup_cons.mp h
    show (a :: (r ++ [k])).Nodup
    refine List.nodup_cons.mpr ⟨fun m => ?_, nd_snoc h2 fun m => hk (List.mem_cons.mpr (Or.inr m))⟩
    rcases List.mem_append.mp m with q | q
    · exact h1 q
    · exact hk (List.mem_cons.mpr (Or.inl (List.mem_singleton.mp q).symm))
theorem nd_putK {kvs : List (κ × V)} {k : κ} (v : V) (hn : (kvs.map (·.1)).Nodup) (h : valV kvs k = none) : ((putK kvs k v).map (·.1)).Nodup := by
  rw [putK_new v h, List.map_append]
  exact nd_snoc hn (valV_not h)
theorem dropK_pos {p : κ × V} {r : List (κ × V)} {k : κ} (e : p.1 = k) : dropK (p :: r) k = dropK r k := by
  unfold dropK
  rw [List.filter_cons, if_neg (by simp [e])]
theorem dropK_neg {p : κ × V} {r : List (κ × V)} {k : κ} (e : ¬ p.1 = k) : dropK (p :: r) k = p :: dropK r k := by
  unfold dropK
  rw [List.filter_cons, if_pos (by simp [e])]
theorem dropK_no : ∀ {kvs : List (κ × V)} {k : κ}, ¬ k ∈ kvs.map (·.1) → dropK kvs k = kvs
  | [], _, _ => rfl
  | p :: r, k, h => by
    have h' : ¬ k ∈ r.map (·.1) := fun m => by
      obtain ⟨q, hq, e⟩ := List.mem_map.mp m
      exact h (List.mem_map.mpr ⟨q, List.mem_cons.mpr (Or.inr hq), e⟩)
    rw [dropK_neg fun e => h (List.mem_map.mpr ⟨p, List.mem_cons.mpr (Or.inl rfl), e⟩), dropK_no h']
theorem dropK_mem {kvs : List (κ × V)} {k : κ} {p : κ × V} (h : p ∈ dropK kvs k) : p ∈ kvs := (List.mem_filter.mp h).1
theorem nd_dropK : ∀ {kvs : List (κ × V)} {k : κ}, (kvs.map (·.1)).Nodup → ((dropK kvs k).map (·.1)).Nodup
  | [], _, _ => List.nodup_nil
  | p :: r, k, h => by
    have h : (p.1 :: r.map (·.1)).Nodup := h
    obtain ⟨h1, h2⟩ := List.nodup_cons.mp h
    by_cases e : p.1 = k
    · rw [dropK_pos e]
      exact nd_dropK h2
    · rw [dropK_neg e]
      show (p.1 :: (dropK r k).map (·.1)).Nodup
      refine List.nodup_cons.mpr ⟨fun m => h1 ?_, nd_dropK h2⟩
      obtain ⟨q, hq, eq⟩ := List.mem_map.mp m
      exact List.mem_map.mpr ⟨q, dropK_mem hq, eq⟩
theorem dropK_len : ∀ {kvs : List (κ × V)} {k : κ}, (kvs.map (·.1)).Nodup → k ∈ kvs.map (·.1) → (dropK kvs k).length + 1 = kvs.length
  | [], _, _, m => by simp at m
  | p :: r, k, h, m => by
    have h : (p.1 :: r.map (·.1)).Nodup := h
    have m : k = p.1 ∨ k ∈ r.map (·.1) := List.mem_cons.mp m
    obtain ⟨h1, h2⟩ := List.nodup_cons.mp h
    by_cases e : p.1 = k
    · subst e
      rw [dropK_pos rfl, dropK_no h1]
      all_goals rfl
    · have m' : k ∈ r.map (·.1) := m.resolve_left fun z => e z.symm
      have q := dropK_len h2 m'
      rw [dropK_neg e, List.length_cons, List.length_cons]
      omega
end
end L2


end

section
/-! Trees for values, and what a def means over them. -/
namespace C
open PySem

abbrev Key := Sum Int Str
inductive T where
  | non | bl (b : Bool) | int (i : Int) | str (x : Str)
  | tup (xs : List T) | lst (xs : List T) | dic (kvs : List (Key × T)) | obj (n : Nat)

instance : Inhabited T := ⟨.non⟩

/-- an object of the store: a dict, an instance -/
inductive SO where
  | dic (kvs : List (Key × T)) | lst (xs : List T) | ins (c : Str) (fs : List (Str × T))

/-- a name's place: the value, and whether the thing is this name's alone -/
abbrev Slot := Option (T × Bool)
structure Sta where
  env : List Slot
  sto : List SO

abbrev M (α : Type) := Sta → Option (α × Sta)

/-! ### dicts -/
def dGet (k : Key) : List (Key × T) → Option T
  | [] => none
  | (q, t) :: r => if q = k then some t else dGet k r
def dPut (k : Key) (t : T) (kvs : List (Key × T)) : List (Key × T) :=
  if kvs.any fun p => decide (p.1 = k) then kvs.map fun p => if p.1 = k then (p.1, t) else p else kvs ++ [(k, t)]
def keyOf : T → Option Key
  | .int i => some (.inl i)
  | .str x => some (.inr x)
  | _ => none
def ofKey : Key → T
  | .inl i => .int i
  | .inr x => .str x

/-! ### equality -/
mutual
/-- a tree as data -/
def dat : T → Option PyData
  | .non => some .none
  | .bl b => some (.bool b)
  | .int i => some (.int i)
  | .str x => if PyData.canLay0 (.str x) then some (.str x) else none
  | .tup xs => (dats xs).map .tuple
  | .lst xs => (dats xs).map .list
  | .dic _ => none
  | .obj _ => none
def dats : List T → Option (List PyData)
  | [] => some []
  | x :: r => match dat x with
    | some a => (dats r).map (a :: ·)
    | none => none
end
def eqD (a b : T) : Option Bool := match dat a with
  | some x => match dat b with
    | some y => if x.depth ≤ 40 then some (PyData.eqv x y) else none
    | none => none
  | none => none
def eqKs : List (Key × T) → List (Key × T) → Option Bool
  | [], _ => some true
  | (k, x) :: r, ys => match dGet k ys with
    | none => some false
    | some y => match eqD x y with
      | some e => (eqKs r ys).map (e && ·)
      | none => none
def eqT : T → T → Option Bool
  | .dic a, .dic b => if a.length = b.length then eqKs a b else some false
  | x, y => eqD x y

/-! ### expressions -/
def mPure (t : T) : M T := fun s => some (t, s)
def mVar (i : Nat) : M T := fun s => match s.env[i]? with
  | some (some (t, false)) => some (t, s)
  | some (some (t, true)) => some (t, { s with env := s.env.set i (some (t, false)) })
  | _ => none
/-- a name that shares its thing -/
def mShr (i : Nat) : M T := fun s => match s.env[i]? with
  | some (some (t, false)) => some (t, s)
  | _ => none
def addI : T → T → Option T
  | .int i, .int j => some (.int (i + j))
  | _, _ => none
def mNil : M (List T) := fun s => some ([], s)
def mCons (a : M T) (r : M (List T)) : M (List T) := fun s => match a s with
  | some (t, s1) => match r s1 with
    | some (ts, s2) => some (t :: ts, s2)
    | none => none
  | none => none
def mStrs : List Str → M (List T)
  | [] => mNil
  | x :: r => mCons (mPure (.str x)) (mStrs r)
def mMap (f : List T → Option T) (a : M (List T)) : M T := fun s => match a s with
  | some (ts, s1) => match f ts with
    | some t => some (t, s1)
    | none => none
  | none => none
def mUn (f : T → Option T) (a : M T) : M T := fun s => match a s with
  | some (t, s1) => match f t with
    | some u => some (u, s1)
    | none => none
  | none => none
def mOp (f : T → T → Option T) (a b : M T) : M T := fun s => match a s with
  | some (t, s1) => match b s1 with
    | some (u, s2) => match f t u with
      | some v => some (v, s2)
      | none => none
    | none => none
  | none => none
abbrev Fn := List T → List SO → Option (T × List SO)
def mCall (F : Fn) (a : M (List T)) : M T := fun s => match a s with
  | some (ts, s1) => match F ts s1.sto with
    | some (t, sto) => some (t, { s1 with sto := sto })
    | none => none
  | none => none
/-- a test of a value that is a truth -/
def mTest (a : M T) : M Bool := fun s => match a s with
  | some (.bl b, s1) => some (b, s1)
  | _ => none
def mNot (a : M Bool) : M Bool := fun s => match a s with
  | some (b, s1) => some (!b, s1)
  | none => none
def mAnd (a b : M Bool) : M Bool := fun s => match a s with
  | some (true, s1) => b s1
  | some (false, s1) => some (false, s1)
  | none => none
def mOr (a b : M Bool) : M Bool := fun s => match a s with
  | some (true, s1) => some (true, s1)
  | some (false, s1) => b s1
  | none => none
/-- a truth as a value -/
def mBool (a : M Bool) : M T := fun s => match a s with
  | some (b, s1) => some (.bl b, s1)
  | none => none
def mIf (c : M Bool) (a b : M T) : M T := fun s => match c s with
  | some (true, s1) => a s1
  | some (false, s1) => b s1
  | none => none

/-! ### what built-ins tell -/
/-- nothing here grows beyond it -/
abbrev lim : Nat := 1000000
def bnd64 (i : Int) : Bool := decide (-(2 ^ 64) < i ∧ i < 2 ^ 64)
def addT : T → T → Option T
  | .int i, .int j => some (.int (i + j))
  | .str x, .str y => if x.length + y.length < lim then some (.str (x ++ y)) else none
  | .tup x, .tup y => if x.length + y.length < lim then some (.tup (x ++ y)) else none
  | .lst x, .lst y => if x.length + y.length < lim then some (.lst (x ++ y)) else none
  | _, _ => none
def subT : T → T → Option T
  | .int i, .int j => some (.int (i - j))
  | _, _ => none
def mulT : T → T → Option T
  | .int i, .int j => if bnd64 i || bnd64 j then some (.int (i * j)) else none
  | .str x, .int j => if 0 ≤ j ∧ j ≤ 1000 ∧ x.length ≤ 100 then some (.str ⟨((List.replicate j.toNat x.cps.toList).flatten).toArray⟩) else none
  | _, _ => none
def modT : T → T → Option T
  | .int i, .int j => if 0 < j then some (.int (i % j)) else none
  | _, _ => none
/-- no divisor here is greater -/
def fdl : Nat := 2 ^ 200
def fdivT : T → T → Option T
  | .int i, .int j => if 0 < j ∧ (j < 1073741824 ∨ j.natAbs < fdl) then some (.int (i / j)) else none
  | _, _ => none
def powT : T → T → Option T
  | .int i, .int j => if 0 ≤ j ∧ j ≤ 1000 ∧ i.natAbs < 1000 then some (.int (i ^ j.toNat)) else none
  | _, _ => none
def negT : T → Option T
  | .int i => some (.int (-i))
  | _ => none
def ltT : T → T → Option T
  | .int i, .int j => some (.bl (decide (i < j)))
  | _, _ => none
def leT : T → T → Option T
  | .int i, .int j => some (.bl (decide (i ≤ j)))
  | _, _ => none
def gtT : T → T → Option T
  | .int i, .int j => some (.bl (decide (j < i)))
  | _, _ => none
def geT : T → T → Option T
  | .int i, .int j => some (.bl (decide (j ≤ i)))
  | _, _ => none
def eqO (x y : T) : Option T := match eqT x y with
  | some b => some (.bl b)
  | none => none
def neO (x y : T) : Option T := match eqT x y with
  | some b => some (.bl (!b))
  | none => none
/-- a place in a row of n things -/
def ixI (n : Nat) (i : Int) : Option Nat := if 0 ≤ i then (if i < n then some i.toNat else none) else if -(n : Int) ≤ i then some (i + n).toNat else none
def itemT : T → T → Option T
  | .tup xs, .int i => (ixI xs.length i).bind (xs[·]?)
  | .lst xs, .int i => (ixI xs.length i).bind (xs[·]?)
  | .str x, .int i => if x.length < lim then (ixI x.cps.toList.length i).bind fun j => (x.cps.toList[j]?).map fun c => .str ⟨#[c]⟩ else none
  | .dic kvs, k => (keyOf k).bind (dGet · kvs)
  | _, _ => none
def lenT : List T → Option T
  | [.tup xs] => some (.int xs.length)
  | [.lst xs] => some (.int xs.length)
  | [.str x] => if x.length < lim then some (.int x.length) else none
  | [.dic kvs] => some (.int kvs.length)
  | _ => none
/-- is it one of these -/
def inL (x : T) : List T → Option Bool
  | [] => some false
  | y :: r => match eqD y x with
    | some e => (inL x r).map (e || ·)
    | none => none
def inT (x y : T) : Option T := match y with
  | .dic kvs => (keyOf x).map fun q => .bl (dGet q kvs).isSome
  | _ => if (dat x).isSome then (match y with
    | .tup ys => (inL x ys).map .bl
    | .lst ys => (inL x ys).map .bl
    | _ => none) else none
def notInT (x y : T) : Option T := match inT x y with
  | some (.bl b) => some (.bl (!b))
  | _ => none
def tupleT : List T → Option T
  | [.lst xs] => some (.tup xs)
  | [.tup xs] => some (.tup xs)
  | _ => none
def listT : List T → Option T
  | [.lst xs] => some (.lst xs)
  | [.tup xs] => some (.lst xs)
  | _ => none
def pairsT : List T → Option (List (Key × T))
  | [] => some []
  | .tup [k, v] :: r => match keyOf k, pairsT r with
    | some q, some l => some ((q, v) :: l)
    | _, _ => none
  | _ => none
/-- dict(xs): of a list of pairs, of a dict -/
def dictT : List T → Option T
  | [.lst xs] => if xs.length < lim then (pairsT xs).map fun l => .dic (l.foldl (fun d p => dPut p.1 p.2 d) []) else none
  | [.dic kvs] => some (.dic kvs)
  | _ => none
def intsT : List T → Option (List Int)
  | [] => some []
  | .int i :: r => (intsT r).map (i :: ·)
  | _ => none
def sumT : List T → Option T
  | [.lst xs] => (intsT xs).map fun l => .int l.sum
  | _ => none
def boolsT : List T → Option (List Bool)
  | [] => some []
  | .bl b :: r => (boolsT r).map (b :: ·)
  | _ => none
def allT : List T → Option T
  | [.lst xs] => (boolsT xs).map fun l => .bl (l.all id)
  | _ => none
def anyT : List T → Option T
  | [.lst xs] => (boolsT xs).map fun l => .bl (l.any id)
  | _ => none
def strsT : List T → Option (List Str)
  | [] => some []
  | .str x :: r => (strsT r).map (x :: ·)
  | _ => none
/-- texts in their order -/
def leS (a b : Str) : Bool := !decide (b.cps.toList < a.cps.toList)
def ins1 (x : Str) : List Str → List Str
  | [] => [x]
  | y :: r => if decide (x.cps.toList < y.cps.toList) then x :: y :: r else y :: ins1 x r
def isort (l : List Str) : List Str := l.foldl (fun acc x => ins1 x acc) []
def dedup : List Str → List Str
  | [] => []
  | x :: r => if x ∈ r then dedup r else x :: dedup r
def sortedT : List T → Option T
  | [.lst xs] => if xs.length < 64 then (strsT xs).map fun l => .lst ((isort l).map .str) else none
  | [.dic kvs] => if kvs.length < 64 then (strsT (kvs.map fun p => ofKey p.1)).map fun l => .lst ((isort l).map .str) else none
  | _ => none
/-- sorted(set(xs)) -/
def sortedSetT : List T → Option T
  | [.lst xs] => if xs.length < 64 then (strsT xs).map fun l => .lst ((isort (dedup l)).map .str) else none
  | _ => none
def isTup : List T → Option T
  | [.tup _] => some (.bl true)
  | [.obj _] => none
  | [_] => some (.bl false)
  | _ => none
def isLst : List T → Option T
  | [.lst _] => some (.bl true)
  | [.obj _] => none
  | [_] => some (.bl false)
  | _ => none
def isInt : List T → Option T
  | [.int _] => some (.bl true)
  | [.bl _] => some (.bl true)
  | [.obj _] => none
  | [_] => some (.bl false)
  | _ => none
def isBl : List T → Option T
  | [.bl _] => some (.bl true)
  | [.obj _] => none
  | [_] => some (.bl false)
  | _ => none
def isStr : List T → Option T
  | [.str _] => some (.bl true)
  | [.obj _] => none
  | [_] => some (.bl false)
  | _ => none
/-- xs[lo:] -/
def fromT (lo : Nat) : T → Option T
  | .lst xs => some (.lst (xs.drop lo))
  | _ => none
def revT : T → Option T
  | .lst xs => some (.lst xs.reverse)
  | .tup xs => some (.tup xs.reverse)
  | _ => none

def isNon : T → Bool
  | .non => true
  | _ => false
/-- x is None, x is not None -/
def isNT (x y : T) : Option T := if isNon y then some (.bl (isNon x)) else none
def isNotT (x y : T) : Option T := if isNon y then some (.bl (!isNon x)) else none
/-- xs[lo:hi] -/
def cutT : T → T → T → Option T
  | .lst xs, .int lo, .int hi => if 0 ≤ lo ∧ 0 ≤ hi then some (.lst ((xs.take hi.toNat).drop lo.toNat)) else none
  | _, _, _ => none
def mCut (m lo hi : M T) : M T := fun s => match m s with
  | some (t, s1) => match lo s1 with
    | some (l, s2) => match hi s2 with
      | some (h, s3) => match cutT t l h with
        | some u => some (u, s3)
        | none => none
      | none => none
    | none => none
  | none => none
def absT : List T → Option T
  | [.int i] => some (.int (if i < 0 then -i else i))
  | _ => none
/-- list(range(n)) -/
def lrangeT : List T → Option T
  | [.int n] => if n.natAbs < lim then some (.lst ((List.range n.toNat).map fun (k : Nat) => .int (k : Int))) else none
  | _ => none

/-! ### a name's own list or dict, asked without giving it away -/
def mOwnLen (i : Nat) : M T := fun s => match s.env[i]? with
  | some (some (.lst xs, _)) => some (.int xs.length, s)
  | some (some (.dic xs, _)) => some (.int xs.length, s)
  | _ => none
def dicAt (i : Nat) (s : Sta) : Bool := match s.env[i]? with
  | some (some (.dic _, _)) => true
  | _ => false
def lstAt (i : Nat) (s : Sta) : Bool := match s.env[i]? with
  | some (some (.lst _, _)) => true
  | _ => false
def mOwnItem (i : Nat) (k : M T) : M T := fun s => if dicAt i s then (match k s with
  | some (kt, s1) => match s1.env[i]? with
    | some (some (.dic kvs, _)) => match (keyOf kt).bind (dGet · kvs) with
      | some t => some (t, s1)
      | none => none
    | _ => none
  | none => none) else none
def mOwnGet (i : Nat) (k d : M T) : M T := fun s => if dicAt i s then (match k s with
  | some (kt, s1) => match d s1 with
    | some (dt, s2) => match s2.env[i]? with
      | some (some (.dic kvs, _)) => match keyOf kt with
        | some q => some ((dGet q kvs).getD dt, s2)
        | none => none
      | _ => none
    | none => none
  | none => none) else none
def getT : List T → Option T
  | [.dic kvs, k, d] => (keyOf k).map fun q => (dGet q kvs).getD d
  | _ => none

/-! ### the store's dicts -/
def mObjItem (o k : M T) : M T := fun s => match o s with
  | some (.obj n, s1) => match k s1 with
    | some (kt, s2) => match s2.sto[n]? with
      | some (.dic kvs) => match (keyOf kt).bind (dGet · kvs) with
        | some t => some (t, s2)
        | none => none
      | _ => none
    | none => none
  | _ => none
def mNewObj (ks : List Key) (a : M (List T)) : M T := fun s => match a s with
  | some (ts, s1) => some (.obj s1.sto.length, { s1 with sto := s1.sto ++ [.dic (ks.zip ts)] })
  | none => none

def mObjIx (o k : M T) : M T := fun s => match o s with
  | some (.obj n, s1) => match k s1 with
    | some (.int i, s2) => match s2.sto[n]? with
      | some (.lst xs) => match (ixI xs.length i).bind (xs[·]?) with
        | some t => some (t, s2)
        | none => none
      | _ => none
    | _ => none
  | _ => none
def mObjLen (o : M T) : M T := fun s => match o s with
  | some (.obj n, s1) => match s1.sto[n]? with
    | some (.lst xs) => some (.int xs.length, s1)
    | _ => none
  | _ => none
def mNewLst (a : M (List T)) : M T := fun s => match a s with
  | some (ts, s1) => some (.obj s1.sto.length, { s1 with sto := s1.sto ++ [.lst ts] })
  | none => none

/-! ### statements -/
inductive Flow where
  | next | ret (t : T) | brk | cont
abbrev S := Sta → Option (Flow × Sta)
def sNil : S := fun s => some (.next, s)
def sSeq (a b : S) : S := fun s => match a s with
  | some (.next, s1) => b s1
  | r => r
def sRet (e : M T) : S := fun s => match e s with
  | some (t, s1) => some (.ret t, s1)
  | none => none
def sIf (c : M Bool) (a b : S) : S := fun s => match c s with
  | some (true, s1) => a s1
  | some (false, s1) => b s1
  | none => none
def putSlot (i : Nat) (t : T) (own : Bool) (s : Sta) : Sta := { s with env := s.env.set i (some (t, own)) }
def sSet (i : Nat) (e : M T) : S := fun s => match e s with
  | some (t, s1) => some (.next, putSlot i t false s1)
  | none => none
/-- the name alone has it -/
def sNew (i : Nat) (e : M T) : S := fun s => match e s with
  | some (t, s1) => some (.next, putSlot i t true s1)
  | none => none
def sAppend (i : Nat) (e : M T) : S := fun s => if lstAt i s then (match e s with
  | some (t, s1) => match s1.env[i]? with
    | some (some (.lst xs, true)) => if xs.length < lim then some (.next, putSlot i (.lst (xs ++ [t])) true s1) else none
    | _ => none
  | none => none) else none
def seqOf : T → Option (List T)
  | .lst xs => some xs
  | .tup xs => some xs
  | _ => none
def sExtend (i : Nat) (e : M T) : S := fun s => if lstAt i s then (match e s with
  | some (t, s1) => match seqOf t, s1.env[i]? with
    | some ys, some (some (.lst xs, true)) => if xs.length + ys.length < lim then some (.next, putSlot i (.lst (xs ++ ys)) true s1) else none
    | _, _ => none
  | none => none) else none
/-- x[k] = v, x the name's own dict -/
def sOwnPut (i : Nat) (k v : M T) : S := fun s => match v s with
  | some (t, s1) => if dicAt i s1 then (match k s1 with
    | some (kt, s2) => match s2.env[i]?, keyOf kt with
      | some (some (.dic kvs, true)), some q => if kvs.length < lim then some (.next, putSlot i (.dic (dPut q t kvs)) true s2) else none
      | _, _ => none
    | none => none) else none
  | none => none
/-- x[k] = v, x an object of the store -/
def sObjPut (o k v : M T) : S := fun s => match v s with
  | some (t, s1) => match o s1 with
    | some (.obj n, s2) => match k s2 with
      | some (kt, s3) => match s3.sto[n]?, keyOf kt with
        | some (.dic kvs), some q => if kvs.length < lim then some (.next, { s3 with sto := s3.sto.set n (.dic (dPut q t kvs)) }) else none
        | _, _ => none
      | none => none
    | _ => none
  | none => none
def sBrk : S := fun s => some (.brk, s)
def sCont : S := fun s => some (.cont, s)
def sReverse (i : Nat) : S := fun s => match s.env[i]? with
  | some (some (.lst xs, true)) => some (.next, putSlot i (.lst xs.reverse) true s)
  | _ => none
/-- only where it goes on -/
def sNx (u : S) : S := fun s => match u s with
  | some (.next, s1) => some (.next, s1)
  | _ => none
/-- the name's own thing is given back -/
def sRetOwn (i : Nat) : S := fun s => match s.env[i]? with
  | some (some (t, true)) => some (.ret t, s)
  | _ => none
/-- x[k] = v, x.append(v), x a list of the store -/
def sObjIx (o k v : M T) : S := fun s => match v s with
  | some (t, s1) => match o s1 with
    | some (.obj n, s2) => match k s2 with
      | some (.int i, s3) => match s3.sto[n]? with
        | some (.lst xs) => match ixI xs.length i with
          | some j => some (.next, { s3 with sto := s3.sto.set n (.lst (xs.set j t)) })
          | none => none
        | _ => none
      | _ => none
    | _ => none
  | none => none
def sObjApp (i : Nat) (v : M T) : S := fun s => match s.env[i]? with
  | some (some (.obj n, false)) => match s.sto[n]? with
    | some (.lst _) => match v s with
      | some (t, s1) => match s1.sto[n]? with
        | some (.lst xs) => if xs.length < lim then some (.next, { s1 with sto := s1.sto.set n (.lst (xs ++ [t])) }) else none
        | _ => none
      | none => none
    | _ => none
  | _ => none
abbrev G := T → Sta → Option Sta
def hName (i : Nat) : G := fun t s => some (putSlot i t false s)
def hTup (is : List Nat) : G := fun t s => match t with
  | .tup xs => if xs.length = is.length then some ((is.zip xs).foldl (fun s p => putSlot p.1 p.2 false s) s) else none
  | _ => none
/-- several names at once -/
def sGo (g : G) (m : M T) : S := fun s => match m s with
  | some (t, s1) => match g t s1 with
    | some s2 => some (.next, s2)
    | none => none
  | none => none
def forL (g : G) (b : S) : List T → S
  | [] => fun s => some (.next, s)
  | t :: r => fun s => match g t s with
    | some s1 => match b s1 with
      | some (.next, s2) => forL g b r s2
      | some (.cont, s2) => forL g b r s2
      | some (.brk, s2) => some (.next, s2)
      | some (.ret v, s2) => some (.ret v, s2)
      | none => none
    | none => none
def sFor (g : G) (it : M (List T)) (b : S) : S := fun s => match it s with
  | some (ts, s1) => forL g b ts s1
  | none => none
def rangeT (n : Nat) : List T := (List.range n).map fun (k : Nat) => .int (k : Int)
def iRange (a : M T) : M (List T) := fun s => match a s with
  | some (.int n, s1) => if n.natAbs < lim then some (rangeT n.toNat, s1) else none
  | _ => none
def iSeq (a : M T) : M (List T) := fun s => match a s with
  | some (.lst xs, s1) => if xs.length < lim then some (xs, s1) else none
  | some (.tup xs, s1) => if xs.length < lim then some (xs, s1) else none
  | _ => none
def iKeys (a : M T) : M (List T) := fun s => match a s with
  | some (.dic kvs, s1) => if kvs.length < lim then some (kvs.map fun p => ofKey p.1, s1) else none
  | _ => none

/-! ### names' own things, lent -/
def lend (is : List Nat) (env : List Slot) : List Slot := env.mapIdx fun j x => match x with
  | some (t, f) => if f then (if j ∈ is then some (t, false) else none) else some (t, false)
  | none => none
def mLend (is : List Nat) (m : M Bool) : M Bool := fun s => match s.sto with
  | [] => match m ⟨lend is s.env, []⟩ with
    | some (b, s1) => match s1.sto with
      | [] => some (b, s)
      | _ => none
    | none => none
  | _ => none
/-- x + y, both names' own lists -/
def mOwnCat (i j : Nat) : M T := fun s => match s.env[i]?, s.env[j]? with
  | some (some (.lst xs, _)), some (some (.lst ys, _)) => if xs.length + ys.length < lim then some (.lst (xs ++ ys), s) else none
  | _, _ => none

/-! ### comprehensions: nv names of their own, the places of the names that they read -/
def thaw (s : Slot) : Slot := match s with
  | some (t, _) => some (t, false)
  | none => none
/-- nobody owns anything any more -/
def freezeAll (s : Sta) : Sta := { s with env := s.env.map thaw }
def compL (g : G) (c : M Bool) (e : M T) : List T → Sta → List T → Option (List T × Sta)
  | [], s, acc => some (acc, s)
  | t :: r, s, acc => match g t s with
    | some s1 => match c s1 with
      | some (true, s2) => match e s2 with
        | some (u, s3) => if acc.length < lim then compL g c e r (freezeAll s3) (acc ++ [u]) else none
        | none => none
      | some (false, s2) => compL g c e r (freezeAll s2) acc
      | none => none
    | none => none
def mTrue : M Bool := fun s => some (true, s)
def freezeAt (is : List Nat) (env : List Slot) : List Slot := is.foldl (fun e i => match e[i]? with
  | some (some (t, _)) => e.set i (some (t, false))
  | _ => e) env
def mComp (nv : Nat) (cap : List Nat) (g : G) (it : M (List T)) (c : M Bool) (e : M T) : M T := fun s => match it s with
  | some (ts, s1) =>
    let env := freezeAt cap s1.env
    match compL g c e ts ⟨List.replicate nv none ++ cap.map (fun i => (env[i]?).getD none), s1.sto⟩ [] with
    | some (us, s2) => some (.lst us, ⟨env, s2.sto⟩)
    | none => none
  | none => none

/-! ### defs -/
def runFn (n : Nat) (b : S) : Fn := fun ts sto => match b ⟨ts.map (fun t => some (t, false)) ++ List.replicate (n - ts.length) none, sto⟩ with
  | some (.ret t, s) => some (t, s.sto)
  | some (.next, s) => some (.non, s.sto)
  | _ => none

/-! ### what is known where something comes out -/
section
variable {s s' : Sta} {t v : T} {a b : M T}
theorem mOp_inv {f : T → T → Option T} (h : mOp f a b s = some (v, s')) : ∃ t s1 u, a s = some (t, s1) ∧ b s1 = some (u, s') ∧ f t u = some v := by
  unfold mOp at h
  cases ha : a s with
  | none => rw [ha] at h; cases h
  | some p =>
    obtain ⟨t, s1⟩ := p; rw [ha] at h; dsimp only at h
    cases hb : b s1 with
    | none => rw [hb] at h; cases h -- here
    | some p =>
      obtain ⟨u, s2⟩ := p; rw [hb] at h; dsimp only at h
      cases hf : f t u with
      | none => rw [hf] at h; cases h
      | some w => rw [hf] at h; cases h; exact ⟨t, s1, u, rfl, hb, hf⟩
theorem mUn_inv {f : T → Option T} (h : mUn f a s = some (v, s')) : ∃ t, a s = some (t, s') ∧ f t = some v := by
  unfold mUn at h
  cases ha : a s with
  | none => rw [ha] at h; cases h
  | some p =>
    obtain ⟨t, s1⟩ := p; rw [ha] at h; dsimp only at h
    cases hf : f t with
    | none => rw [hf] at h; cases h
    | some w => rw [hf] at h; cases h; exact ⟨t, rfl, hf⟩
theorem mMap_inv {f : List T → Option T} {a : M (List T)} (h : mMap f a s = some (v, s')) : ∃ ts, a s = some (ts, s') ∧ f ts = some v := by
  unfold mMap at h
  cases ha : a s with
  | none => rw [ha] at h; cases h
  | some p =>
    obtain ⟨t, s1⟩ := p; rw [ha] at h; dsimp only at h
    cases hf : f t with
    | none => rw [hf] at h; cases h
    | some w => rw [hf] at h; cases h; exact ⟨t, rfl, hf⟩
theorem mCons_inv {r : M (List T)} {ts : List T} (h : mCons a r s = some (ts, s')) : ∃ t s1 us, a s = some (t, s1) ∧ r s1 = some (us, s') ∧ ts = t :: us := by
  unfold mCons at h
  cases ha : a s with
  | none => rw [ha] at h; cases h
  | some p =>
    obtain ⟨t, s1⟩ := p; rw [ha] at h; dsimp only at h
    cases hb : r s1 with
    | none => rw [hb] at h; cases h -- here
    | some p => obtain ⟨u, s2⟩ := p; rw [hb] at h; cases h; exact ⟨t, s1, u, rfl, hb, rfl⟩
theorem mCall_inv {F : Fn} {a : M (List T)} (h : mCall F a s = some (v, s')) : ∃ ts s1 sto, a s = some (ts, s1) ∧ F ts s1.sto = some (v, sto) ∧ s' = { s1 with sto := sto } := by
  unfold mCall at h
  cases ha : a s with
  | none => rw [ha] at h; cases h
  | some p =>
    obtain ⟨t, s1⟩ := p; rw [ha] at h; dsimp only at h
    cases hf : F t s1.sto with
    | none => rw [hf] at h; cases h
    | some w => obtain ⟨w, sto⟩ := w; rw [hf] at h; cases h; exact ⟨t, s1, sto, rfl, hf, rfl⟩
theorem mTest_inv {b : Bool} (h : mTest a s = some (b, s')) : a s = some (.bl b, s') := by
  unfold mTest at h
  cases ha : a s with
  | none => rw [ha] at h; cases h
  | some p =>
    obtain ⟨t, s1⟩ := p; rw [ha] at h
    cases t <;> first | (cases h; rfl) | (cases h)
theorem mBool_inv {c : M Bool} (h : mBool c s = some (v, s')) : ∃ b, c s = some (b, s') ∧ v = .bl b := by
  unfold mBool at h
  cases ha : c s with
  | none => rw [ha] at h; cases h
  | some p => obtain ⟨t, s1⟩ := p; rw [ha] at h; cases h; exact ⟨t, rfl, rfl⟩
theorem mNot_inv {c : M Bool} {b : Bool} (h : mNot c s = some (b, s')) : ∃ k, c s = some (k, s') ∧ b = !k := by
  unfold mNot at h
  cases ha : c s with
  | none => rw [ha] at h; cases h
  | some p => obtain ⟨t, s1⟩ := p; rw [ha] at h; cases h; exact ⟨t, rfl, rfl⟩
theorem mAnd_inv {c d : M Bool} {b : Bool} (h : mAnd c d s = some (b, s')) : (∃ s1, c s = some (true, s1) ∧ d s1 = some (b, s')) ∨ (c s = some (false, s') ∧ b = false) := by
  unfold mAnd at h
  cases ha : c s with
  | none => rw [ha] at h; cases h
  | some p =>
    obtain ⟨k, s1⟩ := p; rw [ha] at h
    cases k with
    | true => exact .inl ⟨s1, rfl, h⟩
    | false => cases h; exact .inr ⟨rfl, rfl⟩
theorem mOr_inv {c d : M Bool} {b : Bool} (h : mOr c d s = some (b, s')) : (∃ s1, c s = some (false, s1) ∧ d s1 = some (b, s')) ∨ (c s = some (true, s') ∧ b = true) := by
  unfold mOr at h
  cases ha : c s with
  | none => rw [ha] at h; cases h
  | some p =>
    obtain ⟨k, s1⟩ := p; rw [ha] at h
    cases k with
    | false => exact .inl ⟨s1, rfl, h⟩
    | true => cases h; exact .inr ⟨rfl, rfl⟩
theorem mIf_inv {c : M Bool} (h : mIf c a b s = some (v, s')) : (∃ s1, c s = some (true, s1) ∧ a s1 = some (v, s')) ∨ (∃ s1, c s = some (false, s1) ∧ b s1 = some (v, s')) := by
  unfold mIf at h
  cases ha : c s with
  | none => rw [ha] at h; cases h
  | some p =>
    obtain ⟨k, s1⟩ := p; rw [ha] at h
    cases k with
    | true => exact .inl ⟨s1, rfl, h⟩
    | false => exact .inr ⟨s1, rfl, h⟩
theorem mVar_inv {i : Nat} (h : mVar i s = some (v, s')) : (s.env[i]? = some (some (v, false)) ∧ s' = s) ∨ (s.env[i]? = some (some (v, true)) ∧ s' = { s with env := s.env.set i (some (v, false)) }) := by
  unfold mVar at h
  split at h
  · rename_i t e; cases h; exact .inl ⟨e, rfl⟩
  · rename_i t e; cases h; exact .inr ⟨e, rfl⟩
  · cases h
end
end C

end

section
set_option Elab.async false
set_option linter.all false
set_option maxRecDepth 100000
set_option maxHeartbeats 4000002
namespace L2
open PySem PySem.Spec PyProof.Rows

/-! ### a comprehension's block, as a context of its own -/
section
variable {pr : Program} {wd : World} {Ar : Around} {Rs : Result → Shared → Prop} {s : Shared}
/-- a block's loop: nothing that runs in it raises -/
theorem compLoop_gen {el tgt itr : Expr} {cs : List Expr} {scp : Scope} {ps : Pos} {itv accv : Value} {en : Env} (J : Nat → Shared → Prop)
    (turn : ∀ n z, J n z → wpAny (model pr wd) Ar (pyNext itv) (fun nx z1 => match nx with
      | none => Rs (.ok .next) z1
      | some v => wpAny (model pr wd) Ar (letOwnedTupleGo tgt itv v) (fun _ z2 => wpAny (model pr wd) Ar (assign tgt en v) (fun _ z3 =>
          wpAny (model pr wd) Ar (forIn cs true fun c go => if go = true then do let ok ← isTrue c en (eval c en); pure (ForInStep.yield ok) else pure (ForInStep.yield go)) (fun ok z4 =>
            if ok = true then wpAny (model pr wd) Ar (eval el en) (fun x z5 =>
              wpAny (model pr wd) Ar (call (.builtin "list.append") [accv, x]) (fun _ z6 => ∃ m, m < n ∧ J m z6) (fun _ _ => False) z5) (fun _ _ => False) z4
            else ∃ m, m < n ∧ J m z4) (fun _ _ => False) z3) (fun _ _ => False) z2) (fun _ _ => False) z1) (fun _ _ => False) z)
    (n : Nat) (h : J n s) :
    codeAny (model pr wd) Ar (.compLoop (.ListComp el [⟨tgt, itr, cs, 0⟩] scp ps) 0 itv accv en) Rs s := by
  refine codeAny_loop rfl J (fun k z hz => ?_) n h
  show wpAny _ Ar ((compTurn (.ListComp el [⟨tgt, itr, cs, 0⟩] scp ps) 0 itv accv en).onRaise (fun ex => do noteFrame ex en; theTreesLotGoes ex)) _ _ z
  refine wpAny_noted ?_
  rw [compTurn_list]
  refine wpAny_bind (wpAny_standAt (wpAny_bind (wpAny_mono (turn k z hz) (fun nx z1 g1 => ?_) fun _ _ no => no.elim)))
  cases nx with
  | none => exact wpAny_pure g1
  | some v =>
    refine wpAny_bind (wpAny_mono g1 (fun _ z2 g2 => ?_) fun _ _ no => no.elim)
    refine wpAny_bind (wpAny_mono g2 (fun _ z3 g3 => wpAny_bind (wpAny_mono g3 (fun ok z4 g4 => ?_) fun _ _ no => no.elim)) fun _ _ no => no.elim)
    cases ok with
    | false => exact wpAny_pure (And.intro rfl g4)
    | true =>
      exact wpAny_bind (wpAny_bind (wpAny_mono g4 (fun x z5 g5 => wpAny_bind (wpAny_mono g5 (fun _ z6 g6 => wpAny_pure (wpAny_pure (And.intro rfl g6))) fun _ _ no => no.elim)) fun _ _ no => no.elim))
end

/-- the cells of the names that a block takes from around it -/
def clOf (env : Env) : List (Str × NameKind) → List (Str × Addr) → List (Str × Addr)
  | [], cs => cs
  | (n, k) :: r, cs => clOf env r (if (k == NameKind.free) = true then (match env.cells.lookup n with | some c => (n, c) :: cs | none => cs) else cs)
def hasCells (env : Env) (names : List (Str × NameKind)) : Bool := names.all fun y => !(y.2 == NameKind.free) || (env.cells.lookup y.1).isSome
theorem closureFor_cl {scope : Scope} {env : Env} (h : hasCells env scope.names = true) : closureFor scope env = pure (clOf env scope.names []) := by
  have key : ∀ (l : List (Str × NameKind)) (cs : List (Str × Addr)), hasCells env l = true →
      (forIn (m := Sem) l cs fun x r => (do
        if (x.2 == NameKind.free) = true then
          let c ← cellOf env x.1
          pure (ForInStep.yield ((x.1, c) :: r))
        else pure (ForInStep.yield r))) = pure (clOf env l cs) := by
    intro l
    induction l with
    | nil => intro cs _; rfl
    | cons x r ih =>
      intro cs h
      obtain ⟨n, k⟩ := x
      unfold hasCells at h
      rw [List.all_cons, Bool.and_eq_true] at h -- here
      obtain ⟨h1, h2⟩ := h
      rw [List.forIn_cons]
      by_cases hk : (k == NameKind.free) = true
      · have h1' : (env.cells.lookup n).isSome = true := by simpa [hk] using h1
        obtain ⟨c, hc⟩ := Option.isSome_iff_exists.mp h1'
        have e : cellOf env n = pure c := by unfold cellOf; rw [hc]
        simp only [hk, if_true, e, pure_bind]
        rw [ih _ h2]
        simp only [clOf, hk, if_true, hc]
      · simp only [hk, if_false, pure_bind, Bool.false_eq_true]
        rw [ih _ h2]
        simp only [clOf, hk, if_false, Bool.false_eq_true]
  have := key scope.names [] h
  unfold closureFor
  simpa using this

def compCx (X : Cx) (scope : Scope) (N : List Str) (C : Addr) (s₀ : Shared) (H₀ : Hp) (ex : List Addr) (pn : List (Addr × Obj)) : Cx :=
  { X with N := N, s₀ := s₀, H₀ := H₀, env := compEnvC scope (clOf X.env scope.names []) C X.env, outer := X.stack, ex := ex, fn := fun _ => false, pn := pn, xe := fun _ _ => False }

/-- what a block's names are: its own are local, those from around it stand in cells -/
structure CompSc (X : Cx) (scope : Scope) (N : List Str) : Prop where
  has : hasCells X.env scope.names = true
  kind : scope.kind = .function
  nocell : ∀ y ∈ scope.names, y.2 ≠ .cell
  names : ∀ y ∈ scope.names, y.2 = .local → scope.names.lookup y.1 = some .local
def CapK (X : Cx) (scope : Scope) (x : Str) : Prop :=
  (X.env.kindOf x = some .cell ∨ X.env.kindOf x = some .free) ∧ Vis X.env.scope x ∧ ((relabel scope X.env).names.lookup x = some .cell ∨ (relabel scope X.env).names.lookup x = some .free)
theorem cl_sub {env : Env} : ∀ (l : List (Str × NameKind)) (cs : List (Str × Addr)), (∀ x c, cs.lookup x = some c → env.cells.lookup x = some c) →
    ∀ x c, (clOf env l cs).lookup x = some c → env.cells.lookup x = some c
  | [], cs, h, x, c, e => h x c e
  | (n, k) :: r, cs, h, x, c, e => by
    rw [clOf] at e
    refine cl_sub r _ (fun y d q => ?_) x c e
    split at q
    · split at q
      · rename_i c' hc'
        rw [List.lookup_cons] at q
        split at q
        · rename_i hb
          cases q
          have hyn := eq_of_beq hb
          rw [hyn]; exact hc'
        · exact h y d q
      · exact h y d q
    · exact h y d q
theorem cl_keep {env : Env} : ∀ (l : List (Str × NameKind)) (cs : List (Str × Addr)) (x : Str), (∃ c, cs.lookup x = some c) → ∃ c, (clOf env l cs).lookup x = some c
  | [], cs, x, h => h
  | (n, k) :: r, cs, x, h => by
    rw [clOf]
    refine cl_keep r _ x ?_
    split
    · split
      · rename_i c' hc'
        rw [List.lookup_cons]
        split
        · exact ⟨_, rfl⟩
        · exact h
      · exact h
    · exact h
theorem cl_has {env : Env} : ∀ (l : List (Str × NameKind)) (cs : List (Str × Addr)) (x : Str), hasCells env l = true → (x, NameKind.free) ∈ l → ∃ c, (clOf env l cs).lookup x = some c
  | [], cs, x, _, h => by simp at h
  | (n, k) :: r, cs, x, hh, h => by
    unfold hasCells at hh
    rw [List.all_cons, Bool.and_eq_true] at hh
    rw [clOf]
    rcases List.mem_cons.mp h with e | h'
    · injection e with e1 e2
      subst e1; subst e2
      have h1 : (env.cells.lookup x).isSome = true := by simpa using hh.1
      obtain ⟨c, hc⟩ := Option.isSome_iff_exists.mp h1
      refine cl_keep r _ x ?_
      simp [hc]
    · exact cl_has r _ x hh.2 h'
theorem mem_of_lookup {α : Type} : ∀ {l : List (Str × α)} {x : Str} {k : α}, l.lookup x = some k → (x, k) ∈ l
  | [], _, _, h => by simp at h
  | (n, k') :: r, x, k, h => by
    rw [List.lookup_cons] at h
    split at h
    · rename_i hb
      cases h
      have hyn := eq_of_beq hb
      rw [hyn]; exact List.mem_cons_self
    · exact List.mem_cons_of_mem _ (mem_of_lookup h)
/-- a name that is in a cell for the block was taken from around it -/
theorem rel_free {scope : Scope} {env : Env} (nc : ∀ y ∈ scope.names, y.2 ≠ .cell) {x : Str} (h : (relabel scope env).names.lookup x = some .cell ∨ (relabel scope env).names.lookup x = some .free) : (x, NameKind.free) ∈ scope.names := by
  have : ∃ k, (x, k) ∈ (relabel scope env).names ∧ (k = .cell ∨ k = .free) := by
    rcases h with h | h
    · exact ⟨_, mem_of_lookup h, .inl rfl⟩
    · exact ⟨_, mem_of_lookup h, .inr rfl⟩
  obtain ⟨k, hm, hk⟩ := this
  obtain ⟨⟨n, k'⟩, hm', e⟩ := List.mem_map.mp hm
  dsimp only at e
  split at e
  · rename_i hc
    cases e
    simp only [Bool.and_eq_true, beq_iff_eq] at hc
    obtain ⟨⟨h1, _⟩, _⟩ := hc
    subst h1; exact hm'
  · cases e
    rcases hk with rfl | rfl
    · exact absurd rfl (nc _ hm')
    · exact hm'

def PTs (X : Cx) (ifs : List Expr) (t : TT) : Prop := ∀ (pins : List (Addr × Obj)) (s : Shared) (σ : St) (H : Hp) (Q : Bool → Hp → Prop), Inv X pins σ H s → t σ H Q →
  wpAny (model X.prog X.w) X.A (forIn ifs true fun c r => if r = true then do let ok ← isTrue c X.env (eval c X.env); pure (ForInStep.yield ok) else pure (ForInStep.yield r)) (TP X pins σ Q) X.xe s
theorem pts_nil {X : Cx} : PTs X [] (fun _ H Q => Q true H) := fun pins s σ H Q I h => wpAny_tests_nil ⟨H, I, h⟩
theorem pts_one {X : Cx} {c : Expr} {t : TT} (h : PT X c t) : PTs X [c] t := fun pins s σ H Q I q => wpAny_tests_one (h pins s σ H Q I q)

/-- σ0: the block's names at its start -/
def tCompIn (X : Cx) (scope : Scope) (N : List Str) (g : TG) (tc : TT) (te : TE) (σ : St) (J : It) (H1 : Hp) (Q : VK) : Prop := ∀ D, H1 D = none → ∃ σ0 : St, σ0.length = N.length ∧
  (∀ (i : Nat) (v : V) (x : Str), σ0[i]? = some (some v) → N[i]? = some x → Vis (relabel scope X.env) x → ∃ k : Nat, X.N[k]? = some x ∧ σ[k]? = some (some v) ∧ CapK X scope x) ∧
  ∃ W : Nat → Nat → St → Hp → Prop, (∃ m, W 0 m σ0 (upd H1 D (.lst []))) ∧ ∀ i m σ' H', W i m σ' H' →
    (J.stop i H' ∧ Q (.ref D) H') ∨ (J.go i H' ∧ ∀ x H2, J.yld i H' x H2 → g x σ' H2 fun σ2 H3 => tc σ2 H3 fun b H4 => if b = true then te σ2 H4 fun y H5 => ∃ l, H5 D = some (.lst l) ∧ l.length < sizeLine ∧ ∃ m', m' < m ∧ W (i + 1) m' σ2 (upd H5 D (.lst (l ++ [y]))) else ∃ m', m' < m ∧ W (i + 1) m' σ2 H4)
def tComp (X : Cx) (scope : Scope) (N : List Str) (wi : TI) (g : TG) (tc : TT) (te : TE) : TE := fun σ H Q => wi σ H fun J H1 => tCompIn X scope N g tc te σ J H1 Q

section
variable {X : Cx} {scope : Scope} {N : List Str}
theorem comp_ok (sc : CompSc X scope N) {pins : List (Addr × Obj)} {σ : St} {H : Hp} {s : Shared} {fp : List Addr} (I : Inv X pins σ H s) (hf : ∀ b ∈ fp, FpOk X pins H b) (hfl : ∀ b ∈ fp, b < s.heap.objs.size) :
    (compCx X scope N s.heap.objs.size s H fp (X.pn ++ pins)).Ok where
  mod := I.ok.mod
  kind := sc.kind
  glob := I.ok.glob
  blt := I.ok.blt
  above := Nat.le_refl _
  inj := fun x y c h1 h2 => I.ok.inj x y c (cl_sub _ [] (fun _ _ z => by simp at z) x c h1) (cl_sub _ [] (fun _ _ z => by simp at z) y c h2)
  has := fun x h => cl_has _ [] x sc.has (rel_free sc.nocell h)
  cab := fun x c h => by cases h
  hd := I.ok.hd
  frames := I.ok.frames
  stk := .inl rfl
  exf := fun b hb => ⟨Nat.ne_of_lt (hfl b hb), fun x c h => (hf b hb).2.2.2.2.1 x c (cl_sub _ [] (fun _ _ z => by simp at z) x c h)⟩
  bs := I.bs
  bsz := Nat.le_trans I.ok.bsz I.sz
  noex := fun b o e hb => by
    rcases (hf b hb).2.2.2.1 with z | z
    · exact I.ok.noex b o e z
    · exact absurd (Nat.lt_of_lt_of_le (Heap.lt_size e) (Nat.le_trans I.ok.bsz z)) (Nat.lt_irrefl _)
  exfs := fun b hb z => by
    rcases List.mem_cons.mp (I.stkSub b z) with e | e
    · exact (hf b hb).2.1 e
    · exact (hf b hb).2.2.1 e
  funs := I.stack
  frf := I.stkFree

/-- the block's start -/
theorem comp_start (sc : CompSc X scope N) {pins : List (Addr × Obj)} {σ σ0 : St} {H : Hp} {s : Shared} {fp : List Addr} {h' : Heap} {m : Str → Option Value} {tk : Nat} (I : Inv X pins σ H s) (hf : ∀ b ∈ fp, FpOk X pins H b) (hfl : ∀ b ∈ fp, b < s.heap.objs.size)
    (hl : σ0.length = N.length) (h0 : ∀ (i : Nat) (v : V) (x : Str), σ0[i]? = some (some v) → N[i]? = some x → Vis (relabel scope X.env) x → ∃ k : Nat, X.N[k]? = some x ∧ σ[k]? = some (some v) ∧ CapK X scope x)
    (hn : h'.Ns s.heap.objs.size m) (hk : ∀ b o, s.heap.get? b = some o → h'.get? b = some o) :
    Inv (compCx X scope N s.heap.objs.size s H fp (X.pn ++ pins)) [] σ0 H { s with heap := h', toks := tk } where
  ok := comp_ok sc I hf hfl
  os := rfl
  bare := I.bare
  base := Un.kept hk
  loc := ⟨m, hn, fun i x v e1 e2 e3 => by
    obtain ⟨k, n2, n3, ck, cv, cr⟩ := h0 i v x e2 e1 e3
    obtain ⟨m0, _, hl0⟩ := I.loc
    obtain ⟨u, r, l⟩ := hl0 k x v n2 n3 cv
    refine ⟨u, r, .inr ⟨cr, ?_⟩⟩
    rcases l with ⟨l1, _⟩ | ⟨_, c, hc, z⟩
    · rcases ck with q | q <;> (rw [l1] at q; cases q)
    · obtain ⟨c', hc'⟩ := cl_has (env := X.env) scope.names [] x sc.has (rel_free sc.nocell cr)
      have q := cl_sub scope.names [] (fun _ _ z => by simp at z) x c' hc'
      rw [hc] at q; cases q
      obtain ⟨o, ho, hd⟩ := z
      exact ⟨c, hc', o, hk _ _ ho, hd⟩⟩
  cell := fun x c e => by
    obtain ⟨v, o, ho, hd⟩ := I.cell x c (cl_sub scope.names [] (fun _ _ z => by simp at z) x c e)
    exact ⟨v, o, hk _ _ ho, hd⟩
  free := I.hok.fresh (Nat.le_refl _)
  freeC := fun x c e => I.freeC x c (cl_sub scope.names [] (fun _ _ z => by simp at z) x c e)
  pin := fun p hp => by
    have hp' : p ∈ X.pn ++ pins := by simpa [compCx] using hp
    obtain ⟨a, b, c, d, e⟩ := I.pin p hp'
    refine ⟨hk _ _ a, b, Nat.ne_of_lt (Heap.lt_size a), fun z => ?_, e⟩
    rcases List.mem_cons.mp (I.stkSub p.1 z) with q | q
    · exact c q
    · exact d q
  hok := I.hok.kept hk
  len := hl
/-- behind the block -/
theorem comp_end {pins : List (Addr × Obj)} {σ σ' : St} {H H' : Hp} {s s' : Shared} {fp : List Addr} {h' : Heap} (I : Inv X pins σ H s) (hf : ∀ b ∈ fp, FpOk X pins H b)
    (J : Inv (compCx X scope N s.heap.objs.size s H fp (X.pn ++ pins)) [] σ' H' s') (hs : Heap.SameBut s.heap.objs.size s'.heap h') : Inv X pins σ H' { s' with heap := h' } := by
  have kb : ∀ b o, b ≠ s.heap.objs.size → s'.heap.get? b = some o → h'.get? b = some o := fun b o n e => hs.extBut b o n e
  have ne : ∀ b o, s.heap.get? b = some o → b ≠ s.heap.objs.size := fun b o e => Nat.ne_of_lt (Heap.lt_size e)
  have fr : H' s.heap.objs.size = none := J.free
  have u0 : Un (frs X.stack) fp H H' s.heap s'.heap := J.base
  have u : Un (frs X.stack) fp H H' s.heap h' := ⟨fun b o e n h1 h2 => kb b o (ne b o e) (u0.keep b o e n h1 h2), fun b o e n h1 h2 => by
      obtain ⟨sl, q⟩ := u0.slot b o e n h1 h2
      exact ⟨sl, kb b _ (ne b o e) q⟩, u0.free, fun b o e h => by
      obtain ⟨o', q⟩ := u0.there b o e h
      exact ⟨o', kb b _ (ne b o e) q⟩, u0.tups, u0.frzs, u0.tbls⟩
  have hok : HOk X.prog X.w H' h' := fun b o e => by
    refine (J.hok b o e).stay (fun c v hc q => kb c v ?_ q) (fun _ q => q) fun _ _ q => q
    rcases hc with z | z
    · rw [z]; intro y; rw [y] at e; rw [fr] at e; cases e
    · intro y; rw [y] at z; rw [fr] at z; cases z
  have hos : s'.os = s.os := J.os
  obtain ⟨hh, g, d, t, os'⟩ := s'
  obtain rfl : os' = s.os := hos
  exact Inv.call (X := X) (s := s) (H := H) (h' := h') (g' := g) (d' := d) (t' := t) (ch := fp) I u hok J.bare fun b hb => ⟨(hf b hb).2.2.2.1, (hf b hb).2.1, (hf b hb).2.2.2.2.1, (hf b hb).2.2.2.2.2⟩

variable {tg iter elt : Expr} {ifs : List Expr} {pos : Pos} {g : TG} {tc : TT} {te : TE}
theorem comp_block (sc : CompSc X scope N) (calm : X.calm = true)
    (hg : ∀ C s₀ H₀ ex pn, PG (compCx X scope N C s₀ H₀ ex pn) tg g) (hc : ∀ C s₀ H₀ ex pn, PTs (compCx X scope N C s₀ H₀ ex pn) ifs tc) (he : ∀ C s₀ H₀ ex pn, PE (compCx X scope N C s₀ H₀ ex pn) elt te)
    {pins : List (Addr × Obj)} {σ : St} {H1 : Hp} {s₂ : Shared} {it : Addr} {fp : List Addr} {tn : Nat → Heap → Prop} {J : It} {Q : VK} {E : Value → Shared → Prop} {RR : Value → Addr → Result → Shared → Prop}
    (I : Inv X pins σ H1 s₂) (T : Turn X.prog X.w X.K tg J fp it tn) (st2 : tn 0 s₂.heap) (f2 : ∀ b ∈ fp, FpOk X pins H1 b) (q : tCompIn X scope N g tc te σ J H1 Q)
    (hRR : ∀ D s₃ H3 σ' H' s', Inv X pins σ H3 s₃ → (∀ b ∈ fp, FpOk X pins H3 b) → Inv (compCx X scope N s₃.heap.objs.size s₃ H3 fp (X.pn ++ pins)) [] σ' H' s' → Q (.ref D) H' → RR (.ref D) s₃.heap.objs.size (.ok .next) s') :
    wpAny (model X.prog X.w) X.A (newList []) (fun acc s₃ => wpAny (model X.prog X.w) X.A (newFunctionEnv scope X.env.globals (clOf X.env scope.names []) [] X.env.qual none .none (some X.env)) (fun cenv s₄ =>
      codeAny (model X.prog X.w) X.A (.compStart (.ListComp elt [⟨tg, iter, ifs, 0⟩] scope pos) 0 (.ref it) acc { cenv with scope := relabel scope X.env }) (RR acc cenv.locals) s₄) E s₃) E s₂ := by
  refine wpAny_newObj_type (wpAny_newFunctionEnv sc.nocell (by intro y hy; simp at hy) (fun h₁ hns₁ hsb₁ => ?_) sc.kind)
  dsimp only at hns₁ hsb₁ ⊢
  have I3 : Inv X pins σ (upd H1 s₂.heap.objs.size (.lst [])) { s₂ with heap := s₂.heap.push { cls := .type "list", dict := none, data := .seq ([] : List Value).toArray } } :=
    I.laid (t' := s₂.toks) (fun b ob q => Heap.get?_push_of_some _ q) (Nat.le_refl _) ⟨Nat.zero_le _, [], _, .nil, Heap.get?_push_size _ rfl⟩
  generalize hs3 : ({ s₂ with heap := s₂.heap.push { cls := .type "list", dict := none, data := .seq ([] : List Value).toArray } } : Shared) = s₃ at I3
  have hheap : s₂.heap.push { cls := .type "list", dict := none, data := .seq ([] : List Value).toArray } = s₃.heap := by rw [← hs3]
  have hstate : ∀ (h : Heap) (t : Nat), ({ s₂ with heap := h, toks := t } : Shared) = { s₃ with heap := h, toks := t } := fun h t => by rw [← hs3]
  rw [hheap] at hns₁ hsb₁ ⊢
  have lt2 : ∀ b ∈ fp, b < s₂.heap.objs.size := fun b hb => by
    obtain ⟨o, ho, _⟩ := T.obj _ _ st2 b hb
    exact Heap.lt_size ho
  have sz3 : s₃.heap.objs.size = s₂.heap.objs.size + 1 := by rw [← hheap, Heap.size_push]
  have k23 : ∀ b o, s₂.heap.get? b = some o → s₃.heap.get? b = some o := fun b o e => by rw [← hheap]; exact Heap.get?_push_of_some _ e
  have f3 : ∀ b ∈ fp, FpOk X pins (upd H1 s₂.heap.objs.size (.lst [])) b := fun b hb => ⟨by rw [upd_ne (Nat.ne_of_lt (lt2 b hb))]; exact (f2 b hb).1, (f2 b hb).2⟩
  have lt3 : ∀ b ∈ fp, b < s₃.heap.objs.size := fun b hb => by rw [sz3]; exact Nat.lt_succ_of_lt (lt2 b hb)
  obtain ⟨σ0, hl, h0, W, ⟨m0, w0⟩, turn⟩ := q s₂.heap.objs.size (I.hok.fresh (Nat.le_refl _))
  have k34 : ∀ b o, s₃.heap.get? b = some o → h₁.get? b = some o := fun b o e => hsb₁.extBut b o (Nat.ne_of_lt (Heap.lt_size e)) (Heap.get?_push_of_some _ e)
  rw [hstate]
  have J0 := comp_start (tk := s₂.toks + ([] : List (Str × Value)).length) sc I3 f3 lt3 hl h0 hns₁ k34
  have st4 : tn 0 h₁ := T.keep _ _ _ st2 fun b _ o e => k34 b o (k23 b o e)
  have key : ∀ s₄ : Shared, s₄ = { s₃ with heap := h₁, toks := s₂.toks + ([] : List (Str × Value)).length } → codeAny (model X.prog X.w) X.A (.compLoop (.ListComp elt [⟨tg, iter, ifs, 0⟩] scope pos) 0 (.ref it) (.ref s₂.heap.objs.size)
      (compCx X scope N s₃.heap.objs.size s₃ (upd H1 s₂.heap.objs.size (.lst [])) fp (X.pn ++ pins)).env) (RR (.ref s₂.heap.objs.size) s₃.heap.objs.size) s₄ := by
    rintro s₄ rfl
    generalize hX : compCx X scope N s₃.heap.objs.size s₃ (upd H1 s₂.heap.objs.size (.lst [])) fp (X.pn ++ pins) = X' at J0
    have hP : X'.prog = X.prog := by rw [← hX]; rfl
    have hW : X'.w = X.w := by rw [← hX]; rfl
    have hA : X'.A = X.A := by rw [← hX]; rfl
    have hxe : X'.xe = fun _ _ => False := by rw [← hX]; rfl
    have hK : X'.K = X.K := by rw [← hX]; rfl
    have hcal : X'.calm = true := by rw [← hX]; exact calm
    have stat : ∀ {H' : Hp}, (∀ b ∈ fp, H' b = none) → ∀ b ∈ fp, FpOk X' [] H' b := fun hn b hb => by
      have z := comp_ok sc I3 f3 lt3
      rw [hX] at z
      refine ⟨hn b hb, (z.exf b (by rw [← hX]; exact hb)).1, z.exfs b (by rw [← hX]; exact hb), .inl (by rw [← hX]; exact hb), (z.exf b (by rw [← hX]; exact hb)).2, fun p hp => ?_⟩
      have hp' : p ∈ X.pn ++ pins := by rw [← hX] at hp; simpa [compCx] using hp
      exact (f3 b hb).2.2.2.2.2 p hp'
    have hg' : PG X' tg g := by rw [← hX]; exact hg _ _ _ _ _
    have hc' : PTs X' ifs tc := by rw [← hX]; exact hc _ _ _ _ _
    have he' : PE X' elt te := by rw [← hX]; exact he _ _ _ _ _
    have fin : ∀ σ' H' s', Inv X' [] σ' H' s' → Q (.ref s₂.heap.objs.size) H' → RR (.ref s₂.heap.objs.size) s₃.heap.objs.size (.ok .next) s' := fun σ' H' s' I' q' => hRR _ s₃ _ σ' H' s' I3 f3 (by rw [hX]; exact I') q'
    have T' : Turn X'.prog X'.w X'.K tg J fp it tn := by rw [hP, hW, hK]; exact T
    rw [← hP, ← hW, ← hA]
    refine compLoop_gen (J := fun n s' => ∃ i σ' H', Inv X' [] σ' H' s' ∧ tn i s'.heap ∧ (∀ b ∈ fp, H' b = none) ∧ W i n σ' H') ?_ m0 ⟨0, σ0, _, J0, st4, fun b hb => (f3 b hb).1, w0⟩
    rintro n s5 ⟨i, σ5, H5, I5, st5, fr5, w5⟩
    rcases turn i n σ5 H5 w5 with ⟨stop, qn⟩ | ⟨go, step⟩
    · refine thn (T'.done X' rfl rfl rfl hcal i [] s5 σ5 H5 _ I5 (stat fr5) st5 stop) fun r s6 ⟨hr, I6⟩ => ?_
      subst hr
      exact fin _ _ _ I6 qn
    · refine thn (T'.item X' rfl rfl rfl hcal i [] s5 σ5 H5 _ I5 (stat fr5) st5 go) fun r s6 ⟨u, hr, h6⟩ => ?_
      subst hr
      refine thn h6 fun _ s7 ⟨x, H7, I7, r7, y7, st7, fr7⟩ => ?_
      have I7' := I7.pinned (stat fr7) (T'.obj _ _ st7)
      have a1 := hg' _ s7 σ5 H7 x u _ I7' r7 (step x H7 y7)
      rw [hxe] at a1
      refine thn a1 fun _ s8 ⟨σ8, H8, I8, q8⟩ => ?_
      have a2 := hc' _ s8 σ8 H8 _ I8 q8
      rw [hxe] at a2
      refine thn a2 fun ok s9 ⟨H9, I9, q9⟩ => ?_
      have again : ∀ {σ7 : St} {H7 : Hp} {s' : Shared} {m' : Nat}, Inv X' ([] ++ pinsAt fp s7.heap) σ7 H7 s' → m' < n → W (i + 1) m' σ7 H7 → ∃ m, m < n ∧ ∃ i σ' H', Inv X' [] σ' H' s' ∧ tn i s'.heap ∧ (∀ b ∈ fp, H' b = none) ∧ W i m σ' H' := fun {σ7 H7 s' m'} I7 hm w7 => by
        refine ⟨m', hm, i + 1, σ7, H7, I7.unpinned, T'.keep _ _ _ st7 fun b hb o e => (I7.pin (b, o) (List.mem_append_right _ (List.mem_append_right _ (mem_pinsAt hb e)))).1, fun b hb => ?_, w7⟩
        obtain ⟨o, e, d⟩ := T'.obj _ _ st7 b hb
        exact (I7.pin (b, o) (List.mem_append_right _ (List.mem_append_right _ (mem_pinsAt hb e)))).2.1
      cases ok with
      | false =>
        rw [if_neg Bool.false_ne_true] at q9 ⊢
        obtain ⟨m', hm, w9⟩ := q9
        exact again I9 hm w9
      | true =>
        rw [if_pos rfl] at q9 ⊢
        have a3 := he' _ s9 σ8 H9 _ I9 q9
        rw [hxe] at a3
        refine thn a3 fun xv s10 ⟨y, H10, I10, r10, l, hl10, hz10, m', hm, w10⟩ => ?_
        have a4 := mt_append (X := X') _ s10 σ8 H10 (.ref s₂.heap.objs.size) [y] (.ref s₂.heap.objs.size) [xv] (fun _ H' => H' = upd H10 s₂.heap.objs.size (.lst (l ++ [y]))) I10 rfl (.cons r10 .nil) ⟨_, l, y, rfl, rfl, hl10, hz10, rfl⟩
        rw [hxe] at a4
        refine thn a4 fun _ s11 ⟨v, H11, I11, _, e11⟩ => ?_
        subst e11
        exact again I11 hm w10
  exact codeAny_compStart_list (key _ rfl) (T.self _ 0 _ _ _ st4 (key _ rfl))

theorem pe_comp {wi : TI} (sc : CompSc X scope N) (calm : X.calm = true) (hi : PI X tg iter wi)
    (hg : ∀ C s₀ H₀ ex pn, PG (compCx X scope N C s₀ H₀ ex pn) tg g) (hc : ∀ C s₀ H₀ ex pn, PTs (compCx X scope N C s₀ H₀ ex pn) ifs tc) (he : ∀ C s₀ H₀ ex pn, PE (compCx X scope N C s₀ H₀ ex pn) elt te)
    (hs : ∀ x, foldedSetIterable iter X.env x = pure x := by intro _; rfl) : PE X (.ListComp elt [⟨tg, iter, ifs, 0⟩] scope pos) (tComp X scope N wi g tc te) := by
  intro pins s σ H Q I h
  rw [eval_ListComp]
  refine wpAny_comprehension_free (use := none) rfl hs (closureFor_cl sc.has) sc.kind sc.names ?_
  refine wpAny_mono (hi pins s σ H _ I h) (fun x s₁ h₁ => wpAny_mono h₁ (fun itv s₂ h₂ => ?_) fun _ _ e => e) fun _ _ e => e
  obtain ⟨it, fp, tn, J, H1, rfl, I2, T, st2, f2, q⟩ := h₂
  refine comp_block (RR := fun acc C => compPost (model X.prog X.w) X.A X.xe none (EP X pins σ Q) acc C) sc calm hg hc he I2 T st2 f2 q ?_
  intro D s₃ H3 σ' H' s' I3 f3 I' qn
  obtain ⟨m, hn, _⟩ := I'.loc
  exact ⟨m, hn, fun h' hs' => ⟨.ref D, H', comp_end I3 f3 I' hs', rfl, qn⟩⟩

/-- y = [..]: the store stands ahead of the block's end -/
theorem ps_comp {wi : TI} {y : Str} {py spos : Pos} {i : Nat} (sc : CompSc X scope N) (calm : X.calm = true) (hi : PI X tg iter wi)
    (hg : ∀ C s₀ H₀ ex pn, PG (compCx X scope N C s₀ H₀ ex pn) tg g) (hc : ∀ C s₀ H₀ ex pn, PTs (compCx X scope N C s₀ H₀ ex pn) ifs tc) (he : ∀ C s₀ H₀ ex pn, PE (compCx X scope N C s₀ H₀ ex pn) elt te)
    (hgN : PG X (.Name y py) (gName i)) (hsw : swapsWith (.ListComp elt [⟨tg, iter, ifs, 0⟩] scope pos) (some (.Name y py)) spos.line X.env = pure true)
    (hs : ∀ x, foldedSetIterable iter X.env x = pure x := by intro _; rfl) : PS X (.Assign [.Name y py] (.ListComp elt [⟨tg, iter, ifs, 0⟩] scope pos) spos) (tAsg (tComp X scope N wi g tc te) (gName i)) := by
  intro pins s σ H D I h
  rw [exec_Assign_Name_used _ _ _ _ hsw] -- here
  refine wpAny_bind (wpAny_standAt (wpAny_bind ?_)) -- here
  show wpAny _ X.A (do let _ ← comprehension (.ListComp elt [⟨tg, iter, ifs, 0⟩] scope pos) scope X.env _ (newList []) false (eval iter X.env) (some (assign (.Name y py) X.env))) _ _ s
  refine wpAny_bind (wpAny_mono (wpAny_comprehension_free (use := some (assign (.Name y py) X.env)) (Q := fun _ s' => SP X pins D .next s') rfl hs (closureFor_cl sc.has) sc.kind sc.names ?_) (fun _ s' hq => wpAny_pure (wpAny_pure hq)) fun _ _ e => e)
  refine wpAny_mono (hi pins s σ H _ I h) (fun x s₁ h₁ => wpAny_mono h₁ (fun itv s₂ h₂ => ?_) fun _ _ e => e) fun _ _ e => e
  obtain ⟨it, fp, tn, J, H1, rfl, I2, T, st2, f2, q⟩ := h₂
  refine comp_block (RR := fun acc C => compPost (model X.prog X.w) X.A X.xe (some (assign (.Name y py) X.env)) (fun _ s' => SP X pins D .next s') acc C) sc calm hg hc he I2 T st2 f2 q ?_
  intro D' s₃ H3 σ' H' s' I3 f3 I' qn
  obtain ⟨m, hn, _⟩ := I'.loc
  obtain ⟨oC, es, ep, hoC, hdC, hrest⟩ := id hn
  have IX : Inv X pins σ H' s' := comp_end I3 f3 I' (.refl ..)
  have fC : FpOk X pins H' s₃.heap.objs.size := I3.fpOk (Nat.le_refl _) I'.free
  have IXp := IX.pinned (fp := [s₃.heap.objs.size]) (fun b hb => by rw [List.mem_singleton.mp hb]; exact fC) (fun b hb => by
    rw [List.mem_singleton.mp hb]
    exact ⟨oC, hoC, fun v z => by rw [hdC] at z; cases z⟩)
  show wpAny _ X.A (assign (.Name y py) X.env (.ref D')) _ _ _
  refine thn (hgN _ s' σ H' (.ref D') (.ref D') _ IXp rfl qn) fun _ s'' ⟨σ'', H'', I'', q''⟩ => ?_
  have pC := I''.pin (s₃.heap.objs.size, oC) (List.mem_append_right _ (List.mem_append_right _ (mem_pinsAt (by simp) hoC)))
  refine ⟨m, ⟨oC, es, ep, pC.1, hdC, hrest⟩, fun h' hs' => ⟨σ'', H'', ?_, q''⟩⟩
  exact I''.unpinned.turned (h' := h') (t' := s''.toks) (it := s₃.heap.objs.size) (fun b o ne e => hs'.extBut b o ne e) pC.2.1 fC.2.1 fC.2.2.2.1 fC.2.2.2.2.1 fC.2.2.2.2.2
end
end L2

end

section
set_option Elab.async false
set_option linter.all false
set_option maxHeartbeats 4000002
set_option autoImplicit false
namespace C
open PySem PySem.Spec PyProof.Rows L2

/-! ### how a heap bears a tree: S, the part that stays; as, the addresses of the store's objects -/
mutual
inductive Rep (K : PySem.W.Frag) (S : Hp) (as : List Addr) : V → T → Prop where
  | non : Rep K S as .non .non
  | bl (b : Bool) : Rep K S as (.bl b) (.bl b)
  | int (i : Int) : Rep K S as (.int i) (.int i)
  | str (x : Str) : Rep K S as (.str x) (.str x)
  | tup {a : Addr} {vs : List V} {ts : List T} : SqT K S a vs → Reps K S as vs ts → Rep K S as (.ref a) (.tup ts)
  | lst {a : Addr} {vs : List V} {ts : List T} : SqL K S a vs → Reps K S as vs ts → Rep K S as (.ref a) (.lst ts)
  | dic {a : Addr} {kvs : List (L2.Key × V)} {ts : List (L2.Key × T)} : Rd S a (.dK kvs) → RepK K S as kvs ts → Rep K S as (.ref a) (.dic ts)
  | obj {n : Nat} {a : Addr} : as[n]? = some a → Rep K S as (.ref a) (.obj n)
inductive Reps (K : PySem.W.Frag) (S : Hp) (as : List Addr) : List V → List T → Prop where
  | nil : Reps K S as [] []
  | cons {v : V} {t : T} {vs : List V} {ts : List T} : Rep K S as v t → Reps K S as vs ts → Reps K S as (v :: vs) (t :: ts)
inductive RepK (K : PySem.W.Frag) (S : Hp) (as : List Addr) : List (L2.Key × V) → List (L2.Key × T) → Prop where
  | nil : RepK K S as [] []
  | cons {k : L2.Key} {v : V} {t : T} {vs : List (L2.Key × V)} {ts : List (L2.Key × T)} : Rep K S as v t → RepK K S as vs ts → RepK K S as ((k, v) :: vs) ((k, t) :: ts)
end

theorem rd_mono {S S' : Hp} {a : Addr} {u : HO} (e : Same S S') (h : Rd S a u) : Rd S' a u := by
  rcases h with h | ⟨o, h⟩
  · exact .inl (e _ _ h)
  · exact .inr ⟨o, e _ _ h⟩
theorem sqT_mono {K : PySem.W.Frag} {S S' : Hp} {a : Addr} {xs : List V} (e : Same S S') (h : SqT K S a xs) : SqT K S' a xs := by
  rcases h with h | h
  · exact .inl (rd_mono e h)
  · exact .inr h
theorem sqL_mono {K : PySem.W.Frag} {S S' : Hp} {a : Addr} {xs : List V} (e : Same S S') (h : SqL K S a xs) : SqL K S' a xs := by
  rcases h with h | h
  · exact .inl (rd_mono e h)
  · exact .inr h

section
variable {K : PySem.W.Frag} {S S' : Hp} {as as' : List Addr}
theorem get_app {α : Type} {l r : List α} {n : Nat} {a : α} (h : l[n]? = some a) : (l ++ r)[n]? = some a := by
  have := (List.getElem?_eq_some_iff.mp h).1
  rw [List.getElem?_append_left this]; exact h
mutual
theorem Rep.mono (e : Same S S') (x : ∃ l, as' = as ++ l) : ∀ {v : V} {t : T}, Rep K S as v t → Rep K S' as' v t
  | _, _, .non => .non
  | _, _, .bl b => .bl b
  | _, _, .int i => .int i
  | _, _, .str y => .str y
  | _, _, .tup h r => .tup (sqT_mono e h) (Reps.mono e x r)
  | _, _, .lst h r => .lst (sqL_mono e h) (Reps.mono e x r)
  | _, _, .dic h r => .dic (rd_mono e h) (RepK.mono e x r)
  | _, _, .obj h => .obj (by obtain ⟨l, rfl⟩ := x; exact get_app h)
theorem Reps.mono (e : Same S S') (x : ∃ l, as' = as ++ l) : ∀ {v : List V} {t : List T}, Reps K S as v t → Reps K S' as' v t
  | _, _, .nil => .nil
  | _, _, .cons h r => .cons (Rep.mono e x h) (Reps.mono e x r)
theorem RepK.mono (e : Same S S') (x : ∃ l, as' = as ++ l) : ∀ {v : List (L2.Key × V)} {t : List (L2.Key × T)}, RepK K S as v t → RepK K S' as' v t
  | _, _, .nil => .nil
  | _, _, .cons h r => .cons (Rep.mono e x h) (RepK.mono e x r)
end
theorem Reps.length : ∀ {vs : List V} {ts : List T}, Reps K S as vs ts → vs.length = ts.length
  | _, _, .nil => rfl
  | _, _, .cons _ r => congrArg (· + 1) r.length
theorem RepK.length : ∀ {vs : List (L2.Key × V)} {ts : List (L2.Key × T)}, RepK K S as vs ts → vs.length = ts.length
  | _, _, .nil => rfl
  | _, _, .cons _ r => congrArg (· + 1) r.length
theorem Reps.get : ∀ {vs : List V} {ts : List T} {i : Nat} {t : T}, Reps K S as vs ts → ts[i]? = some t → ∃ v, vs[i]? = some v ∧ Rep K S as v t
  | _, _, _, _, .nil, e => by simp at e
  | _, _, 0, _, .cons r _, e => by simp at e; subst e; exact ⟨_, rfl, r⟩
  | _, _, i + 1, t, .cons _ r, e => by
    obtain ⟨v, h1, h2⟩ := Reps.get (i := i) (t := t) r (by simpa using e)
    exact ⟨v, by simpa using h1, h2⟩
theorem Reps.append : ∀ {vs : List V} {ts : List T} {ws : List V} {us : List T}, Reps K S as vs ts → Reps K S as ws us → Reps K S as (vs ++ ws) (ts ++ us)
  | _, _, _, _, .nil, q => q
  | _, _, _, _, .cons h r, q => .cons h (Reps.append r q)
theorem Reps.reverse : ∀ {vs : List V} {ts : List T}, Reps K S as vs ts → Reps K S as vs.reverse ts.reverse
  | _, _, .nil => .nil
  | _, _, .cons h r => by rw [List.reverse_cons, List.reverse_cons]; exact Reps.append (Reps.reverse r) (.cons h .nil)
theorem Reps.drop : ∀ (n : Nat) {vs : List V} {ts : List T}, Reps K S as vs ts → Reps K S as (vs.drop n) (ts.drop n)
  | 0, _, _, r => r
  | _ + 1, _, _, .nil => .nil
  | n + 1, _, _, .cons _ r => Reps.drop n r
theorem RepK.get (k : L2.Key) : ∀ {vs : List (L2.Key × V)} {ts : List (L2.Key × T)}, RepK K S as vs ts → (∃ v t, valV vs k = some v ∧ dGet k ts = some t ∧ Rep K S as v t) ∨ (valV vs k = none ∧ dGet k ts = none)
  | _, _, .nil => .inr ⟨rfl, rfl⟩
  | _, _, .cons (k := q) (v := v) (t := t) (vs := vs) (ts := ts) h r => by
    by_cases e : q = k
    · exact .inl ⟨v, t, valV_pos (p := (q, v)) e, by rw [dGet, if_pos e], h⟩
    · rw [valV_neg (p := (q, v)) e, dGet, if_neg e]
      exact RepK.get k r
end

/-! ### the state at a def's entry; the state between two steps -/
structure Bas where
  S : Hp
  as : List Addr
  H : Hp
/-- what was kept is kept, what nobody here owns is as it was -/
structure Grow (B : Bas) (S : Hp) (as : List Addr) (H : Hp) : Prop where
  same : Same B.S S
  more : ∃ l, as = B.as ++ l
  keep : ∀ p o, B.H p = some o → B.S p = none → p ∉ B.as → H p = some o ∧ S p = none ∧ p ∉ as

/-- only new things beside what was; new kept things stand at new places -/
structure Ext (S H S' H' : Hp) : Prop where
  s : Same S S'
  h : Same H H'
  sub : Same S' H'
  new : ∀ p, S' p ≠ none → S p ≠ none ∨ H p = none
theorem Ext.refl {S H : Hp} (h : Same S H) : Ext S H S H := ⟨Same.refl _, Same.refl _, h, fun _ q => .inl q⟩
theorem Same.upd {H : Hp} {p : Addr} (h : H p = none) (o : HO) : Same H (upd H p o) := fun b u q => by rw [upd_ne (ne_of_none q h)]; exact q
theorem free_sub {S H : Hp} (h : Same S H) {p : Addr} (n : H p = none) : S p = none := h.free n
theorem Ext.laid {S H : Hp} (h : Same S H) {p : Addr} (n : H p = none) (o : HO) : Ext S H (upd S p o) (upd H p o) where
  s := Same.upd (h.free n) o
  h := Same.upd n o
  sub := fun b u q => by
    by_cases e : b = p
    · subst e; rw [upd_same] at q ⊢; exact q
    · rw [upd_ne e] at q ⊢; exact h _ _ q
  new := fun b q => by
    by_cases e : b = p
    · subst e; exact .inr n
    · rw [upd_ne e] at q; exact .inl q
theorem Ext.trans {S H S1 H1 S2 H2 : Hp} (a : Ext S H S1 H1) (b : Ext S1 H1 S2 H2) : Ext S H S2 H2 where
  s := a.s.trans b.s
  h := a.h.trans b.h
  sub := b.sub
  new := fun p q => by
    rcases b.new p q with z | z
    · exact a.new p z
    · exact .inr (a.h.free z)

/-- what a name that owns its thing has there -/
def Own (K : PySem.W.Frag) (S : Hp) (as : List Addr) (H : Hp) (p : Addr) : T → Prop
  | .lst ts => ∃ vs, H p = some (.lst vs) ∧ Reps K S as vs ts
  | .dic ts => ∃ kvs, H p = some (.dK kvs) ∧ RepK K S as kvs ts
  | _ => False
structure OwnAt (K : PySem.W.Frag) (B : Bas) (S : Hp) (as : List Addr) (H : Hp) (p : Addr) (t : T) : Prop where
  own : Own K S as H p t
  out : S p = none
  nas : p ∉ as
  new : B.H p = none
def SRep (K : PySem.W.Frag) (S : Hp) (as : List Addr) (H : Hp) (a : Addr) : SO → Prop
  | .dic ts => ∃ kvs, H a = some (.dK kvs) ∧ RepK K S as kvs ts
  | .lst ts => ∃ vs, H a = some (.lst vs) ∧ Reps K S as vs ts
  | .ins _ _ => False
structure StoOk (K : PySem.W.Frag) (S : Hp) (as : List Addr) (H : Hp) (sto : List SO) : Prop where
  len : as.length = sto.length
  nd : as.Nodup
  at' : ∀ (n : Nat) so, sto[n]? = some so → ∃ a, as[n]? = some a ∧ S a = none ∧ SRep K S as H a so
structure Rel (K : PySem.W.Frag) (B : Bas) (st : Sta) (σ : L2.St) (H : Hp) (ps : List (V × T)) (S : Hp) (as : List Addr) : Prop where
  sub : Same S H
  grow : Grow B S as H
  slots : ∀ (i : Nat) t f, st.env[i]? = some (some (t, f)) → ∃ v, σ[i]? = some (some v) ∧ (f = false → Rep K S as v t) ∧ (f = true → ∃ p, v = .ref p ∧ OwnAt K B S as H p t)
  apart : ∀ (i j : Nat) t u p, st.env[i]? = some (some (t, true)) → st.env[j]? = some (some (u, true)) → σ[i]? = some (some (.ref p)) → σ[j]? = some (some (.ref p)) → i = j
  sto : StoOk K S as H st.sto
  pend : ∀ p ∈ ps, Rep K S as p.1 p.2
  len : σ.length = st.env.length

section
variable {K : PySem.W.Frag} {B : Bas} {st : Sta} {σ : L2.St} {H H' S S' : Hp} {ps : List (V × T)} {as : List Addr}
theorem nol {as : List Addr} : ∃ l : List Addr, as = as ++ l := ⟨[], (List.append_nil _).symm⟩
theorem Own.mono {p : Addr} {t : T} (hs : Same S S') (hh : H p = H' p) (o : Own K S as H p t) : Own K S' as H' p t := by
  cases t with
  | lst ts => obtain ⟨vs, h, r⟩ := o; exact ⟨vs, hh ▸ h, r.mono hs nol⟩
  | dic ts => obtain ⟨vs, h, r⟩ := o; exact ⟨vs, hh ▸ h, r.mono hs nol⟩
  | _ => exact o.elim
theorem Own.there {p : Addr} {t : T} (o : Own K S as H p t) : ∃ ob, H p = some ob := by
  cases t with
  | lst ts => obtain ⟨vs, h, r⟩ := o; exact ⟨_, h⟩
  | dic ts => obtain ⟨vs, h, r⟩ := o; exact ⟨_, h⟩
  | _ => exact o.elim
theorem SRep.mono {a : Addr} {so : SO} (hs : Same S S') (hh : H a = H' a) (o : SRep K S as H a so) : SRep K S' as H' a so := by
  cases so with
  | dic ts => obtain ⟨vs, h, r⟩ := o; exact ⟨vs, hh ▸ h, r.mono hs nol⟩
  | lst ts => obtain ⟨vs, h, r⟩ := o; exact ⟨vs, hh ▸ h, r.mono hs nol⟩
  | ins c f => exact o.elim
theorem SRep.there {a : Addr} {so : SO} (o : SRep K S as H a so) : ∃ ob, H a = some ob := by
  cases so with
  | dic ts => obtain ⟨vs, h, r⟩ := o; exact ⟨_, h⟩
  | lst ts => obtain ⟨vs, h, r⟩ := o; exact ⟨_, h⟩
  | ins c f => exact o.elim
/-- a thing that stands outside of what is kept is not among the new kept ones -/
theorem Ext.outs (x : Ext S H S' H') {p : Addr} {o : HO} (h : H p = some o) (n : S p = none) : S' p = none := by
  cases q : S' p with
  | none => rfl
  | some u =>
    rcases x.new p (by rw [q]; exact Option.some_ne_none _) with z | z
    · exact absurd n z
    · rw [h] at z; cases z
theorem StoOk.ext {sto : List SO} (r : StoOk K S as H sto) (x : Ext S H S' H') : StoOk K S' as H' sto where
  len := r.len
  nd := r.nd
  at' := fun n so e => by
    obtain ⟨a, h1, h2, h3⟩ := r.at' n so e
    obtain ⟨ob, ho⟩ := h3.there
    exact ⟨a, h1, x.outs ho h2, h3.mono x.s (by rw [ho, x.h _ _ ho])⟩
theorem Rel.ext (r : Rel K B st σ H ps S as) (x : Ext S H S' H') : Rel K B st σ H' ps S' as where
  sub := x.sub
  grow := ⟨r.grow.same.trans x.s, r.grow.more, fun p o h1 h2 h3 => by
    obtain ⟨a, b, c⟩ := r.grow.keep p o h1 h2 h3
    exact ⟨x.h _ _ a, x.outs a b, c⟩⟩
  slots := fun i t f e => by
    obtain ⟨v, h1, h2, h3⟩ := r.slots i t f e
    refine ⟨v, h1, fun q => (h2 q).mono x.s nol, fun q => ?_⟩
    obtain ⟨p, e, o⟩ := h3 q
    obtain ⟨ob, ho⟩ := o.own.there
    exact ⟨p, e, o.own.mono x.s (by rw [ho, x.h _ _ ho]), x.outs ho o.out, o.nas, o.new⟩
  apart := r.apart
  sto := r.sto.ext x
  pend := fun p hp => (r.pend p hp).mono x.s nol
  len := r.len
theorem Rel.push (r : Rel K B st σ H ps S as) {v : V} {t : T} (h : Rep K S as v t) : Rel K B st σ H ((v, t) :: ps) S as :=
  ⟨r.sub, r.grow, r.slots, r.apart, r.sto, fun p hp => by
    rcases List.mem_cons.mp hp with rfl | z
    · exact h
    · exact r.pend p z, r.len⟩
theorem Rel.drop {p : V × T} (r : Rel K B st σ H (p :: ps) S as) : Rel K B st σ H ps S as :=
  ⟨r.sub, r.grow, r.slots, r.apart, r.sto, fun q hq => r.pend q (List.mem_cons_of_mem _ hq), r.len⟩
theorem Rel.drop1 {p q : V × T} (r : Rel K B st σ H (q :: p :: ps) S as) : Rel K B st σ H (q :: ps) S as :=
  ⟨r.sub, r.grow, r.slots, r.apart, r.sto, fun z hz => r.pend z (by
    rcases List.mem_cons.mp hz with rfl | z
    · exact List.mem_cons_self
    · exact List.mem_cons_of_mem _ (List.mem_cons_of_mem _ z)), r.len⟩
theorem Rel.top {v : V} {t : T} (r : Rel K B st σ H ((v, t) :: ps) S as) : Rep K S as v t := r.pend (v, t) List.mem_cons_self
theorem Rel.top2 {v : V} {t : T} {q : V × T} (r : Rel K B st σ H (q :: (v, t) :: ps) S as) : Rep K S as v t := r.pend (v, t) (List.mem_cons_of_mem _ List.mem_cons_self)
end

/-! ### what an expression means -/
def tOf (K : PySem.W.Frag) (B : Bas) (m : M T) : TE := fun σ H Q => ∃ st ps S as, Rel K B st σ H ps S as ∧ ∃ t st', m st = some (t, st') ∧
  ∀ v H' S' as', Rel K B st' σ H' ((v, t) :: ps) S' as' → Q v H'
def cOf (K : PySem.W.Frag) (B : Bas) (m : M Bool) : TT := fun σ H Q => ∃ st ps S as, Rel K B st σ H ps S as ∧ ∃ b st', m st = some (b, st') ∧
  ∀ H' S' as', Rel K B st' σ H' ps S' as' → Q b H'
def aOf (K : PySem.W.Frag) (B : Bas) (m : M (List T)) : TA := fun σ H Q => ∃ st ps S as, Rel K B st σ H ps S as ∧ ∃ ts st', m st = some (ts, st') ∧
  ∀ vs H' S' as', Rel K B st' σ H' ps S' as' → Reps K S' as' vs ts → Q vs H'
theorem _root_.L2.PE.imp {X : Cx} {e : Expr} {t t' : TE} (h : PE X e t) (i : ∀ σ H Q, t' σ H Q → t σ H Q) : PE X e t' := fun pins s σ H Q I q => h pins s σ H Q I (i σ H Q q)
theorem _root_.L2.PT.imp {X : Cx} {e : Expr} {t t' : TT} (h : PT X e t) (i : ∀ σ H Q, t' σ H Q → t σ H Q) : PT X e t' := fun pins s σ H Q I q => h pins s σ H Q I (i σ H Q q)
theorem _root_.L2.PA.imp {X : Cx} {e : List Expr} {t t' : TA} (h : PA X e t) (i : ∀ σ H Q, t' σ H Q → t σ H Q) : PA X e t' := fun pos pins s σ H Q I q => h pos pins s σ H Q I (i σ H Q q)
theorem _root_.L2.PS.imp {X : Cx} {e : Stmt} {t t' : TS} (h : PS X e t) (i : ∀ D σ H, t' D σ H → t D σ H) : PS X e t' := fun pins s σ H D I q => h pins s σ H D I (i D σ H q)
theorem _root_.L2.PSs.imp {X : Cx} {e : List Stmt} {t t' : TS} (h : PSs X e t) (i : ∀ D σ H, t' D σ H → t D σ H) : PSs X e t' := fun pins s σ H D I q => h pins s σ H D I (i D σ H q)

/-- operations by trees -/
def r2 (K : PySem.W.Frag) (f : T → T → Option T) : R2 := fun x y H Q => ∃ S as t u w, Same S H ∧ Rep K S as x t ∧ Rep K S as y u ∧ f t u = some w ∧ ∀ v H' S', Ext S H S' H' → Rep K S' as v w → Q v H'
def r1 (K : PySem.W.Frag) (f : T → Option T) : V → Hp → VK → Prop := fun x H Q => ∃ S as t w, Same S H ∧ Rep K S as x t ∧ f t = some w ∧ ∀ v H' S', Ext S H S' H' → Rep K S' as v w → Q v H'
def rL (K : PySem.W.Frag) (f : List T → Option T) : List V → Hp → VK → Prop := fun xs H Q => ∃ S as ts w, Same S H ∧ Reps K S as xs ts ∧ f ts = some w ∧ ∀ v H' S', Ext S H S' H' → Rep K S' as v w → Q v H'
abbrev OpT (X : Cx) (f : Value → Value → Sem Value) (g : T → T → Option T) : Prop := OpR X f (r2 X.K g)
abbrev UnT (X : Cx) (f : Value → Sem Value) (g : T → Option T) : Prop := UnR X f (r1 X.K g)
abbrev CallT (X : Cx) (f : Value) (g : List T → Option T) : Prop := CallR X f (rL X.K g)

section
variable {X : Cx} {B : Bas} {a b c : Expr} {m m1 m2 : M T} {pos : Pos}
theorem te_const {v : V} {t : T} {e : Expr} (h : PE X e (tC v)) (r : ∀ S as, Rep X.K S as v t) : PE X e (tOf X.K B (mPure t)) := h.imp fun σ H Q ⟨st, ps, S, as, R, t', st', e, q⟩ => by
  cases e
  exact q v H S as (R.push (r S as))
theorem te_int {i : Int} {j : Nat} : PE X (.Constant (.int i) j pos) (tOf X.K B (mPure (.int i))) := te_const pe_int fun _ _ => .int i
theorem te_bl {i : Bool} {j : Nat} : PE X (.Constant (.bool i) j pos) (tOf X.K B (mPure (.bl i))) := te_const pe_bl fun _ _ => .bl i
theorem te_str {i : Str} {j : Nat} : PE X (.Constant (.str i) j pos) (tOf X.K B (mPure (.str i))) := te_const pe_str fun _ _ => .str i
theorem te_non {j : Nat} : PE X (.Constant .none j pos) (tOf X.K B (mPure .non)) := te_const pe_non fun _ _ => .non
theorem te_op {op : Operator} {f : T → T → Option T} (ho : OpT X (binaryOp op) f) (ha : PE X a (tOf X.K B m1)) (hb : PE X b (tOf X.K B m2)) : PE X (.BinOp a op b pos) (tOf X.K B (mOp f m1 m2)) :=
  (pe_op ho ha hb).imp fun σ H Q ⟨st, ps, S, as, R, t, st', e, q⟩ => by
    obtain ⟨t1, s1, t2, e1, e2, e3⟩ := mOp_inv e
    refine ⟨st, ps, S, as, R, t1, s1, e1, fun v H1 S1 as1 R1 => ⟨s1, _, S1, as1, R1, t2, st', e2, fun u H2 S2 as2 R2 => ?_⟩⟩
    exact ⟨S2, as2, t1, t2, t, R2.sub, R2.top2, R2.top, e3, fun w H3 S3 x r => q w H3 S3 as2 ((R2.drop.drop.ext x).push r)⟩
end
end C

end

section
set_option Elab.async false
set_option linter.all false
set_option maxRecDepth 100000
set_option maxHeartbeats 4000002
set_option autoImplicit false
namespace C
open PySem PySem.Spec PyProof.Rows L2

section
variable {K : PySem.W.Frag} {B : Bas} {st : Sta} {σ : L2.St} {H H' S S' : Hp} {ps : List (V × T)} {as : List Addr}
/-- a name's own thing is given away: it stays as it is from now on -/
theorem Rel.freeze (r : Rel K B st σ H ps S as) {i : Nat} {t : T} (e : st.env[i]? = some (some (t, true))) :
    ∃ v S', σ[i]? = some (some v) ∧ Rel K B { st with env := st.env.set i (some (t, false)) } σ H ((v, t) :: ps) S' as := by
  obtain ⟨v, h1, _, h3⟩ := r.slots i t true e
  obtain ⟨p, rfl, o⟩ := h3 rfl
  obtain ⟨ob, ho⟩ := o.own.there
  have hi : i < st.env.length := (List.getElem?_eq_some_iff.mp e).1
  have sS : Same S (upd S p ob) := Same.upd o.out ob
  have rep : Rep K (upd S p ob) as (.ref p) t := by
    have w := o.own
    cases t with
    | lst ts => obtain ⟨vs, h, q⟩ := w; rw [ho] at h; cases h; exact .lst (SqL.of upd_same) (q.mono sS nol)
    | dic ts => obtain ⟨vs, h, q⟩ := w; rw [ho] at h; cases h; exact .dic (.inl upd_same) (q.mono sS nol)
    | _ => exact w.elim
  have outs : ∀ q, S q = none → q ≠ p → upd S p ob q = none := fun q h n => by rw [upd_ne n]; exact h
  refine ⟨.ref p, upd S p ob, h1, ?_⟩
  refine Rel.push (v := .ref p) (t := t) ⟨?_, ?_, ?_, ?_, ?_, ?_, ?_⟩ rep
  · intro b u q
    by_cases z : b = p
    · subst z; rw [upd_same] at q; cases q; exact ho
    · rw [upd_ne z] at q; exact r.sub _ _ q
  · refine ⟨r.grow.same.trans sS, r.grow.more, fun q w a b c => ?_⟩
    obtain ⟨x, y, z⟩ := r.grow.keep q w a b c
    refine ⟨x, outs q y fun n => ?_, z⟩
    subst n; rw [o.new] at a; cases a
  · intro j u f ej
    by_cases hij : i = j
    · subst hij
      rw [List.getElem?_set_self hi] at ej
      cases ej
      exact ⟨.ref p, h1, fun _ => rep, fun z => by cases z⟩
    · rw [List.getElem?_set_ne hij] at ej
      obtain ⟨v', a1, a2, a3⟩ := r.slots j u f ej
      refine ⟨v', a1, fun z => (a2 z).mono sS nol, fun z => ?_⟩
      subst z
      obtain ⟨p', rfl, o'⟩ := a3 rfl
      refine ⟨p', rfl, o'.own.mono sS rfl, outs p' o'.out fun n => ?_, o'.nas, o'.new⟩
      subst n
      exact hij (r.apart i j t u p' e ej h1 a1)
  · intro j k u w q ej ek
    have hj : st.env[j]? = some (some (u, true)) := by
      by_cases hij : i = j
      · subst hij; rw [List.getElem?_set_self hi] at ej; cases ej
      · rwa [List.getElem?_set_ne hij] at ej
    have hk : st.env[k]? = some (some (w, true)) := by
      by_cases hij : i = k
      · subst hij; rw [List.getElem?_set_self hi] at ek; cases ek
      · rwa [List.getElem?_set_ne hij] at ek
    exact r.apart j k u w q hj hk
  · refine ⟨r.sto.len, r.sto.nd, fun n so en => ?_⟩
    obtain ⟨a, a1, a2, a3⟩ := r.sto.at' n so en
    refine ⟨a, a1, outs a a2 fun z => ?_, a3.mono sS rfl⟩
    subst z
    exact o.nas (List.mem_of_getElem? a1)
  · exact fun q hq => (r.pend q hq).mono sS nol
  · show σ.length = (st.env.set i _).length
    rw [List.length_set]; exact r.len
end

section
variable {X : Cx} {B : Bas} {a b c : Expr} {m m1 m2 : M T} {pos : Pos}
theorem te_var (i : Nat) {e : Expr} (h : PE X e (tVar i)) : PE X e (tOf X.K B (mVar i)) := h.imp fun σ H Q ⟨st, ps, S, as, R, t, st', e, q⟩ => by
  rcases mVar_inv e with ⟨e1, rfl⟩ | ⟨e1, rfl⟩
  · obtain ⟨v, h1, h2, _⟩ := R.slots i t false e1
    exact ⟨v, h1, q v H S as (R.push (h2 rfl))⟩
  · obtain ⟨v, S', h1, R'⟩ := R.freeze e1
    exact ⟨v, h1, q v H S' as R'⟩
theorem ta_nil : PA X [] (aOf X.K B mNil) := pa_nil.imp fun σ H Q ⟨st, ps, S, as, R, ts, st', e, q⟩ => by
  cases e
  exact q [] H S as R .nil
theorem ta_cons {es : List Expr} {ms : M (List T)} (ha : PE X a (tOf X.K B m)) (hr : PA X es (aOf X.K B ms)) (hs : starEach (a :: es) X.env = (false, eval a X.env) :: starEach es X.env := by rfl) : PA X (a :: es) (aOf X.K B (mCons m ms)) :=
  (pa_cons ha hr hs).imp fun σ H Q ⟨st, ps, S, as, R, ts, st', e, q⟩ => by
    obtain ⟨t, s1, us, e1, e2, rfl⟩ := mCons_inv e
    refine ⟨st, ps, S, as, R, t, s1, e1, fun v H1 S1 as1 R1 => ⟨s1, _, S1, as1, R1, us, st', e2, fun vs H2 S2 as2 R2 rs => ?_⟩⟩
    exact q (v :: vs) H2 S2 as2 R2.drop (.cons R2.top rs)
theorem te_tup {es : List Expr} {ms : M (List T)} {k : Nat} (h : PA X es (aOf X.K B ms)) (hm : ∀ st ts st', ms st = some (ts, st') → ts.length ≤ 1000) : PE X (.Tuple es k pos) (tOf X.K B (mMap (fun l => some (.tup l)) ms)) :=
  (pe_tup h).imp fun σ H Q ⟨st, ps, S, as, R, t, st', e, q⟩ => by
    obtain ⟨ts, e1, e2⟩ := mMap_inv e
    cases e2
    refine ⟨st, ps, S, as, R, ts, st', e1, fun vs H1 S1 as1 R1 rs => ⟨?_, fun p hp => ?_⟩⟩
    · rw [rs.length]; exact Nat.le_of_lt (small1000 (hm _ _ _ e1))
    · have x := Ext.laid R1.sub hp (.tup vs)
      exact q _ _ _ _ ((R1.ext x).push (.tup (SqT.of upd_same) (rs.mono x.s nol)))
theorem te_lst {es : List Expr} {ms : M (List T)} (h : PA X es (aOf X.K B ms)) (hm : ∀ st ts st', ms st = some (ts, st') → ts.length ≤ 1000) : PE X (.List es pos) (tOf X.K B (mMap (fun l => some (.lst l)) ms)) :=
  (pe_lst h).imp fun σ H Q ⟨st, ps, S, as, R, t, st', e, q⟩ => by
    obtain ⟨ts, e1, e2⟩ := mMap_inv e
    cases e2
    refine ⟨st, ps, S, as, R, ts, st', e1, fun vs H1 S1 as1 R1 rs => ⟨?_, fun p hp => ?_⟩⟩
    · rw [rs.length]; exact Nat.le_of_lt (small1000 (hm _ _ _ e1))
    · have x := Ext.laid R1.sub hp (.lst vs)
      exact q _ _ _ _ ((R1.ext x).push (.lst (SqL.of upd_same) (rs.mono x.s nol)))
theorem len_nil : ∀ st ts st', mNil st = some (ts, st') → ts.length ≤ 0 := fun st ts st' e => by cases e; exact Nat.le_refl _
theorem len_cons {r : M (List T)} {n : Nat} (h : ∀ st ts st', r st = some (ts, st') → ts.length ≤ n) : ∀ st ts st', mCons m r st = some (ts, st') → ts.length ≤ n + 1 := fun st ts st' e => by
  obtain ⟨t, s1, us, e1, e2, rfl⟩ := mCons_inv e
  exact Nat.succ_le_succ (h _ _ _ e2)
/-- a built-in called -/
theorem te_of_cb {ms : M (List T)} {f : List T → Option T} {e : Expr} (h : PE X e (tCB (rL X.K f) (aOf X.K B ms))) : PE X e (tOf X.K B (mMap f ms)) :=
  h.imp fun σ H Q ⟨st, ps, S, as, R, t, st', e, q⟩ => by
    obtain ⟨ts, e1, e2⟩ := mMap_inv e
    refine ⟨st, ps, S, as, R, ts, st', e1, fun vs H1 S1 as1 R1 rs => ⟨S1, as1, ts, t, R1.sub, rs, e2, fun v H2 S2 x r => ?_⟩⟩
    exact q v H2 S2 as1 ((R1.ext x).push r)
theorem te_of_op {f : T → T → Option T} {e : Expr} (h : PE X e (tOp (r2 X.K f) (tOf X.K B m1) (tOf X.K B m2))) : PE X e (tOf X.K B (mOp f m1 m2)) :=
  h.imp fun σ H Q ⟨st, ps, S, as, R, t, st', e, q⟩ => by
    obtain ⟨t1, s1, t2, e1, e2, e3⟩ := mOp_inv e
    refine ⟨st, ps, S, as, R, t1, s1, e1, fun v H1 S1 as1 R1 => ⟨s1, _, S1, as1, R1, t2, st', e2, fun u H2 S2 as2 R2 => ?_⟩⟩
    exact ⟨S2, as2, t1, t2, t, R2.sub, R2.top2, R2.top, e3, fun w H3 S3 x r => q w H3 S3 as2 ((R2.drop.drop.ext x).push r)⟩
theorem te_of_un {f : T → Option T} {e : Expr} (h : PE X e (tUn (r1 X.K f) (tOf X.K B m))) : PE X e (tOf X.K B (mUn f m)) :=
  h.imp fun σ H Q ⟨st, ps, S, as, R, t, st', e, q⟩ => by
    obtain ⟨t1, e1, e3⟩ := mUn_inv e
    refine ⟨st, ps, S, as, R, t1, st', e1, fun v H1 S1 as1 R1 => ⟨S1, as1, t1, t, R1.sub, R1.top, e3, fun w H3 S3 x r => q w H3 S3 as1 ((R1.drop.ext x).push r)⟩⟩
theorem te_cmp {op : CmpOp} {f : T → T → Option T} (ho : OpT X (compareOp op) f) (ha : PE X a (tOf X.K B m1)) (hb : PE X b (tOf X.K B m2)) (hm : behindInMarks op b = false) : PE X (.Compare a [op] [b] pos) (tOf X.K B (mOp f m1 m2)) := te_of_op (pe_cmpR ho ha hb hm)
theorem te_un {op : UnaryOp} {f : T → Option T} (ho : UnT X (unaryOp op) f) (ha : PE X a (tOf X.K B m)) : PE X (.UnaryOp op a pos) (tOf X.K B (mUn f m)) := te_of_un (pe_un ho ha)
/-- tests -/
theorem tc_of_test {e : Expr} (h : PT X e (tTest (tOf X.K B m))) : PT X e (cOf X.K B (mTest m)) := h.imp fun σ H Q ⟨st, ps, S, as, R, t, st', e, q⟩ => by
  refine ⟨st, ps, S, as, R, .bl t, st', mTest_inv e, fun v H1 S1 as1 R1 => ?_⟩
  cases R1.top
  exact ⟨t, rfl, q H1 S1 as1 R1.drop⟩
theorem tc_cmp {op : CmpOp} {f : T → T → Option T} (ho : OpT X (compareOp op) f) (ha : PE X a (tOf X.K B m1)) (hb : PE X b (tOf X.K B m2)) (hm : behindInMarks op b = false) : PT X (.Compare a [op] [b] pos) (cOf X.K B (mTest (mOp f m1 m2))) :=
  tc_of_test ((pt_cmpR ho ha hb hm).imp fun σ H Q ⟨st, ps, S, as, R, t, st', e, q⟩ => by
    obtain ⟨t1, s1, t2, e1, e2, e3⟩ := mOp_inv e
    refine ⟨st, ps, S, as, R, t1, s1, e1, fun v H1 S1 as1 R1 => ⟨s1, _, S1, as1, R1, t2, st', e2, fun u H2 S2 as2 R2 => ?_⟩⟩
    exact ⟨S2, as2, t1, t2, t, R2.sub, R2.top2, R2.top, e3, fun w H3 S3 x r => q w H3 S3 as2 ((R2.drop.drop.ext x).push r)⟩)
theorem tc_val {e : Expr} (h : PE X e (tOf X.K B m)) (he : ∀ whole, isTrue e X.env whole = (do let v ← whole; standAt e.pos; holding [v] (truthy v)) := by intro _; rfl) : PT X e (cOf X.K B (mTest m)) :=
  tc_of_test ((pt_val h he).imp fun σ H Q h => h)
theorem tc_not {c1 : M Bool} (ha : PT X a (cOf X.K B c1)) : PT X (.UnaryOp .Not a pos) (cOf X.K B (mNot c1)) := (pt_not ha).imp fun σ H Q ⟨st, ps, S, as, R, t, st', e, q⟩ => by
  obtain ⟨k, e1, rfl⟩ := mNot_inv e
  exact ⟨st, ps, S, as, R, k, st', e1, q⟩
theorem tc_and1 {c1 : M Bool} (ha : PT X a (cOf X.K B c1)) : PW X (.BoolOp .And [a] pos) (cOf X.K B c1) := pw_and1 ha
theorem tc_or1 {c1 : M Bool} (ha : PT X a (cOf X.K B c1)) : PW X (.BoolOp .Or [a] pos) (cOf X.K B c1) := pw_or1 ha
theorem pwImp {e : Expr} {t t' : TT} (h : PW X e t) (i : ∀ σ H Q, t' σ H Q → t σ H Q) : PW X e t' := fun whole pins s σ H Q I q => h whole pins s σ H Q I (i σ H Q q)
theorem tc_and {c1 c2 : M Bool} {rest : List Expr} (ha : PT X a (cOf X.K B c1)) (hb : PW X (.BoolOp .And (b :: rest) pos) (cOf X.K B c2)) : PW X (.BoolOp .And (a :: b :: rest) pos) (cOf X.K B (mAnd c1 c2)) :=
  pwImp (pw_and ha hb) fun σ H Q ⟨st, ps, S, as, R, t, st', e, q⟩ => by
    rcases mAnd_inv e with ⟨s1, e1, e2⟩ | ⟨e1, rfl⟩
    · exact ⟨st, ps, S, as, R, true, s1, e1, fun H1 S1 as1 R1 => iteT (⟨s1, ps, S1, as1, R1, t, st', e2, q⟩)⟩
    · exact ⟨st, ps, S, as, R, false, st', e1, fun H1 S1 as1 R1 => iteF (q H1 S1 as1 R1)⟩
theorem tc_or {c1 c2 : M Bool} {rest : List Expr} (ha : PT X a (cOf X.K B c1)) (hb : PW X (.BoolOp .Or (b :: rest) pos) (cOf X.K B c2)) : PW X (.BoolOp .Or (a :: b :: rest) pos) (cOf X.K B (mOr c1 c2)) :=
  pwImp (pw_or ha hb) fun σ H Q ⟨st, ps, S, as, R, t, st', e, q⟩ => by
    rcases mOr_inv e with ⟨s1, e1, e2⟩ | ⟨e1, rfl⟩
    · exact ⟨st, ps, S, as, R, false, s1, e1, fun H1 S1 as1 R1 => iteF (⟨s1, ps, S1, as1, R1, t, st', e2, q⟩)⟩
    · exact ⟨st, ps, S, as, R, true, st', e1, fun H1 S1 as1 R1 => iteT (q H1 S1 as1 R1)⟩
theorem te_ifExp {c1 : M Bool} (hc : PT X c (cOf X.K B c1)) (ha : PE X a (tOf X.K B m1)) (hb : PE X b (tOf X.K B m2)) : PE X (.IfExp c a b pos) (tOf X.K B (mIf c1 m1 m2)) :=
  (pe_ifExp hc ha hb).imp fun σ H Q ⟨st, ps, S, as, R, t, st', e, q⟩ => by
    rcases mIf_inv e with ⟨s1, e1, e2⟩ | ⟨s1, e1, e2⟩
    · exact ⟨st, ps, S, as, R, true, s1, e1, fun H1 S1 as1 R1 => iteT (⟨s1, ps, S1, as1, R1, t, st', e2, q⟩)⟩
    · exact ⟨st, ps, S, as, R, false, s1, e1, fun H1 S1 as1 R1 => iteF (⟨s1, ps, S1, as1, R1, t, st', e2, q⟩)⟩
/-- truths as values -/
theorem te_not (ha : PE X a (tOf X.K B m)) : PE X (.UnaryOp .Not a pos) (tOf X.K B (mBool (mNot (mTest m)))) := (pe_not ha).imp fun σ H Q ⟨st, ps, S, as, R, t, st', e, q⟩ => by
  obtain ⟨b, e1, rfl⟩ := mBool_inv e
  obtain ⟨k, e2, rfl⟩ := mNot_inv e1
  refine ⟨st, ps, S, as, R, .bl k, st', mTest_inv e2, fun v H1 S1 as1 R1 => ?_⟩
  cases R1.top
  exact ⟨k, rfl, q _ H1 S1 as1 (R1.drop.push (.bl _))⟩
theorem te_one {op : BoolOp} (ha : PE X a (tOf X.K B m)) : PE X (.BoolOp op [a] pos) (tOf X.K B m) := pe_one ha
theorem te_and {rest : List Expr} (ha : PE X a (tOf X.K B m1)) (hb : PE X (.BoolOp .And (b :: rest) pos) (tOf X.K B m2)) : PE X (.BoolOp .And (a :: b :: rest) pos) (tOf X.K B (mBool (mAnd (mTest m1) (mTest m2)))) :=
  (pe_and ha hb).imp fun σ H Q ⟨st, ps, S, as, R, t, st', e, q⟩ => by
    obtain ⟨b, e1, rfl⟩ := mBool_inv e
    rcases mAnd_inv e1 with ⟨s1, e2, e3⟩ | ⟨e2, rfl⟩
    · refine ⟨st, ps, S, as, R, .bl true, s1, mTest_inv e2, fun v H1 S1 as1 R1 => ?_⟩
      cases R1.top
      exact ⟨true, rfl, iteT (⟨s1, ps, S1, as1, R1.drop, .bl b, st', mTest_inv e3, q⟩)⟩
    · refine ⟨st, ps, S, as, R, .bl false, st', mTest_inv e2, fun v H1 S1 as1 R1 => ?_⟩
      cases R1.top
      exact ⟨false, rfl, iteF (q _ H1 S1 as1 (R1.drop.push (.bl _)))⟩
theorem te_or {rest : List Expr} (ha : PE X a (tOf X.K B m1)) (hb : PE X (.BoolOp .Or (b :: rest) pos) (tOf X.K B m2)) : PE X (.BoolOp .Or (a :: b :: rest) pos) (tOf X.K B (mBool (mOr (mTest m1) (mTest m2)))) :=
  (pe_or ha hb).imp fun σ H Q ⟨st, ps, S, as, R, t, st', e, q⟩ => by
    obtain ⟨b, e1, rfl⟩ := mBool_inv e
    rcases mOr_inv e1 with ⟨s1, e2, e3⟩ | ⟨e2, rfl⟩
    · refine ⟨st, ps, S, as, R, .bl false, s1, mTest_inv e2, fun v H1 S1 as1 R1 => ?_⟩
      cases R1.top
      exact ⟨false, rfl, iteF (⟨s1, ps, S1, as1, R1.drop, .bl b, st', mTest_inv e3, q⟩)⟩
    · refine ⟨st, ps, S, as, R, .bl true, st', mTest_inv e2, fun v H1 S1 as1 R1 => ?_⟩
      cases R1.top
      exact ⟨true, rfl, iteT (q _ H1 S1 as1 (R1.drop.push (.bl _)))⟩
end
end C

end

section
set_option Elab.async false
set_option linter.all false
set_option maxRecDepth 100000
set_option maxHeartbeats 4000002
set_option autoImplicit false
namespace C
open PySem PySem.Spec PyProof.Rows L2

theorem sSeq_inv {a b : S} {s s' : Sta} {fl : Flow} (h : sSeq a b s = some (fl, s')) : (∃ s1, a s = some (.next, s1) ∧ b s1 = some (fl, s')) ∨ (a s = some (fl, s') ∧ fl ≠ .next) := by
  unfold sSeq at h
  split at h
  · rename_i s1 e; exact .inl ⟨s1, e, h⟩
  · rename_i r hr; exact .inr ⟨h, fun z => by subst z; exact hr _ h⟩
theorem sRet_inv {e : M T} {s s' : Sta} {fl : Flow} (h : sRet e s = some (fl, s')) : ∃ t, e s = some (t, s') ∧ fl = .ret t := by
  unfold sRet at h
  split at h
  · rename_i t s1 e; cases h; exact ⟨t, e, rfl⟩
  · cases h
theorem sIf_inv {c : M Bool} {a b : S} {s s' : Sta} {fl : Flow} (h : sIf c a b s = some (fl, s')) : (∃ s1, c s = some (true, s1) ∧ a s1 = some (fl, s')) ∨ (∃ s1, c s = some (false, s1) ∧ b s1 = some (fl, s')) := by
  unfold sIf at h
  split at h
  · rename_i s1 e; exact .inl ⟨s1, e, h⟩
  · rename_i s1 e; exact .inr ⟨s1, e, h⟩
  · cases h
theorem sSet_inv {i : Nat} {e : M T} {s s' : Sta} {fl : Flow} (h : sSet i e s = some (fl, s')) : ∃ t s1, e s = some (t, s1) ∧ fl = .next ∧ s' = putSlot i t false s1 := by
  unfold sSet at h
  split at h
  · rename_i t s1 e; cases h; exact ⟨t, s1, e, rfl, rfl⟩
  · cases h
theorem sNew_inv {i : Nat} {e : M T} {s s' : Sta} {fl : Flow} (h : sNew i e s = some (fl, s')) : ∃ t s1, e s = some (t, s1) ∧ fl = .next ∧ s' = putSlot i t true s1 := by
  unfold sNew at h
  split at h
  · rename_i t s1 e; cases h; exact ⟨t, s1, e, rfl, rfl⟩
  · cases h
theorem sFor_inv {g : G} {it : M (List T)} {b : S} {s s' : Sta} {fl : Flow} (h : sFor g it b s = some (fl, s')) : ∃ ts s1, it s = some (ts, s1) ∧ forL g b ts s1 = some (fl, s') := by
  unfold sFor at h
  split at h
  · rename_i ts s1 e; exact ⟨ts, s1, e, h⟩
  · cases h
theorem sAppend_inv {i : Nat} {e : M T} {s s' : Sta} {fl : Flow} (h : sAppend i e s = some (fl, s')) :
    lstAt i s = true ∧ ∃ t s1 xs, e s = some (t, s1) ∧ s1.env[i]? = some (some (.lst xs, true)) ∧ xs.length < lim ∧ fl = .next ∧ s' = putSlot i (.lst (xs ++ [t])) true s1 := by
  unfold sAppend at h
  split at h
  · rename_i hd
    refine ⟨hd, ?_⟩
    split at h
    · rename_i t s1 e
      split at h
      · rename_i xs ex
        split at h
        · rename_i hl; cases h; exact ⟨t, s1, xs, e, ex, hl, rfl, rfl⟩
        · cases h
      · cases h
    · cases h
  · cases h
theorem sExtend_inv {i : Nat} {e : M T} {s s' : Sta} {fl : Flow} (h : sExtend i e s = some (fl, s')) :
    lstAt i s = true ∧ ∃ t s1 xs ys, e s = some (t, s1) ∧ seqOf t = some ys ∧ s1.env[i]? = some (some (.lst xs, true)) ∧ xs.length + ys.length < lim ∧ fl = .next ∧ s' = putSlot i (.lst (xs ++ ys)) true s1 := by
  unfold sExtend at h
  split at h
  · rename_i hd
    refine ⟨hd, ?_⟩
    split at h
    · rename_i t s1 e
      split at h
      · rename_i ys xs ey ex
        split at h
        · rename_i hl; cases h; exact ⟨t, s1, _, _, e, ey, ex, hl, rfl, rfl⟩
        · cases h
      · cases h
    · cases h
  · cases h
theorem sOwnPut_inv {i : Nat} {k v : M T} {s s' : Sta} {fl : Flow} (h : sOwnPut i k v s = some (fl, s')) :
    ∃ t s1 kt s2 kvs q, v s = some (t, s1) ∧ dicAt i s1 = true ∧ k s1 = some (kt, s2) ∧ s2.env[i]? = some (some (.dic kvs, true)) ∧ keyOf kt = some q ∧ kvs.length < lim ∧ fl = .next ∧ s' = putSlot i (.dic (dPut q t kvs)) true s2 := by
  unfold sOwnPut at h
  split at h
  · rename_i t s1 e
    split at h
    · rename_i hd
      split at h
      · rename_i kt s2 ek
        split at h
        · rename_i kvs q ex eq
          split at h
          · rename_i hl; cases h; exact ⟨t, s1, kt, s2, _, _, e, hd, ek, ex, eq, hl, rfl, rfl⟩
          · cases h
        · cases h
      · cases h
    · cases h
  · cases h
theorem sObjPut_inv {o k v : M T} {s s' : Sta} {fl : Flow} (h : sObjPut o k v s = some (fl, s')) :
    ∃ t s1 n s2 kt s3 kvs q, v s = some (t, s1) ∧ o s1 = some (.obj n, s2) ∧ k s2 = some (kt, s3) ∧ s3.sto[n]? = some (.dic kvs) ∧ keyOf kt = some q ∧ kvs.length < lim ∧ fl = .next ∧ s' = { s3 with sto := s3.sto.set n (.dic (dPut q t kvs)) } := by
  unfold sObjPut at h
  split at h
  · rename_i t s1 e
    split at h
    · rename_i n s2 eo
      split at h
      · rename_i kt s3 ek
        split at h
        · rename_i kvs q ex eq
          split at h
          · rename_i hl; cases h; exact ⟨t, s1, n, s2, kt, s3, _, _, e, eo, ek, ex, eq, hl, rfl, rfl⟩
          · cases h
        · cases h
      · cases h
    · cases h
  · cases h

/-! ### names stored -/
section
variable {K : PySem.W.Frag} {B : Bas} {st : Sta} {σ : L2.St} {H H' S S' : Hp} {ps ps2 : List (V × T)} {as as' : List Addr}
theorem Rel.pick (r : Rel K B st σ H ps S as) (h : ∀ p ∈ ps2, p ∈ ps) : Rel K B st σ H ps2 S as :=
  ⟨r.sub, r.grow, r.slots, r.apart, r.sto, fun p hp => r.pend p (h p hp), r.len⟩
theorem set_out {α : Type} {l : List α} {i : Nat} {x : α} (h : l.length ≤ i) : l.set i x = l := List.set_eq_of_length_le h
theorem Rel.put (r : Rel K B st σ H ps S as) {i : Nat} {v : V} {t : T} (h : Rep K S as v t) : Rel K B (putSlot i t false st) (σ.set i (some v)) H ps S as := by
  by_cases hi : i < st.env.length
  · have hs : i < σ.length := by rw [r.len]; exact hi
    refine ⟨r.sub, r.grow, fun j u f e => ?_, fun j k u w p ej ek sj sk => ?_, r.sto, r.pend, by show _ = (st.env.set i _).length; rw [List.length_set, List.length_set]; exact r.len⟩
    · have e : (st.env.set i (some (t, false)))[j]? = some (some (u, f)) := e
      by_cases hij : i = j
      · subst hij
        rw [List.getElem?_set_self hi] at e; cases e
        exact ⟨v, List.getElem?_set_self hs, fun _ => h, fun z => by cases z⟩
      · rw [List.getElem?_set_ne hij] at e ⊢
        exact r.slots j u f e
    · have ej : (st.env.set i (some (t, false)))[j]? = some (some (u, true)) := ej
      have ek : (st.env.set i (some (t, false)))[k]? = some (some (w, true)) := ek
      have hij : i ≠ j := fun z => by subst z; rw [List.getElem?_set_self hi] at ej; cases ej
      have hik : i ≠ k := fun z => by subst z; rw [List.getElem?_set_self hi] at ek; cases ek
      rw [List.getElem?_set_ne hij] at ej sj
      rw [List.getElem?_set_ne hik] at ek sk
      exact r.apart j k u w p ej ek sj sk
  · have e1 : putSlot i t false st = st := by unfold putSlot; rw [set_out (Nat.le_of_not_lt hi)]
    have e2 : σ.set i (some v) = σ := set_out (by rw [r.len]; exact Nat.le_of_not_lt hi)
    rw [e1, e2]; exact r
def NoSlot (st : Sta) (σ : L2.St) (p : Addr) : Prop := ∀ (j : Nat) u, st.env[j]? = some (some (u, true)) → σ[j]? = some (some (.ref p)) → False
theorem Rel.putOwn (r : Rel K B st σ H ps S as) {i : Nat} {p : Addr} {t : T} (h : OwnAt K B S as H p t) (hn : NoSlot st σ p) : Rel K B (putSlot i t true st) (σ.set i (some (.ref p))) H ps S as := by
  by_cases hi : i < st.env.length
  · have hs : i < σ.length := by rw [r.len]; exact hi
    refine ⟨r.sub, r.grow, fun j u f e => ?_, fun j k u w q ej ek sj sk => ?_, r.sto, r.pend, by show _ = (st.env.set i _).length; rw [List.length_set, List.length_set]; exact r.len⟩
    · have e : (st.env.set i (some (t, true)))[j]? = some (some (u, f)) := e
      by_cases hij : i = j
      · subst hij
        rw [List.getElem?_set_self hi] at e; cases e
        exact ⟨.ref p, List.getElem?_set_self hs, (fun z => by cases z), fun _ => ⟨p, rfl, h⟩⟩
      · rw [List.getElem?_set_ne hij] at e ⊢
        exact r.slots j u f e
    · have ej : (st.env.set i (some (t, true)))[j]? = some (some (u, true)) := ej
      have ek : (st.env.set i (some (t, true)))[k]? = some (some (w, true)) := ek
      by_cases hij : i = j
      · by_cases hik : i = k
        · rw [← hij, ← hik]
        · subst hij
          rw [List.getElem?_set_self hs] at sj; cases sj
          rw [List.getElem?_set_ne hik] at ek sk
          exact (hn k w ek sk).elim
      · rw [List.getElem?_set_ne hij] at ej sj
        by_cases hik : i = k
        · subst hik
          rw [List.getElem?_set_self hs] at sk; cases sk
          exact (hn j u ej sj).elim
        · rw [List.getElem?_set_ne hik] at ek sk
          exact r.apart j k u w q ej ek sj sk
  · have e1 : putSlot i t true st = st := by unfold putSlot; rw [set_out (Nat.le_of_not_lt hi)]
    have e2 : σ.set i (some (.ref p)) = σ := set_out (by rw [r.len]; exact Nat.le_of_not_lt hi)
    rw [e1, e2]; exact r
/-- a name's own thing changes -/
theorem Rel.turn (r : Rel K B st σ H ps S as) {i : Nat} {t t' : T} {p : Addr} {ob : HO} (e : st.env[i]? = some (some (t, true))) (hp : σ[i]? = some (some (.ref p))) (h : Own K S as (upd H p ob) p t') :
    Rel K B (putSlot i t' true st) σ (upd H p ob) ps S as := by
  obtain ⟨v, h1, _, h3⟩ := r.slots i t true e
  rw [hp] at h1; cases h1
  obtain ⟨p', ep, o⟩ := h3 rfl
  cases ep
  have hi : i < st.env.length := (List.getElem?_eq_some_iff.mp e).1
  have other : ∀ q, q ≠ p → H q = upd H p ob q := fun q n => (upd_ne n).symm
  refine ⟨fun b u q => ?_, ⟨r.grow.same, r.grow.more, fun q w a b c => ?_⟩, fun j u f ej => ?_, fun j k u w q ej ek sj sk => ?_, ⟨r.sto.len, r.sto.nd, fun n so en => ?_⟩, r.pend, by show _ = (st.env.set i _).length; rw [List.length_set]; exact r.len⟩
  · have n : b ≠ p := fun z => by subst z; rw [o.out] at q; cases q
    rw [upd_ne n]; exact r.sub _ _ q
  · obtain ⟨x, y, z⟩ := r.grow.keep q w a b c
    have n : q ≠ p := fun z => by subst z; rw [o.new] at a; cases a
    exact ⟨by rw [upd_ne n]; exact x, y, z⟩
  · have ej : (st.env.set i (some (t', true)))[j]? = some (some (u, f)) := ej
    by_cases hij : i = j
    · subst hij
      rw [List.getElem?_set_self hi] at ej; cases ej
      exact ⟨.ref p, hp, (fun z => by cases z), fun _ => ⟨p, rfl, h, o.out, o.nas, o.new⟩⟩
    · rw [List.getElem?_set_ne hij] at ej
      obtain ⟨v', a1, a2, a3⟩ := r.slots j u f ej
      refine ⟨v', a1, a2, fun z => ?_⟩
      subst z
      obtain ⟨p', rfl, o'⟩ := a3 rfl
      have n : p' ≠ p := fun z => by subst z; exact hij (r.apart i j t u p' e ej hp a1)
      exact ⟨p', rfl, o'.own.mono (Same.refl _) (other p' n), o'.out, o'.nas, o'.new⟩
  · have back : ∀ (j : Nat) u, (st.env.set i (some (t', true)))[j]? = some (some (u, true)) → ∃ u', st.env[j]? = some (some (u', true)) := fun j u ej => by
      by_cases hij : i = j
      · subst hij; exact ⟨t, e⟩
      · rw [List.getElem?_set_ne hij] at ej; exact ⟨u, ej⟩
    obtain ⟨u', ej'⟩ := back j u ej
    obtain ⟨w', ek'⟩ := back k w ek
    exact r.apart j k u' w' q ej' ek' sj sk
  · obtain ⟨a, a1, a2, a3⟩ := r.sto.at' n so en
    have n : a ≠ p := fun z => by subst z; exact o.nas (List.mem_of_getElem? a1)
    exact ⟨a, a1, a2, a3.mono (Same.refl _) (other a n)⟩
/-- an object of the store changes -/
theorem Rel.objPut (r : Rel K B st σ H ps S as) {n : Nat} {so so' : SO} {a : Addr} {ob : HO} (e : st.sto[n]? = some so) (ha : as[n]? = some a) (h : SRep K S as (upd H a ob) a so') :
    Rel K B { st with sto := st.sto.set n so' } σ (upd H a ob) ps S as := by
  have ma : a ∈ as := List.mem_of_getElem? ha
  have hn : n < st.sto.length := (List.getElem?_eq_some_iff.mp e).1
  have sa : S a = none := by
    obtain ⟨a', a1, a2, _⟩ := r.sto.at' n so e
    rw [ha] at a1; cases a1; exact a2
  have other : ∀ q, q ≠ a → H q = upd H a ob q := fun q n => (upd_ne n).symm
  refine ⟨fun b u q => ?_, ⟨r.grow.same, r.grow.more, fun q w x y z => ?_⟩, fun j u f ej => ?_, r.apart, ⟨by rw [List.length_set]; exact r.sto.len, r.sto.nd, fun k so2 en => ?_⟩, r.pend, r.len⟩
  · have n : b ≠ a := fun z => by subst z; rw [sa] at q; cases q
    rw [upd_ne n]; exact r.sub _ _ q
  · obtain ⟨x1, y1, z1⟩ := r.grow.keep q w x y z
    have n : q ≠ a := fun z => by subst z; exact z1 ma
    exact ⟨by rw [upd_ne n]; exact x1, y1, z1⟩
  · obtain ⟨v', a1, a2, a3⟩ := r.slots j u f ej
    refine ⟨v', a1, a2, fun z => ?_⟩
    obtain ⟨p', rfl, o'⟩ := a3 z
    have n : p' ≠ a := fun z => by subst z; exact o'.nas ma
    exact ⟨p', rfl, o'.own.mono (Same.refl _) (other p' n), o'.out, o'.nas, o'.new⟩
  · by_cases hk : n = k
    · subst hk
      rw [List.getElem?_set_self hn] at en; cases en
      exact ⟨a, ha, sa, h⟩
    · rw [List.getElem?_set_ne hk] at en
      obtain ⟨b, b1, b2, b3⟩ := r.sto.at' k so2 en
      have n : b ≠ a := fun z => by
        subst z
        have l1 := (List.getElem?_eq_some_iff.mp b1).1
        have l2 := (List.getElem?_eq_some_iff.mp ha).1
        exact hk ((List.getElem?_inj (i := n) (j := k) l2 r.sto.nd).mp (by rw [ha, b1]))
      exact ⟨b, b1, b2, b3.mono (Same.refl _) (other b n)⟩
end

/-! ### what a statement means -/
def Fin (K : PySem.W.Frag) (B : Bas) (D : Ends) (ps : List (V × T)) : Flow → Sta → Prop
  | .next, st' => ∀ σ' H' S' as', Rel K B st' σ' H' ps S' as' → D.nx σ' H'
  | .ret t, st' => ∀ v σ' H' S' as', Rel K B st' σ' H' ((v, t) :: ps) S' as' → D.rt v H'
  | .brk, st' => ∀ σ' H' S' as', Rel K B st' σ' H' ps S' as' → D.bk σ' H'
  | .cont, st' => ∀ σ' H' S' as', Rel K B st' σ' H' ps S' as' → D.ct σ' H'
def sOf (K : PySem.W.Frag) (B : Bas) (s : S) : TS := fun D σ H => ∃ st ps S as, Rel K B st σ H ps S as ∧ ∃ fl st', s st = some (fl, st') ∧ Fin K B D ps fl st'
def gOf (K : PySem.W.Frag) (B : Bas) (g : G) : TG := fun v σ H Q => ∃ st ps S as t, Rel K B st σ H ((v, t) :: ps) S as ∧ ∃ st', g t st = some st' ∧ ∀ σ' H' S' as', Rel K B st' σ' H' ps S' as' → Q σ' H'
/-- a new thing that nobody else has -/
def fOf (K : PySem.W.Frag) (B : Bas) (m : M T) : TE := fun σ H Q => ∃ st ps S as, Rel K B st σ H ps S as ∧ ∃ t st', m st = some (t, st') ∧
  ∀ p H' S' as', Rel K B st' σ H' ps S' as' → OwnAt K B S' as' H' p t → NoSlot st' σ p → Q (.ref p) H'
section
variable {X : Cx} {B : Bas} {a b c e : Expr} {m m1 m2 : M T} {pos : Pos} {u v : S}
theorem ts_nil : PSs X [] (sOf X.K B sNil) := pss_nil.imp fun D σ H ⟨st, ps, S, as, R, fl, st', e, q⟩ => by
  cases e; exact q σ H S as R
theorem ts_cons {st : Stmt} {rest : List Stmt} (h1 : PS X st (sOf X.K B u)) (h2 : PSs X rest (sOf X.K B v)) : PSs X (st :: rest) (sOf X.K B (sSeq u v)) := (pss_cons h1 h2).imp fun D σ H ⟨st, ps, S, as, R, fl, st', e, q⟩ => by
  rcases sSeq_inv e with ⟨s1, e1, e2⟩ | ⟨e1, hn⟩
  · exact ⟨st, ps, S, as, R, .next, s1, e1, fun σ' H' S' as' R' => ⟨s1, ps, S', as', R', fl, st', e2, q⟩⟩
  · refine ⟨st, ps, S, as, R, fl, st', e1, ?_⟩
    cases fl with
    | next => exact absurd rfl hn
    | ret t => exact q
    | brk => exact q
    | cont => exact q
theorem ts_one {st : Stmt} (h1 : PS X st (sOf X.K B u)) : PSs X [st] (sOf X.K B u) := pss_one h1
theorem ts_ret (he : PE X e (tOf X.K B m)) : PS X (.Return (some e) pos) (sOf X.K B (sRet m)) := (ps_ret he).imp fun D σ H ⟨st, ps, S, as, R, fl, st', e, q⟩ => by
  obtain ⟨t, e1, rfl⟩ := sRet_inv e
  exact ⟨st, ps, S, as, R, t, st', e1, fun v H' S' as' R' => q v σ H' S' as' R'⟩
theorem ts_if {c1 : M Bool} {sa sb : List Stmt} (hc : PT X c (cOf X.K B c1)) (ha : PSs X sa (sOf X.K B u)) (hb : PSs X sb (sOf X.K B v)) : PS X (.If c sa sb pos) (sOf X.K B (sIf c1 u v)) := (ps_if hc ha hb).imp fun D σ H ⟨st, ps, S, as, R, fl, st', e, q⟩ => by
  rcases sIf_inv e with ⟨s1, e1, e2⟩ | ⟨s1, e1, e2⟩
  · exact ⟨st, ps, S, as, R, true, s1, e1, fun H1 S1 as1 R1 => iteT ⟨s1, ps, S1, as1, R1, fl, st', e2, q⟩⟩
  · exact ⟨st, ps, S, as, R, false, s1, e1, fun H1 S1 as1 R1 => iteF ⟨s1, ps, S1, as1, R1, fl, st', e2, q⟩⟩
theorem tg_name (i : Nat) {tg : Expr} (h : PG X tg (gName i)) : PG X tg (gOf X.K B (hName i)) := fun pins s σ H x u Q I r ⟨st, ps, S, as, t, R, st', e, q⟩ => h pins s σ H x u Q I r (by
  cases e
  exact q _ H S as (R.drop.put R.top))
theorem ts_set (i : Nat) {te : TE} {s : Stmt} (h : PS X s (tAsg te (gName i))) (hm : ∀ σ H Q, tOf X.K B m σ H Q → te σ H Q) : PS X s (sOf X.K B (sSet i m)) := h.imp fun D σ H ⟨st, ps, S, as, R, fl, st', e, q⟩ => by
  obtain ⟨t, s1, e1, rfl, rfl⟩ := sSet_inv e
  exact hm σ H _ ⟨st, ps, S, as, R, t, s1, e1, fun v H' S' as' R' => q _ H' S' as' (R'.drop.put R'.top)⟩
theorem ts_new (i : Nat) {te : TE} {s : Stmt} (h : PS X s (tAsg te (gName i))) (hm : ∀ σ H Q, fOf X.K B m σ H Q → te σ H Q) : PS X s (sOf X.K B (sNew i m)) := h.imp fun D σ H ⟨st, ps, S, as, R, fl, st', e, q⟩ => by
  obtain ⟨t, s1, e1, rfl, rfl⟩ := sNew_inv e
  exact hm σ H _ ⟨st, ps, S, as, R, t, s1, e1, fun p H' S' as' R' o n => q _ H' S' as' (R'.putOwn o n)⟩
end
end C

end

section
set_option Elab.async false
set_option linter.all false
set_option maxRecDepth 100000
set_option maxHeartbeats 4000002
set_option autoImplicit false
namespace C
open PySem PySem.Spec PyProof.Rows L2

section
variable {K : PySem.W.Frag} {B : Bas} {st : Sta} {σ : L2.St} {H H' S S' : Hp} {ps ps2 : List (V × T)} {as as' : List Addr}
theorem Own.more {p : Addr} {t : T} (hs : Same S S') (x : ∃ l, as' = as ++ l) (hh : H p = H' p) (o : Own K S as H p t) : Own K S' as' H' p t := by
  cases t with
  | lst ts => obtain ⟨vs, h, r⟩ := o; exact ⟨vs, hh ▸ h, r.mono hs x⟩
  | dic ts => obtain ⟨vs, h, r⟩ := o; exact ⟨vs, hh ▸ h, r.mono hs x⟩
  | _ => exact o.elim
/-- behind a def's call -/
theorem Rel.call {sto' : List SO} (r : Rel K B st σ H ps S as) (g : Grow ⟨S, as, H⟩ S' as' H') (sub : Same S' H') (so : StoOk K S' as' H' sto') : Rel K B { st with sto := sto' } σ H' ps S' as' where
  sub := sub
  grow := by
    refine ⟨r.grow.same.trans g.same, ?_, fun p o a b c => ?_⟩
    · obtain ⟨l, e⟩ := r.grow.more
      obtain ⟨l', e'⟩ := g.more
      exact ⟨l ++ l', by rw [e', e, List.append_assoc]⟩
    · obtain ⟨x, y, z⟩ := r.grow.keep p o a b c
      exact g.keep p o x y z
  slots := fun i t f e => by
    obtain ⟨v, h1, h2, h3⟩ := r.slots i t f e
    refine ⟨v, h1, fun q => (h2 q).mono g.same g.more, fun q => ?_⟩
    obtain ⟨p, rfl, o⟩ := h3 q
    obtain ⟨ob, ho⟩ := o.own.there
    obtain ⟨x, y, z⟩ := g.keep p ob ho o.out o.nas
    exact ⟨p, rfl, o.own.more g.same g.more (by rw [ho, x]), y, z, o.new⟩
  apart := r.apart
  sto := so
  pend := fun p hp => (r.pend p hp).mono g.same g.more
  len := r.len
end

/-- a def's promise by trees -/
def spF (K : PySem.W.Frag) (ar : Nat) (F : Fn) : Sp := fun vs H Q _ => ∃ S as sto ts t sto', Same S H ∧ StoOk K S as H sto ∧ Reps K S as vs ts ∧ ts.length = ar ∧ F ts sto = some (t, sto') ∧
  ∀ v H' S' as', Grow ⟨S, as, H⟩ S' as' H' → Same S' H' → StoOk K S' as' H' sto' → Rep K S' as' v t → Q v H'

section
variable {X : Cx} {B : Bas} {a b c e : Expr} {m m1 m2 : M T} {pos p : Pos} {u v : S} {es : List Expr} {ms : M (List T)} {k : Nat} {f : Addr} {fd : FuncData} {pn : List Str} {F : Fn} {x : Str}
theorem te_call (G : FnOk X.prog X.w X.K X.mg X.base CX0 k f fd pn (spF X.K pn.length F)) (hr : Room k X.A) (hg : Gl X x) (hm : X.mg x = some (.ref f)) (hk : PySem.W.keepIn X.K (.ref f) = true) (hb : Binds X.K fd pn [])
    (ha : PA X (e :: es) (aOf X.K B ms)) (hl : ∀ st ts st', ms st = some (ts, st') → ts.length = pn.length) (hdb : (x == ("__debug__" : Str)) = false := by decide)
    (he : starEach (e :: es) X.env = (false, eval e X.env) :: starEach es X.env := by rfl) (hpl : (backTo pos (starEach es X.env)).any (·.1) = false := by rfl) :
    PE X (.Call (.Name x p) (e :: es) [] pos) (tOf X.K B (mCall F ms)) :=
  (pe_call G hr hg hm hk hb .nil pass0 ha hdb he hpl).imp fun σ H Q ⟨st, ps, S, as, R, t, st', e, q⟩ => by
    obtain ⟨ts, s1, sto, e1, e2, rfl⟩ := mCall_inv e
    refine ⟨st, ps, S, as, R, ts, s1, e1, fun vs H1 S1 as1 R1 rs => ?_⟩
    show spF X.K pn.length F (vs ++ []) H1 Q E0
    rw [List.append_nil]
    exact ⟨S1, as1, s1.sto, ts, t, sto, R1.sub, R1.sto, rs, hl _ _ _ e1, e2, fun v H2 S2 as2 g sub so r => q v H2 S2 as2 ((R1.call g sub so).push r)⟩
theorem eq_nil : ∀ st ts st', mNil st = some (ts, st') → ts.length = 0 := fun st ts st' e => by cases e; rfl
theorem eq_cons {r : M (List T)} {n : Nat} (h : ∀ st ts st', r st = some (ts, st') → ts.length = n) : ∀ st ts st', mCons m r st = some (ts, st') → ts.length = n + 1 := fun st ts st' e => by
  obtain ⟨t, s1, us, e1, e2, rfl⟩ := mCons_inv e
  exact congrArg (· + 1) (h _ _ _ e2)
end

section
variable {P : Program} {w : World} {K : PySem.W.Frag} {mg : Str → Option Value} {base : Heap}
theorem start_get {N : List Str} {vs : List V} {i : Nat} {v : V} (h : vs[i]? = some v) : (L2.start N vs)[i]? = some (some v) := by
  unfold L2.start
  have hi := (List.getElem?_eq_some_iff.mp h).1
  rw [List.getElem?_append_left (by rw [List.length_map]; exact hi), List.getElem?_map, h]; rfl
theorem rel_start {S H : Hp} {as : List Addr} {sto : List SO} {vs : List V} {ts : List T} {N : List Str} (h1 : Same S H) (h2 : StoOk K S as H sto) (h3 : Reps K S as vs ts) (hN : ts.length ≤ N.length) :
    Rel K ⟨S, as, H⟩ ⟨ts.map (fun t => some (t, false)) ++ List.replicate (N.length - ts.length) none, sto⟩ (L2.start N vs) H [] S as := by
  have key : ∀ (i : Nat) t fl, (ts.map (fun t => some (t, false)) ++ List.replicate (N.length - ts.length) (none : Slot))[i]? = some (some (t, fl)) → fl = false ∧ ts[i]? = some t := fun i t fl e => by
    by_cases hi : i < ts.length
    · rw [List.getElem?_append_left (by rw [List.length_map]; exact hi), List.getElem?_map] at e
      cases z : ts[i]? with
      | none => rw [z] at e; cases e
      | some t' => rw [z] at e; cases e; exact ⟨rfl, rfl⟩
    · rw [List.getElem?_append_right (by rw [List.length_map]; exact Nat.le_of_not_lt hi)] at e
      have := List.eq_of_mem_replicate (List.mem_of_getElem? e)
      cases this
  refine ⟨h1, ⟨Same.refl _, nol, fun p o a b c => ⟨a, b, c⟩⟩, fun i t fl e => ?_, fun i j t u p ei ej => ?_, h2, (fun p hp => by cases hp), ?_⟩
  · obtain ⟨rfl, e'⟩ := key i t fl e
    obtain ⟨v, hv, r⟩ := h3.get e'
    exact ⟨v, start_get hv, fun _ => r, fun z => by cases z⟩
  · obtain ⟨z, _⟩ := key i t true ei; cases z
  · unfold L2.start
    rw [List.length_append, List.length_append, List.length_map, List.length_map, List.length_replicate, List.length_replicate, h3.length]
/-- a def means its body -/
theorem fn_tree {x qual : Str} {st : Stmt} {f : Addr} {fd : FuncData} {N ps : List Str} {k : Nat} {b : S} (F : Fun K x qual st f fd) (Sc : FnScope N ps (defScope st)) (hN : ps.length ≤ N.length)
    (hb : ∀ (cdv : Value) (A : Around) (outer : List Env) (s : Shared) (H : Hp) (E : XK) (B : Bas), Room k (A.deeper (envOfC qual (defScope st) s.heap.objs.size f cdv)) →
      PSs (cxOf CX0 P w K mg base N qual (defScope st) f cdv A outer s H E).nox (defBody st) (sOf K B b)) : FnOk P w K mg base CX0 (k + 1) f fd ps (spF K ps.length (runFn N.length b)) := by
  refine F.ok Sc (fun vs H Q E h => ?_) fun cdv A outer s H vs Q E hr h => ?_
  · obtain ⟨S, as, sto, ts, t, sto', h1, h2, h3, h4, _⟩ := h
    rw [h3.length, h4]
  · obtain ⟨S, as, sto, ts, t, sto', h1, h2, h3, h4, h5, q⟩ := h
    refine ⟨_, hb cdv A outer s H E ⟨S, as, H⟩ hr, ?_⟩
    have lv : vs.length = ps.length := by rw [h3.length, h4]
    have R : Rel K ⟨S, as, H⟩ ⟨ts.map (fun t => some (t, false)) ++ List.replicate (N.length - ts.length) none, sto⟩ (L2.start N vs) H [] S as := rel_start h1 h2 h3 (by rw [h4]; exact hN)
    unfold runFn at h5
    split at h5
    · rename_i t' s' e
      cases h5
      exact ⟨_, [], S, as, R, .ret t, s', e, fun v σ' H' S' as' R' => q v H' S' as' R'.grow R'.sub R'.sto R'.top⟩
    · rename_i s' e
      cases h5
      exact ⟨_, [], S, as, R, .next, s', e, fun σ' H' S' as' R' => q .non H' S' as' R'.grow R'.sub R'.sto .non⟩
    · cases h5
end
end C

end

section
set_option Elab.async false
set_option linter.all false
set_option maxRecDepth 100000
set_option maxHeartbeats 4000002
set_option autoImplicit false
namespace C
open PySem PySem.Spec PyProof.Rows L2

theorem forL_inv {g : G} {b : S} {t : T} {r : List T} {s s' : Sta} {fl : Flow} (h : forL g b (t :: r) s = some (fl, s')) : ∃ s1 fb s2, g t s = some s1 ∧ b s1 = some (fb, s2) ∧
    (match fb with | .next => forL g b r s2 = some (fl, s') | .cont => forL g b r s2 = some (fl, s') | .brk => fl = .next ∧ s' = s2 | .ret v => fl = .ret v ∧ s' = s2) := by
  rw [forL] at h
  dsimp only at h
  split at h
  · rename_i s1 e1
    split at h
    · rename_i s2 e2; exact ⟨s1, .next, s2, e1, e2, h⟩
    · rename_i s2 e2; exact ⟨s1, .cont, s2, e1, e2, h⟩
    · rename_i s2 e2; cases h; exact ⟨s1, .brk, _, e1, e2, rfl, rfl⟩
    · rename_i v s2 e2; cases h; exact ⟨s1, .ret v, _, e1, e2, rfl, rfl⟩
    · cases h
  · cases h

/-! ### what is walked -/
structure ItFacts (K : PySem.W.Frag) (S : Hp) (as : List Addr) (H : Hp) (J : It) (ts : List T) : Prop where
  go : ∀ (i : Nat) t, ts[i]? = some t → J.go i H ∧ ∀ x H', J.yld i H x H' → ∃ S', Ext S H S' H' ∧ Rep K S' as x t
  stop : ∀ i, ts.length ≤ i → J.stop i H
def iOf (K : PySem.W.Frag) (B : Bas) (m : M (List T)) : TI := fun σ H R => ∃ st ps S as, Rel K B st σ H ps S as ∧ ∃ ts st', m st = some (ts, st') ∧ ts.length ≤ sizeLine ∧
  ∀ J H' S' as' ps', Rel K B st' σ H' (ps' ++ ps) S' as' → (∀ S as H, (∀ p ∈ ps', Rep K S as p.1 p.2) → Same S H → ItFacts K S as H J ts) → R J H'
section
variable {X : Cx} {tg l : Expr} {tl : TE}
def iSq (K : PySem.W.Frag) (tl : TE) : TI := fun σ H R => tl σ H fun x H1 => ∃ a, x = .ref a ∧ (((∃ xs, SqL K H1 a xs) ∧ R (Itl K a) H1) ∨ ((∃ xs, SqT K H1 a xs) ∧ R (Itt K a) H1))
theorem pi_sq (hl : PE X l tl) : PI X tg l (iSq X.K tl) := by
  intro pins s σ H R I h
  refine thn (hl pins s σ H _ I h) fun v s1 ⟨x, H1, I1, r1, q1⟩ => ?_
  obtain ⟨a, e, q⟩ := q1
  subst e
  cases r1
  rcases q with ⟨⟨xs, hq⟩, q⟩ | ⟨⟨xs, hq⟩, q⟩
  · obtain ⟨its, rv, p, hz⟩ := I1.list hq
    refine wpAny_pyIter_list p.isList ?_
    refine ⟨s1.heap.objs.size, [s1.heap.objs.size], _, _, H1, rfl, I1.kept (t' := s1.toks) fun b o e => Heap.get?_push_of_some _ e, turn_list a _, ⟨_, Heap.get?_push_size _ rfl, rfl, rfl⟩, fun b hb => ?_, q⟩
    have e : b = s1.heap.objs.size := by simpa using hb
    subst e
    exact I1.fpOk (Nat.le_refl _) (I1.hok.fresh (Nat.le_refl _))
  · obtain ⟨its, rv, p, hz⟩ := I1.tuple hq
    refine wpAny_pyIter_tuple (show s1.heap.IsTuple a its.toArray from p) ?_
    refine ⟨s1.heap.objs.size, [s1.heap.objs.size], _, _, H1, rfl, I1.kept (t' := s1.toks) fun b o e => Heap.get?_push_of_some _ e, turn_tuple a _, ⟨_, Heap.get?_push_size _ rfl, rfl, rfl⟩, fun b hb => ?_, q⟩
    have e : b = s1.heap.objs.size := by simpa using hb
    subst e
    exact I1.fpOk (Nat.le_refl _) (I1.hok.fresh (Nat.le_refl _))
end
section
variable {X : Cx} {B : Bas} {a b c e tg iter : Expr} {m m1 m2 : M T} {pos p : Pos} {u v : S} {g : G} {it : M (List T)} {body : List Stmt}
theorem itL {K : PySem.W.Frag} {S : Hp} {as : List Addr} {H : Hp} {p : Addr} {vs : List V} {ts : List T} (sub : Same S H) (h : SqL K H p vs) (r : Reps K S as vs ts) : ItFacts K S as H (Itl K p) ts where
  go := fun i t e => by
    obtain ⟨v, hv, rv⟩ := r.get e
    exact ⟨⟨vs, v, h, hv⟩, fun x H' y => ⟨S, by rw [y.1]; exact Ext.refl sub, by have := y.2 vs h; rw [hv] at this; cases this; exact rv⟩⟩
  stop := fun i hi => ⟨vs, h, by rw [r.length]; exact hi⟩
theorem itT {K : PySem.W.Frag} {S : Hp} {as : List Addr} {H : Hp} {p : Addr} {vs : List V} {ts : List T} (sub : Same S H) (h : SqT K H p vs) (r : Reps K S as vs ts) : ItFacts K S as H (Itt K p) ts where
  go := fun i t e => by
    obtain ⟨v, hv, rv⟩ := r.get e
    exact ⟨⟨vs, v, h, hv⟩, fun x H' y => ⟨S, by rw [y.1]; exact Ext.refl sub, by have := y.2 vs h; rw [hv] at this; cases this; exact rv⟩⟩
  stop := fun i hi => ⟨vs, h, by rw [r.length]; exact hi⟩
theorem lim_line : lim ≤ sizeLine := by rw [sizeLine_eq]; decide
theorem ti_seq (h : PE X iter (tOf X.K B m)) : PI X tg iter (iOf X.K B (iSeq m)) := by
  intro pins s σ H R I hw
  refine pi_sq h pins s σ H R I ?_
  obtain ⟨st, ps, S, as, Rl, ts, st', e, hz, q⟩ := hw
  unfold iSeq at e
  split at e
  · rename_i xs s1 e1
    split at e
    · rename_i hl
      cases e
      refine ⟨st, ps, S, as, Rl, _, _, e1, fun v H1 S1 as1 R1 => ?_⟩
      have top := R1.top
      cases top with
      | @lst a vs _ hs hr =>
        refine ⟨a, rfl, .inl ⟨⟨vs, sqL_mono R1.sub hs⟩, q _ H1 S1 as1 [(.ref a, .lst _)] R1 fun S2 as2 H2 hp hh => ?_⟩⟩
        have := hp _ List.mem_cons_self
        cases this with
        | @lst _ vs2 _ hs2 hr2 => exact itL hh (sqL_mono hh hs2) hr2
    · cases e
  · rename_i xs s1 e1
    split at e
    · rename_i hl
      cases e
      refine ⟨st, ps, S, as, Rl, _, _, e1, fun v H1 S1 as1 R1 => ?_⟩
      have top := R1.top
      cases top with
      | @tup a vs _ hs hr =>
        refine ⟨a, rfl, .inr ⟨⟨vs, sqT_mono R1.sub hs⟩, q _ H1 S1 as1 [(.ref a, .tup _)] R1 fun S2 as2 H2 hp hh => ?_⟩⟩
        have := hp _ List.mem_cons_self
        cases this with
        | @tup _ vs2 _ hs2 hr2 => exact itT hh (sqT_mono hh hs2) hr2
    · cases e
  · cases e

theorem iRange_inv {a : M T} {ts : List T} {s s' : Sta} (h : iRange a s = some (ts, s')) : ∃ n : Int, a s = some (.int n, s') ∧ (-1000000 < n ∧ n < 1000000) ∧ ts = rangeT n.toNat := by
  unfold iRange at h
  split at h
  · rename_i n s1 e
    split at h
    · rename_i hl; cases h; exact ⟨n, e, by have : n.natAbs < 1000000 := hl; omega, rfl⟩
    · cases h
  · cases h
theorem rangeT_get {n i : Nat} {t : T} (h : (rangeT n)[i]? = some t) : i < n ∧ t = .int (i : Int) := by
  unfold rangeT at h
  rw [List.getElem?_map] at h
  cases z : (List.range n)[i]? with
  | none => rw [z] at h; cases h
  | some k =>
    rw [z] at h; cases h
    obtain ⟨hi, e⟩ := List.getElem?_eq_some_iff.mp z
    rw [List.getElem_range] at e; subst e
    rw [List.length_range] at hi
    exact ⟨hi, rfl⟩
theorem ti_range (hg : Gl X "range") (hm : X.mg "range" = none) (h : PE X a (tOf X.K B m)) (hs : starEach [a] X.env = [(false, eval a X.env)] := by rfl) : PI X tg (.Call (.Name "range" p) [a] [] pos) (iOf X.K B (iRange m)) := by
  intro pins s σ H R I hw
  refine pi_range1 (ta := tCons (tOf X.K B m) tNil) hg hm (pa_cons h pa_nil hs) hs pins s σ H R I ?_
  obtain ⟨st, ps, S, as, Rl, ts, st', e, hz, q⟩ := hw
  obtain ⟨n, e1, hl, rfl⟩ := iRange_inv e
  refine ⟨st, ps, S, as, Rl, _, _, e1, fun v H1 S1 as1 R1 => ?_⟩
  cases R1.top
  refine ⟨n, rfl, by omega, by omega, q _ H1 S1 as1 [] R1.drop fun S2 as2 H2 _ hh => ⟨fun i t e => ?_, fun i hi => ?_⟩⟩
  · obtain ⟨hi, rfl⟩ := rangeT_get e
    refine ⟨hi, fun x H' y => ⟨S2, by rw [y.1]; exact Ext.refl hh, ?_⟩⟩
    have := y.2; subst this
    rw [Int.zero_add]; exact .int _
  · show n.toNat ≤ i
    unfold rangeT at hi
    rwa [List.length_map, List.length_range] at hi
theorem ts_for (hp : PassesOwn (model X.prog X.w) X.A X.env X.xe) (hc : X.calm = true) (hi : PI X tg iter (iOf X.K B it)) (hg : PG X tg (gOf X.K B g)) (hb : PSs X body (sOf X.K B u)) (hsz : ∀ st ts st', it st = some (ts, st') → ts.length ≤ sizeLine)
    (hs : ∀ x, foldedSetIterable iter X.env x = pure x := by intro _; rfl) : PS X (.For tg iter body [] pos) (sOf X.K B (sFor g it u)) := (ps_for hp hc hi hg hb hs).imp fun D σ H ⟨st, ps, S, as, R, fl, st', e, q⟩ => by
  obtain ⟨ts, s1, e1, e2⟩ := sFor_inv e
  refine ⟨st, ps, S, as, R, ts, s1, e1, hsz _ _ _ e1, fun J H1 S1 as1 ps' R1 facts => ?_⟩
  refine ⟨fun i m σ H => m = ts.length - i ∧ i ≤ ts.length ∧ ∃ sti Si asi, Rel X.K B sti σ H (ps' ++ ps) Si asi ∧ forL g u (ts.drop i) sti = some (fl, st'), ⟨ts.length, by simp, Nat.zero_le _, s1, S1, as1, R1, by simpa using e2⟩, ?_⟩
  rintro i m σ2 H2 ⟨rfl, hi, sti, Si, asi, Ri, ei⟩
  have F := facts Si asi H2 (fun p hp => Ri.pend p (List.mem_append_left _ hp)) Ri.sub
  have sub : ∀ p ∈ ps, p ∈ ps' ++ ps := fun p hp => List.mem_append_right _ hp
  by_cases hlt : i < ts.length
  · rw [List.drop_eq_getElem_cons hlt] at ei
    obtain ⟨s2, fb, s3, eg, eb, er⟩ := forL_inv ei
    have ht : ts[i]? = some ts[i] := List.getElem?_eq_getElem hlt
    refine .inr ⟨(F.go i _ ht).1, fun σ' H' => ∃ sti Si asi, Rel X.K B sti σ' H' (ps' ++ ps) Si asi ∧ forL g u (ts.drop (i + 1)) sti = some (fl, st'), fun σ' H' h => ⟨ts.length - (i + 1), by omega, rfl, hlt, h⟩, fun x H' y => ?_⟩
    obtain ⟨S', ex, rx⟩ := (F.go i _ ht).2 x H' y
    refine ⟨sti, ps' ++ ps, S', asi, _, (Ri.ext ex).push rx, s2, eg, fun σ3 H3 S3 as3 R3 => ⟨s2, ps' ++ ps, S3, as3, R3, fb, s3, eb, ?_⟩⟩
    cases fb with
    | next => exact fun σ' H' S' as' R' => ⟨s3, S', as', R', er⟩
    | cont => exact fun σ' H' S' as' R' => ⟨s3, S', as', R', er⟩
    | brk =>
      obtain ⟨rfl, rfl⟩ := er
      exact fun σ' H' S' as' R' => q σ' H' S' as' (R'.pick sub)
    | ret v =>
      obtain ⟨rfl, rfl⟩ := er
      exact fun v σ' H' S' as' R' => q v σ' H' S' as' (R'.pick fun p hp => by
        rcases List.mem_cons.mp hp with rfl | z
        · exact List.mem_cons_self
        · exact List.mem_cons_of_mem _ (sub p z))
  · have hie : i = ts.length := by omega
    subst hie
    rw [List.drop_length] at ei
    cases ei
    exact .inl ⟨F.stop _ (Nat.le_refl _), q σ2 H2 Si asi (Ri.pick sub)⟩
end
end C

end

section
set_option Elab.async false
set_option linter.all false
set_option maxRecDepth 100000
set_option maxHeartbeats 4000002
set_option autoImplicit false
namespace C
open PySem PySem.Spec PyProof.Rows L2

section
variable {K : PySem.W.Frag} {B : Bas} {st : Sta} {σ : L2.St} {H H' S S' : Hp} {ps ps2 : List (V × T)} {as as' : List Addr}
theorem Rel.freeze1 (r : Rel K B st σ H ps S as) {i : Nat} {t : T} (e : st.env[i]? = some (some (t, true))) : ∃ S', Rel K B { st with env := st.env.set i (some (t, false)) } σ H ps S' as := by
  obtain ⟨v, S', _, R⟩ := r.freeze e
  exact ⟨S', R.drop⟩
theorem Rel.freezeAt : ∀ (cap : List Nat) {st : Sta} {S : Hp}, Rel K B st σ H ps S as → ∃ S', Rel K B { st with env := freezeAt cap st.env } σ H ps S' as
  | [], st, S, r => ⟨S, r⟩
  | i :: l, st, S, r => by
    unfold C.freezeAt
    rw [List.foldl_cons]
    split
    · rename_i t f e
      cases f with
      | true =>
        obtain ⟨S1, R1⟩ := r.freeze1 e
        exact Rel.freezeAt l R1
      | false =>
        have e2 : st.env.set i (some (t, false)) = st.env := by
          apply List.ext_getElem?
          intro j
          by_cases hij : i = j
          · subst hij
            rw [List.getElem?_set_self (List.getElem?_eq_some_iff.mp e).1, e]
          · rw [List.getElem?_set_ne hij]
        rw [e2]
        exact Rel.freezeAt l r
    · exact Rel.freezeAt l r
/-- one place after the other -/
def thawN (env : List Slot) : Nat → List Slot
  | 0 => env
  | n + 1 => match (thawN env n)[n]? with
    | some (some (t, _)) => (thawN env n).set n (some (t, false))
    | _ => thawN env n
theorem thawN_len (env : List Slot) : ∀ n, (thawN env n).length = env.length
  | 0 => rfl
  | n + 1 => by
    rw [thawN]
    split
    · rw [List.length_set]; exact thawN_len env n
    · exact thawN_len env n
theorem thawN_get (env : List Slot) : ∀ (n j : Nat), (thawN env n)[j]? = if j < n then (env[j]?).map thaw else env[j]?
  | 0, j => by rw [if_neg (Nat.not_lt_zero _)]; rfl
  | n + 1, j => by
    have ihn := thawN_get env n n
    rw [if_neg (Nat.lt_irrefl _)] at ihn
    have ihj := thawN_get env n j
    rw [thawN, ihn]
    by_cases hj : j = n
    · subst hj
      rw [if_pos (Nat.lt_succ_self _)]
      cases z : env[j]? with
      | none => simp only [z, Option.map_none]; rw [ihn, z]
      | some s =>
        have hl : j < (thawN env j).length := by rw [thawN_len]; exact (List.getElem?_eq_some_iff.mp z).1
        cases s with
        | none => simp only [Option.map_some]; rw [ihn, z]; rfl
        | some p => obtain ⟨t, f⟩ := p; simp only [Option.map_some]; rw [List.getElem?_set_self hl]; rfl
    · have e1 : (if j < n + 1 then (env[j]?).map thaw else env[j]?) = (if j < n then (env[j]?).map thaw else env[j]?) := by
        by_cases hlt : j < n
        · rw [if_pos hlt, if_pos (Nat.lt_succ_of_lt hlt)]
        · rw [if_neg hlt, if_neg (by omega)]
      rw [e1, ← ihj]
      split
      · rw [List.getElem?_set_ne (Ne.symm hj)]
      · rfl
theorem thawN_all (env : List Slot) : thawN env env.length = env.map thaw := by
  apply List.ext_getElem?
  intro j
  rw [thawN_get, List.getElem?_map]
  by_cases hj : j < env.length
  · rw [if_pos hj]
  · rw [if_neg hj, List.getElem?_eq_none (Nat.le_of_not_lt hj)]; rfl
theorem Rel.thawN (r : Rel K B st σ H ps S as) : ∀ n, ∃ S', Rel K B { st with env := C.thawN st.env n } σ H ps S' as
  | 0 => ⟨S, r⟩
  | n + 1 => by
    obtain ⟨S1, R1⟩ := Rel.thawN r n
    rw [C.thawN]
    split
    · rename_i t f e
      cases f with
      | true => exact R1.freeze1 e
      | false =>
        have e2 : (C.thawN st.env n).set n (some (t, false)) = C.thawN st.env n := by
          apply List.ext_getElem?
          intro j
          by_cases hij : n = j
          · subst hij
            rw [List.getElem?_set_self (List.getElem?_eq_some_iff.mp e).1, e]
          · rw [List.getElem?_set_ne hij]
        rw [e2]
        exact ⟨S1, R1⟩
    · exact ⟨S1, R1⟩
theorem Rel.freezeAll (r : Rel K B st σ H ps S as) : ∃ S', Rel K B (freezeAll st) σ H ps S' as := by
  obtain ⟨S', R⟩ := r.thawN st.env.length
  rw [thawN_all] at R
  exact ⟨S', R⟩
def NoOwn (st : Sta) : Prop := ∀ (i : Nat) t, st.env[i]? ≠ some (some (t, true))
theorem noOwn_freeze (st : Sta) : NoOwn (C.freezeAll st) := fun i t e => by
  unfold C.freezeAll at e
  rw [List.getElem?_map] at e
  cases z : st.env[i]? with
  | none => rw [z] at e; cases e
  | some s =>
    rw [z] at e
    cases s with
    | none => cases e
    | some p => obtain ⟨t, f⟩ := p; cases e
theorem Rel.rebase (r : Rel K B st σ H ps S as) (n : NoOwn st) : Rel K ⟨S, as, H⟩ st σ H ps S as :=
  ⟨r.sub, ⟨Same.refl _, nol, fun p o a b c => ⟨a, b, c⟩⟩, fun i t f e => by
    obtain ⟨v, h1, h2, _⟩ := r.slots i t f e
    exact ⟨v, h1, h2, fun z => by subst z; exact absurd e (n i t)⟩, r.apart, r.sto, r.pend, r.len⟩
end

theorem compL_inv {g : G} {c : M Bool} {e : M T} {t : T} {r acc us : List T} {s s' : Sta} (h : compL g c e (t :: r) s acc = some (us, s')) : ∃ s1 b s2, g t s = some s1 ∧ c s1 = some (b, s2) ∧
    ((b = true ∧ ∃ u s3, e s2 = some (u, s3) ∧ acc.length < lim ∧ compL g c e r (freezeAll s3) (acc ++ [u]) = some (us, s')) ∨ (b = false ∧ compL g c e r (freezeAll s2) acc = some (us, s'))) := by
  rw [compL] at h
  split at h
  · rename_i s1 e1
    split at h
    · rename_i s2 e2
      split at h
      · rename_i u s3 e3
        split at h
        · rename_i hl; exact ⟨s1, true, s2, e1, e2, .inl ⟨rfl, u, s3, e3, hl, h⟩⟩
        · cases h
      · cases h
    · rename_i s2 e2; exact ⟨s1, false, s2, e1, e2, .inr ⟨rfl, h⟩⟩
    · cases h
  · cases h
theorem mComp_inv {nv : Nat} {cap : List Nat} {g : G} {it : M (List T)} {c : M Bool} {e : M T} {s s' : Sta} {v : T} (h : mComp nv cap g it c e s = some (v, s')) : ∃ ts s1 us s2, it s = some (ts, s1) ∧
    compL g c e ts ⟨List.replicate nv none ++ cap.map (fun i => ((freezeAt cap s1.env)[i]?).getD none), s1.sto⟩ [] = some (us, s2) ∧ v = .lst us ∧ s' = ⟨freezeAt cap s1.env, s2.sto⟩ := by
  unfold mComp at h
  split at h
  · rename_i ts s1 e1
    dsimp only at h
    split at h
    · rename_i us s2 e2; cases h; exact ⟨ts, s1, us, s2, e1, e2, rfl, rfl⟩
    · cases h
  · cases h

section
variable {K : PySem.W.Frag} {B : Bas} {st : Sta} {σ : L2.St} {H H' S S' : Hp} {ps ps2 : List (V × T)} {as as' : List Addr} {D : Addr} {ob : HO}
theorem StoOk.mem {sto : List SO} (r : StoOk K S as H sto) {a : Addr} (h : a ∈ as) : ∃ o, H a = some o := by
  obtain ⟨n, hn⟩ := List.getElem?_of_mem h
  have hl := (List.getElem?_eq_some_iff.mp hn).1
  rw [r.len] at hl
  obtain ⟨a', h1, h2, h3⟩ := r.at' n _ (List.getElem?_eq_getElem hl)
  rw [hn] at h1; cases h1
  exact h3.there
theorem Rel.fresh (r : Rel K B st σ H ps S as) (h : H D = none) : B.H D = none ∧ S D = none ∧ D ∉ as ∧ NoSlot st σ D := by
  have sD : S D = none := r.sub.free h
  have nD : D ∉ as := fun z => by obtain ⟨o, e⟩ := r.sto.mem z; rw [h] at e; cases e
  refine ⟨?_, sD, nD, fun j u e1 e2 => ?_⟩
  · cases q : B.H D with
    | none => rfl
    | some o =>
      have b1 : B.S D = none := by
        cases z : B.S D with
        | none => rfl
        | some u => have := r.grow.same _ _ z; rw [sD] at this; cases this
      have b2 : D ∉ B.as := fun z => by obtain ⟨l, e⟩ := r.grow.more; exact nD (by rw [e]; exact List.mem_append_left _ z)
      have := (r.grow.keep D o q b1 b2).1
      rw [h] at this; cases this
  · obtain ⟨v, h1, _, h3⟩ := r.slots j u true e1
    rw [e2] at h1; cases h1
    obtain ⟨p, ep, o⟩ := h3 rfl
    cases ep
    obtain ⟨ob, ho⟩ := o.own.there
    rw [h] at ho; cases ho
theorem Rel.poke (r : Rel K B st σ H ps S as) (bD : B.H D = none) (sD : S D = none) (nD : D ∉ as) (no : NoSlot st σ D) : Rel K B st σ (upd H D ob) ps S as := by
  have ne : ∀ b u, S b = some u → b ≠ D := fun b u e z => by subst z; rw [sD] at e; cases e
  refine ⟨fun b u e => by rw [upd_ne (ne b u e)]; exact r.sub _ _ e, ⟨r.grow.same, r.grow.more, fun p o x y z => ?_⟩, fun i t f e => ?_, r.apart, ⟨r.sto.len, r.sto.nd, fun n so e => ?_⟩, r.pend, r.len⟩
  · obtain ⟨a, b, c⟩ := r.grow.keep p o x y z
    exact ⟨by rw [upd_ne (fun w => by subst w; rw [bD] at x; cases x)]; exact a, b, c⟩
  · obtain ⟨v, h1, h2, h3⟩ := r.slots i t f e
    refine ⟨v, h1, h2, fun z => ?_⟩
    obtain ⟨p, rfl, o⟩ := h3 z
    have n : p ≠ D := fun w => by subst w; subst z; exact no i t e h1
    exact ⟨p, rfl, o.own.mono (Same.refl _) (upd_ne n).symm, o.out, o.nas, o.new⟩
  · obtain ⟨a, h1, h2, h3⟩ := r.sto.at' n so e
    exact ⟨a, h1, h2, h3.mono (Same.refl _) (upd_ne (fun w => by subst w; exact nD (List.mem_of_getElem? h1))).symm⟩
theorem Rel.poke0 (r : Rel K B st σ H ps S as) (no : NoOwn st) (sD : S D = none) (nD : D ∉ as) : Rel K ⟨S, as, upd H D ob⟩ st σ (upd H D ob) ps S as := by
  have ne : ∀ b u, S b = some u → b ≠ D := fun b u e z => by subst z; rw [sD] at e; cases e
  refine ⟨fun b u e => by rw [upd_ne (ne b u e)]; exact r.sub _ _ e, ⟨Same.refl _, nol, fun p o x y z => ⟨x, y, z⟩⟩, fun i t f e => ?_, r.apart, ⟨r.sto.len, r.sto.nd, fun n so e => ?_⟩, r.pend, r.len⟩
  · obtain ⟨v, h1, h2, _⟩ := r.slots i t f e
    exact ⟨v, h1, h2, fun z => by subst z; exact absurd e (no i t)⟩
  · obtain ⟨a, h1, h2, h3⟩ := r.sto.at' n so e
    exact ⟨a, h1, h2, h3.mono (Same.refl _) (upd_ne (fun w => by subst w; exact nD (List.mem_of_getElem? h1))).symm⟩
end
theorem freezeAt_len : ∀ (cap : List Nat) (env : List Slot), (freezeAt cap env).length = env.length
  | [], env => rfl
  | i :: l, env => by
    have h : freezeAt (i :: l) env = freezeAt l (match env[i]? with | some (some (t, _)) => env.set i (some (t, false)) | _ => env) := rfl
    rw [h, freezeAt_len l]
    split
    · rw [List.length_set]
    · rfl
theorem freezeAt_keep : ∀ (cap : List Nat) (env : List Slot) (k : Nat), (∀ t, env[k]? ≠ some (some (t, true))) → ∀ t, (freezeAt cap env)[k]? ≠ some (some (t, true))
  | [], env, k, h => h
  | i :: l, env, k, h => by
    have e : freezeAt (i :: l) env = freezeAt l (match env[i]? with | some (some (t, _)) => env.set i (some (t, false)) | _ => env) := rfl
    rw [e]
    refine freezeAt_keep l _ k fun t => ?_
    split
    · rename_i t' f e'
      by_cases hk : i = k
      · subst hk
        rw [List.getElem?_set_self (List.getElem?_eq_some_iff.mp e').1]
        intro z; cases z
      · rw [List.getElem?_set_ne hk]; exact h t
    · exact h t
theorem freezeAt_no : ∀ (cap : List Nat) (env : List Slot) (k : Nat), k ∈ cap → ∀ t, (freezeAt cap env)[k]? ≠ some (some (t, true))
  | [], env, k, h => by simp at h
  | i :: l, env, k, h => by
    have e : freezeAt (i :: l) env = freezeAt l (match env[i]? with | some (some (t, _)) => env.set i (some (t, false)) | _ => env) := rfl
    rw [e]
    rcases List.mem_cons.mp h with rfl | h' -- here
    · refine freezeAt_keep l _ k fun t => ?_
      split
      · rename_i t' f e'
        rw [List.getElem?_set_self (List.getElem?_eq_some_iff.mp e').1]
        intro z; cases z
      · rename_i hx
        intro z
        exact hx _ _ z
    · exact freezeAt_no l _ k h'

def gE (K : PySem.W.Frag) (g : G) : TG := fun v σ H Q => ∃ B, gOf K B g v σ H Q
def cE (K : PySem.W.Frag) (c : M Bool) : TT := fun σ H Q => ∃ B, cOf K B c σ H Q
def eE (K : PySem.W.Frag) (e : M T) : TE := fun σ H Q => ∃ B, tOf K B e σ H Q
theorem pgE {X : Cx} {tg : Expr} {g : G} (h : ∀ B, PG X tg (gOf X.K B g)) : PG X tg (gE X.K g) := fun pins s σ H x u Q I r ⟨B, q⟩ => h B pins s σ H x u Q I r q
theorem ptE {X : Cx} {e : Expr} {c : M Bool} (h : ∀ B, PT X e (cOf X.K B c)) : PT X e (cE X.K c) := fun pins s σ H Q I ⟨B, q⟩ => h B pins s σ H Q I q
theorem peE {X : Cx} {e : Expr} {m : M T} (h : ∀ B, PE X e (tOf X.K B m)) : PE X e (eE X.K m) := fun pins s σ H Q I ⟨B, q⟩ => h B pins s σ H Q I q
theorem ptsE_nil {X : Cx} : PTs X [] (cE X.K mTrue) := fun pins s σ H Q I ⟨B, st, ps, S, as, R, b, st', e, q⟩ => by
  cases e
  exact pts_nil pins s σ H Q I (q H S as R)
theorem ptsE_one {X : Cx} {e : Expr} {c : M Bool} (h : ∀ B, PT X e (cOf X.K B c)) : PTs X [e] (cE X.K c) := pts_one (ptE h)

section
variable {X : Cx} {scope : Scope} {N : List Str}
theorem comp_core {B : Bas} {nv : Nat} {cap : List Nat} {g : G} {c : M Bool} {e : M T} {ts us : List T} {env : List Slot} {sto1 : List SO} {s2 : Sta} {σ : L2.St} {H1 S1 : Hp} {as1 : List Addr} {ps ps' : List (V × T)} {J : It} {Q : VK}
    (hN : N.length = nv + cap.length) (hv : ∀ i x, i < nv → N[i]? = some x → True)
    (hcap : ∀ (j k : Nat), cap[j]? = some k → ∃ x, N[nv + j]? = some x ∧ X.N[k]? = some x ∧ CapK X scope x)
    (R1 : Rel X.K B ⟨env, sto1⟩ σ H1 (ps' ++ ps) S1 as1) (hno : ∀ k ∈ cap, ∀ t, env[k]? ≠ some (some (t, true)))
    (facts : ∀ S as H, (∀ p ∈ ps', Rep X.K S as p.1 p.2) → Same S H → ItFacts X.K S as H J ts)
    (hc : compL g c e ts ⟨List.replicate nv none ++ cap.map (fun i => (env[i]?).getD none), sto1⟩ [] = some (us, s2))
    (fin : ∀ D H' S' as', Rel X.K B ⟨env, s2.sto⟩ σ H' (ps' ++ ps) S' as' → OwnAt X.K B S' as' H' D (.lst us) → NoSlot ⟨env, s2.sto⟩ σ D → Q (.ref D) H') :
    tCompIn X scope N (gE X.K g) (cE X.K c) (eE X.K e) σ J H1 Q := by
  intro D hD
  obtain ⟨bD, sD1, nD1, noD⟩ := R1.fresh hD
  have capg : ∀ (i : Nat) s, (List.replicate nv (none : Slot) ++ cap.map (fun i => (env[i]?).getD none))[i]? = some (some s) → ∃ j k, i = nv + j ∧ cap[j]? = some k ∧ env[k]? = some (some s) := fun i s h => by
    by_cases hi : i < nv
    · rw [List.getElem?_append_left (by rw [List.length_replicate]; exact hi)] at h
      have := List.eq_of_mem_replicate (List.mem_of_getElem? h); cases this
    · rw [List.getElem?_append_right (by rw [List.length_replicate]; exact Nat.le_of_not_lt hi), List.length_replicate, List.getElem?_map] at h
      cases z : cap[i - nv]? with
      | none => rw [z] at h; cases h
      | some k =>
        rw [z] at h
        refine ⟨i - nv, k, by omega, z, ?_⟩
        cases w : env[k]? with
        | none => simp [w] at h
        | some s' => simp [w] at h; rw [h]
  have sig : ∀ (j k : Nat) v, cap[j]? = some k → σ[k]? = some (some v) → (List.replicate nv (none : Option V) ++ cap.map (fun i => (σ[i]?).getD none))[nv + j]? = some (some v) := fun j k v h1 h2 => by
    rw [List.getElem?_append_right (by rw [List.length_replicate]; omega), List.length_replicate, Nat.add_sub_cancel_left, List.getElem?_map, h1]
    simp [h2]
  refine ⟨List.replicate nv none ++ cap.map (fun i => (σ[i]?).getD none), by rw [List.length_append, List.length_replicate, List.length_map, hN], fun i v x h1 h2 _ => ?_, ?_⟩
  · by_cases hi : i < nv
    · rw [List.getElem?_append_left (by rw [List.length_replicate]; exact hi)] at h1
      have := List.eq_of_mem_replicate (List.mem_of_getElem? h1); cases this
    · rw [List.getElem?_append_right (by rw [List.length_replicate]; exact Nat.le_of_not_lt hi), List.length_replicate, List.getElem?_map] at h1
      cases z : cap[i - nv]? with
      | none => rw [z] at h1; cases h1
      | some k =>
        rw [z] at h1
        obtain ⟨y, n1, n2, ck⟩ := hcap _ _ z
        have e : nv + (i - nv) = i := by omega
        rw [e, h2] at n1; cases n1
        refine ⟨k, n2, ?_, ck⟩
        cases w : σ[k]? with
        | none => simp [w] at h1
        | some s' => simp [w] at h1; rw [h1]
  refine ⟨fun i m σ' H' => m = ts.length - i ∧ i ≤ ts.length ∧ ∃ sti Si asi acc accv, Rel X.K ⟨Si, asi, H'⟩ sti σ' H' [] Si asi ∧ NoOwn sti ∧ Rel X.K B ⟨env, sti.sto⟩ σ H' (ps' ++ ps) Si asi ∧ H' D = some (.lst accv) ∧ Si D = none ∧ D ∉ asi ∧
    Reps X.K Si asi accv acc ∧ compL g c e (ts.drop i) sti acc = some (us, s2), ⟨ts.length, by simp, Nat.zero_le _, _, S1, as1, [], [], ?_, ?_, ?_, upd_same, sD1, nD1, .nil, hc⟩, ?_⟩
  · refine Rel.poke0 (B := B) (H := H1) ⟨R1.sub, R1.grow, fun i t f h => ?_, fun i j t u p hi hj => ?_, R1.sto, (fun p hp => by cases hp), ?_⟩ (fun i t h => ?_) sD1 nD1
    · obtain ⟨j, k, rfl, hk, ek⟩ := capg i _ h
      obtain ⟨v, h1, h2, h3⟩ := R1.slots k t f ek
      exact ⟨v, sig j k v hk h1, h2, h3⟩
    · obtain ⟨j, k, rfl, hk, ek⟩ := capg i _ hi
      exact absurd ek (hno k (List.mem_of_getElem? hk) t)
    · show (List.replicate nv (none : Option V) ++ cap.map _).length = (List.replicate nv (none : Slot) ++ cap.map _).length
      rw [List.length_append, List.length_append, List.length_replicate, List.length_replicate, List.length_map, List.length_map]
    · obtain ⟨j, k, rfl, hk, ek⟩ := capg i _ h
      exact absurd ek (hno k (List.mem_of_getElem? hk) t)
  · intro i t h
    obtain ⟨j, k, rfl, hk, ek⟩ := capg i _ h
    exact absurd ek (hno k (List.mem_of_getElem? hk) t)
  · exact R1.poke bD sD1 nD1 noD
  rintro i m σ' H' ⟨rfl, hi, sti, Si, asi, acc, accv, Ri, no, Ro, hD', sD, nD, rA, ei⟩
  have F := facts Si asi H' (fun p hp => Ro.pend p (List.mem_append_left _ hp)) Ri.sub
  by_cases hlt : i < ts.length
  · rw [List.drop_eq_getElem_cons hlt] at ei
    obtain ⟨s3, b, s4, eg, ec, er⟩ := compL_inv ei
    have ht : ts[i]? = some ts[i] := List.getElem?_eq_getElem hlt
    refine .inr ⟨(F.go i _ ht).1, fun x H2 y => ?_⟩
    obtain ⟨S2, ex, rx⟩ := (F.go i _ ht).2 x H2 y
    refine ⟨⟨Si, asi, H'⟩, sti, [], S2, asi, _, (Ri.ext ex).push rx, s3, eg, fun σ3 H3 S3 as3 R3 => ⟨⟨Si, asi, H'⟩, s3, [], S3, as3, R3, b, s4, ec, fun H4 S4 as4 R4 => ?_⟩⟩
    rcases er with ⟨rfl, w, s5, ee, hlen, erest⟩ | ⟨rfl, erest⟩
    · refine iteT ⟨⟨Si, asi, H'⟩, s4, [], S4, as4, R4, w, s5, ee, fun y H5 S5 as5 R5 => ?_⟩
      obtain ⟨S6, R6⟩ := R5.freezeAll
      obtain ⟨k1, k2, k3⟩ := R6.grow.keep D _ hD' sD nD
      have Ro2 := Ro.call R6.grow R6.sub R6.sto
      refine ⟨accv, k1, ?_, ts.length - (i + 1), by omega, rfl, hlt, freezeAll s5, S6, as5, acc ++ [w], accv ++ [y], R6.drop.poke0 (noOwn_freeze _) k2 k3, noOwn_freeze _, Ro2.poke bD k2 k3 noD, upd_same, k2, k3, (rA.mono R6.grow.same R6.grow.more).append (.cons R6.top .nil), erest⟩
      rw [rA.length]; exact Nat.lt_of_lt_of_le hlen lim_line
    · refine iteF ?_
      obtain ⟨S6, R6⟩ := R4.freezeAll
      obtain ⟨k1, k2, k3⟩ := R6.grow.keep D _ hD' sD nD
      have Ro2 := Ro.call R6.grow R6.sub R6.sto
      exact ⟨ts.length - (i + 1), by omega, rfl, hlt, freezeAll s4, S6, as4, acc, accv, R6.rebase (noOwn_freeze _), noOwn_freeze _, Ro2, k1, k2, k3, rA.mono R6.grow.same R6.grow.more, erest⟩
  · have hie : i = ts.length := by omega
    subst hie
    rw [List.drop_length] at ei
    cases ei
    exact .inl ⟨F.stop _ (Nat.le_refl _), fin D H' Si asi Ro ⟨⟨accv, hD', rA⟩, sD, nD, bD⟩ noD⟩

theorem Rel.give {K : PySem.W.Frag} {B : Bas} {st : Sta} {σ : L2.St} {H S : Hp} {ps : List (V × T)} {as : List Addr} {p : Addr} {t : T} (r : Rel K B st σ H ps S as) (o : OwnAt K B S as H p t) (no : NoSlot st σ p) : ∃ S', Rel K B st σ H ((.ref p, t) :: ps) S' as := by
  obtain ⟨ob, ho⟩ := o.own.there
  have sS : Same S (upd S p ob) := Same.upd o.out ob
  have rep : Rep K (upd S p ob) as (.ref p) t := by
    have w := o.own
    cases t with
    | lst ts => obtain ⟨vs, h, q⟩ := w; rw [ho] at h; cases h; exact .lst (SqL.of upd_same) (q.mono sS nol)
    | dic ts => obtain ⟨vs, h, q⟩ := w; rw [ho] at h; cases h; exact .dic (.inl upd_same) (q.mono sS nol)
    | _ => exact w.elim
  have outs : ∀ q, S q = none → q ≠ p → upd S p ob q = none := fun q h n => by rw [upd_ne n]; exact h
  refine ⟨upd S p ob, Rel.push (v := .ref p) (t := t) ⟨?_, ?_, ?_, r.apart, ?_, fun q hq => (r.pend q hq).mono sS nol, r.len⟩ rep⟩
  · intro b u q
    by_cases z : b = p
    · subst z; rw [upd_same] at q; cases q; exact ho
    · rw [upd_ne z] at q; exact r.sub _ _ q
  · refine ⟨r.grow.same.trans sS, r.grow.more, fun q w a b c => ?_⟩
    obtain ⟨x, y, z⟩ := r.grow.keep q w a b c
    refine ⟨x, outs q y fun n => ?_, z⟩
    subst n; rw [o.new] at a; cases a
  · intro j u f ej
    obtain ⟨v', a1, a2, a3⟩ := r.slots j u f ej
    refine ⟨v', a1, fun z => (a2 z).mono sS nol, fun z => ?_⟩
    subst z
    obtain ⟨p', rfl, o'⟩ := a3 rfl
    refine ⟨p', rfl, o'.own.mono sS rfl, outs p' o'.out fun n => ?_, o'.nas, o'.new⟩
    subst n
    exact no j u ej a1
  · refine ⟨r.sto.len, r.sto.nd, fun n so en => ?_⟩
    obtain ⟨a, a1, a2, a3⟩ := r.sto.at' n so en
    refine ⟨a, a1, outs a a2 fun z => ?_, a3.mono sS rfl⟩
    subst z
    exact o.nas (List.mem_of_getElem? a1)
theorem f_of_t {K : PySem.W.Frag} {B : Bas} {m : M T} {σ : L2.St} {H : Hp} {Q : VK} (h : tOf K B m σ H Q) : fOf K B m σ H Q := by
  obtain ⟨st, ps, S, as, R, t, st', e, q⟩ := h
  refine ⟨st, ps, S, as, R, t, st', e, fun p H' S' as' R' o n => ?_⟩
  obtain ⟨S2, R2⟩ := R'.give o n
  exact q _ H' S2 as' R2
theorem te_fresh {e : Expr} {B : Bas} {m : M T} (h : PE X e (fOf X.K B m)) : PE X e (tOf X.K B m) := h.imp fun σ H Q => f_of_t

variable {B : Bas} {nv : Nat} {cap : List Nat} {g : G} {it : M (List T)} {c : M Bool} {e : M T} {tg iter elt : Expr} {ifs : List Expr} {pos : Pos}
/-- the names that a comprehension takes, by their places -/
structure CapOk (X : Cx) (scope : Scope) (N : List Str) (nv : Nat) (cap : List Nat) : Prop where
  len : N.length = nv + cap.length
  at' : ∀ (j k : Nat), cap[j]? = some k → ∃ x, N[nv + j]? = some x ∧ X.N[k]? = some x ∧ CapK X scope x
theorem comp_f (co : CapOk X scope N nv cap) (hsz : ∀ st ts st', it st = some (ts, st') → ts.length ≤ sizeLine) {σ : L2.St} {H : Hp} {Q : VK} (h : fOf X.K B (mComp nv cap g it c e) σ H Q) :
    tComp X scope N (iOf X.K B it) (gE X.K g) (cE X.K c) (eE X.K e) σ H Q := by
  obtain ⟨st, ps, S, as, R, t, st', e, q⟩ := h
  obtain ⟨ts, s1, us, s2, e1, e2, rfl, rfl⟩ := mComp_inv e
  refine ⟨st, ps, S, as, R, ts, s1, e1, hsz _ _ _ e1, fun J H1 S1 as1 ps' R1 facts => ?_⟩
  obtain ⟨S2, R2⟩ := R1.freezeAt cap
  exact comp_core co.len (fun _ _ _ _ => trivial) co.at' R2 (fun k hk => freezeAt_no cap s1.env k hk) facts e2 fun D H' S' as' R' o n => q D H' S' as' (R'.pick fun p hp => List.mem_append_right _ hp) o n
theorem tf_comp (co : CapOk X scope N nv cap) (sc : CompSc X scope N) (calm : X.calm = true) (hi : PI X tg iter (iOf X.K B it)) (hsz : ∀ st ts st', it st = some (ts, st') → ts.length ≤ sizeLine)
    (hg : ∀ C s₀ H₀ ex pn, PG (compCx X scope N C s₀ H₀ ex pn) tg (gE X.K g)) (hc : ∀ C s₀ H₀ ex pn, PTs (compCx X scope N C s₀ H₀ ex pn) ifs (cE X.K c)) (he : ∀ C s₀ H₀ ex pn, PE (compCx X scope N C s₀ H₀ ex pn) elt (eE X.K e))
    (hs : ∀ x, foldedSetIterable iter X.env x = pure x := by intro _; rfl) : PE X (.ListComp elt [⟨tg, iter, ifs, 0⟩] scope pos) (fOf X.K B (mComp nv cap g it c e)) :=
  (pe_comp sc calm hi hg hc he hs).imp fun σ H Q h => comp_f co hsz h
end
end C

end

section
set_option Elab.async false
set_option linter.all false
set_option maxRecDepth 100000
set_option maxHeartbeats 4000002
set_option autoImplicit false
namespace C
open PySem PySem.Spec PyProof.Rows L2

section
variable {X : Cx}
/-- ints in, a value out: nothing is laid -/
theorem opInt {f : Value → Value → Sem Value} {g : T → T → Option T} {r : R2} (h : OpR X f r)
    (k : ∀ S as x y t u w, Rep X.K S as x t → Rep X.K S as y u → g t u = some w → ∀ (H : Hp) (Q : VK), Same S H → (∀ v H' S', Ext S H S' H' → Rep X.K S' as v w → Q v H') → r x y H Q) : OpT X f g := by
  intro pins s σ H x y v u Q I rx ry ⟨S, as, t, w, z, sub, ht, hu, hf, q⟩
  exact h pins s σ H x y v u Q I rx ry (k S as x y t w z ht hu hf H Q sub q)
theorem opT_sub : OpT X (binaryOp .Sub) subT := opInt op_sub fun S as x y t u w ht hu hf H Q sub q => by
  cases ht <;> cases hu <;> simp only [subT, reduceCtorEq] at hf
  cases hf
  exact ⟨_, _, rfl, rfl, q _ H S (Ext.refl sub) (.int _)⟩
theorem opT_mod : OpT X (binaryOp .Mod) modT := opInt op_mod fun S as x y t u w ht hu hf H Q sub q => by
  cases ht <;> cases hu <;> simp only [modT, reduceCtorEq] at hf
  split at hf
  · cases hf; exact ⟨_, _, rfl, rfl, by assumption, q _ H S (Ext.refl sub) (.int _)⟩
  · cases hf
def CDivB (i j : Int) : Prop := 0 < j ∧ (j < 1073741824 ∨ j.natAbs < fdl)
theorem op_fdivB : OpR X (binaryOp .FloorDiv) (rI CDivB fun i j => .int (i / j)) := opI fun i j _ _ _ _ _ hc q => by
  have h1 : (0 : Int) < j := hc.1
  have h2 : j.natAbs < 2 ^ 200 := by
    rcases hc.2 with h | h
    · exact Nat.lt_trans (show j.natAbs < 1073741824 by omega) (by decide)
    · exact h
  exact floordiv_int (by omega) (by rw [Int.fdiv_eq_ediv_of_nonneg i (by omega)]; exact q) (.inl (PyProof.noPylong_of_log2 (Nat.lt_trans ((Nat.log2_lt (by omega)).mpr h2) (by decide))))
theorem opT_fdiv : OpT X (binaryOp .FloorDiv) fdivT := opInt op_fdivB fun S as x y t u w ht hu hf H Q sub q => by
  cases ht <;> cases hu <;> simp only [fdivT, reduceCtorEq] at hf
  split at hf
  · rename_i hc; cases hf; exact ⟨_, _, rfl, rfl, hc, q _ H S (Ext.refl sub) (.int _)⟩
  · cases hf
theorem opT_pow : OpT X (binaryOp .Pow) powT := opInt op_pow fun S as x y t u w ht hu hf H Q sub q => by
  cases ht <;> cases hu <;> simp only [powT, reduceCtorEq] at hf
  split at hf
  · rename_i h; cases hf; exact ⟨_, _, rfl, rfl, ⟨h.1, by omega, by omega⟩, q _ H S (Ext.refl sub) (.int _)⟩
  · cases hf
theorem opT_lt : OpT X (compareOp .Lt) ltT := opInt op_lt fun S as x y t u w ht hu hf H Q sub q => by
  cases ht <;> cases hu <;> simp only [ltT, reduceCtorEq] at hf
  cases hf
  exact ⟨_, _, rfl, rfl, q _ H S (Ext.refl sub) (.bl _)⟩
theorem opT_le : OpT X (compareOp .LtE) leT := opInt op_le fun S as x y t u w ht hu hf H Q sub q => by
  cases ht <;> cases hu <;> simp only [leT, reduceCtorEq] at hf
  cases hf
  exact ⟨_, _, rfl, rfl, q _ H S (Ext.refl sub) (.bl _)⟩
theorem opT_gt : OpT X (compareOp .Gt) gtT := opInt op_gt fun S as x y t u w ht hu hf H Q sub q => by
  cases ht <;> cases hu <;> simp only [gtT, reduceCtorEq] at hf
  cases hf
  exact ⟨_, _, rfl, rfl, q _ H S (Ext.refl sub) (.bl _)⟩
theorem opT_ge : OpT X (compareOp .GtE) geT := opInt op_ge fun S as x y t u w ht hu hf H Q sub q => by
  cases ht <;> cases hu <;> simp only [geT, reduceCtorEq] at hf
  cases hf
  exact ⟨_, _, rfl, rfl, q _ H S (Ext.refl sub) (.bl _)⟩
theorem unT_neg : UnT X (unaryOp .USub) negT := by
  intro pins s σ H x v Q I rx ⟨S, as, t, w, sub, ht, hf, q⟩
  cases ht <;> simp only [negT, reduceCtorEq] at hf
  cases hf
  exact un_neg pins s σ H _ v Q I rx ⟨_, rfl, q _ H S (Ext.refl sub) (.int _)⟩
/-- + -/
def rCatL (K : PySem.W.Frag) : R2 := fun x y H Q => ∃ l b xs zs, x = .ref l ∧ y = .ref b ∧ SqL K H l xs ∧ SqL K H b zs ∧ xs.length + zs.length ≤ sizeLine ∧ ∀ p, H p = none → Q (.ref p) (upd H p (.lst (xs ++ zs)))
theorem op_catL : OpR X (binaryOp .Add) (rCatL X.K) := by
  intro pins s σ H x y v u Q I rx ry h
  obtain ⟨l, b, xs, zs, rfl, rfl, hH, hB, hz, q⟩ := h
  cases rx
  cases ry
  obtain ⟨its, r, p1, hl⟩ := I.list hH
  obtain ⟨its2, r2, p2, hl2⟩ := I.list hB
  obtain ⟨⟨cls, dd, data, sl⟩, n, ho, hc, hd0, hd⟩ := id p1
  obtain ⟨⟨cls2, dd2, data2, sl2⟩, n2, ho2, hc2, hd02, hd2⟩ := id p2
  simp only at hc hd hc2 hd2
  subst hc hd hc2 hd2
  refine concat_meets ⟨_, ho, rfl⟩ ⟨_, ho2, rfl⟩ noFill_list_add seq_list_add PySem.F.slot_list_add PySem.F.entry_list_add (PySem.F.args_list_add_2 _ _)
      (list_addW l b its.toArray its2.toArray n n2 dd dd2 sl sl2 (by rw [List.size_toArray, List.size_toArray, ← r.length, ← r2.length]; exact hz)) ⟨ho, ho2, ?_⟩
  have ea : its.toArray ++ its2.toArray = (its ++ its2).toArray := by simp
  rw [ea]
  exact ⟨.ref _, _, I.lnew (t' := s.toks) (r.append r2) (by rw [List.length_append]; exact hz), rfl, q _ I.fresh⟩
/-- t + u, t empty: u itself -/
def rCatT0 (K : PySem.W.Frag) : R2 := fun x y H Q => ∃ a b ys, x = .ref a ∧ y = .ref b ∧ SqT K H a [] ∧ SqT K H b ys ∧ Q (.ref b) H
theorem op_catT0 : OpR X (binaryOp .Add) (rCatT0 X.K) := by
  intro pins s σ H x y v u Q I rx ry h
  obtain ⟨a, b, ys, rfl, rfl, ha, hb, q⟩ := h
  cases rx
  cases ry
  obtain ⟨its, r1, p1, _⟩ := I.tuple ha
  obtain ⟨its2, r2, p2, _⟩ := I.tuple hb
  cases r1
  obtain ⟨⟨cls, dd, data, sl⟩, ho, hc, n, hd⟩ := id p1
  obtain ⟨⟨cls2, dd2, data2, sl2⟩, ho2, hc2, n2, hd2⟩ := id p2
  simp only at hc hd hc2 hd2
  subst hc hd hc2 hd2
  exact concat_meets ⟨_, ho, rfl⟩ ⟨_, ho2, rfl⟩ noFill_tuple_add seq_tuple_add PySem.F.slot_tuple_add PySem.F.entry_tuple_add (PySem.F.args_tuple_add_2 _ _)
      (tuple_addW0 a b _ its2.toArray n n2 dd dd2 sl sl2 (by rfl)) ⟨ho, ho2, ⟨.ref b, H, I, rfl, q⟩⟩
theorem opT_add : OpT X (binaryOp .Add) addT := by
  intro pins s σ H x y v u Q I rx ry ⟨S, as, t, t2, w, sub, ht, hu, hf, q⟩
  cases ht <;> cases hu <;> simp only [addT, reduceCtorEq] at hf
  · cases hf
    exact op_add pins s σ H _ _ v u Q I rx ry ⟨_, _, rfl, rfl, q _ H S (Ext.refl sub) (.int _)⟩
  · split at hf
    · rename_i hl; cases hf
      exact op_add_str pins s σ H _ _ v u Q I rx ry ⟨_, _, rfl, rfl, Nat.le_trans (Nat.le_of_lt hl) lim_line, q _ H S (Ext.refl sub) (.str _)⟩
    · cases hf
  · rename_i a vs ts hs hr b ws us hs2 hr2
    split at hf
    · rename_i hl; cases hf
      have hz : vs.length + ws.length ≤ sizeLine := by rw [hr.length, hr2.length]; exact Nat.le_trans (Nat.le_of_lt hl) lim_line
      cases hr with
      | nil => exact op_catT0 pins s σ H _ _ v u Q I rx ry ⟨_, _, _, rfl, rfl, sqT_mono sub hs, sqT_mono sub hs2, q _ H S (Ext.refl sub) (.tup hs2 hr2)⟩
      | @cons v0 t0 vs0 ts0 h1 h2 =>
        refine op_catT pins s σ H _ _ v u Q I rx ry ⟨_, _, _, _, rfl, rfl, sqT_mono sub hs, sqT_mono sub hs2, by simp, hz, fun z => ?_, fun z p hp => ?_⟩
        · subst z
          cases hr2
          rw [List.append_nil] at q
          exact q _ H S (Ext.refl sub) (.tup hs (.cons h1 h2))
        · have x := Ext.laid sub hp (.tup ((v0 :: vs0) ++ ws))
          exact q _ _ _ x (.tup (SqT.of upd_same) (((Reps.cons h1 h2).append hr2).mono x.s nol))
    · cases hf
  · rename_i a vs ts hs hr b ws us hs2 hr2
    split at hf
    · rename_i hl; cases hf
      have hz : vs.length + ws.length ≤ sizeLine := by rw [hr.length, hr2.length]; exact Nat.le_trans (Nat.le_of_lt hl) lim_line
      refine op_catL pins s σ H _ _ v u Q I rx ry ⟨_, _, _, _, rfl, rfl, sqL_mono sub hs, sqL_mono sub hs2, hz, fun p hp => ?_⟩
      have x := Ext.laid sub hp (.lst (vs ++ ws))
      exact q _ _ _ x (.lst (SqL.of upd_same) ((hr.append hr2).mono x.s nol))
    · cases hf
theorem txt_mul (x : Str) (n : Int) (h : 0 ≤ n) : Txt.mul x n = ⟨((List.replicate n.toNat x.cps.toList).flatten).toArray⟩ := by
  have key : ∀ (k : Nat) (acc : Array Nat), (List.replicate k x.cps).foldl (· ++ ·) acc = acc ++ ((List.replicate k x.cps.toList).flatten).toArray := by
    intro k
    induction k with
    | zero => intro acc; simp
    | succ k ih =>
      intro acc
      rw [List.replicate_succ, List.foldl_cons, ih, List.replicate_succ, List.flatten_cons]
      apply Array.ext'
      simp
  unfold Txt.mul
  by_cases h1 : n < 1
  · have : n = 0 := by omega
    subst this
    rw [if_pos h1]; rfl
  · rw [if_neg h1]
    by_cases h2 : (n == 1 || x.length == 0) = true
    · rw [if_pos h2]
      rw [Bool.or_eq_true] at h2
      rcases h2 with h2 | h2
      · have : n = 1 := by simpa using h2
        subst this
        cases x; simp
      · have h3 : x.cps.size = 0 := by simpa [Str.length] using h2
        obtain ⟨c⟩ := x
        have h4 : c = #[] := Array.eq_empty_of_size_eq_zero h3
        subst h4
        congr 1
        apply Array.ext'
        simp
    · rw [if_neg h2, key]
      congr 1
      apply Array.ext'
      simp
theorem opT_mul : OpT X (binaryOp .Mult) mulT := by
  intro pins s σ H x y v u Q I rx ry ⟨S, as, t, t2, w, sub, ht, hu, hf, q⟩
  cases ht <;> cases hu <;> simp only [mulT, reduceCtorEq] at hf
  · split at hf
    · rename_i hb; cases hf
      refine op_mul pins s σ H _ _ v u Q I rx ry ⟨_, _, rfl, rfl, ?_, q _ H S (Ext.refl sub) (.int _)⟩
      rw [Bool.or_eq_true] at hb
      rcases hb with h | h
      · exact .inl (of_decide_eq_true h)
      · exact .inr (of_decide_eq_true h)
    · cases hf
  · rename_i z j
    split at hf
    · rename_i hb; cases hf
      obtain ⟨t', rfl⟩ := rx
      obtain ⟨t2', rfl⟩ := ry
      refine SB.mul ⟨?_, fun _ _ => ?_, fun _ _ => ?_⟩ fun t3 k => ⟨.str (Txt.mul z j), H, I.tok _, ⟨_, rfl⟩, ?_⟩
      · have h1 : ¬ j < -(2 ^ 63 : Int) := by omega
        have h2 : ¬ j ≥ 2 ^ 63 := by omega
        rw [decide_eq_false h1, decide_eq_false h2]; rfl
      · have h1 : (z.length : Int) ≤ 100 := by omega
        have h2 : (100 : Int) ≤ (2 ^ 63 - 1) / j := by
          have hj : 0 < j := by
            rcases Int.lt_or_le 0 j with h | h
            · exact h
            · exfalso
              have : j = 0 := by omega
              subst this
              rename_i a _; exact a (by decide)
          exact (Int.le_ediv_iff_mul_le hj).mpr (by omega)
        omega
      · have h3 : z.length * j.toNat ≤ 100 * 1000 := Nat.mul_le_mul hb.2.2 (by omega)
        unfold Builtin.Str.tooLong
        rw [sizeLine_eq]
        exact decide_eq_false (by omega)
      · rw [txt_mul z j hb.1]; exact q _ H S (Ext.refl sub) (.str _)
    · cases hf
end
end C

end

section
set_option Elab.async false
set_option linter.all false
set_option maxRecDepth 100000
set_option maxHeartbeats 4000002
set_option autoImplicit false
namespace C
open PySem PySem.Spec PyProof.Rows L2

section
variable {X : Cx} {B : Bas} {a b c e o : Expr} {m m1 m2 : M T} {pos p : Pos}
theorem ixI_eq (n : Nat) (i : Int) : ixI n i = ixN n i := rfl
theorem kV_of {K : PySem.W.Frag} {S : Hp} {as : List Addr} {y : V} {t : T} {q : L2.Key} (r : Rep K S as y t) (h : keyOf t = some q) : y = kV q := by
  cases r <;> simp only [keyOf, reduceCtorEq] at h <;> (cases h; rfl)
/-- d[k] by values -/
def rDget : R2 := fun x y H Q => ∃ a v, x = .ref a ∧ DGet H a y (some v) ∧ Q v H
theorem ix_dict (hu : X.A.units + 1 < cLine) : IxR X rDget := by
  intro value slice pins s σ H x y v u Q I rx ry ⟨a, w, ex, g, q⟩ hs
  subst ex
  cases rx
  refine tail_any (dict_typeIs I g) slot_dict_getitem.lookup (d_getItem hu I g ry fun w' s' I' r' => ⟨w, H, I', r', q⟩) hs

theorem ixT_item (hu : X.A.units + 1 < cLine) : IxR X (r2 X.K itemT) := by
  intro value slice pins s σ H x y v u Q I rx ry ⟨S, as, t, t2, w, sub, ht, hu2, hf, q⟩ hs
  cases ht with
  | @tup a vs ts h1 h2 =>
    cases hu2 <;> simp only [itemT, reduceCtorEq] at hf
    rename_i i
    obtain ⟨j, e1, e2⟩ := Option.bind_eq_some_iff.mp hf
    obtain ⟨z, hz, rz⟩ := h2.get e2
    refine ix_tup value slice pins s σ H _ _ v u Q I rx ry ⟨a, vs, i, z, rfl, rfl, sqT_mono sub h1, ?_, q z H S (Ext.refl sub) rz⟩ hs
    rw [ixI_eq, ← h2.length] at e1
    unfold atI; rw [e1]; exact hz
  | @lst a vs ts h1 h2 =>
    cases hu2 <;> simp only [itemT, reduceCtorEq] at hf
    rename_i i
    obtain ⟨j, e1, e2⟩ := Option.bind_eq_some_iff.mp hf
    obtain ⟨z, hz, rz⟩ := h2.get e2
    refine ix_list value slice pins s σ H _ _ v u Q I rx ry ⟨a, vs, i, z, rfl, rfl, sqL_mono sub h1, ?_, q z H S (Ext.refl sub) rz⟩ hs
    rw [ixI_eq, ← h2.length] at e1
    unfold atI; rw [e1]; exact hz
  | str z =>
    cases hu2 <;> simp only [itemT, reduceCtorEq] at hf
    rename_i i
    split at hf
    · rename_i hl
      obtain ⟨j, e1, e2⟩ := Option.bind_eq_some_iff.mp hf
      obtain ⟨cc, e3, e4⟩ := Option.map_eq_some_iff.mp e2
      subst e4
      refine ix_str value slice pins s σ H _ _ v u Q I rx ry ⟨z, i, cc, rfl, rfl, Nat.le_trans (Nat.le_of_lt hl) lim_line, ?_, q _ H S (Ext.refl sub) (.str _)⟩ hs
      rw [ixI_eq] at e1
      unfold atI; rw [e1]; exact e3
    · cases hf
  | @dic a kvs ts h1 h2 =>
    simp only [itemT] at hf
    obtain ⟨k, e1, e2⟩ := Option.bind_eq_some_iff.mp hf
    have ey := kV_of hu2 e1
    subst ey
    rcases h2.get k with ⟨z, t', a1, a2, a3⟩ | ⟨_, a2⟩
    · rw [e2] at a2; cases a2
      exact ix_dict hu value slice pins s σ H _ _ v u Q I rx ry ⟨a, z, rfl, .inl ⟨kvs, k, rd_mono sub h1, rfl, a1.symm⟩, q z H S (Ext.refl sub) a3⟩ hs
    · rw [e2] at a2; cases a2
  | _ => simp only [itemT, reduceCtorEq] at hf
theorem te_ix (hu : X.A.units + 1 < cLine) (ha : PE X a (tOf X.K B m1)) (hb : PE X b (tOf X.K B m2)) (hs : PlainIx b) : PE X (.Subscript a b pos) (tOf X.K B (mOp itemT m1 m2)) := te_of_op (pe_ix (ixT_item hu) ha hb hs)
theorem callT_len : CallT X (.builtin "len") lenT := by
  intro pins s σ H xs us Q I rs ⟨S, as, ts, w, sub, hr, hf, q⟩
  cases hr with
  | nil => simp only [lenT, reduceCtorEq] at hf
  | @cons x t xs' ts' h1 h2 =>
    cases h2 with
    | cons h3 h4 => simp only [lenT, reduceCtorEq] at hf
    | nil =>
      cases h1 with
      | tup g1 g2 => simp only [lenT] at hf; cases hf; exact call_len_seq pins s σ H _ us Q I rs ⟨_, _, rfl, .inr (sqT_mono sub g1), by rw [g2.length]; exact q _ H S (Ext.refl sub) (.int _)⟩
      | lst g1 g2 => simp only [lenT] at hf; cases hf; exact call_len_seq pins s σ H _ us Q I rs ⟨_, _, rfl, .inl (sqL_mono sub g1), by rw [g2.length]; exact q _ H S (Ext.refl sub) (.int _)⟩
      | str z =>
        simp only [lenT] at hf
        split at hf
        · rename_i hl; cases hf; exact call_len_str pins s σ H _ us Q I rs ⟨_, rfl, Nat.le_trans (Nat.le_of_lt hl) lim_line, q _ H S (Ext.refl sub) (.int _)⟩
        · cases hf
      | @dic a kvs ts g1 g2 =>
        simp only [lenT] at hf; cases hf
        obtain ⟨u, rfl, ru⟩ := rs.one
        cases ru
        exact d_len I (rd_mono sub g1) fun t s' I' => ⟨.int kvs.length, H, I', ⟨t, rfl⟩, by rw [g2.length]; exact q _ H S (Ext.refl sub) (.int _)⟩
      | _ => simp only [lenT, reduceCtorEq] at hf
theorem callT_tuple : CallT X (.type "tuple") tupleT := by
  intro pins s σ H xs us Q I rs ⟨S, as, ts, w, sub, hr, hf, q⟩
  cases hr with
  | nil => simp only [tupleT, reduceCtorEq] at hf
  | @cons x t xs' ts' h1 h2 =>
    cases h2 with
    | cons h3 h4 => simp only [tupleT, reduceCtorEq] at hf
    | nil =>
      cases h1 with
      | @tup a vs ts g1 g2 => simp only [tupleT] at hf; cases hf; exact call_tuple_of pins s σ H _ us Q I rs ⟨_, _, rfl, .inr ⟨sqT_mono sub g1, q _ H S (Ext.refl sub) (.tup g1 g2)⟩⟩
      | @lst a vs ts g1 g2 =>
        simp only [tupleT] at hf; cases hf
        refine call_tuple_of pins s σ H _ us Q I rs ⟨_, _, rfl, .inl ⟨sqL_mono sub g1, fun p hp => ?_⟩⟩
        have x := Ext.laid sub hp (.tup vs)
        exact q _ _ _ x (.tup (SqT.of upd_same) (g2.mono x.s nol))
      | _ => simp only [tupleT, reduceCtorEq] at hf
theorem callT_list : CallT X (.type "list") listT := by
  intro pins s σ H xs us Q I rs ⟨S, as, ts, w, sub, hr, hf, q⟩
  cases hr with
  | nil => simp only [listT, reduceCtorEq] at hf
  | @cons x t xs' ts' h1 h2 =>
    cases h2 with
    | cons h3 h4 => simp only [listT, reduceCtorEq] at hf
    | nil =>
      cases h1 with
      | @tup a vs ts g1 g2 =>
        simp only [listT] at hf; cases hf
        refine call_list_of pins s σ H _ us Q I rs ⟨_, _, rfl, .inr (sqT_mono sub g1), fun p hp => ?_⟩
        have x := Ext.laid sub hp (.lst vs)
        exact q _ _ _ x (.lst (SqL.of upd_same) (g2.mono x.s nol))
      | @lst a vs ts g1 g2 =>
        simp only [listT] at hf; cases hf
        refine call_list_of pins s σ H _ us Q I rs ⟨_, _, rfl, .inl (sqL_mono sub g1), fun p hp => ?_⟩
        have x := Ext.laid sub hp (.lst vs)
        exact q _ _ _ x (.lst (SqL.of upd_same) (g2.mono x.s nol))
      | _ => simp only [listT, reduceCtorEq] at hf
/-- xs[n:] -/
theorem cut_from (xs : List V) (n : Nat) : cutV xs (some (n : Int)) none = xs.drop n := by
  unfold cutV
  rw [HT.sIx_nat, HT.sIx_none]
  by_cases h : n ≤ xs.length
  · rw [Nat.min_eq_left h, List.take_of_length_le (by rw [List.length_drop]; omega)]
  · rw [Nat.min_eq_right (by omega), List.drop_of_length_le (i := n) (by omega), List.drop_of_length_le (Nat.le_refl _), List.take_nil]
theorem te_from {n : Nat} {k : Nat} {p1 p2 : Pos} (ha : PE X a (tOf X.K B m)) : PE X (.Subscript a (.Slice (some (.Constant (.int (n : Int)) k p1)) none none p2) pos) (tOf X.K B (mUn (fromT n) m)) :=
  (pe_slice sl_list ha (po_some pe_int) po_none).imp fun σ H Q ⟨st, ps, S, as, R, t, st', e, q⟩ => by
    obtain ⟨t1, e1, e3⟩ := mUn_inv e
    refine ⟨st, ps, S, as, R, t1, st', e1, fun v H1 S1 as1 R1 => ⟨n, rfl, ?_⟩⟩
    have top := R1.top
    cases top with
    | @lst a vs ts g1 g2 =>
      simp only [fromT] at e3; cases e3
      refine ⟨a, vs, rfl, sqL_mono R1.sub g1, fun p hp => ?_⟩
      have x := Ext.laid R1.sub hp (.lst (cutV vs (some (n : Int)) none))
      have g3 := (g2.drop n).mono x.s (nol (as := as1))
      rw [← cut_from] at g3
      exact q _ _ _ _ ((R1.drop.ext x).push (.lst (SqL.of upd_same) g3))
    | _ => simp only [fromT, reduceCtorEq] at e3
/-! ### dicts -/
theorem RepK.put {K : PySem.W.Frag} {S : Hp} {as : List Addr} {k : L2.Key} {v : V} {t : T} (r : Rep K S as v t) : ∀ {vs : List (L2.Key × V)} {ts : List (L2.Key × T)}, RepK K S as vs ts → RepK K S as (putK vs k v) (dPut k t ts) := by
  intro vs ts h
  have any : ∀ {vs : List (L2.Key × V)} {ts : List (L2.Key × T)}, RepK K S as vs ts → (vs.any fun kv => decide (kv.1 = k)) = (ts.any fun p => decide (p.1 = k)) := by
    intro vs ts h
    induction vs generalizing ts with
    | nil => cases h; rfl
    | cons p r ih => cases h with | cons h1 h2 => rw [List.any_cons, List.any_cons, ih h2]
  have mp : ∀ {vs : List (L2.Key × V)} {ts : List (L2.Key × T)}, RepK K S as vs ts → RepK K S as (vs.map fun kv => if kv.1 = k then (kv.1, v) else kv) (ts.map fun p => if p.1 = k then (p.1, t) else p) := by
    intro vs ts h
    induction vs generalizing ts with
    | nil => cases h; exact .nil
    | cons p rr ih =>
      cases h with
      | @cons q v0 t0 _ _ h1 h2 =>
        rw [List.map_cons, List.map_cons]
        by_cases e : q = k
        · rw [if_pos e, if_pos e]; exact .cons r (ih h2)
        · rw [if_neg e, if_neg e]; exact .cons h1 (ih h2)
  have ap : ∀ {vs : List (L2.Key × V)} {ts : List (L2.Key × T)}, RepK K S as vs ts → RepK K S as (vs ++ [(k, v)]) (ts ++ [(k, t)]) := by
    intro vs ts h
    induction vs generalizing ts with
    | nil => cases h; exact .cons r .nil
    | cons p rr ih => cases h with | cons h1 h2 => exact .cons h1 (ih h2)
  unfold putK dPut
  rw [any h]
  split
  · exact mp h
  · exact ap h
end
end C

end

section
set_option Elab.async false
set_option linter.all false
set_option maxRecDepth 100000
set_option maxHeartbeats 4000002
set_option autoImplicit false
namespace C
open PySem PySem.Spec PyProof.Rows L2

theorem mObjItem_inv {o k : M T} {s s' : Sta} {t : T} (h : mObjItem o k s = some (t, s')) : ∃ n s1 kt kvs q, o s = some (.obj n, s1) ∧ k s1 = some (kt, s') ∧ s'.sto[n]? = some (.dic kvs) ∧ keyOf kt = some q ∧ dGet q kvs = some t := by
  unfold mObjItem at h
  split at h
  · rename_i n s1 e1
    split at h
    · rename_i kt s2 e2
      split at h
      · rename_i kvs e3
        split at h
        · rename_i t' e4
          cases h
          obtain ⟨q, e5, e6⟩ := Option.bind_eq_some_iff.mp e4
          exact ⟨n, s1, kt, kvs, q, e1, e2, e3, e5, e6⟩
        · cases h
      · cases h
    · cases h
  · cases h
theorem mOwnItem_inv {i : Nat} {k : M T} {s s' : Sta} {t : T} (h : mOwnItem i k s = some (t, s')) : dicAt i s = true ∧ ∃ kt kvs f q, k s = some (kt, s') ∧ s'.env[i]? = some (some (.dic kvs, f)) ∧ keyOf kt = some q ∧ dGet q kvs = some t := by
  unfold mOwnItem at h
  split at h
  · rename_i hd
    refine ⟨hd, ?_⟩
    split at h
    · rename_i kt s2 e2
      split at h
      · rename_i kvs f e3
        split at h
        · rename_i t' e4
          cases h
          obtain ⟨q, e5, e6⟩ := Option.bind_eq_some_iff.mp e4
          exact ⟨kt, kvs, f, q, e2, e3, e5, e6⟩
        · cases h
      · cases h
    · cases h
  · cases h
theorem mOwnGet_inv {i : Nat} {k d : M T} {s s' : Sta} {t : T} (h : mOwnGet i k d s = some (t, s')) : dicAt i s = true ∧ ∃ kt s1 dt kvs f q, k s = some (kt, s1) ∧ d s1 = some (dt, s') ∧ s'.env[i]? = some (some (.dic kvs, f)) ∧ keyOf kt = some q ∧ t = (dGet q kvs).getD dt := by
  unfold mOwnGet at h
  split at h
  · rename_i hd
    refine ⟨hd, ?_⟩
    split at h
    · rename_i kt s1 e1
      split at h
      · rename_i dt s2 e2
        split at h
        · rename_i kvs f e3
          split at h
          · rename_i q e4
            cases h
            exact ⟨kt, s1, dt, kvs, f, q, e1, e2, e3, e4, rfl⟩
          · cases h
        · cases h
      · cases h
    · cases h
  · cases h
theorem mOwnLen_inv {i : Nat} {s s' : Sta} {t : T} (h : mOwnLen i s = some (t, s')) : s' = s ∧ ((∃ xs f, s.env[i]? = some (some (.lst xs, f)) ∧ t = .int xs.length) ∨ (∃ xs f, s.env[i]? = some (some (.dic xs, f)) ∧ t = .int xs.length)) := by
  unfold mOwnLen at h
  split at h
  · rename_i xs f e; cases h; exact ⟨rfl, .inl ⟨xs, f, e, rfl⟩⟩
  · rename_i xs f e; cases h; exact ⟨rfl, .inr ⟨xs, f, e, rfl⟩⟩
  · cases h
section
variable {K : PySem.W.Frag} {B : Bas} {st : Sta} {σ : L2.St} {H S : Hp} {ps : List (V × T)} {as : List Addr}
/-- a dict at a name, shared or own -/
theorem Rel.dictAt (r : Rel K B st σ H ps S as) {i : Nat} {kvs : List (L2.Key × T)} {f : Bool} (e : st.env[i]? = some (some (.dic kvs, f))) : ∃ p vs, σ[i]? = some (some (.ref p)) ∧ Rd H p (.dK vs) ∧ RepK K S as vs kvs := by
  obtain ⟨v, h1, h2, h3⟩ := r.slots i _ f e
  cases f with
  | false =>
    have h := h2 rfl
    cases h with
    | dic a b => exact ⟨_, _, h1, rd_mono r.sub a, b⟩
  | true =>
    obtain ⟨p, rfl, o⟩ := h3 rfl
    obtain ⟨vs, h, q⟩ := o.own
    exact ⟨p, vs, h1, .inl h, q⟩
end
section
variable {X : Cx} {B : Bas} {a b c e o k d : Expr} {m mo mk md mv : M T} {pos p : Pos}
theorem te_objItem (hu : X.A.units + 1 < cLine) (ho : PE X o (tOf X.K B mo)) (hk : PE X k (tOf X.K B mk)) (hs : NoSl k) : PE X (.Subscript o k pos) (tOf X.K B (mObjItem mo mk)) := (pe_dget hu ho hk hs).imp fun σ H Q ⟨st, ps, S, as, R, t, st', e, q⟩ => by
  obtain ⟨n, s1, kt, kvs, qk, e1, e2, e3, e4, e5⟩ := mObjItem_inv e
  refine ⟨st, ps, S, as, R, _, s1, e1, fun v H1 S1 as1 R1 => ⟨s1, _, S1, as1, R1, kt, st', e2, fun u H2 S2 as2 R2 => ?_⟩⟩
  have t2 := R2.top2
  cases t2 with
  | @obj _ a ha =>
    obtain ⟨a', h1, h2, vs, h3, h4⟩ := R2.sto.at' n _ e3
    rw [ha] at h1; cases h1
    have ey := kV_of R2.top e4
    subst ey
    rcases h4.get qk with ⟨z, t', a1, a2, a3⟩ | ⟨_, a2⟩
    · rw [e5] at a2; cases a2
      exact ⟨a, z, rfl, .inl ⟨vs, qk, .inl h3, rfl, a1.symm⟩, q z H2 S2 as2 (R2.drop.drop.push a3)⟩
    · rw [e5] at a2; cases a2
theorem dicAt_inv {i : Nat} {s : Sta} (h : dicAt i s = true) : ∃ kvs f, s.env[i]? = some (some (.dic kvs, f)) := by
  unfold dicAt at h
  split at h
  · rename_i kvs f e; exact ⟨kvs, f, e⟩
  · cases h
theorem lstAt_inv {i : Nat} {s : Sta} (h : lstAt i s = true) : ∃ kvs f, s.env[i]? = some (some (.lst kvs, f)) := by
  unfold lstAt at h
  split at h
  · rename_i kvs f e; exact ⟨kvs, f, e⟩
  · cases h
theorem te_ownItem (i : Nat) (hu : X.A.units + 1 < cLine) (ho : PE X o (tVar i)) (hk : PE X k (tOf X.K B mk)) (hs : NoSl k) : PE X (.Subscript o k pos) (tOf X.K B (mOwnItem i mk)) := (pe_dget hu ho hk hs).imp fun σ H Q ⟨st, ps, S, as, R, t, st', e, q⟩ => by
  obtain ⟨hd, kt, kvs, f, qk, e2, e3, e4, e5⟩ := mOwnItem_inv e
  obtain ⟨kvs0, f0, e0⟩ := dicAt_inv hd
  obtain ⟨p0, vs0, s0, _⟩ := R.dictAt e0
  refine ⟨_, s0, st, ps, S, as, R, kt, st', e2, fun u H2 S2 as2 R2 => ?_⟩
  obtain ⟨p1, vs1, s1, rd1, h4⟩ := R2.dictAt e3
  rw [s0] at s1; cases s1
  have ey := kV_of R2.top e4
  subst ey
  rcases h4.get qk with ⟨z, t', a1, a2, a3⟩ | ⟨_, a2⟩
  · rw [e5] at a2; cases a2
    exact ⟨p0, z, rfl, .inl ⟨vs1, qk, rd1, rfl, a1.symm⟩, q z H2 S2 as2 (R2.drop.push a3)⟩
  · rw [e5] at a2; cases a2
theorem te_ownGet (i : Nat) {apos : Pos} (hu : X.A.units + 1 < cLine) (ho : PE X o (tVar i)) (hk : PE X k (tOf X.K B mk)) (hd : PE X d (tOf X.K B md)) (m : M2 X o "get" apos k d pos) : PE X (.Call (.Attribute o "get" apos) [k, d] [] pos) (tOf X.K B (mOwnGet i mk md)) :=
  (pe_dget2 hu ho hk hd m).imp fun σ H Q ⟨st, ps, S, as, R, t, st', e, q⟩ => by
    obtain ⟨hd, kt, s1, dt, kvs, f, qk, e1, e2, e3, e4, rfl⟩ := mOwnGet_inv e
    obtain ⟨kvs0, f0, e0⟩ := dicAt_inv hd
    obtain ⟨p0, vs0, s0, rd0, _⟩ := R.dictAt e0
    refine ⟨_, s0, p0, rfl, .inl ⟨vs0, rd0⟩, st, ps, S, as, R, kt, s1, e1, fun u H1 S1 as1 R1 => ⟨s1, _, S1, as1, R1, dt, st', e2, fun w H2 S2 as2 R2 => ?_⟩⟩
    obtain ⟨p1, vs1, z1, rd1, h4⟩ := R2.dictAt e3
    rw [s0] at z1; cases z1
    have ey := kV_of R2.top2 e4
    subst ey
    refine ⟨valV vs1 qk, .inl ⟨vs1, qk, rd1, rfl, rfl⟩, ?_⟩
    rcases h4.get qk with ⟨z, t', a1, a2, a3⟩ | ⟨a1, a2⟩
    · rw [a1]; rw [a2] at q; exact q z H2 S2 as2 (R2.drop.drop.push a3)
    · rw [a1]; rw [a2] at q; exact q w H2 S2 as2 (R2.drop.drop.push R2.top)
theorem te_get {apos : Pos} (hu : X.A.units + 1 < cLine) (ho : PE X o (tOf X.K B mo)) (hk : PE X k (tOf X.K B mk)) (hd : PE X d (tOf X.K B md)) (m : M2 X o "get" apos k d pos) : PE X (.Call (.Attribute o "get" apos) [k, d] [] pos) (tOf X.K B (mMap getT (mCons mo (mCons mk (mCons md mNil))))) :=
  (pe_dget2 hu ho hk hd m).imp fun σ H Q ⟨st, ps, S, as, R, t, st', e, q⟩ => by
    obtain ⟨ts, e1, ef⟩ := mMap_inv e
    obtain ⟨to, s1, r1, eo, e2, rfl⟩ := mCons_inv e1
    obtain ⟨tk, s2, r2, ek, e3, rfl⟩ := mCons_inv e2
    obtain ⟨td, s3, r3, ed, e4, rfl⟩ := mCons_inv e3
    cases e4
    refine ⟨st, ps, S, as, R, to, s1, eo, fun v H1 S1 as1 R1 => ?_⟩
    have top := R1.top
    cases top with
    | @dic a vs kvs g1 g2 =>
      simp only [getT] at ef
      obtain ⟨qk, e4, e5⟩ := Option.map_eq_some_iff.mp ef
      subst e5
      refine ⟨a, rfl, .inl ⟨vs, rd_mono R1.sub g1⟩, s1, _, S1, as1, R1, tk, s2, ek, fun u H2 S2 as2 R2 => ⟨s2, _, S2, as2, R2, td, _, ed, fun w H3 S3 as3 R3 => ?_⟩⟩
      have ey := kV_of R3.top2 e4
      subst ey
      have top3 : Rep X.K S3 as3 (.ref a) (.dic kvs) := R3.pend _ (List.mem_cons_of_mem _ (List.mem_cons_of_mem _ List.mem_cons_self))
      cases top3 with
      | @dic _ vs3 _ g3 g4 =>
        refine ⟨valV vs3 qk, .inl ⟨vs3, qk, rd_mono R3.sub g3, rfl, rfl⟩, ?_⟩
        rcases g4.get qk with ⟨z, t', a1, a2, a3⟩ | ⟨a1, a2⟩
        · rw [a1]; rw [a2] at q; exact q z H3 S3 as3 (R3.drop.drop.drop.push a3)
        · rw [a1]; rw [a2] at q; exact q w H3 S3 as3 (R3.drop.drop.drop.push R3.top)
    | _ => simp only [getT, reduceCtorEq] at ef
/-! ### what changes -/
theorem ts_objPut {pos' : Pos} (hu : X.A.units + 1 < cLine) (ho : PE X o (tOf X.K B mo)) (hk : PE X k (tOf X.K B mk)) (hv : PE X e (tOf X.K B mv)) (hs : swapsWith e (some (.Subscript o k pos')) pos.line X.env = pure false) :
    PS X (.Assign [.Subscript o k pos'] e pos) (sOf X.K B (sObjPut mo mk mv)) := (ps_dput hu ho hk hv hs).imp fun D σ H ⟨st, ps, S, as, R, fl, st', e, q⟩ => by
  obtain ⟨t, s1, n, s2, kt, s3, kvs, qk, e1, e2, e3, e4, e5, hl, rfl, rfl⟩ := sObjPut_inv e
  refine ⟨st, ps, S, as, R, t, s1, e1, fun v H1 S1 as1 R1 => ⟨s1, _, S1, as1, R1, _, s2, e2, fun x H2 S2 as2 R2 => ⟨s2, _, S2, as2, R2, kt, s3, e3, fun y H3 S3 as3 R3 => ?_⟩⟩⟩
  have t2 := R3.top2
  cases t2 with
  | @obj _ a ha =>
    obtain ⟨a', h1, h2, vs, h3, h4⟩ := R3.sto.at' n _ e4
    rw [ha] at h1; cases h1
    have ey := kV_of R3.top e5
    subst ey
    have tv : Rep X.K S3 as3 v t := R3.pend _ (List.mem_cons_of_mem _ (List.mem_cons_of_mem _ List.mem_cons_self))
    refine ⟨a, _, rfl, DPut.k h3 (by rw [h4.length]; exact Nat.lt_of_lt_of_le hl lim_line), q _ _ S3 as3 (R3.drop.drop.drop.objPut e4 ha ⟨_, upd_same, h4.put tv⟩)⟩
theorem ts_ownPut (i : Nat) {pos' : Pos} (hu : X.A.units + 1 < cLine) (ho : PE X o (tVar i)) (hk : PE X k (tOf X.K B mk)) (hv : PE X e (tOf X.K B mv)) (hs : swapsWith e (some (.Subscript o k pos')) pos.line X.env = pure false) :
    PS X (.Assign [.Subscript o k pos'] e pos) (sOf X.K B (sOwnPut i mk mv)) := (ps_dput hu ho hk hv hs).imp fun D σ H ⟨st, ps, S, as, R, fl, st', e, q⟩ => by
  obtain ⟨t, s1, kt, s2, kvs, qk, e1, hd, e3, e4, e5, hl, rfl, rfl⟩ := sOwnPut_inv e
  obtain ⟨kvs0, f0, e0⟩ := dicAt_inv hd
  refine ⟨st, ps, S, as, R, t, s1, e1, fun v H1 S1 as1 R1 => ?_⟩
  obtain ⟨p0, vs0, s0, rd0, _⟩ := R1.dictAt e0
  refine ⟨_, s0, s1, _, S1, as1, R1, kt, s2, e3, fun y H3 S3 as3 R3 => ?_⟩
  obtain ⟨w, h1, _, h3⟩ := R3.slots i _ true e4
  rw [s0] at h1; cases h1
  obtain ⟨p', ep, ow⟩ := h3 rfl
  cases ep
  obtain ⟨vs, hH, h4⟩ := ow.own
  have ey := kV_of R3.top e5
  subst ey
  exact ⟨p0, _, rfl, DPut.k hH (by rw [h4.length]; exact Nat.lt_of_lt_of_le hl lim_line), q _ _ S3 as3 (R3.drop.drop.turn e4 s0 ⟨_, upd_same, h4.put R3.top2⟩)⟩
end
end C

end

section
set_option Elab.async false
set_option linter.all false
set_option maxRecDepth 100000
set_option maxHeartbeats 4000002
set_option autoImplicit false
namespace C
open PySem PySem.Spec PyProof.Rows L2

theorem le1000 {ms : M (List T)} {n : Nat} (h : ∀ st ts st', ms st = some (ts, st') → ts.length ≤ n) (hn : n ≤ 1000) : ∀ st ts st', ms st = some (ts, st') → ts.length ≤ 1000 := fun st ts st' e => Nat.le_trans (h st ts st' e) hn
theorem sz_seq {m : M T} : ∀ st ts st', iSeq m st = some (ts, st') → ts.length ≤ sizeLine := fun st ts st' e => by
  unfold iSeq at e
  split at e
  · split at e
    · rename_i h; cases e; exact Nat.le_trans (Nat.le_of_lt h) lim_line
    · cases e
  · split at e
    · rename_i h; cases e; exact Nat.le_trans (Nat.le_of_lt h) lim_line
    · cases e
  · cases e
theorem sz_range {m : M T} : ∀ st ts st', iRange m st = some (ts, st') → ts.length ≤ sizeLine := fun st ts st' e => by
  obtain ⟨n, _, h, rfl⟩ := iRange_inv e
  unfold rangeT
  rw [List.length_map, List.length_range]
  refine Nat.le_trans ?_ lim_line
  show n.toNat ≤ 1000000
  omega
/-- a def that keeps its promise, by its name -/
def DefOk (P : Program) (w : World) (K : PySem.W.Frag) (mg : Str → Option Value) (base : Heap) (x : Str) (k : Nat) (ps : List Str) (F : Fn) : Prop :=
  ∃ f fd, FnOk P w K mg base CX0 k f fd ps (spF K ps.length F) ∧ Binds K fd ps [] ∧ PySem.W.keepIn K (.ref f) = true ∧ mg x = some (.ref f)
theorem DefOk.mono {P : Program} {w : World} {K : PySem.W.Frag} {mg : Str → Option Value} {base : Heap} {x : Str} {j k : Nat} {ps : List Str} {F : Fn} (d : DefOk P w K mg base x j ps F) (h : j ≤ k) : DefOk P w K mg base x k ps F := by
  obtain ⟨f, fd, h1, h2⟩ := d
  exact ⟨f, fd, h1.mono h, h2⟩
section
variable {X : Cx} {B : Bas} {a b c e o k : Expr} {m m1 m2 : M T} {pos p : Pos} {es : List Expr} {ms : M (List T)} {F : Fn} {x : Str} {n : Nat} {pn : List Str}
theorem te_callD (D : DefOk X.prog X.w X.K X.mg X.base x n pn F) (hr : Room n X.A) (hg : Gl X x)
    (ha : PA X (e :: es) (aOf X.K B ms)) (hl : ∀ st ts st', ms st = some (ts, st') → ts.length = pn.length) (hdb : (x == ("__debug__" : Str)) = false := by decide)
    (he : starEach (e :: es) X.env = (false, eval e X.env) :: starEach es X.env := by rfl) (hpl : (backTo pos (starEach es X.env)).any (·.1) = false := by rfl) :
    PE X (.Call (.Name x p) (e :: es) [] pos) (tOf X.K B (mCall F ms)) := by
  obtain ⟨f, fd, h1, h2, h3, h4⟩ := D
  exact te_call h1 hr hg h4 h3 h2 ha hl hdb he hpl
/-- new lists and dicts -/
theorem tf_lst (h : PA X es (aOf X.K B ms)) (hm : ∀ st ts st', ms st = some (ts, st') → ts.length ≤ 1000) : PE X (.List es pos) (fOf X.K B (mMap (fun l => some (.lst l)) ms)) :=
  (pe_lst h).imp fun σ H Q ⟨st, ps, S, as, R, t, st', e, q⟩ => by
    obtain ⟨ts, e1, e2⟩ := mMap_inv e
    cases e2
    refine ⟨st, ps, S, as, R, ts, st', e1, fun vs H1 S1 as1 R1 rs => ⟨?_, fun p hp => ?_⟩⟩
    · rw [rs.length]; exact Nat.le_of_lt (small1000 (hm _ _ _ e1))
    · obtain ⟨bD, sD, nD, no⟩ := R1.fresh hp
      exact q p _ S1 as1 (R1.poke bD sD nD no) ⟨⟨vs, upd_same, rs⟩, sD, nD, bD⟩ no
theorem tf_dnew : PE X (.Dict [] [] pos) (fOf X.K B (mPure (.dic []))) := pe_dnewK.imp fun σ H Q ⟨st, ps, S, as, R, t, st', e, q⟩ => by
  cases e
  intro p hp
  obtain ⟨bD, sD, nD, no⟩ := R.fresh hp
  exact q p _ S as (R.poke bD sD nD no) ⟨⟨[], upd_same, .nil⟩, sD, nD, bD⟩ no
/-- xs.append(e) -/
theorem Rel.listAt {K : PySem.W.Frag} {B : Bas} {st : Sta} {σ : L2.St} {H S : Hp} {ps : List (V × T)} {as : List Addr} (r : Rel K B st σ H ps S as) {i : Nat} {xs : List T} {f : Bool} (e : st.env[i]? = some (some (.lst xs, f))) : ∃ p vs, σ[i]? = some (some (.ref p)) ∧ SqL K H p vs ∧ Reps K S as vs xs := by
  obtain ⟨v, h1, h2, h3⟩ := r.slots i _ f e
  cases f with
  | false =>
    have h := h2 rfl
    cases h with
    | lst a b => exact ⟨_, _, h1, sqL_mono r.sub a, b⟩
  | true =>
    obtain ⟨p, rfl, o⟩ := h3 rfl
    obtain ⟨vs, h, q⟩ := o.own
    exact ⟨p, vs, h1, SqL.of h, q⟩
theorem ts_append (i : Nat) {st : Stmt} (h : PS X st (tDrop (tBM X.K "list" rAppend (tVar i) (tCons (tOf X.K B m) tNil)))) : PS X st (sOf X.K B (sAppend i m)) := h.imp fun D σ H ⟨st, ps, S, as, R, fl, st', e, q⟩ => by
  obtain ⟨hd, t, s1, xs, e1, e2, hl, rfl, rfl⟩ := sAppend_inv e
  obtain ⟨xs0, f0, e0⟩ := lstAt_inv hd
  obtain ⟨p0, vs0, s0, q0, _⟩ := R.listAt e0
  refine ⟨_, s0, .inl ⟨rfl, _, q0⟩, st, ps, S, as, R, t, s1, e1, fun v H1 S1 as1 R1 => ?_⟩
  obtain ⟨w, h1, _, h3⟩ := R1.slots i _ true e2
  rw [s0] at h1; cases h1
  obtain ⟨p', ep, ow⟩ := h3 rfl
  cases ep
  obtain ⟨vs, hH, h4⟩ := ow.own
  exact ⟨p0, vs, v, rfl, rfl, hH, by rw [h4.length]; exact Nat.lt_of_lt_of_le hl lim_line, q _ _ S1 as1 (R1.drop.turn e2 s0 ⟨_, upd_same, h4.append (.cons R1.top .nil)⟩)⟩
/-- several names at once -/
theorem tg_tup2 {i j : Nat} {tg : Expr} (h : PG X tg (gTup X.K 2 (gCons (gName i) (gCons (gName j) gNil)))) : PG X tg (gOf X.K B (hTup [i, j])) := fun pins s σ H x u Q I r ⟨st, ps, S, as, t, R, st', e, q⟩ => h pins s σ H x u Q I r (by
  have top := R.top
  cases t with
  | tup xs =>
    cases top with
    | @tup a vs _ g1 g2 =>
      simp only [hTup] at e
      split at e
      · rename_i hl
        cases e
        cases g2 with
        | nil => simp at hl
        | cons r1 g2 =>
          cases g2 with
          | nil => simp at hl
          | cons r2 g2 =>
            cases g2 with
            | cons _ _ => simp at hl
            | nil =>
              refine ⟨a, _, rfl, sqT_mono R.sub g1, rfl, _, _, rfl, _, _, rfl, rfl, ?_⟩
              exact q _ H S as ((R.drop.put (i := i) r1).put (i := j) r2)
      · cases e
  | _ => simp only [hTup, reduceCtorEq] at e)
end
end C

end

section
set_option Elab.async false
set_option linter.all false
set_option maxRecDepth 100000
set_option maxHeartbeats 4000002
set_option autoImplicit false
namespace C
open PySem PySem.Spec PyProof.Rows L2

section
variable {X : Cx} {B : Bas} {a b c e o k : Expr} {m m1 m2 : M T} {pos p : Pos}
theorem ints_vals {K : PySem.W.Frag} {S : Hp} {as : List Addr} : ∀ {vs : List V} {ts : List T} {l : List Int}, Reps K S as vs ts → intsT ts = some l → vs = l.map V.int
  | _, _, l, .nil, h => by cases h; rfl
  | _, _, l, .cons (t := t) h1 h2, h => by
    cases h1 <;> simp only [intsT, reduceCtorEq] at h
    obtain ⟨l', e1, e2⟩ := Option.map_eq_some_iff.mp h
    subst e2
    rw [ints_vals h2 e1]; rfl
theorem bools_vals {K : PySem.W.Frag} {S : Hp} {as : List Addr} : ∀ {vs : List V} {ts : List T} {l : List Bool}, Reps K S as vs ts → boolsT ts = some l → vs = l.map V.bl
  | _, _, l, .nil, h => by cases h; rfl
  | _, _, l, .cons (t := t) h1 h2, h => by
    cases h1 <;> simp only [boolsT, reduceCtorEq] at h
    obtain ⟨l', e1, e2⟩ := Option.map_eq_some_iff.mp h
    subst e2
    rw [bools_vals h2 e1]; rfl
theorem strs_vals {K : PySem.W.Frag} {S : Hp} {as : List Addr} : ∀ {vs : List V} {ts : List T} {l : List Str}, Reps K S as vs ts → strsT ts = some l → vs = l.map V.str
  | _, _, l, .nil, h => by cases h; rfl
  | _, _, l, .cons (t := t) h1 h2, h => by
    cases h1 <;> simp only [strsT, reduceCtorEq] at h
    obtain ⟨l', e1, e2⟩ := Option.map_eq_some_iff.mp h
    subst e2
    rw [strs_vals h2 e1]; rfl
theorem vals_get {l : List Int} {us : List Value} (r : Vals (l.map V.int) us) {i : Nat} {v : Value} (h : us.toArray[i]? = some v) : ∃ t, v = .int (l.getD i 0) t := by
  rw [List.getElem?_toArray] at h
  have hi : i < (l.map V.int).length := by rw [r.length]; exact (List.getElem?_eq_some_iff.mp h).1
  rw [List.length_map] at hi
  have e : (l.map V.int)[i]? = some (.int l[i]) := by rw [List.getElem?_map, List.getElem?_eq_getElem hi]; rfl
  obtain ⟨u, h1, t, h2⟩ := r.get e
  rw [h] at h1; cases h1
  exact ⟨t, by rw [h2, List.getD_eq_getElem?_getD, List.getElem?_eq_getElem hi]; rfl⟩
theorem vals_getB {l : List Bool} {us : List Value} (r : Vals (l.map V.bl) us) {i : Nat} {v : Value} (h : us.toArray[i]? = some v) : v = .bool (l.getD i true) := by
  rw [List.getElem?_toArray] at h
  have hi : i < (l.map V.bl).length := by rw [r.length]; exact (List.getElem?_eq_some_iff.mp h).1
  rw [List.length_map] at hi
  have e : (l.map V.bl)[i]? = some (.bl l[i]) := by rw [List.getElem?_map, List.getElem?_eq_getElem hi]; rfl
  obtain ⟨u, h1, h2⟩ := r.get e
  rw [h] at h1; cases h1
  rw [h2, List.getD_eq_getElem?_getD, List.getElem?_eq_getElem hi]; rfl
theorem Inv.lstAt {pins : List (Addr × Obj)} {σ : L2.St} {H : Hp} {s : Shared} {a : Addr} {xs : List V} (I : L2.Inv X pins σ H s) (h : SqL X.K H a xs) : a < s.heap.objs.size := by
  obtain ⟨its, _, ⟨o, n, h1, _⟩, _⟩ := I.list h
  exact Heap.lt_size h1
theorem callT_sum (hc : X.calm = true) : CallT X (.builtin "sum") sumT := by
  intro pins s σ H xs us Q I rs ⟨S, as, ts, w, sub, hr, hf, q⟩
  cases hr with
  | nil => simp only [sumT, reduceCtorEq] at hf
  | @cons x t xs' ts' h1 h2 =>
    cases h2 with
    | cons h3 h4 => simp only [sumT, reduceCtorEq] at hf
    | nil =>
      cases h1 with
      | @lst a vs ts g1 g2 =>
        simp only [sumT] at hf
        obtain ⟨l, e1, e2⟩ := Option.map_eq_some_iff.mp hf
        subst e2
        have ev := ints_vals g2 e1
        subst ev
        obtain ⟨u, rfl, ru⟩ := rs.one
        cases ru
        obtain ⟨its, r, p, hz⟩ := I.list (sqL_mono sub g1)
        have hlt := Inv.lstAt I (sqL_mono sub g1)
        refine call_sum_walkG (wpAny_pyIter_list p.isList ?_)
        refine ⟨_, _, _, _, _, _, fun i => l.getD i 0, rfl, Walks.list (A := X.A.in1) (show X.A.in1.handled = none from I.ok.hd hc) s.heap.objs.size a (Nat.ne_of_lt hlt) its.toArray, And.intro ⟨_, Heap.get?_push_size _ rfl, rfl, rfl⟩ (PlainL.keeps p fun b o e => Heap.get?_push_of_some _ e).isList, fun b hb => ?_, fun i v hv => vals_get r hv, fun h' tk t' hk => ?_⟩
        · rw [Heap.size_push]
          rcases List.mem_cons.mp hb with rfl | hb -- here
          · exact Nat.lt_succ_self _
          · rw [List.mem_singleton.mp hb]; exact Nat.lt_succ_of_lt hlt -- here
        · have hl : its.toArray.size = l.length := by rw [List.size_toArray, ← r.length, List.length_map]
          rw [hl, preSum_getD, List.take_length]
          exact ⟨.int l.sum, H, I.kept (h' := h') (t' := tk) fun b u e => hk b u (by simp; exact Nat.ne_of_lt (Heap.lt_size e)) (Heap.get?_push_of_some _ e), ⟨_, rfl⟩, q _ H S (Ext.refl sub) (.int _)⟩
      | _ => simp only [sumT, reduceCtorEq] at hf

theorem all_range (l : List Bool) (d : Bool) : ((List.range l.length).all fun i => l.getD i d) = l.all id := by
  induction l with
  | nil => rfl
  | cons x r ih =>
    rw [List.length_cons, List.range_succ_eq_map, List.all_cons, List.all_map, List.all_cons, ← ih]
    rfl
theorem any_range (l : List Bool) (d : Bool) : ((List.range l.length).any fun i => l.getD i d) = l.any id := by
  induction l with
  | nil => rfl
  | cons x r ih =>
    rw [List.length_cons, List.range_succ_eq_map, List.any_cons, List.any_map, List.any_cons, ← ih]
    rfl
theorem callT_all (hc : X.calm = true) : CallT X (.builtin "all") allT := by
  intro pins s σ H xs us Q I rs ⟨S, as, ts, w, sub, hr, hf, q⟩
  cases hr with
  | nil => simp only [allT, reduceCtorEq] at hf
  | @cons x t xs' ts' h1 h2 =>
    cases h2 with
    | cons h3 h4 => simp only [allT, reduceCtorEq] at hf
    | nil =>
      cases h1 with
      | @lst a vs ts g1 g2 =>
        simp only [allT] at hf
        obtain ⟨l, e1, e2⟩ := Option.map_eq_some_iff.mp hf
        subst e2
        have ev := bools_vals g2 e1
        subst ev
        obtain ⟨u, rfl, ru⟩ := rs.one
        cases ru
        obtain ⟨its, r, p, hz⟩ := I.list (sqL_mono sub g1)
        have hlt := Inv.lstAt I (sqL_mono sub g1)
        refine call_all_walk (wpAny_pyIter_list p.isList ?_)
        refine ⟨_, _, _, _, _, _, fun i => l.getD i true, rfl, Walks.list (A := X.A.in1) (show X.A.in1.handled = none from I.ok.hd hc) s.heap.objs.size a (Nat.ne_of_lt hlt) its.toArray, And.intro ⟨_, Heap.get?_push_size _ rfl, rfl, rfl⟩ (PlainL.keeps p fun b o e => Heap.get?_push_of_some _ e).isList, fun i v s Q E hv hq => ?_, fun h' tk hk => ?_⟩
        · have e := vals_getB r hv
          subst e
          exact wpAny_truthy_bool hq
        · have hl : its.toArray.size = l.length := by rw [List.size_toArray, ← r.length, List.length_map]
          rw [hl, all_range]
          exact ⟨.bl (l.all id), H, I.kept (h' := h') (t' := tk) fun b u e => hk b u (by simp; exact Nat.ne_of_lt (Heap.lt_size e)) (Heap.get?_push_of_some _ e), rfl, q _ H S (Ext.refl sub) (.bl _)⟩
      | _ => simp only [allT, reduceCtorEq] at hf
theorem callT_any (hc : X.calm = true) : CallT X (.builtin "any") anyT := by
  intro pins s σ H xs us Q I rs ⟨S, as, ts, w, sub, hr, hf, q⟩
  cases hr with
  | nil => simp only [anyT, reduceCtorEq] at hf
  | @cons x t xs' ts' h1 h2 =>
    cases h2 with
    | cons h3 h4 => simp only [anyT, reduceCtorEq] at hf
    | nil =>
      cases h1 with
      | @lst a vs ts g1 g2 =>
        simp only [anyT] at hf
        obtain ⟨l, e1, e2⟩ := Option.map_eq_some_iff.mp hf
        subst e2
        have ev := bools_vals g2 e1
        subst ev
        obtain ⟨u, rfl, ru⟩ := rs.one
        cases ru
        obtain ⟨its, r, p, hz⟩ := I.list (sqL_mono sub g1)
        have hlt := Inv.lstAt I (sqL_mono sub g1)
        refine call_any_walk (wpAny_pyIter_list p.isList ?_)
        refine ⟨_, _, _, _, _, _, fun i => l.getD i true, rfl, Walks.list (A := X.A.in1) (show X.A.in1.handled = none from I.ok.hd hc) s.heap.objs.size a (Nat.ne_of_lt hlt) its.toArray, And.intro ⟨_, Heap.get?_push_size _ rfl, rfl, rfl⟩ (PlainL.keeps p fun b o e => Heap.get?_push_of_some _ e).isList, fun i v s Q E hv hq => ?_, fun h' tk hk => ?_⟩
        · have e := vals_getB r hv
          subst e
          exact wpAny_truthy_bool hq
        · have hl : its.toArray.size = l.length := by rw [List.size_toArray, ← r.length, List.length_map]
          rw [hl, any_range]
          exact ⟨.bl (l.any id), H, I.kept (h' := h') (t' := tk) fun b u e => hk b u (by simp; exact Nat.ne_of_lt (Heap.lt_size e)) (Heap.get?_push_of_some _ e), rfl, q _ H S (Ext.refl sub) (.bl _)⟩
      | _ => simp only [anyT, reduceCtorEq] at hf
/-! ### sorted -/
theorem strsAre_of : ∀ {l : List Str} {us : List Value}, Vals (l.map V.str) us → StrsAre us l
  | [], _, r => by cases r; exact .nil
  | x :: l, _, r => by
    rw [List.map_cons] at r
    cases r with
    | cons r1 r2 => obtain ⟨t, rfl⟩ := r1; exact .cons x t (strsAre_of r2)
theorem vals_strs : ∀ {l : List Str} {us : List Value}, StrsAre us l → Vals (l.map V.str) us
  | _, _, .nil => .nil
  | _, _, .cons x t h => .cons ⟨t, rfl⟩ (vals_strs h)
abbrev leStr (a b : Str) : Prop := ¬ b.cps.toList < a.cps.toList
theorem leStr_trans {a b c : Str} (h1 : leStr a b) (h2 : leStr b c) : leStr a c := fun h => by
  have h3 : a.cps.toList ≤ b.cps.toList := List.not_lt.mp h1
  have h4 : b.cps.toList ≤ c.cps.toList := List.not_lt.mp h2
  exact List.not_lt.mpr (List.le_trans h3 h4) h
theorem leStr_anti {a b : Str} (h1 : leStr a b) (h2 : leStr b a) : a = b := by
  have h3 : a.cps.toList ≤ b.cps.toList := List.not_lt.mp h1
  have h4 : b.cps.toList ≤ a.cps.toList := List.not_lt.mp h2
  have h5 := List.le_antisymm h3 h4
  cases a; cases b
  simp at h5; subst h5; rfl
theorem rising_pair : ∀ (p : Str) (l : List Str), risingS p l = true → (p :: l).Pairwise leStr
  | p, [], _ => by simp
  | p, x :: r, h => by
    rw [risingS, Bool.and_eq_true] at h
    have ih := rising_pair x r h.2
    have hx : leStr p x := fun z => by
      have := h.1
      rw [ltCps_eq, decide_eq_true z] at this
      cases this
    refine List.pairwise_cons.mpr ⟨fun y hy => ?_, ih⟩
    rcases List.mem_cons.mp hy with rfl | hy -- here
    · exact hx
    · exact leStr_trans hx (List.rel_of_pairwise_cons ih hy)
theorem sorted_pair (l : List Str) (h : sortedS l = true) : l.Pairwise leStr := by
  cases l with
  | nil => exact .nil
  | cons x r => exact rising_pair x r h
theorem ins1_perm (x : Str) : ∀ l, (ins1 x l).Perm (x :: l)
  | [] => .refl _
  | y :: r => by
    rw [ins1]
    split
    · exact .refl _
    · exact ((ins1_perm x r).cons y).trans (.swap x y r)
theorem ins1_pair (x : Str) : ∀ l : List Str, l.Pairwise leStr → (ins1 x l).Pairwise leStr
  | [], _ => by simp [ins1]
  | y :: r, h => by
    rw [ins1]
    split
    · rename_i hx
      have hx := of_decide_eq_true hx
      have hxy : leStr x y := fun z => List.lt_irrefl _ (List.lt_trans hx z)
      refine List.pairwise_cons.mpr ⟨fun z hz => ?_, h⟩
      rcases List.mem_cons.mp hz with rfl | hz -- here
      · exact hxy
      · exact leStr_trans hxy (List.rel_of_pairwise_cons h hz)
    · rename_i hx
      have hx : leStr y x := fun z => hx (decide_eq_true z)
      refine List.pairwise_cons.mpr ⟨fun z hz => ?_, ins1_pair x r (List.pairwise_cons.mp h).2⟩
      rcases List.mem_cons.mp ((ins1_perm x r).mem_iff.mp hz) with rfl | hz
      · exact hx
      · exact List.rel_of_pairwise_cons h hz
theorem isort_fold : ∀ (l acc : List Str), acc.Pairwise leStr → (l.foldl (fun acc x => ins1 x acc) acc).Pairwise leStr ∧ (l.foldl (fun acc x => ins1 x acc) acc).Perm (l ++ acc)
  | [], acc, h => ⟨h, .refl _⟩
  | x :: l, acc, h => by
    obtain ⟨h1, h2⟩ := isort_fold l (ins1 x acc) (ins1_pair x acc h)
    exact ⟨h1, h2.trans (((ins1_perm x acc).append_left l).trans (List.perm_middle))⟩
theorem isort_pair (l : List Str) : (isort l).Pairwise leStr := (isort_fold l [] .nil).1
theorem isort_perm (l : List Str) : (isort l).Perm l := by
  have := (isort_fold l [] .nil).2
  rwa [List.append_nil] at this
theorem isort_eq {l l' : List Str} (h1 : sortedS l' = true) (h2 : l'.Perm l) : l' = isort l :=
  List.Perm.eq_of_pairwise (le := leStr) (fun _ _ _ _ => leStr_anti) (sorted_pair l' h1) (isort_pair l) (h2.trans (isort_perm l).symm)
theorem reps_strs {K : PySem.W.Frag} {S : Hp} {as : List Addr} : ∀ l : List Str, Reps K S as (l.map V.str) (l.map T.str)
  | [] => .nil
  | x :: l => .cons (.str x) (reps_strs l)
theorem sortedL_ok {pins : List (Addr × Obj)} {σ : L2.St} {H S : Hp} {s : Shared} {as : List Addr} {a : Addr} {l : List Str} {Q : VK} (I : L2.Inv X pins σ H s) (sub : Same S H) (g1 : SqL X.K H a (l.map V.str)) (h64 : l.length < 64)
    (q : ∀ v H' S', Ext S H S' H' → Rep X.K S' as v (.lst ((isort l).map .str)) → Q v H') : wpAny (model X.prog X.w) X.A (call (.builtin "sorted") [.ref a]) (EP X pins σ Q) X.xe s := by
  obtain ⟨its, r, p, hz⟩ := I.list g1
  refine sorted_strs p.isList (strsAre_of r) (by rw [← r.length, List.length_map]; exact h64) fun out ss' a1 a2 a3 => ?_
  have es := isort_eq a3 a2
  subst es
  obtain ⟨e, he⟩ := sortedAll_at s.heap its out
  have hl : (List.map V.str (isort l)).length ≤ sizeLine := by
    rw [List.length_map, (isort_perm l).length_eq]
    exact Nat.le_trans (Nat.le_of_lt h64) (by rw [sizeLine_eq]; decide)
  have hn : H (s.heap.objs.size + 1) = none := I.hok.fresh (Nat.le_succ _)
  have x := Ext.laid sub hn (.lst ((isort l).map V.str))
  refine ⟨.ref (s.heap.objs.size + 1), _, I.laid (a := s.heap.objs.size + 1) (o := .lst ((isort l).map V.str)) (h' := sortedAll s.heap its out) (t' := s.toks) (fun _ _ => sortedAll_old) (Nat.le_succ _) ⟨hl, out.toList, e, vals_strs a1, he⟩, rfl, q _ _ _ x (.lst (SqL.of upd_same) (reps_strs _))⟩
theorem callT_sortedL : CallR X (.builtin "sorted") (fun xs H Q => ∃ S as ts l, Same S H ∧ Reps X.K S as xs [.lst ts] ∧ ts.length < 64 ∧ strsT ts = some l ∧ ∀ v H' S', Ext S H S' H' → Rep X.K S' as v (.lst ((isort l).map .str)) → Q v H') := by
  intro pins s σ H xs us Q I rs ⟨S, as, ts, l, sub, hr, h64, e1, q⟩
  cases hr with
  | cons h1 h2 =>
    cases h2
    cases h1 with
    | @lst a vs _ g1 g2 =>
      have ev := strs_vals g2 e1
      subst ev
      obtain ⟨u, rfl, ru⟩ := rs.one
      cases ru
      have hl := g2.length
      rw [List.length_map] at hl
      exact sortedL_ok I sub (sqL_mono sub g1) (by omega) q

/-! ### isinstance -/
def tyOf : T → Option Value
  | .non => some (.type "NoneType")
  | .bl _ => some (.type "bool")
  | .int _ => some (.type "int")
  | .str _ => some (.type "str")
  | .tup _ => some (.type "tuple")
  | .lst _ => some (.type "list")
  | .dic _ => some (.type "dict")
  | .obj _ => none
theorem isi_ok {pins : List (Addr × Obj)} {σ : L2.St} {H S : Hp} {s : Shared} {as : List Addr} {x : V} {u c : Value} {t : T} {ty : Value} {b : Bool} {Q : Value → Shared → Prop} {E : Value → Shared → Prop} (I : L2.Inv X pins σ H s) (sub : Same S H) (rx : RelV x u) (r : Rep X.K S as x t) (hty : tyOf t = some ty)
    (e : PySem.W.kitOne X.K ty c = some b) (h : ∀ tk, Q (.bool b) { s with toks := tk }) : wpAny (model X.prog X.w) X.A (call (.builtin "isinstance") [u, c]) Q E s := by
  cases r with
  | non => cases hty; exact isinst_ok I rx .non e h
  | bl y => cases hty; exact isinst_ok I rx (.bl y) e h
  | int y => cases hty; exact isinst_ok I rx (.int y) e h
  | str y => cases hty; exact isinst_ok I rx (.str y) e h
  | @tup a vs ts g1 g2 =>
    cases hty
    cases (show u = Value.ref a from rx)
    obtain ⟨its, _, ⟨o, h1, h2, _⟩, _⟩ := I.tuple (sqT_mono sub g1)
    exact PySem.W.kia_one PySem.W.kitx_tuple I.kIn ⟨o, h1, h2⟩ e (fun z => nomatch z) h
  | @lst a vs ts g1 g2 =>
    cases hty
    cases (show u = Value.ref a from rx)
    obtain ⟨its, _, ⟨o, n, h1, h2, _⟩, _⟩ := I.list (sqL_mono sub g1)
    exact PySem.W.kia_one PySem.W.kitx_list I.kIn ⟨o, h1, h2⟩ e (fun z => nomatch z) h
  | @dic a kvs ts g1 g2 =>
    cases hty
    cases (show u = Value.ref a from rx)
    obtain ⟨_, _, vs, _, o, es, ep, h1, h2, _⟩ := dk_rd I.hok (rd_mono sub g1)
    exact PySem.W.kia_one PySem.W.kitx_dict I.kIn ⟨o, h1, h2.1⟩ e (fun z => nomatch z) h
  | obj h => cases hty
/-- is it one of these -/
def isiT (f : Value → Bool) : List T → Option T
  | [t] => (tyOf t).map fun ty => .bl (f ty)
  | _ => none
theorem te_isi {cn : String} {f : Value → Bool} {pc : Pos} (hg : Gl X "isinstance") (hm : X.mg "isinstance" = none) (hg2 : Gl X (Str.ofString cn)) (hm2 : X.mg (Str.ofString cn) = none) (hv : bootBuiltins (Str.ofString cn) = some (.type cn))
    (hf : ∀ t ty, tyOf t = some ty → PySem.W.kitOne X.K ty (.type cn) = some (f ty)) (ha : PE X a (tOf X.K B m)) (hd : ((Str.ofString cn) == ("__debug__" : Str)) = false) (hn : (Str.ofString cn) ≠ "__name__")
    (he : starEach [a, .Name (Str.ofString cn) pc] X.env = (false, eval a X.env) :: starEach [.Name (Str.ofString cn) pc] X.env := by rfl) (he2 : starEach [.Name (Str.ofString cn) pc] X.env = (false, eval (.Name (Str.ofString cn) pc) X.env) :: starEach [] X.env := by rfl)
    (hpl : (backTo pos (starEach [.Name (Str.ofString cn) pc] X.env)).any (·.1) = false := by rfl) :
    PE X (.Call (.Name "isinstance" p) [a, .Name (Str.ofString cn) pc] [] pos) (tOf X.K B (mMap (isiT f) (mCons m mNil))) := by
  have hc : CallR X (.builtin "isinstance") (fun xs H Q => ∃ S as x t ty, xs = [x, .ty cn] ∧ Same S H ∧ Rep X.K S as x t ∧ tyOf t = some ty ∧ Q (.bl (f ty)) H) := by
    intro pins s σ H xs us Q I rs ⟨S, as, x, t, ty, ex, sub, r, hty, q⟩
    subst ex
    obtain ⟨u, w, rfl, r1, r2⟩ := rs.two
    cases r2
    exact isi_ok I sub r1 r hty (hf t ty hty) fun tk => ⟨.bl (f ty), H, I.tok _, rfl, q⟩
  have hnm : PE X (.Name (Str.ofString cn) pc) (tC (.ty cn)) := pe_bltn hg2 hm2 hv rfl hn hd
  refine (pe_callB hc hg hm PyProof.Rows.boot_isinstance (pa_cons ha (pa_cons hnm pa_nil he2) he) (by decide) (by decide) he hpl).imp fun σ H Q ⟨st, ps, S, as, R, t, st', e, q⟩ => ?_
  obtain ⟨ts, e1, e2⟩ := mMap_inv e
  obtain ⟨t1, s1, us, ea, en, rfl⟩ := mCons_inv e1
  cases en
  simp only [isiT] at e2
  obtain ⟨ty, e3, e4⟩ := Option.map_eq_some_iff.mp e2
  subst e4
  exact ⟨st, ps, S, as, R, t1, _, ea, fun v H1 S1 as1 R1 => ⟨S1, as1, v, t1, ty, rfl, R1.sub, R1.top, e3, q _ H1 S1 as1 (R1.drop.push (.bl _))⟩⟩
example (K : PySem.W.Frag) : PySem.W.kitOne K (.type "bool") (.type "int") = some true := by rfl
example (K : PySem.W.Frag) : PySem.W.kitOne K (.type "str") (.type "int") = some false := by rfl
end
end C

end

section
set_option Elab.async false
set_option linter.all false
set_option maxRecDepth 100000
set_option maxHeartbeats 4000002
set_option autoImplicit false
namespace C
open PySem PySem.Spec PyProof.Rows L2

theorem list_extendL (l b : Addr) (xs0 ys0 : Array Value) (n n2 : Nat) (dd2 : Option Addr) (sl2 : Array (Option Value)) (hs0 : ¬(!xs0.isEmpty && Builtin.List.listTooLong (xs0.size + ys0.size)) = true) (hs1 : xs0.size ≤ sizeLine) (hs2 : xs0.size + ys0.size ≤ sizeLine + 1) :
    Meets (Builtin.«list.extend» ⟨[.ref l, .ref b], []⟩) (fun _ R s => s.heap.get? l = some { cls := .type "list", dict := none, data := .seq xs0 n, slots := #[] } ∧ s.heap.get? b = some { cls := .type "list", dict := dd2, data := .seq ys0 n2, slots := sl2 } ∧ R (.ok (.ret Value.none)) { s with heap := s.heap.update l (Obj.mapSeq fun x => x ++ ys0), toks := s.toks }) :=
  .of_wp fun pr wd Ar R z h => by
    obtain ⟨hp, gs, dr, tk, os⟩ := z; obtain ⟨hl, hb, h⟩ := h; have f1 := AutoSeq1.idx_int; have f2 := AutoSeq1.sub_tuple_tuple; have f3 := AutoSeq1.sub_list_list; have f4 := AutoSeq1.sub_tuple_list; have f5 := AutoSeq1.sub_list_tuple
    have hz' : (xs0 ++ ys0).size ≤ sizeLine + 1 := by rw [Array.size_append]; exact hs2
    wp_walk using (wpAny_updateSeq hl rfl (hz := hs1) (_hz' := hz')), AutoSeq1.wpAny_loadPart' hl, AutoSeq1.wpAny_loadPart' hb; exact ⟨_, rfl, h⟩
theorem list_extendT (l b : Addr) (xs0 ys0 : Array Value) (n n2 : Nat) (dd2 : Option Addr) (sl2 : Array (Option Value)) (hs0 : ¬(!xs0.isEmpty && Builtin.List.listTooLong (xs0.size + ys0.size)) = true) (hs1 : xs0.size ≤ sizeLine) (hs2 : xs0.size + ys0.size ≤ sizeLine + 1) :
    Meets (Builtin.«list.extend» ⟨[.ref l, .ref b], []⟩) (fun _ R s => s.heap.get? l = some { cls := .type "list", dict := none, data := .seq xs0 n, slots := #[] } ∧ s.heap.get? b = some { cls := .type "tuple", dict := dd2, data := .seq ys0 n2, slots := sl2 } ∧ R (.ok (.ret Value.none)) { s with heap := s.heap.update l (Obj.mapSeq fun x => x ++ ys0), toks := s.toks }) :=
  .of_wp fun pr wd Ar R z h => by
    obtain ⟨hp, gs, dr, tk, os⟩ := z; obtain ⟨hl, hb, h⟩ := h; have f1 := AutoSeq1.idx_int; have f2 := AutoSeq1.sub_tuple_tuple; have f3 := AutoSeq1.sub_list_list; have f4 := AutoSeq1.sub_tuple_list; have f5 := AutoSeq1.sub_list_tuple
    have hz' : (xs0 ++ ys0).size ≤ sizeLine + 1 := by rw [Array.size_append]; exact hs2
    wp_walk using (wpAny_updateSeq hl rfl (hz := hs1) (_hz' := hz')), AutoSeq1.wpAny_loadPart' hl, AutoSeq1.wpAny_loadPart' hb; exact ⟨_, rfl, h⟩
section
variable {X : Cx} {B : Bas} {m : M T}
def rExtendS (K : PySem.W.Frag) : V → List V → Hp → VK → Prop := fun x vs H Q => ∃ l b xs zs, x = .ref l ∧ vs = [.ref b] ∧ H l = some (.lst xs) ∧ (SqL K H b zs ∨ SqT K H b zs) ∧ xs.length + zs.length ≤ sizeLine ∧ Q .non (upd H l (.lst (xs ++ zs)))
theorem mt_extendS : MtM X "list.extend" (rExtendS X.K) := by
  intro pins s σ H x vs v us Q I rx rv h
  obtain ⟨l, b, xs, zs, rfl, rfl, hH, hB, hz, q⟩ := h
  cases rx
  obtain ⟨u, rfl, ru⟩ := rv.one
  cases ru
  obtain ⟨z, its, n, r, hl, e⟩ := I.lstM hH
  have fin : ∀ its2 : List Value, Vals zs its2 → L2.Inv X pins σ (upd H l (.lst (xs ++ zs))) { s with heap := s.heap.update l (Obj.mapSeq fun x => x ++ its2.toArray), toks := s.toks } := fun its2 r2 =>
    I.lset (its' := its ++ its2) hH e (by simp) (r.append r2) (by rw [List.length_append]; exact hz)
  have hlong : ∀ its2 : List Value, Vals zs its2 → ¬ (!its.toArray.isEmpty && Builtin.List.listTooLong (its.toArray.size + its2.toArray.size)) = true := fun its2 r2 => by
    have hsz : its.toArray.size + its2.toArray.size ≤ sizeLine := by rw [List.size_toArray, List.size_toArray, ← hl, ← r2.length]; exact hz
    rw [notLongL hsz, Bool.and_false]
    exact Bool.false_ne_true
  rcases hB with hB | hB
  · obtain ⟨its2, r2, ⟨⟨cls2, dd2, data2, sl2⟩, n2, ho2, hc2, hd02, hd2⟩, _⟩ := I.list hB
    simp only at hc2 hd2
    subst hc2 hd2
    refine call_meets F.slot_list_extend ⟨_, e, rfl⟩ F.entry_list_extend (F.args_list_extend_2 _ _)
      (list_extendL l b its.toArray its2.toArray n n2 dd2 sl2 (hlong its2 r2) (by rw [List.size_toArray, ← hl]; omega) (by rw [List.size_toArray, List.size_toArray, ← hl, ← r2.length]; omega)) ⟨e, ho2, ?_⟩
    exact ⟨.non, _, fin its2 r2, rfl, q⟩
  · obtain ⟨its2, r2, ⟨⟨cls2, dd2, data2, sl2⟩, ho2, hc2, n2, hd2⟩, _⟩ := I.tuple hB
    simp only at hc2 hd2
    subst hc2 hd2
    refine call_meets F.slot_list_extend ⟨_, e, rfl⟩ F.entry_list_extend (F.args_list_extend_2 _ _)
      (list_extendT l b its.toArray its2.toArray n n2 dd2 sl2 (hlong its2 r2) (by rw [List.size_toArray, ← hl]; omega) (by rw [List.size_toArray, List.size_toArray, ← hl, ← r2.length]; omega)) ⟨e, ho2, ?_⟩
    exact ⟨.non, _, fin its2 r2, rfl, q⟩
theorem ts_extend (i : Nat) {st : Stmt} (h : PS X st (tDrop (tBM X.K "list" (rExtendS X.K) (tVar i) (tCons (tOf X.K B m) tNil)))) : PS X st (sOf X.K B (sExtend i m)) := h.imp fun D σ H ⟨st, ps, S, as, R, fl, st', e, q⟩ => by
  obtain ⟨hd, t, s1, xs, ys, e1, ey, e2, hl, rfl, rfl⟩ := sExtend_inv e
  obtain ⟨xs0, f0, e0⟩ := lstAt_inv hd
  obtain ⟨p0, vs0, s0, q0, _⟩ := R.listAt e0
  refine ⟨_, s0, .inl ⟨rfl, _, q0⟩, st, ps, S, as, R, t, s1, e1, fun v H1 S1 as1 R1 => ?_⟩
  obtain ⟨w, h1, _, h3⟩ := R1.slots i _ true e2
  rw [s0] at h1; cases h1
  obtain ⟨p', ep, ow⟩ := h3 rfl
  cases ep
  obtain ⟨vs, hH, h4⟩ := ow.own
  have top := R1.top
  cases top with
  | @tup b zs _ g1 g2 =>
    simp only [seqOf] at ey; cases ey
    exact ⟨p0, b, vs, zs, rfl, rfl, hH, .inr (sqT_mono R1.sub g1), by rw [h4.length, g2.length]; exact Nat.le_trans (Nat.le_of_lt hl) lim_line, q _ _ S1 as1 (R1.drop.turn e2 s0 ⟨_, upd_same, h4.append g2⟩)⟩
  | @lst b zs _ g1 g2 =>
    simp only [seqOf] at ey; cases ey
    exact ⟨p0, b, vs, zs, rfl, rfl, hH, .inl (sqL_mono R1.sub g1), by rw [h4.length, g2.length]; exact Nat.le_trans (Nat.le_of_lt hl) lim_line, q _ _ S1 as1 (R1.drop.turn e2 s0 ⟨_, upd_same, h4.append g2⟩)⟩
  | _ => simp only [seqOf, reduceCtorEq] at ey
end
end C

end

section
set_option Elab.async false
set_option linter.all false
set_option maxRecDepth 100000
set_option maxHeartbeats 4000002
set_option autoImplicit false
namespace C
open PySem PySem.Spec PyProof.Rows L2

/-- a new object of the store -/
theorem Rel.newObj {K : PySem.W.Frag} {B : Bas} {st : Sta} {σ : L2.St} {H S : Hp} {ps : List (V × T)} {as : List Addr} {p : Addr} {ob : HO} {so : SO} (r : Rel K B st σ H ps S as) (hp : H p = none) (h : SRep K S (as ++ [p]) (upd H p ob) p so) :
    Rel K B { st with sto := st.sto ++ [so] } σ (upd H p ob) ((.ref p, .obj st.sto.length) :: ps) S (as ++ [p]) := by
  obtain ⟨bD, sD, nD, no⟩ := r.fresh hp
  have mo : ∃ l, as ++ [p] = as ++ l := ⟨[p], rfl⟩
  have other : ∀ q, q ≠ p → H q = upd H p ob q := fun q n => (upd_ne n).symm
  refine Rel.push (st := { st with sto := st.sto ++ [so] }) (H := upd H p ob) (v := .ref p) (t := .obj st.sto.length) ⟨fun b u e => ?_, ⟨r.grow.same, ?_, fun q o a b c => ?_⟩, fun i t f e => ?_, r.apart, ⟨?_, ?_, fun n so2 e => ?_⟩, fun q hq => (r.pend q hq).mono (Same.refl _) mo, r.len⟩ (.obj ?_)
  · rw [upd_ne (fun z => by subst z; rw [sD] at e; cases e)]; exact r.sub _ _ e
  · obtain ⟨l, e⟩ := r.grow.more
    exact ⟨l ++ [p], by rw [e, List.append_assoc]⟩
  · obtain ⟨x, y, z⟩ := r.grow.keep q o a b c
    have n : q ≠ p := fun w => by subst w; rw [bD] at a; cases a
    refine ⟨by rw [upd_ne n]; exact x, y, fun m => ?_⟩
    rcases List.mem_append.mp m with m | m
    · exact z m
    · exact n (List.mem_singleton.mp m)
  · obtain ⟨v, h1, h2, h3⟩ := r.slots i t f e
    refine ⟨v, h1, fun z => (h2 z).mono (Same.refl _) mo, fun z => ?_⟩
    obtain ⟨q, rfl, o⟩ := h3 z
    have n : q ≠ p := fun w => by subst w; subst z; exact no i t e h1
    refine ⟨q, rfl, o.own.more (Same.refl _) mo (other q n), o.out, fun m => ?_, o.new⟩
    rcases List.mem_append.mp m with m | m
    · exact o.nas m
    · exact n (List.mem_singleton.mp m)
  · show (as ++ [p]).length = (st.sto ++ [so]).length
    rw [List.length_append, List.length_append, r.sto.len]; rfl
  · refine List.nodup_append.mpr ⟨r.sto.nd, by simp, fun a ha b hb => ?_⟩
    rw [List.mem_singleton.mp hb]
    intro z; subst z; exact nD ha
  · have e : (st.sto ++ [so])[n]? = some so2 := e
    by_cases hn : n < st.sto.length
    · rw [List.getElem?_append_left hn] at e
      obtain ⟨a, h1, h2, h3⟩ := r.sto.at' n so2 e
      have na : a ≠ p := fun z => by subst z; exact nD (List.mem_of_getElem? h1)
      refine ⟨a, get_app h1, h2, ?_⟩
      cases so2 with
      | dic ts => obtain ⟨vs, x, y⟩ := h3; exact ⟨vs, by rw [upd_ne na]; exact x, y.mono (Same.refl _) mo⟩
      | lst ts => obtain ⟨vs, x, y⟩ := h3; exact ⟨vs, by rw [upd_ne na]; exact x, y.mono (Same.refl _) mo⟩
      | ins _ _ => exact h3.elim
    · rw [List.getElem?_append_right (Nat.le_of_not_lt hn)] at e
      have hn0 : n - st.sto.length = 0 := by
        have := (List.getElem?_eq_some_iff.mp e).1
        simp at this; omega
      rw [hn0] at e; cases e
      have hne : n = as.length := by rw [r.sto.len]; omega
      subst hne
      exact ⟨p, by rw [List.getElem?_append_right (Nat.le_refl _), Nat.sub_self]; rfl, sD, h⟩
  · rw [← r.sto.len, List.getElem?_append_right (Nat.le_refl _), Nat.sub_self]; rfl

/-- a value that is had from the names alone -/
def PN (X : Cx) (e : Expr) (N : L2.St → V → Prop) : Prop := PE X e (fun σ H Q => ∃ v, N σ v ∧ Q v H)
def MN (K : PySem.W.Frag) (m : M T) (N : L2.St → V → Prop) : Prop := ∀ (B : Bas) (st : Sta) (σ : L2.St) (H : Hp) (ps : List (V × T)) (S : Hp) (as : List Addr) (t : T) (st' : Sta), Rel K B st σ H ps S as → m st = some (t, st') → st' = st ∧ ∃ v, N σ v ∧ Rep K S as v t
structure PM (X : Cx) (e : Expr) (m : M T) (N : L2.St → V → Prop) : Prop where
  p : PN X e N
  m : MN X.K m N
section
variable {X : Cx} {B : Bas} {a b e e1 e2 : Expr} {m m1 m2 : M T} {N N1 N2 : L2.St → V → Prop} {pos p : Pos}
theorem pn_var (i : Nat) (h : PE X e (tVar i)) : PN X e (fun σ v => σ[i]? = some (some v)) := h
theorem pn_int {i : Int} {j : Nat} : PN X (.Constant (.int i) j pos) (fun _ v => v = .int i) := pe_int.imp fun σ H Q ⟨v, e, q⟩ => by subst e; exact q
theorem pn_bl {i : Bool} {j : Nat} : PN X (.Constant (.bool i) j pos) (fun _ v => v = .bl i) := pe_bl.imp fun σ H Q ⟨v, e, q⟩ => by subst e; exact q
theorem mn_var {K : PySem.W.Frag} (i : Nat) : MN K (mShr i) (fun σ v => σ[i]? = some (some v)) := fun B st σ H ps S as t st' R e => by
  unfold mShr at e
  split at e
  · rename_i t' e'
    cases e
    obtain ⟨v, h1, h2, _⟩ := R.slots i t false e'
    exact ⟨rfl, v, h1, h2 rfl⟩
  · cases e
theorem mn_int {K : PySem.W.Frag} {i : Int} : MN K (mPure (.int i)) (fun _ v => v = .int i) := fun B st σ H ps S as t st' R e => by cases e; exact ⟨rfl, _, rfl, .int i⟩
theorem mn_bl {K : PySem.W.Frag} {i : Bool} : MN K (mPure (.bl i)) (fun _ v => v = .bl i) := fun B st σ H ps S as t st' R e => by cases e; exact ⟨rfl, _, rfl, .bl i⟩
theorem pn_op {op : Operator} {f : T → T → Option T} {g : Int → Int → Int} {C : Int → Int → Prop} (ho : OpR X (binaryOp op) (rI C fun i j => .int (g i j))) (hf : ∀ t u w, f t u = some w → ∃ i j, t = .int i ∧ u = .int j ∧ C i j ∧ w = .int (g i j))
    (h1 : PM X a m1 N1) (h2 : PM X b m2 N2) : PM X (.BinOp a op b pos) (mOp f m1 m2) (fun σ v => ∃ i j, N1 σ (.int i) ∧ N2 σ (.int j) ∧ C i j ∧ v = .int (g i j)) where
  p := (pe_op ho h1.p h2.p).imp fun σ H Q ⟨v, ⟨i, j, n1, n2, c, ev⟩, q⟩ => by subst ev; exact ⟨_, n1, _, n2, i, j, rfl, rfl, c, q⟩
  m := fun B st σ H ps S as t st' R e => by
    obtain ⟨t1, s1, t2, e1, e2, e3⟩ := mOp_inv e
    obtain ⟨rfl, v1, n1, r1⟩ := h1.m B st σ H ps S as t1 s1 R e1
    obtain ⟨rfl, v2, n2, r2⟩ := h2.m B _ σ H ps S as t2 _ R e2
    obtain ⟨i, j, rfl, rfl, c, rfl⟩ := hf _ _ _ e3
    cases r1; cases r2
    exact ⟨rfl, _, ⟨i, j, n1, n2, c, rfl⟩, .int _⟩
theorem pn_add (h1 : PM X a m1 N1) (h2 : PM X b m2 N2) : PM X (.BinOp a .Add b pos) (mOp addI m1 m2) (fun σ v => ∃ i j, N1 σ (.int i) ∧ N2 σ (.int j) ∧ True ∧ v = .int (i + j)) :=
  pn_op (C := fun _ _ => True) (fun pins s σ H x y v u Q I rx ry ⟨i, j, h1, h2, _, q⟩ => op_add pins s σ H x y v u Q I rx ry ⟨i, j, h1, h2, q⟩) (fun t u w h => by
    cases t <;> cases u <;> simp only [addI, reduceCtorEq] at h
    cases h; exact ⟨_, _, rfl, rfl, trivial, rfl⟩) h1 h2
theorem pn_mod (h1 : PM X a m1 N1) (h2 : PM X b m2 N2) : PM X (.BinOp a .Mod b pos) (mOp modT m1 m2) (fun σ v => ∃ i j, N1 σ (.int i) ∧ N2 σ (.int j) ∧ 0 < j ∧ v = .int (i % j)) :=
  pn_op op_mod (fun t u w h => by
    cases t <;> cases u <;> simp only [modT, reduceCtorEq] at h
    split at h
    · cases h; exact ⟨_, _, rfl, rfl, by assumption, rfl⟩
    · cases h) h1 h2
theorem te_disp2 {k1 k2 : Str} {j1 j2 : Nat} {p1 p2 : Pos} (h1 : PM X e1 m1 N1) (h2 : PM X e2 m2 N2) (hk : k1 ≠ k2) :
    PE X (.Dict [some (.Constant (.str k1) j1 p1), some (.Constant (.str k2) j2 p2)] [e1, e2] pos) (tOf X.K B (mNewObj [.inr k1, .inr k2] (mCons m1 (mCons m2 mNil)))) :=
  (pe_disp (pps_cons pe_str h1.p (pps_cons pe_str h2.p pps_nil)) rfl rfl (by simp) (by simp)).imp fun σ H Q ⟨st, ps, S, as, R, t, st', e, q⟩ => by
    intro p hp
    unfold mNewObj at e
    split at e
    · rename_i ts s1 ea
      cases e
      obtain ⟨t1, s2, us, e1, er, rfl⟩ := mCons_inv ea
      obtain ⟨t2, s3, us2, e2, er2, rfl⟩ := mCons_inv er
      cases er2
      obtain ⟨rfl, v1, n1, r1⟩ := h1.m B st σ H ps S as t1 s2 R e1
      obtain ⟨rfl, v2, n2, r2⟩ := h2.m B _ σ H ps S as t2 _ R e2
      refine ⟨v1, n1, v2, n2, upd_same, [(.inr k1, v1), (.inr k2, v2)], rfl, by simp, ?_⟩
      have em : mergeK [] [((.inr k1 : L2.Key), v1), (.inr k2, v2)] = [(.inr k1, v1), (.inr k2, v2)] := by
        have hne : ¬ ((.inr k1 : L2.Key) = .inr k2) := fun z => hk (Sum.inr.inj z)
        simp [mergeK, putK, hne]
      rw [em, upd_upd]
      exact q _ _ S (as ++ [p]) (R.newObj hp ⟨_, upd_same, .cons (r1.mono (Same.refl _) ⟨[p], rfl⟩) (.cons (r2.mono (Same.refl _) ⟨[p], rfl⟩) .nil)⟩)
    · cases e
end
end C

end

section
set_option Elab.async false
set_option linter.all false
set_option autoImplicit false
namespace C
open PySem PySem.Spec PyProof.Rows L2
/-- texts, written one behind the other -/
inductive StrEs : List Expr → List Str → Prop where
  | nil : StrEs [] []
  | cons {x : Str} {k : Nat} {q : Pos} {es : List Expr} {xs : List Str} : StrEs es xs → StrEs (.Constant (.str x) k q :: es) (x :: xs)
theorem ta_strs {X : Cx} {B : Bas} : ∀ {es : List Expr} {xs : List Str}, StrEs es xs → PA X es (aOf X.K B (mStrs xs))
  | _, _, .nil => ta_nil
  | _, _, .cons h => ta_cons te_str (ta_strs h)
theorem len_strs : ∀ (xs : List Str) (st : Sta) (ts : List T) (st' : Sta), mStrs xs st = some (ts, st') → ts.length ≤ xs.length
  | [], st, ts, st', e => len_nil st ts st' e
  | _ :: xs, st, ts, st', e => len_cons (len_strs xs) st ts st' e
section
variable {X : Cx} {B : Bas} {a b c e o k : Expr} {m m1 m2 : M T} {pos p p2 : Pos}
theorem isTup_eq (l : List T) : isTup l = isiT (fun ty => ty == .type "tuple") l := by
  match l with
  | [] => rfl
  | [t] => cases t <;> rfl
  | x :: y :: r => cases x <;> rfl
theorem isLst_eq (l : List T) : isLst l = isiT (fun ty => ty == .type "list") l := by
  match l with
  | [] => rfl
  | [t] => cases t <;> rfl
  | x :: y :: r => cases x <;> rfl
theorem isInt_eq (l : List T) : isInt l = isiT (fun ty => ty == .type "int" || ty == .type "bool") l := by
  match l with
  | [] => rfl
  | [t] => cases t <;> rfl
  | x :: y :: r => cases x <;> rfl
theorem isBl_eq (l : List T) : isBl l = isiT (fun ty => ty == .type "bool") l := by
  match l with
  | [] => rfl
  | [t] => cases t <;> rfl
  | x :: y :: r => cases x <;> rfl
theorem isStr_eq (l : List T) : isStr l = isiT (fun ty => ty == .type "str") l := by
  match l with
  | [] => rfl
  | [t] => cases t <;> rfl
  | x :: y :: r => cases x <;> rfl
theorem boot_int' : bootBuiltins "int" = some (.type "int") := by decide +kernel
theorem boot_bool' : bootBuiltins "bool" = some (.type "bool") := by decide +kernel
theorem boot_str' : bootBuiltins "str" = some (.type "str") := by decide +kernel
theorem te_isi_tuple {pc : Pos} (hg : Gl X "isinstance") (hm : X.mg "isinstance" = none) (hg2 : Gl X "tuple") (hm2 : X.mg "tuple" = none) (ha : PE X a (tOf X.K B m)) (he : starEach [a, .Name "tuple" pc] X.env = (false, eval a X.env) :: starEach [.Name "tuple" pc] X.env := by rfl) :
    PE X (.Call (.Name "isinstance" p) [a, .Name "tuple" pc] [] pos) (tOf X.K B (mMap isTup (mCons m mNil))) := by
  rw [show isTup = _ from funext isTup_eq]
  exact te_isi (cn := "tuple") hg hm hg2 hm2 boot_tuple (fun t ty h => by cases t <;> cases h <;> rfl) ha (by decide) (by decide) he
theorem te_isi_list {pc : Pos} (hg : Gl X "isinstance") (hm : X.mg "isinstance" = none) (hg2 : Gl X "list") (hm2 : X.mg "list" = none) (ha : PE X a (tOf X.K B m)) (he : starEach [a, .Name "list" pc] X.env = (false, eval a X.env) :: starEach [.Name "list" pc] X.env := by rfl) :
    PE X (.Call (.Name "isinstance" p) [a, .Name "list" pc] [] pos) (tOf X.K B (mMap isLst (mCons m mNil))) := by
  rw [show isLst = _ from funext isLst_eq]
  exact te_isi (cn := "list") hg hm hg2 hm2 boot_list (fun t ty h => by cases t <;> cases h <;> rfl) ha (by decide) (by decide) he
theorem te_isi_int {pc : Pos} (hg : Gl X "isinstance") (hm : X.mg "isinstance" = none) (hg2 : Gl X "int") (hm2 : X.mg "int" = none) (ha : PE X a (tOf X.K B m)) (he : starEach [a, .Name "int" pc] X.env = (false, eval a X.env) :: starEach [.Name "int" pc] X.env := by rfl) :
    PE X (.Call (.Name "isinstance" p) [a, .Name "int" pc] [] pos) (tOf X.K B (mMap isInt (mCons m mNil))) := by
  rw [show isInt = _ from funext isInt_eq]
  exact te_isi (cn := "int") hg hm hg2 hm2 boot_int' (fun t ty h => by cases t <;> cases h <;> rfl) ha (by decide) (by decide) he
theorem te_isi_bool {pc : Pos} (hg : Gl X "isinstance") (hm : X.mg "isinstance" = none) (hg2 : Gl X "bool") (hm2 : X.mg "bool" = none) (ha : PE X a (tOf X.K B m)) (he : starEach [a, .Name "bool" pc] X.env = (false, eval a X.env) :: starEach [.Name "bool" pc] X.env := by rfl) :
    PE X (.Call (.Name "isinstance" p) [a, .Name "bool" pc] [] pos) (tOf X.K B (mMap isBl (mCons m mNil))) := by
  rw [show isBl = _ from funext isBl_eq]
  exact te_isi (cn := "bool") hg hm hg2 hm2 boot_bool' (fun t ty h => by cases t <;> cases h <;> rfl) ha (by decide) (by decide) he
theorem te_ownLen (i : Nat) (hm : X.mg "len" = none) {es : Expr} (hg : Gl X "len") (h : PE X es (tVar i)) (he : starEach [es] X.env = (false, eval es X.env) :: starEach [] X.env := by rfl) (hpl : (backTo pos (starEach [] X.env)).any (·.1) = false := by rfl) :
    PE X (.Call (.Name "len" p) [es] [] pos) (tOf X.K B (mOwnLen i)) := by
  have hc : CallR X (.builtin "len") (fun xs H Q => ∃ q, xs = [.ref q] ∧ ((∃ ys, SqL X.K H q ys ∧ Q (.int ys.length) H) ∨ (∃ kvs, Rd H q (.dK kvs) ∧ Q (.int kvs.length) H))) := by
    intro pins s σ H xs us Q I rs ⟨q, ex, h⟩
    rcases h with ⟨ys, h1, h2⟩ | ⟨kvs, h1, h2⟩
    · exact call_len_seq pins s σ H xs us Q I rs ⟨q, ys, ex, .inl h1, h2⟩
    · subst ex
      obtain ⟨u, rfl, ru⟩ := rs.one
      cases ru
      exact d_len I h1 fun t s' I' => ⟨.int kvs.length, H, I', ⟨t, rfl⟩, h2⟩
  refine (pe_callB hc hg hm PySem.boot_len (pa_cons h pa_nil he) (by decide) (by decide) he hpl).imp fun σ H Q ⟨st, ps, S, as, R, t, st', e, q⟩ => ?_
  obtain ⟨rfl, h⟩ := mOwnLen_inv e
  rcases h with ⟨xs, f, e1, rfl⟩ | ⟨xs, f, e1, rfl⟩
  · obtain ⟨p0, vs, s0, h1, h2⟩ := R.listAt e1
    exact ⟨_, s0, p0, rfl, .inl ⟨vs, h1, by rw [h2.length]; exact q _ H S as (R.push (.int _))⟩⟩
  · obtain ⟨p0, vs, s0, h1, h2⟩ := R.dictAt e1
    exact ⟨_, s0, p0, rfl, .inr ⟨vs, h1, by rw [h2.length]; exact q _ H S as (R.push (.int _))⟩⟩
end
end C

end

section
set_option Elab.async false
set_option linter.all false
set_option autoImplicit false
namespace C
open PySem
mutual
theorem dat_lay : ∀ (t : T) {d : PyData}, dat t = some d → d.canLay0 = true
  | .non, _, h => by simp only [dat] at h; cases h; simp only [PyData.canLay0]
  | .bl b, _, h => by simp only [dat] at h; cases h; simp only [PyData.canLay0]
  | .int i, _, h => by simp only [dat] at h; cases h; simp only [PyData.canLay0]
  | .str x, _, h => by
    simp only [dat] at h
    split at h
    · rename_i hx; cases h; exact hx
    · cases h
  | .tup xs, _, h => by
    simp only [dat] at h
    obtain ⟨l, e1, e2⟩ := Option.map_eq_some_iff.mp h
    subst e2
    simp only [PyData.canLay0]
    exact dats_lay xs e1
  | .lst xs, _, h => by
    simp only [dat] at h
    obtain ⟨l, e1, e2⟩ := Option.map_eq_some_iff.mp h
    subst e2
    simp only [PyData.canLay0]
    exact dats_lay xs e1
  | .dic _, _, h => by simp only [dat] at h; cases h
  | .obj _, _, h => by simp only [dat] at h; cases h
theorem dats_lay : ∀ (ts : List T) {l : List PyData}, dats ts = some l → PyData.canLayAll0 l = true
  | [], _, h => by simp only [dats] at h; cases h; simp only [PyData.canLayAll0]
  | x :: r, _, h => by
    simp only [dats] at h
    split at h
    · rename_i a ea
      obtain ⟨l, e1, e2⟩ := Option.map_eq_some_iff.mp h
      subst e2
      simp only [PyData.canLayAll0]
      rw [dat_lay x ea, dats_lay r e1]; rfl
    · cases h
end
theorem dats_cons {x : T} {r : List T} {l : List PyData} (h : dats (x :: r) = some l) : ∃ a l', dat x = some a ∧ dats r = some l' ∧ l = a :: l' := by
  simp only [dats] at h
  split at h
  · rename_i a ea
    obtain ⟨l, e1, e2⟩ := Option.map_eq_some_iff.mp h
    exact ⟨a, l, ea, e1, e2.symm⟩
  · cases h
theorem eqD_inv {t u : T} {b : Bool} (h : eqD t u = some b) : ∃ x y, dat t = some x ∧ dat u = some y ∧ x.depth ≤ 40 ∧ b = PyData.eqv x y := by
  unfold eqD at h
  split at h
  · rename_i x ex
    split at h
    · rename_i y ey
      split at h
      · rename_i hd; cases h; exact ⟨x, y, ex, ey, hd, rfl⟩
      · cases h
    · cases h
  · cases h
theorem eqT_inv {t u : T} {b : Bool} (h : eqT t u = some b) : (∃ x y, t = .dic x ∧ u = .dic y ∧ ((x.length = y.length ∧ eqKs x y = some b) ∨ (x.length ≠ y.length ∧ b = false))) ∨ eqD t u = some b := by
  unfold eqT at h
  split at h
  · split at h
    · rename_i hl; exact .inl ⟨_, _, rfl, rfl, .inl ⟨hl, h⟩⟩
    · rename_i hl; cases h; exact .inl ⟨_, _, rfl, rfl, .inr ⟨hl, rfl⟩⟩
  · exact .inr h
end C

end

section
set_option Elab.async false
set_option linter.all false
set_option maxRecDepth 100000
set_option maxHeartbeats 4000002
set_option autoImplicit false
namespace C
open PySem PySem.Spec PyProof.Rows L2

section
variable {X : Cx} {pins : List (Addr × Obj)} {σ : L2.St} {H S : Hp} {s : Shared} {as : List Addr}
mutual
theorem Rep.reads (I : L2.Inv X pins σ H s) (sub : Same S H) : ∀ {v : V} {t : T}, Rep X.K S as v t → ∀ {d : PyData} {u : Value}, dat t = some d → RelV v u → ∃ bs, Reads s.heap u d bs
  | _, _, .non, _, _, e, r => by simp only [dat] at e; cases e; cases r; exact ⟨_, .none⟩
  | _, _, .bl b, _, _, e, r => by simp only [dat] at e; cases e; cases r; exact ⟨_, .bool b⟩
  | _, _, .int i, _, _, e, r => by simp only [dat] at e; cases e; obtain ⟨t, rfl⟩ := r; exact ⟨_, .int i t⟩
  | _, _, .str x, _, _, e, r => by
    simp only [dat] at e
    split at e
    · cases e; obtain ⟨t, rfl⟩ := r; exact ⟨_, .str x t⟩
    · cases e
  | _, _, .tup h q, _, _, e, r => by
    simp only [dat] at e
    obtain ⟨l, e1, e2⟩ := Option.map_eq_some_iff.mp e
    subst e2
    cases r
    obtain ⟨its, rv, ⟨o, h1, h2, n, h3⟩, _⟩ := I.tuple (sqT_mono sub h)
    obtain ⟨bs, rb⟩ := Reps.reads I sub q e1 rv
    exact ⟨_, .tuple h1 h2 h3 rb⟩
  | _, _, .lst h q, _, _, e, r => by
    simp only [dat] at e
    obtain ⟨l, e1, e2⟩ := Option.map_eq_some_iff.mp e
    subst e2
    cases r
    obtain ⟨its, rv, ⟨o, n, h1, h2, _, h3⟩, _⟩ := I.list (sqL_mono sub h)
    obtain ⟨bs, rb⟩ := Reps.reads I sub q e1 rv
    exact ⟨_, .list h1 h2 h3 rb⟩
  | _, _, .dic _ _, _, _, e, _ => by simp only [dat] at e; cases e
  | _, _, .obj _, _, _, e, _ => by simp only [dat] at e; cases e
theorem Reps.reads (I : L2.Inv X pins σ H s) (sub : Same S H) : ∀ {vs : List V} {ts : List T}, Reps X.K S as vs ts → ∀ {ds : List PyData} {us : List Value}, dats ts = some ds → Vals vs us → ∃ bs, ReadsAll s.heap us ds bs
  | _, _, .nil, _, _, e, r => by simp only [dats] at e; cases e; cases r; exact ⟨_, .nil⟩
  | _, _, .cons h q, _, _, e, r => by
    obtain ⟨a, l, e1, e2, e3⟩ := dats_cons e
    subst e3
    cases r with
    | cons r1 r2 =>
      obtain ⟨b1, x1⟩ := Rep.reads I sub h e1 r1
      obtain ⟨b2, x2⟩ := Reps.reads I sub q e2 r2
      exact ⟨_, .cons x1 x2⟩
end
theorem eqD_at (I : L2.Inv X pins σ H s) (sub : Same S H) {x y : V} {t u : T} {v w : Value} {b : Bool} {A : Around} (hx : Rep X.K S as x t) (hy : Rep X.K S as y u) (rx : RelV x v) (ry : RelV y w) (e : eqD t u = some b) (hu : A.units + 40 < cLine) : SeqAt.EqAt A s v w b := by
  obtain ⟨dx, dy, e1, e2, hd, rfl⟩ := eqD_inv e
  obtain ⟨b1, x1⟩ := hx.reads I sub e1 rx
  obtain ⟨b2, x2⟩ := hy.reads I sub e2 ry
  exact SeqAt.eqAt_reads dx dy A s v w b1 b2 x1 x2 (dat_lay _ e1) (dat_lay _ e2) (by have := Nat.min_le_left dx.depth dy.depth; omega)
theorem keqHits (I : L2.Inv X pins σ H s) (sub : Same S H) {A : Around} (hu : A.units + 40 < cLine) {kb : List (L2.Key × V)} {ub : List (L2.Key × T)} {wb : List (L2.Key × Value)} (rb : RepK X.K S as kb ub) (vb : KV kb wb) :
    ∀ {ka : List (L2.Key × V)} {ua : List (L2.Key × T)} {wa : List (L2.Key × Value)} {r : Bool}, RepK X.K S as ka ua → KV ka wa → eqKs ua ub = some r → PySem.W.KeqHits A s wb wa r
  | _, _, _, _, .nil, va, e => by
    simp only [eqKs] at e; cases e
    cases va
    exact .nil
  | _, _, _, _, .cons (k := k) h q, va, e => by
    simp only [eqKs] at e
    cases va with
    | @cons _ p2 _ _ hp hr =>
      obtain ⟨pk, pv⟩ := p2
      obtain ⟨ek, rv⟩ := hp
      dsimp only at ek rv
      subst ek
      rcases rb.get k with ⟨z, t', a1, a2, a3⟩ | ⟨a1, a2⟩
      · rw [a2] at e
        dsimp only at e
        have rel := KV.val vb k
        rw [a1] at rel
        obtain ⟨w', hw, rw'⟩ := RelO.some_of rel
        split at e
        · rename_i eb he
          obtain ⟨b', e1, e2⟩ := Option.map_eq_some_iff.mp e
          subst e2
          exact .hit hw (eqD_at I sub h a3 rv rw' he hu) (keqHits I sub hu rb vb q hr e1)
        · cases e
      · rw [a2] at e
        cases e
        have rel := KV.val vb k
        rw [a1] at rel
        exact .miss (RelO.none_of rel)
end
section
variable {X : Cx}
theorem opT_eqGen {op : CmpOp} {neg : Bool} (hop : (op = .Eq ∧ neg = false) ∨ (op = .NotEq ∧ neg = true)) {g : T → T → Option T} (hg : ∀ t u w, g t u = some w → ∃ b, eqT t u = some b ∧ w = .bl (xor neg b)) (hu : X.A.units + 64 < cLine) : OpT X (compareOp op) g := by
  intro pins s σ H x y v u Q I rx ry ⟨S, as, t, t2, w, sub, ht, hu2, hf, q⟩
  obtain ⟨b, e, rfl⟩ := hg _ _ _ hf
  have fin : EP X pins σ Q (.bool (xor neg b)) s := ⟨.bl (xor neg b), H, I, rfl, q _ H S (Ext.refl sub) (.bl _)⟩
  rcases eqT_inv e with ⟨xs, ys, rfl, rfl, hd⟩ | he
  · cases ht with
    | @dic a kvs _ g1 g2 =>
      cases hu2 with
      | @dic a' kvs' _ k1 k2 =>
        cases rx
        cases ry
        obtain ⟨z, hs, vs, rel, dd⟩ := dk_rd I.hok (rd_mono sub g1)
        obtain ⟨z', hs', vs', rel', dd'⟩ := dk_rd I.hok (rd_mono sub k1)
        have l1 : vs.length = xs.length := by rw [← rel.length]; exact g2.length
        have l2 : vs'.length = ys.length := by rw [← rel'.length]; exact k2.length
        have hu1 : X.A.in1.units + 40 < cLine := by show X.A.units + 1 + 40 < cLine; omega
        rcases hd with ⟨hl, eb⟩ | ⟨hl, rfl⟩
        · have hits : vs.length = vs'.length → PySem.W.KeqHits X.A.in1 s vs' vs b := fun _ => keqHits I sub hu1 k2 rel' g2 rel eb
          have el : (vs.length == vs'.length) = true := by rw [l1, l2, hl]; exact beq_self_eq_true _
          rcases hop with ⟨rfl, rfl⟩ | ⟨rfl, rfl⟩
          · refine PySem.W.keq_eq hs hs' dd dd' (by omega) hits ?_
            rw [el]; simpa using fin
          · refine PySem.W.keq_ne hs hs' dd dd' (by omega) hits ?_
            rw [el]; simpa using fin
        · have hits : vs.length = vs'.length → PySem.W.KeqHits X.A.in1 s vs' vs true := fun h => absurd (by rw [← l1, ← l2]; exact h) hl
          have el : (vs.length == vs'.length) = false := by rw [l1, l2]; exact beq_eq_false_iff_ne.mpr hl
          rcases hop with ⟨rfl, rfl⟩ | ⟨rfl, rfl⟩
          · refine PySem.W.keq_eq hs hs' dd dd' (by omega) hits ?_
            rw [el]; simpa using fin
          · refine PySem.W.keq_ne hs hs' dd dd' (by omega) hits ?_
            rw [el]; simpa using fin
  · obtain ⟨dx, dy, e1, e2, hd, rfl⟩ := eqD_inv he
    obtain ⟨b1, x1⟩ := ht.reads I sub e1 rx
    obtain ⟨b2, x2⟩ := hu2.reads I sub e2 ry
    have hm : X.A.units + min dx.depth dy.depth < cLine := by have := Nat.min_le_left dx.depth dy.depth; omega
    rcases hop with ⟨rfl, rfl⟩ | ⟨rfl, rfl⟩
    · exact SeqAt.compareEq_reads x1 x2 (dat_lay _ e1) (dat_lay _ e2) hm (by simpa using fin)
    · exact SeqAt.compareNe_reads x1 x2 (dat_lay _ e1) (dat_lay _ e2) hm (by simpa using fin)
theorem opT_eq (hu : X.A.units + 64 < cLine) : OpT X (compareOp .Eq) eqO := opT_eqGen (.inl ⟨rfl, rfl⟩) (fun t u w h => by
  unfold eqO at h
  split at h
  · rename_i b e; cases h; exact ⟨b, e, by simp⟩
  · cases h) hu
theorem opT_ne (hu : X.A.units + 64 < cLine) : OpT X (compareOp .NotEq) neO := opT_eqGen (.inr ⟨rfl, rfl⟩) (fun t u w h => by
  unfold neO at h
  split at h
  · rename_i b e; cases h; exact ⟨b, e, by simp⟩
  · cases h) hu
/-! ### in -/
open Classical in
noncomputable def eqBy (h : Heap) (dx : PyData) (y : Value) : Bool := if e : ∃ d bs, Reads h y d bs ∧ d.canLay0 = true then PyData.eqv (Classical.choose e) dx else false
theorem eqBy_eq {h : Heap} {dx d : PyData} {y : Value} {bs : List Addr} (r : Reads h y d bs) (l : d.canLay0 = true) : eqBy h dx y = PyData.eqv d dx := by
  have e : ∃ d bs, Reads h y d bs ∧ d.canLay0 = true := ⟨d, bs, r, l⟩
  unfold eqBy
  rw [dif_pos e]
  obtain ⟨bs', r', l'⟩ := Classical.choose_spec e
  rw [SeqAt.Reads.unique _ _ _ _ _ l' r' r]
theorem inL_at {pins : List (Addr × Obj)} {σ : L2.St} {H S : Hp} {s : Shared} {as : List Addr} {A : Around} (I : L2.Inv X pins σ H s) (sub : Same S H) (hu : A.units + 40 < cLine) {x : V} {t : T} {v : Value} {dx : PyData} (hx : Rep X.K S as x t) (rx : RelV x v) (ex : dat t = some dx) :
    ∀ {vs : List V} {ts : List T} {us : List Value} {b : Bool}, Reps X.K S as vs ts → Vals vs us → inL t ts = some b → (∀ y ∈ us, SeqAt.EqAt A s y v (eqBy s.heap dx y)) ∧ us.any (eqBy s.heap dx) = b
  | _, _, _, _, .nil, r, e => by simp only [inL] at e; cases e; cases r; exact ⟨fun y h => (nomatch h), rfl⟩
  | _, _, _, _, .cons h q, r, e => by
    simp only [inL] at e
    cases r with
    | @cons _ u1 _ us1 r1 r2 =>
      split at e
      · rename_i eb he
        obtain ⟨b', e1, e2⟩ := Option.map_eq_some_iff.mp e
        subst e2
        obtain ⟨i1, i2⟩ := inL_at I sub hu hx rx ex q r2 e1
        obtain ⟨dy, dx', f1, f2, hd, rfl⟩ := eqD_inv he
        rw [ex] at f2; cases f2
        obtain ⟨b1, x1⟩ := h.reads I sub f1 r1
        have hb := eqBy_eq (dx := dx) x1 (dat_lay _ f1)
        refine ⟨fun y hy => ?_, by rw [List.any_cons, i2, hb]⟩
        rcases List.mem_cons.mp hy with rfl | hy -- here
        · rw [hb]; exact eqD_at I sub h hx r1 rx he hu
        · exact i1 y hy
      · cases e
theorem inT_inv {t u w : T} (h : inT t u = some w) : (∃ ys b, (u = .tup ys ∨ u = .lst ys) ∧ inL t ys = some b ∧ (dat t).isSome = true ∧ w = .bl b) ∨ (∃ kvs q, u = .dic kvs ∧ keyOf t = some q ∧ w = .bl (dGet q kvs).isSome) := by
  unfold inT at h
  split at h
  · obtain ⟨q, e1, e2⟩ := Option.map_eq_some_iff.mp h
    exact .inr ⟨_, q, rfl, e1, e2.symm⟩
  · split at h
    · rename_i hd
      split at h
      · obtain ⟨b, e1, e2⟩ := Option.map_eq_some_iff.mp h; exact .inl ⟨_, b, .inl rfl, e1, hd, e2.symm⟩
      · obtain ⟨b, e1, e2⟩ := Option.map_eq_some_iff.mp h; exact .inl ⟨_, b, .inr rfl, e1, hd, e2.symm⟩
      · cases h
    · cases h
theorem opT_inGen {op : CmpOp} {neg : Bool} (hop : (op = .In ∧ neg = false) ∨ (op = .NotIn ∧ neg = true)) {g : T → T → Option T} (hg : ∀ t u w, g t u = some w → ∃ w', inT t u = some w' ∧ ∃ b, w' = .bl b ∧ w = .bl (xor neg b)) (hu : X.A.units + 64 < cLine) : OpT X (compareOp op) g := by
  intro pins s σ H x y v u Q I rx ry ⟨S, as, t, t2, w, sub, ht, hu2, hf, q⟩
  obtain ⟨w', ei, b0, rfl, rfl⟩ := hg _ _ _ hf
  rcases inT_inv ei with ⟨ys, b, hy, e, hdt, eb⟩ | ⟨kvs, qk, rfl, ek, eb⟩
  · cases eb
    obtain ⟨dx, ex⟩ := Option.isSome_iff_exists.mp hdt
    have fin : EP X pins σ Q (.bool (xor neg b0)) s := ⟨.bl (xor neg b0), H, I, rfl, q _ H S (Ext.refl sub) (.bl _)⟩
    have hu1 : X.A.in1.units + 40 < cLine := by show X.A.units + 1 + 40 < cLine; omega
    rcases hy with rfl | rfl
    · cases hu2 with
      | @tup a vs _ g1 g2 =>
        cases ry
        obtain ⟨its, r, p, hz⟩ := I.tuple (sqT_mono sub g1)
        obtain ⟨i1, i2⟩ := inL_at I sub hu1 ht rx ex g2 r e
        have he : ∀ y, y ∈ its.toArray → SeqAt.EqAt X.A.in1 s y v (eqBy s.heap dx y) := fun y hy => i1 y (by simpa using hy)
        have ha : its.toArray.any (eqBy s.heap dx) = b0 := by rw [← i2]; simp
        rcases hop with ⟨rfl, rfl⟩ | ⟨rfl, rfl⟩
        · exact SeqAt.in_tupleAt _ (show s.heap.IsTuple a its.toArray from p) he (by rw [ha]; simpa using fin)
        · exact SeqAt.notIn_tupleAt _ (show s.heap.IsTuple a its.toArray from p) he (by rw [ha]; simpa using fin)
    · cases hu2 with
      | @lst a vs _ g1 g2 =>
        cases ry
        obtain ⟨its, r, p, hz⟩ := I.list (sqL_mono sub g1)
        obtain ⟨i1, i2⟩ := inL_at I sub hu1 ht rx ex g2 r e
        have he : ∀ y, y ∈ its.toArray → SeqAt.EqAt X.A.in1 s y v (eqBy s.heap dx y) := fun y hy => i1 y (by simpa using hy)
        have ha : its.toArray.any (eqBy s.heap dx) = b0 := by rw [← i2]; simp
        rcases hop with ⟨rfl, rfl⟩ | ⟨rfl, rfl⟩
        · exact SeqAt.in_listAt _ p.isList he (by rw [ha]; simpa using fin)
        · exact SeqAt.notIn_listAt _ p.isList he (by rw [ha]; simpa using fin)
  · cases eb
    cases hu2 with
    | @dic a kv _ g1 g2 =>
      cases ry
      have ey := kV_of ht ek
      subst ey
      have hs : (dGet qk kvs).isSome = (valV kv qk).isSome := by
        rcases g2.get qk with ⟨z, t', a1, a2, _⟩ | ⟨a1, a2⟩
        · simp [a1, a2]
        · simp [a1, a2]
      rw [hs] at q
      have gd : DGet H a (kV qk) (valV kv qk) := .inl ⟨kv, qk, rd_mono sub g1, rfl, rfl⟩
      rcases hop with ⟨rfl, rfl⟩ | ⟨rfl, rfl⟩
      · exact d_in (by omega) I gd rx fun s' I' => ⟨.bl _, H, I', rfl, by simpa using q _ H S (Ext.refl sub) (.bl _)⟩
      · exact d_notIn (by omega) I gd rx fun s' I' => ⟨.bl _, H, I', rfl, by simpa using q _ H S (Ext.refl sub) (.bl _)⟩
theorem opT_in (hu : X.A.units + 64 < cLine) : OpT X (compareOp .In) inT := opT_inGen (.inl ⟨rfl, rfl⟩) (fun t u w h => by
  rcases inT_inv h with ⟨ys, b, h1, h2, h3, rfl⟩ | ⟨kvs, q, rfl, h2, rfl⟩
  · exact ⟨_, h, b, rfl, by simp⟩
  · exact ⟨_, h, _, rfl, by simp⟩) hu
theorem opT_notIn (hu : X.A.units + 64 < cLine) : OpT X (compareOp .NotIn) notInT := opT_inGen (.inr ⟨rfl, rfl⟩) (fun t u w h => by
  unfold notInT at h
  split at h
  · rename_i b e
    cases h
    exact ⟨_, e, b, rfl, by simp⟩
  · cases h) hu
end
end C

end

section
set_option Elab.async false
set_option linter.all false
set_option maxRecDepth 100000
set_option maxHeartbeats 4000002
set_option autoImplicit false
namespace C
open PySem PySem.Spec PyProof.Rows L2

/-! ### a name's own thing, given back by a def -/
def spFF (K : PySem.W.Frag) (ar : Nat) (F : Fn) : Sp := fun vs H Q _ => ∃ S as sto ts t sto', Same S H ∧ StoOk K S as H sto ∧ Reps K S as vs ts ∧ ts.length = ar ∧ F ts sto = some (t, sto') ∧
  ∀ p H' S' as', Grow ⟨S, as, H⟩ S' as' H' → Same S' H' → StoOk K S' as' H' sto' → OwnAt K ⟨S, as, H⟩ S' as' H' p t → Q (.ref p) H'
def sOfF (K : PySem.W.Frag) (B : Bas) (s : S) : TS := fun D σ H => ∃ st ps S as, Rel K B st σ H ps S as ∧ ∃ t st', s st = some (.ret t, st') ∧
  ∀ p σ' H' S' as', Rel K B st' σ' H' ps S' as' → OwnAt K B S' as' H' p t → D.rt (.ref p) H'
theorem sNx_inv {u v : S} {s s' : Sta} {t : T} (h : sSeq (sNx u) v s = some (.ret t, s')) : ∃ s1, u s = some (.next, s1) ∧ v s1 = some (.ret t, s') := by
  unfold sSeq sNx at h
  cases e : u s with
  | none => rw [e] at h; cases h
  | some p =>
    obtain ⟨fl, s1⟩ := p
    rw [e] at h
    cases fl <;> first | exact ⟨s1, rfl, h⟩ | cases h
theorem sRetOwn_inv {i : Nat} {s s' : Sta} {t : T} (h : sRetOwn i s = some (.ret t, s')) : s.env[i]? = some (some (t, true)) ∧ s' = s := by
  unfold sRetOwn at h
  split at h
  · rename_i t' e; cases h; exact ⟨e, rfl⟩
  · cases h
theorem sGo_inv {g : G} {m : M T} {s s' : Sta} {fl : Flow} (h : sGo g m s = some (fl, s')) : ∃ t s1, m s = some (t, s1) ∧ g t s1 = some s' ∧ fl = .next := by
  unfold sGo at h
  split at h
  · rename_i t s1 e
    split at h
    · rename_i s2 e2; cases h; exact ⟨t, s1, e, e2, rfl⟩
    · cases h
  · cases h
theorem sReverse_inv {i : Nat} {s s' : Sta} {fl : Flow} (h : sReverse i s = some (fl, s')) : ∃ xs, s.env[i]? = some (some (.lst xs, true)) ∧ fl = .next ∧ s' = putSlot i (.lst xs.reverse) true s := by
  unfold sReverse at h
  split at h
  · rename_i xs e; cases h; exact ⟨xs, e, rfl, rfl⟩
  · cases h
theorem mOwnCat_inv {i j : Nat} {s s' : Sta} {t : T} (h : mOwnCat i j s = some (t, s')) : ∃ xs f ys g, s.env[i]? = some (some (.lst xs, f)) ∧ s.env[j]? = some (some (.lst ys, g)) ∧ xs.length + ys.length < lim ∧ t = .lst (xs ++ ys) ∧ s' = s := by
  unfold mOwnCat at h
  split at h
  · rename_i xs f ys g e1 e2
    split at h
    · rename_i hl; cases h; exact ⟨xs, _, ys, _, e1, e2, hl, rfl, rfl⟩
    · cases h
  · cases h
/-- never falls off its end -/
def Ends1 (v : S) : Prop := ∀ s s', v s ≠ some (.next, s')
theorem ends_ret (i : Nat) : Ends1 (sRetOwn i) := fun s s' h => by
  unfold sRetOwn at h
  split at h <;> cases h
theorem ends_seq {u v : S} (h : Ends1 v) : Ends1 (sSeq u v) := fun s s' e => by
  unfold sSeq at e
  split at e
  · exact h _ _ e
  · rename_i hn; exact hn _ e

section
variable {X : Cx} {B : Bas} {a b c e : Expr} {m m1 m2 : M T} {pos p : Pos} {u v : S} {es : List Expr} {ms : M (List T)} {k n : Nat} {f : Addr} {fd : FuncData} {pn : List Str} {F : Fn} {x : Str}
theorem ts_consF {st : Stmt} {rest : List Stmt} (h1 : PS X st (sOf X.K B u)) (h2 : PSs X rest (sOfF X.K B v)) : PSs X (st :: rest) (sOfF X.K B (sSeq (sNx u) v)) := (pss_cons h1 h2).imp fun D σ H ⟨st, ps, S, as, R, t, st', e, q⟩ => by
  obtain ⟨s1, e1, e2⟩ := sNx_inv e
  exact ⟨st, ps, S, as, R, .next, s1, e1, fun σ' H' S' as' R' => ⟨s1, ps, S', as', R', t, st', e2, q⟩⟩
theorem ts_retF (i : Nat) (he : PE X e (tVar i)) : PSs X [.Return (some e) pos] (sOfF X.K B (sRetOwn i)) := (pss_one (ps_ret he)).imp fun D σ H ⟨st, ps, S, as, R, t, st', e, q⟩ => by
  obtain ⟨e1, rfl⟩ := sRetOwn_inv e
  obtain ⟨v, h1, _, h3⟩ := R.slots i t true e1
  obtain ⟨p, rfl, o⟩ := h3 rfl
  exact ⟨_, h1, q p σ H S as R o⟩
theorem ts_go {g : G} {s : Stmt} (h : PS X s (tAsg (tOf X.K B m) (gOf X.K B g))) : PS X s (sOf X.K B (sGo g m)) := h.imp fun D σ H ⟨st, ps, S, as, R, fl, st', e, q⟩ => by
  obtain ⟨t, s1, e1, e2, rfl⟩ := sGo_inv e
  exact ⟨st, ps, S, as, R, t, s1, e1, fun v H' S' as' R' => ⟨s1, ps, S', as', t, R', st', e2, fun σ' H'' S'' as'' R'' => q σ' H'' S'' as'' R''⟩⟩
theorem ts_reverse (i : Nat) {st : Stmt} (h : PS X st (tDrop (tBM0 X.K "list" rReverse (tVar i)))) : PS X st (sOf X.K B (sReverse i)) := h.imp fun D σ H ⟨st, ps, S, as, R, fl, st', e, q⟩ => by
  obtain ⟨xs, e2, rfl, rfl⟩ := sReverse_inv e
  obtain ⟨w, h1, _, h3⟩ := R.slots i _ true e2
  obtain ⟨p0, rfl, ow⟩ := h3 rfl
  obtain ⟨vs, hH, h4⟩ := ow.own
  exact ⟨_, h1, .inl ⟨rfl, _, SqL.of hH⟩, p0, vs, rfl, rfl, hH, q _ _ S as (R.turn e2 h1 ⟨_, upd_same, h4.reverse⟩)⟩
theorem te_ownCat (i j : Nat) (hi : PE X a (tVar i)) (hj : PE X b (tVar j)) : PE X (.BinOp a .Add b pos) (tOf X.K B (mOwnCat i j)) := (pe_op op_catL hi hj).imp fun σ H Q ⟨st, ps, S, as, R, t, st', e, q⟩ => by
  obtain ⟨xs, f, ys, g, e1, e2, hl, rfl, rfl⟩ := mOwnCat_inv e
  obtain ⟨p1, v1, s1, q1, r1⟩ := R.listAt e1
  obtain ⟨p2, v2, s2, q2, r2⟩ := R.listAt e2
  refine ⟨_, s1, _, s2, p1, p2, v1, v2, rfl, rfl, q1, q2, ?_, fun l hl => ?_⟩
  · rw [r1.length, r2.length]; exact Nat.le_trans (Nat.le_of_lt hl) lim_line
  · have x := Ext.laid R.sub hl (.lst (v1 ++ v2))
    exact q _ _ _ _ ((R.ext x).push (.lst (SqL.of upd_same) ((r1.append r2).mono x.s nol)))
/-! ### lent -/
theorem lend_get {is : List Nat} {env : List Slot} {j : Nat} {t : T} {f : Bool} (h : (lend is env)[j]? = some (some (t, f))) : f = false ∧ ∃ g, env[j]? = some (some (t, g)) ∧ (g = true → j ∈ is) := by
  unfold lend at h
  rw [List.getElem?_mapIdx] at h
  obtain ⟨x, e1, e2⟩ := Option.map_eq_some_iff.mp h
  cases x with
  | none => cases e2
  | some p =>
    obtain ⟨t', g⟩ := p
    dsimp only at e2
    cases g with
    | false => simp at e2; obtain ⟨rfl, rfl⟩ := e2; exact ⟨rfl, false, e1, fun z => by cases z⟩
    | true =>
      by_cases hj : j ∈ is
      · simp [hj] at e2; obtain ⟨rfl, rfl⟩ := e2; exact ⟨rfl, true, e1, fun _ => hj⟩
      · simp [hj] at e2
open Classical in
theorem tc_lend (is : List Nat) {mb : M Bool} (h : ∀ B, PT X e (cOf X.K B mb)) : PT X e (cOf X.K B (mLend is mb)) := by
  intro pins s σ H Q I ⟨st, ps, S, as, R, b, st', em, q⟩
  unfold mLend at em
  split at em
  · rename_i hsto
    split at em
    · rename_i b1 s1 e1
      split at em
      · rename_i hs1
        cases em
        have has : as = [] := by have := R.sto.len; rw [hsto] at this; exact List.length_eq_zero_iff.mp this
        subst has
        let P : Addr → Prop := fun p => ∃ i t, i ∈ is ∧ st.env[i]? = some (some (t, true)) ∧ σ[i]? = some (some (.ref p))
        let S1 : Hp := fun p => if P p then H p else S p
        have s1pos : ∀ p, P p → S1 p = H p := fun p hp => if_pos hp
        have s1neg : ∀ p, ¬ P p → S1 p = S p := fun p hp => if_neg hp
        have sub1 : Same S1 H := fun p u hu => by
          by_cases hp : P p
          · rw [s1pos p hp] at hu; exact hu
          · rw [s1neg p hp] at hu; exact R.sub _ _ hu
        have sS : Same S S1 := fun p u hu => by
          by_cases hp : P p
          · rw [s1pos p hp]; exact R.sub _ _ hu
          · rw [s1neg p hp]; exact hu
        have R1 : Rel X.K ⟨S1, [], H⟩ ⟨lend is st.env, []⟩ σ H [] S1 [] := by
          refine ⟨sub1, ⟨Same.refl _, nol, fun p o a b c => ⟨a, b, c⟩⟩, fun i t f ei => ?_, fun i j t u p ei ej => ?_, ⟨rfl, .nil, fun n so en => by simp at en⟩, fun p hp => (by cases hp), ?_⟩
          · obtain ⟨rfl, g, eg, hg⟩ := lend_get ei
            obtain ⟨v, h1, h2, h3⟩ := R.slots i t g eg
            refine ⟨v, h1, fun _ => ?_, fun z => by cases z⟩
            cases g with
            | false => exact (h2 rfl).mono sS nol
            | true =>
              obtain ⟨p, rfl, o⟩ := h3 rfl
              have hp : P p := ⟨i, t, hg rfl, eg, h1⟩
              have ow := o.own
              cases t with
              | lst ts => obtain ⟨vs, hH, r⟩ := ow; exact .lst (SqL.of (by rw [s1pos p hp]; exact hH)) (r.mono sS nol)
              | dic ts => obtain ⟨vs, hH, r⟩ := ow; exact .dic (.inl (by rw [s1pos p hp]; exact hH)) (r.mono sS nol)
              | _ => exact ow.elim
          · obtain ⟨z, _⟩ := lend_get ei; cases z
          · show σ.length = (lend is st.env).length
            unfold lend
            rw [List.length_mapIdx]; exact R.len
        refine h ⟨S1, [], H⟩ pins s σ H Q I ⟨⟨lend is st.env, []⟩, [], S1, [], R1, _, s1, e1, fun H' S' as' R' => q H' S [] ?_⟩
        have keepAll : ∀ p o, H p = some o → H' p = some o := fun p o hp => by
          cases z : S1 p with
          | none => exact (R'.grow.keep p o hp z (by simp)).1
          | some w =>
            have := sub1 _ _ z
            rw [hp] at this; cases this
            exact R'.sub _ _ (R'.grow.same _ _ z)
        refine ⟨fun p u hu => R'.sub _ _ (R'.grow.same _ _ (sS _ _ hu)), ⟨R.grow.same, R.grow.more, fun p o a b c => ?_⟩, fun i t f ei => ?_, R.apart, ⟨R.sto.len, R.sto.nd, fun n so en => by rw [hsto] at en; simp at en⟩, R.pend, R.len⟩
        · obtain ⟨x, y, z⟩ := R.grow.keep p o a b c
          exact ⟨keepAll _ _ x, y, z⟩
        · obtain ⟨v, h1, h2, h3⟩ := R.slots i t f ei
          refine ⟨v, h1, h2, fun z => ?_⟩
          obtain ⟨p, rfl, o⟩ := h3 z
          obtain ⟨ob, ho⟩ := o.own.there
          exact ⟨p, rfl, o.own.mono (Same.refl _) (by rw [ho, keepAll _ _ ho]), o.out, o.nas, o.new⟩
      · cases em
    · cases em
  · cases em
end
/-- a def that gives back a thing of its own, by its name -/
def DefOkF (P : Program) (w : World) (K : PySem.W.Frag) (mg : Str → Option Value) (base : Heap) (x : Str) (k : Nat) (ps : List Str) (F : Fn) : Prop :=
  ∃ f fd, FnOk P w K mg base CX0 k f fd ps (spFF K ps.length F) ∧ Binds K fd ps [] ∧ PySem.W.keepIn K (.ref f) = true ∧ mg x = some (.ref f)
theorem DefOkF.mono {P : Program} {w : World} {K : PySem.W.Frag} {mg : Str → Option Value} {base : Heap} {x : Str} {j k : Nat} {ps : List Str} {F : Fn} (d : DefOkF P w K mg base x j ps F) (h : j ≤ k) : DefOkF P w K mg base x k ps F := by
  obtain ⟨f, fd, h1, h2⟩ := d
  exact ⟨f, fd, h1.mono h, h2⟩
section
variable {X : Cx} {B : Bas} {a b c e : Expr} {m m1 m2 : M T} {pos p : Pos} {es : List Expr} {ms : M (List T)} {n : Nat} {pn : List Str} {F : Fn} {x : Str}
theorem tf_callD (D : DefOkF X.prog X.w X.K X.mg X.base x n pn F) (hr : Room n X.A) (hg : Gl X x)
    (ha : PA X (e :: es) (aOf X.K B ms)) (hl : ∀ st ts st', ms st = some (ts, st') → ts.length = pn.length) (hdb : (x == ("__debug__" : Str)) = false := by decide)
    (he : starEach (e :: es) X.env = (false, eval e X.env) :: starEach es X.env := by rfl) (hpl : (backTo pos (starEach es X.env)).any (·.1) = false := by rfl) :
    PE X (.Call (.Name x p) (e :: es) [] pos) (fOf X.K B (mCall F ms)) := by
  obtain ⟨f, fd, G, hb, hk, hm⟩ := D
  refine (pe_call G hr hg hm hk hb .nil pass0 ha hdb he hpl).imp fun σ H Q ⟨st, ps, S, as, R, t, st', e, q⟩ => ?_
  obtain ⟨ts, s1, sto, e1, e2, rfl⟩ := mCall_inv e
  refine ⟨st, ps, S, as, R, ts, s1, e1, fun vs H1 S1 as1 R1 rs => ?_⟩
  show spFF X.K pn.length F (vs ++ []) H1 Q E0
  rw [List.append_nil]
  exact ⟨S1, as1, s1.sto, ts, t, sto, R1.sub, R1.sto, rs, hl _ _ _ e1, e2, fun p H2 S2 as2 g sub so o => by
    obtain ⟨b1, b2, b3, b4⟩ := R1.fresh o.new
    exact q p H2 S2 as2 (R1.call g sub so) ⟨o.own, o.out, o.nas, b1⟩ b4⟩
end
section
variable {P : Program} {w : World} {K : PySem.W.Frag} {mg : Str → Option Value} {base : Heap}
theorem fn_treeF {x qual : Str} {st : Stmt} {f : Addr} {fd : FuncData} {N ps : List Str} {k : Nat} {b : S} (F : Fun K x qual st f fd) (Sc : FnScope N ps (defScope st)) (hN : ps.length ≤ N.length) (he : Ends1 b)
    (hb : ∀ (cdv : Value) (A : Around) (outer : List Env) (s : Shared) (H : Hp) (E : XK) (B : Bas), Room k (A.deeper (envOfC qual (defScope st) s.heap.objs.size f cdv)) →
      PSs (cxOf CX0 P w K mg base N qual (defScope st) f cdv A outer s H E).nox (defBody st) (sOfF K B b)) : FnOk P w K mg base CX0 (k + 1) f fd ps (spFF K ps.length (runFn N.length b)) := by
  refine F.ok Sc (fun vs H Q E h => ?_) fun cdv A outer s H vs Q E hr h => ?_
  · obtain ⟨S, as, sto, ts, t, sto', h1, h2, h3, h4, _⟩ := h
    rw [h3.length, h4]
  · obtain ⟨S, as, sto, ts, t, sto', h1, h2, h3, h4, h5, q⟩ := h
    refine ⟨_, hb cdv A outer s H E ⟨S, as, H⟩ hr, ?_⟩
    have lv : vs.length = ps.length := by rw [h3.length, h4]
    have R : Rel K ⟨S, as, H⟩ ⟨ts.map (fun t => some (t, false)) ++ List.replicate (N.length - ts.length) none, sto⟩ (L2.start N vs) H [] S as := rel_start h1 h2 h3 (by rw [h4]; exact hN)
    unfold runFn at h5
    split at h5
    · rename_i t' s' e
      cases h5
      exact ⟨_, [], S, as, R, t, s', e, fun p σ' H' S' as' R' o => q p H' S' as' R'.grow R'.sub R'.sto o⟩
    · rename_i s' e
      exact absurd e (he _ _)
    · cases h5
end
end C

end

section
set_option Elab.async false
set_option linter.all false
set_option maxRecDepth 100000
set_option maxHeartbeats 4000002
set_option autoImplicit false
namespace C
open PySem PySem.Spec PyProof.Rows L2

section
variable {X : Cx} {B : Bas} {a b c e : Expr} {m m1 m2 : M T} {pos p p2 pos2 : Pos}
theorem callT_abs : CallT X (.builtin "abs") absT := by
  intro pins s σ H xs us Q I rs ⟨S, as, ts, w, sub, hr, hf, q⟩
  cases hr with
  | nil => simp only [absT, reduceCtorEq] at hf
  | @cons x t xs' ts' h1 h2 =>
    cases h2 with
    | cons h3 h4 => cases h1 <;> simp only [absT, reduceCtorEq] at hf
    | nil =>
      cases h1 <;> simp only [absT, reduceCtorEq] at hf
      cases hf
      exact call_abs pins s σ H _ us Q I rs ⟨_, rfl, q _ H S (Ext.refl sub) (.int _)⟩
/-- something beside -/
theorem Ext.junk {S H : Hp} (h : Same S H) {p : Addr} (n : H p = none) (o : HO) : Ext S H S (upd H p o) :=
  ⟨Same.refl _, Same.upd n o, fun b u q => (Same.upd n o) _ _ (h _ _ q), fun _ q => .inl q⟩
def tRng (ta : TA) : TE := fun σ H Q => ta σ H fun vs H1 => ∃ j : Int, vs = [.int j] ∧ ∀ r, H1 r = none → Q (.ref r) (upd H1 r (.rng 0 j))
theorem pe_rng {ta : TA} (hg : Gl X "range") (hm : X.mg "range" = none) (ha : PA X [a] ta) (hs : starEach [a] X.env = [(false, eval a X.env)] := by rfl) : PE X (.Call (.Name "range" p) [a] [] pos) (tRng ta) := by
  intro pins s σ H Q I h
  refine Call_ (ld_blt I hg hm boot_range (PyProof.Rows.callWith_type1 (thn (ha pos pins s σ H _ I h) fun us s1 ⟨vs, H1, I1, r1, q1⟩ => ?_) hs rfl))
  obtain ⟨j, e, q⟩ := q1
  subst e
  cases r1 with
  | cons r rr =>
    cases rr
    obtain ⟨t, rfl⟩ := r
    refine call_range_1 ⟨.ref s1.heap.objs.size, upd H1 s1.heap.objs.size (.rng 0 j), I1.laid (fun b u e => Heap.get?_push_of_some _ e) (Nat.le_refl _) ⟨_, _, _, Heap.get?_push_size _ rfl⟩, rfl, q _ (I1.hok.fresh (Nat.le_refl _))⟩
def rLR (xs : List V) (H : Hp) (Q : VK) : Prop := ∃ r j, xs = [.ref r] ∧ H r = some (.rng 0 j) ∧ (-1000000 < j ∧ j < 1000000) ∧ ∀ l, H l = none → Q (.ref l) (upd H l (.lst ((List.range j.toNat).map fun (k : Nat) => V.int (k : Int))))
theorem call_listR (hc : X.calm = true) : CallR X (.type "list") rLR := by
  intro pins s σ H xs us Q I rs ⟨r, j, ex, hr, hj, q⟩
  subst ex
  obtain ⟨u, rfl, ru⟩ := rs.one
  cases ru
  obtain ⟨t, u, v, er⟩ : ∃ t u v, s.heap.get? r = some { cls := .type "range", data := .fields #[.int 0 t, .int j u, .int 1 v] } := (Rd.ok (.inl hr) I.hok)
  have hn : Builtin.Range.rangeSize 0 j 1 = (j.toNat : Int) := by rw [rangeSize_one]; split <;> omega
  refine call_list_range (n := j.toNat) (I.ok.hd hc) er (small_one (by omega) (by omega) (by omega) (by omega)) hn (by omega) fun h' tk acc c' hk hS hacc => ?_
  have hl : ((List.range j.toNat).map fun (k : Nat) => V.int (k : Int)).length ≤ sizeLine := by
    rw [List.length_map, List.length_range, sizeLine_eq]; omega
  have hv : Vals ((List.range j.toNat).map fun (k : Nat) => V.int (k : Int)) acc.toList := by
    obtain ⟨n1, n2⟩ := hacc
    have gen : ∀ (us : List Value) (k : Nat), (∀ (i : Nat) (v : Value), us[i]? = some v → ∃ t, v = Value.int ((k + i : Nat) : Int) t) → Vals ((List.range' k us.length).map fun (k : Nat) => V.int (k : Int)) us := by
      intro us
      induction us with
      | nil => intro k _; exact .nil
      | cons x us ih =>
        intro k h
        rw [List.length_cons, List.range'_succ, List.map_cons]
        refine .cons ?_ (ih (k + 1) fun i v e => ?_)
        · exact h 0 x rfl
        · have := h (i + 1) v (by simpa using e)
          rw [show k + 1 + i = k + (i + 1) by omega]; exact this
    have := gen acc.toList 0 (fun i v e => by
      obtain ⟨t, e'⟩ := n2 i v (by rw [← Array.getElem?_toList]; exact e)
      exact ⟨t, by rw [e']; congr 1; omega⟩)
    rw [Array.length_toList, n1, ← List.range_eq_range'] at this
    exact this
  exact ⟨.ref s.heap.objs.size, _, I.laid (a := s.heap.objs.size) (o := .lst ((List.range j.toNat).map fun (k : Nat) => V.int (k : Int))) (h' := h') (t' := tk) hk (Nat.le_refl _) ⟨hl, acc.toList, c', hv, hS⟩, rfl, q _ (I.hok.fresh (Nat.le_refl _))⟩
theorem reps_ints {K : PySem.W.Frag} {S : Hp} {as : List Addr} : ∀ l : List Nat, Reps K S as (l.map fun (k : Nat) => V.int (k : Int)) (l.map fun (k : Nat) => T.int (k : Int))
  | [] => .nil
  | x :: l => .cons (.int x) (reps_ints l)
theorem te_lrange (hc : X.calm = true) (hg : Gl X "list") (hm : X.mg "list" = none) (hg2 : Gl X "range") (hm2 : X.mg "range" = none) (ha : PE X a (tOf X.K B m)) (hs : starEach [a] X.env = [(false, eval a X.env)] := by rfl)
    (he : starEach [.Call (.Name "range" p2) [a] [] pos2] X.env = (false, eval (.Call (.Name "range" p2) [a] [] pos2) X.env) :: starEach [] X.env := by rfl) (hpl : (backTo pos (starEach [] X.env)).any (·.1) = false := by rfl) :
    PE X (.Call (.Name "list" p) [.Call (.Name "range" p2) [a] [] pos2] [] pos) (tOf X.K B (mMap lrangeT (mCons m mNil))) := by
  refine (pe_callTy (call_listR hc) hg hm PyProof.Rows.boot_list (pa_cons (pe_rng hg2 hm2 (pa_cons ha pa_nil hs) hs) pa_nil he) (by decide) (by decide) he hpl).imp fun σ H Q ⟨st, ps, S, as, R, t, st', e, q⟩ => ?_
  obtain ⟨ts, e1, e2⟩ := mMap_inv e
  obtain ⟨t1, s1, us, ea, en, rfl⟩ := mCons_inv e1
  cases en
  cases t1 <;> simp only [lrangeT, reduceCtorEq] at e2
  rename_i n
  split at e2
  · rename_i hn'
    have hn : -1000000 < n ∧ n < 1000000 := by have : n.natAbs < 1000000 := hn'; omega
    cases e2
    refine ⟨st, ps, S, as, R, _, _, ea, fun v H1 S1 as1 R1 => ?_⟩
    cases R1.top
    refine ⟨n, rfl, fun r hr => ⟨r, n, rfl, upd_same, hn, fun l hl => ?_⟩⟩
    have x1 := Ext.junk R1.sub hr (.rng 0 n)
    have x2 := Ext.laid x1.sub hl (.lst ((List.range n.toNat).map fun (k : Nat) => V.int (k : Int)))
    exact q _ _ _ _ (((R1.drop.ext x1).ext x2).push (.lst (SqL.of upd_same) (reps_ints _)))
  · cases e2
/-! ### several names at once -/
def gNames : List Nat → TGs
  | [] => gNil
  | i :: is => gCons (gName i) (gNames is)
theorem names_ok {K : PySem.W.Frag} {H S : Hp} {as : List Addr} {ps : List (V × T)} : ∀ (is : List Nat) {vs : List V} {xs : List T} {st : Sta} {σ : L2.St} {Q : L2.St → Hp → Prop}, Rel K B st σ H ps S as → Reps K S as vs xs → xs.length = is.length →
    (∀ σ', Rel K B ((is.zip xs).foldl (fun s p => putSlot p.1 p.2 false s) st) σ' H ps S as → Q σ' H) → gNames is vs σ H Q
  | [], _, _, _, _, _, R, .nil, _, q => ⟨rfl, q _ R⟩
  | i :: is, _, _, _, _, _, R, .cons r rs, hl, q => ⟨_, _, rfl, names_ok is (R.put (i := i) r) rs (by simpa using hl) q⟩
  | [], _, _, _, _, _, _, .cons _ _, hl, _ => by simp at hl
  | _ :: _, _, _, _, _, _, _, .nil, hl, _ => by simp at hl
theorem tg_tup {is : List Nat} {tg : Expr} (h : PG X tg (gTup X.K is.length (gNames is))) : PG X tg (gOf X.K B (hTup is)) := fun pins s σ H x u Q I r ⟨st, ps, S, as, t, R, st', e, q⟩ => h pins s σ H x u Q I r (by
  have top := R.top
  cases t with
  | tup xs =>
    cases top with
    | @tup a vs _ g1 g2 =>
      simp only [hTup] at e
      split at e
      · rename_i hl
        cases e
        exact ⟨a, vs, rfl, sqT_mono R.sub g1, by rw [g2.length]; exact hl, names_ok is R.drop g2 hl fun σ' R' => q σ' H S as R'⟩
      · cases e
  | _ => simp only [hTup, reduceCtorEq] at e)
end
end C
namespace C
open PySem PySem.Spec PyProof.Rows L2
/-- the law's promise at a script -/
theorem law_sp {K : PySem.W.Frag} {F : Fn} {H : Hp} {a : Addr} {ns : List Int} (hS : SqL K H a (ns.map V.int)) (hF : F [.lst (ns.map T.int)] [] = some (.bl true, [])) : spF K 1 F [.ref a] H (fun v _ => v = .bl true) fun _ _ _ => False := by
  have reps : ∀ (S : Hp) (l : List Int), Reps K S [] (l.map V.int) (l.map T.int) := fun S l => by
    induction l with
    | nil => exact .nil
    | cons x l ih => exact .cons (.int x) ih
  let S : Hp := fun p => if p = a then H p else none
  have sa : S a = H a := if_pos rfl
  have sub : Same S H := fun p u h => by
    by_cases e : p = a
    · subst e; rw [← sa]; exact h
    · have : S p = none := if_neg e
      rw [this] at h; cases h
  have sq : SqL K S a (ns.map V.int) := by
    rcases hS with h | h
    · refine .inl ?_
      unfold Rd at h ⊢
      rw [sa]; exact h
    · exact .inr h
  refine ⟨S, [], [], [.lst (ns.map T.int)], .bl true, [], sub, ⟨rfl, .nil, fun n so e => by simp at e⟩, .cons (.lst sq (reps S ns)) .nil, rfl, hF, fun v H' S' as' _ _ _ r => ?_⟩
  cases r
  rfl
end C

end

section
set_option autoImplicit false
/-! while, pop, int(x) by trees -/
namespace C
open PySem
def whileN : Nat → M Bool → S → S
  | 0, _, _ => fun _ => none
  | n + 1, c, b => fun s => match c s with
    | some (false, s1) => some (.next, s1)
    | some (true, s1) => match b s1 with
      | some (.next, s2) => whileN n c b s2
      | some (.cont, s2) => whileN n c b s2
      | some (.brk, s2) => some (.next, s2)
      | some (.ret v, s2) => some (.ret v, s2)
      | none => none
    | none => none
/-- y = x.pop(), x the name's own list -/
def sPop (i j : Nat) : S := fun s => match s.env[i]? with
  | some (some (.lst xs, true)) => match xs[xs.length - 1]? with
    | some t => some (.next, putSlot j t false (putSlot i (.lst xs.dropLast) true s))
    | none => none
  | _ => none
/-- xs[::-1] of a list -/
def revL : T → Option T
  | .lst xs => some (.lst xs.reverse)
  | _ => none
def intT : List T → Option T
  | [.int i] => some (.int i)
  | [.bl k] => some (.int (if k then 1 else 0))
  | _ => none
end C

end

section
set_option autoImplicit false
/-! zip, index by trees -/
namespace C
open PySem
def zipT (xs ys : List T) : List T := (xs.zip ys).map fun p => .tup [p.1, p.2]
/-- what zip(a, b) yields, a and b rows -/
def iZip (a b : M T) : M (List T) := fun s => match a s with
  | some (t, s1) => match b s1 with
    | some (u, s2) => match seqOf t, seqOf u with
      | some xs, some ys => if xs.length < lim ∧ ys.length < lim then some (zipT xs ys, s2) else none
      | _, _ => none
    | none => none
  | none => none
/-- the first place at which y stands -/
def ixOf (y : T) : List T → Nat → Option Nat
  | [], _ => none
  | x :: r, k => match eqD x y with
    | some true => some k
    | some false => ixOf y r (k + 1)
    | none => none
def indexT : T → T → Option T
  | .lst xs, y => if xs.length < lim ∧ (dat y).isSome ∧ (inL y xs).isSome then (ixOf y xs 0).map fun (k : Nat) => .int (k : Int) else none
  | _, _ => none
end C

end

section
set_option Elab.async false
set_option linter.all false
set_option autoImplicit false
/-! zip of two rows, each a list or a tuple: what its iterator does on the heap -/
namespace C
open PySem PySem.Sem
/-- an iterator of a list (true), of a tuple (false) -/
def ItAt : Bool → Heap → Addr → Addr → Nat → Prop
  | true, h, it, a, i => h.IsListIter it a i
  | false, h, it, a, i => h.IsTupleIter it a i
def RowAt : Bool → Heap → Addr → Array Value → Prop
  | true, h, a, xs => h.IsList a xs
  | false, h, a, xs => h.IsTuple a xs
theorem ItAt.to {k : Bool} {h h' : Heap} {it a : Addr} {i : Nat} (x : ItAt k h it a i) (e : ∀ o, h.get? it = some o → h'.get? it = some o) : ItAt k h' it a i := by
  cases k <;> obtain ⟨o, ho, r⟩ := x <;> exact ⟨o, e o ho, r⟩
theorem ItAt.obj {k : Bool} {h : Heap} {it a : Addr} {i : Nat} (x : ItAt k h it a i) : ∃ o, h.get? it = some o ∧ ∀ v, o.data ≠ .cell v := by
  cases k <;> obtain ⟨o, ho, _, d⟩ := x <;> exact ⟨o, ho, fun v z => by rw [d] at z; cases z⟩
theorem RowAt.to {k : Bool} {h h' : Heap} {a : Addr} {xs : Array Value} (x : RowAt k h a xs) (e : ∀ o, h.get? a = some o → h'.get? a = some o) : RowAt k h' a xs := by
  cases k <;> obtain ⟨o, ho, r⟩ := x <;> exact ⟨o, e o ho, r⟩
section
variable {prog : Program} {w : World} {A : Around} {E : Value → Shared → Prop} {s : Shared}
/-- the next of a tuple's iterator -/
theorem nextT {it t : Addr} {i : Nat} {xs : Array Value} {x : Value} {Q : Value → Shared → Prop} (h1 : s.heap.IsTupleIter it t i) (h2 : s.heap.IsTuple t xs) (h3 : xs[i]? = some x)
    (q : ∀ h', h'.IsTupleIter it t (i + 1) → Heap.SameBut it s.heap h' → Q x { s with heap := h' }) : wpAny (model prog w) A (Builtin.SmallTypes.nextOf (.ref it)) Q E s := by
  have ty : s.TypeIs (.ref it) "tuple_iterator" := h1.typeIs
  obtain ⟨oi, gi, ci, di⟩ := h1
  obtain ⟨ot, gt, _, m, dt⟩ := h2
  have upd : ∀ (h' : Heap), h' = s.heap.update it (Obj.mapFields (·.setIfInBounds 1 (rawInt ((i : Int) + 1)))) → h'.IsTupleIter it t (i + 1) := fun h' e => by
    subst e
    refine ⟨_, Heap.get?_update_self _ gi (Obj.isFreed_of_fields (Obj.data_mapFields di _)), (Obj.cls_mapFields ..).trans ci, ?_⟩
    rw [Obj.data_mapFields di]; rfl
  unfold Builtin.SmallTypes.nextOf -- here
  refine wpAny_bind (wpAny_callSpecial?_slot (name := Str.ofString "__next__") ty F.slot_tuple_iterator_next (wpAny_call_entry F.slot_tuple_iterator_next ty F.entry_tuple_iterator_next ?_ (F.args_tuple_iterator_next_1 _)))
  refine (show wpAny _ _ (field (.ref it) 0 >>= _) _ _ s from wpAny_bind (wpAny_field gi di (x := .ref t) rfl ?_))
  dsimp only
  rw [if_neg (by intro z; cases z)]
  refine (show wpAny _ _ (field (.ref it) 1 >>= _) _ _ s from wpAny_bind (wpAny_field gi di (x := .int i 0) rfl ?_))
  refine (show wpAny _ _ (seqItems? (.ref t) >>= _) _ _ s from wpAny_bind (wpAny_seqItems gt dt ?_))
  dsimp only
  rw [Int.toNat_natCast, h3]
  exact wpAny_bind (wpAny_setField gi di (by simp) (wpAny_pure ⟨x, rfl, wpAny_pure (q _ (upd _ rfl) (Heap.SameBut.update ..))⟩))
/-- .. at its end -/
theorem nextT_end {it t : Addr} {i : Nat} {xs : Array Value} {Q : Value → Shared → Prop} (hh : A.handled = none) (h1 : s.heap.IsTupleIter it t i) (h2 : s.heap.IsTuple t xs) (h3 : xs[i]? = none)
    (q : ∀ h' e, Heap.ExtBut it s.heap h' → (∃ o, h'.get? e = some o ∧ o.cls = .type "StopIteration") → E (.ref e) { s with heap := h' }) : wpAny (model prog w) A (Builtin.SmallTypes.nextOf (.ref it)) Q E s := by
  have ty : s.TypeIs (.ref it) "tuple_iterator" := h1.typeIs
  obtain ⟨oi, gi, ci, di⟩ := h1
  obtain ⟨ot, gt, _, m, dt⟩ := h2
  unfold Builtin.SmallTypes.nextOf -- here
  refine wpAny_bind (wpAny_callSpecial?_slot (name := Str.ofString "__next__") ty F.slot_tuple_iterator_next (wpAny_call_entry F.slot_tuple_iterator_next ty F.entry_tuple_iterator_next ?_ (F.args_tuple_iterator_next_1 _)))
  refine (show wpAny _ _ (field (.ref it) 0 >>= _) _ _ s from wpAny_bind (wpAny_field gi di (x := .ref t) rfl ?_))
  dsimp only
  rw [if_neg (by intro z; cases z)]
  refine (show wpAny _ _ (field (.ref it) 1 >>= _) _ _ s from wpAny_bind (wpAny_field gi di (x := .int i 0) rfl ?_))
  refine (show wpAny _ _ (seqItems? (.ref t) >>= _) _ _ s from wpAny_bind (wpAny_seqItems gt dt ?_))
  dsimp only
  rw [Int.toNat_natCast, h3]
  refine wpAny_bind (wpAny_rule (wpAny_bind (wpAny_setField gi di (by simp) ?_)))
  refine (show wpAny _ _ (newExc (.type "StopIteration") [] >>= _) _ _ _ from wpAny_bind ?_)
  simp only [newExc, newTuple]
  refine wpAny_bind (wpAny_newObj_type (wpAny_bind (m := firstArgMember _ _) (wpAny_of_eq (a := Value.none) (by first | rfl | (simp only [firstArgMember]; rfl)) (wpAny_newObj_type ?_ (by size_fits)))) (by size_fits))
  simp only [raiseNew]
  refine wpAny_bind (wpAny_handled ?_) -- here
  rw [show A.in1.handled = none from hh] -- here
  exact wpAny_bind (wpAny_pure (wpAny_throw (q _ _ (((Heap.SameBut.update ..).extBut.push _).push _) ⟨_, Heap.get?_push_size _ rfl, rfl⟩)))
theorem next_row {k : Bool} {it a : Addr} {i : Nat} {xs : Array Value} {x : Value} {Q : Value → Shared → Prop} (h1 : ItAt k s.heap it a i) (h2 : RowAt k s.heap a xs) (h3 : xs[i]? = some x)
    (q : ∀ h', ItAt k h' it a (i + 1) → Heap.SameBut it s.heap h' → Q x { s with heap := h' }) : wpAny (model prog w) A (Builtin.SmallTypes.nextOf (.ref it)) Q E s := by
  cases k with
  | true => exact wpAny_nextOf_list_item h1 h2 h3 q
  | false => exact nextT h1 h2 h3 q
theorem next_row_end {k : Bool} {it a : Addr} {i : Nat} {xs : Array Value} {Q : Value → Shared → Prop} (hh : A.handled = none) (h1 : ItAt k s.heap it a i) (h2 : RowAt k s.heap a xs) (h3 : xs[i]? = none)
    (q : ∀ h' e, Heap.ExtBut it s.heap h' → (∃ o, h'.get? e = some o ∧ o.cls = .type "StopIteration") → E (.ref e) { s with heap := h' }) : wpAny (model prog w) A (Builtin.SmallTypes.nextOf (.ref it)) Q E s := by
  cases k with
  | true => exact wpAny_nextOf_list_end hh h1 h2 h3 q
  | false => exact nextT_end hh h1 h2 h3 q
end
/-- the zip's own records: the zip, its pair of iterators, its kept pair, the iterators -/
structure ZipAt (h : Heap) (z ti to' i1 i2 : Addr) (f : Value) : Prop where
  zip : IsZip h z ti to' f
  its : IsPair h ti (.ref i1) (.ref i2)
  kept : ∃ a b, IsPair h to' a b
structure Far (z ti to' i1 i2 : Addr) : Prop where
  nd : [z, ti, to', i1, i2].Nodup
theorem Far.all {z ti to' i1 i2 : Addr} (f : Far z ti to' i1 i2) : ti ≠ z ∧ to' ≠ z ∧ i1 ≠ z ∧ i2 ≠ z ∧ ti ≠ to' ∧ ti ≠ i1 ∧ ti ≠ i2 ∧ to' ≠ i1 ∧ to' ≠ i2 ∧ i1 ≠ i2 := by
  have := f.nd
  simp only [List.nodup_cons, List.mem_cons, List.not_mem_nil, or_false, not_or] at this
  obtain ⟨⟨a, b, c, d⟩, ⟨e, f, g⟩, ⟨h, i⟩, j, _⟩ := this
  exact ⟨Ne.symm a, Ne.symm b, Ne.symm c, Ne.symm d, e, f, g, h, i, j⟩
def Kept4 (z to' i1 i2 : Addr) (h h' : Heap) : Prop := ∀ c o, c ≠ z → c ≠ to' → c ≠ i1 → c ≠ i2 → h.get? c = some o → h'.get? c = some o
section
variable {prog : Program} {w : World} {A : Around} {E : Value → Shared → Prop} {s : Shared}
theorem zip_item {k1 k2 : Bool} {z ti to' i1 i2 a1 a2 : Addr} {j1 j2 : Nat} {xs ys : Array Value} {x y : Value} {Q : Value → Shared → Prop} (D : Far z ti to' i1 i2) (Z : ZipAt s.heap z ti to' i1 i2 .none)
    (h1 : ItAt k1 s.heap i1 a1 j1) (h2 : ItAt k2 s.heap i2 a2 j2) (r1 : RowAt k1 s.heap a1 xs) (r2 : RowAt k2 s.heap a2 ys) (n2 : a2 ≠ z ∧ a2 ≠ to' ∧ a2 ≠ i1 ∧ a2 ≠ i2) (n1 : a1 ≠ z) (hx : xs[j1]? = some x) (hy : ys[j2]? = some y)
    (q : ∀ h', ZipAt h' z ti to' i1 i2 (rawInt s.heap.objs.size) → ItAt k1 h' i1 a1 (j1 + 1) → ItAt k2 h' i2 a2 (j2 + 1) → IsPair h' s.heap.objs.size x y → Kept4 z to' i1 i2 s.heap h' → Q (.ref s.heap.objs.size) { s with heap := h' }) :
    wpAny (model prog w) A (Builtin.«zip.__next__» ⟨[.ref z], []⟩) (fun fin s' => ∃ v, fin = .done (.ret v) ∧ Q v s') E s := by -- here
  obtain ⟨hz, hI, a, b, hO⟩ := Z
  obtain ⟨d1, d2, d3, d4, d5, d6, d7, d8, d9, d10⟩ := D.all
  refine (show wpAny _ _ (field (.ref z) 2 >>= _) _ _ _ from wpAny_bind (wpAny_field hz rfl (x := .bool false) rfl ?_))
  refine (show wpAny _ _ (field (.ref z) 3 >>= _) _ _ _ from wpAny_bind (wpAny_field hz rfl (x := .ref ti) rfl (wpAny_bind (wpAny_seqItems hI rfl ?_))))
  refine (show wpAny _ _ (Builtin.SmallTypes.ownedTupleIsFree (.ref z) >>= _) _ _ _ from wpAny_bind ?_)
  unfold Builtin.SmallTypes.ownedTupleIsFree -- here
  refine wpAny_bind (wpAny_field hz rfl (x := .none) rfl (wpAny_pure ?_)) -- here
  dsimp only
  rw [if_pos rfl]
  refine wpAny_bind (wpAny_rule (wpAny_bind (wpAny_field hz rfl (x := .ref to') rfl (wpAny_bind (wpAny_setField_rec hz (by simp) fun g1 z1 s1 => wpAny_bind ?_)))))
  have z1 : IsZip g1 z ti to' .ellipsis := z1
  simp only [List.zipIdx_cons, List.zipIdx_nil, List.forIn_cons, List.forIn_nil] -- here
  -- the first row
  refine wpAny_bind (wpAny_bind (wpAny_onRaise (show wpAny _ _ (Builtin.SmallTypes.nextOf (.ref i1) >>= _) _ _ _ from wpAny_bind (next_row (h1.to fun o e => s1.extBut _ _ d3 e) (r1.to fun o e => s1.extBut _ _ n1 e) hx fun g2 t2 s2 => wpAny_pure ?_))))
  have o2 : IsPair g2 to' a b := s2.extBut _ _ d8 (s1.extBut _ _ d2 hO)
  refine wpAny_bind (wpAny_seqItems o2 rfl (wpAny_bind (wpAny_updateSeq_pair o2 fun g3 o3 s3 => wpAny_bind (wpAny_letGo (wpAny_pure ?_)))))
  have o3 : IsPair g3 to' x b := o3
  -- the second row
  have e3 : ∀ c o, c ≠ z → c ≠ i1 → c ≠ to' → s.heap.get? c = some o → g3.get? c = some o := fun c o c1 c2 c3 e => s3.extBut _ _ c3 (s2.extBut _ _ c2 (s1.extBut _ _ c1 e))
  refine wpAny_bind (wpAny_bind (wpAny_onRaise (show wpAny _ _ (Builtin.SmallTypes.nextOf (.ref i2) >>= _) _ _ _ from wpAny_bind (next_row (h2.to fun o e => e3 _ o d4 (Ne.symm d10) (Ne.symm d9) e) (r2.to fun o e => e3 _ o n2.1 n2.2.2.1 n2.2.1 e) hy fun g4 t4 s4 => wpAny_pure ?_))))
  have o4 : IsPair g4 to' x b := s4.extBut _ _ d9 o3
  refine wpAny_bind (wpAny_seqItems o4 rfl (wpAny_bind (wpAny_updateSeq_pair o4 fun g5 o5 s5 => wpAny_bind (wpAny_letGo (wpAny_pure (wpAny_pure ?_))))))
  have o5 : IsPair g5 to' x y := o5
  have sz : g5.objs.size = s.heap.objs.size := by rw [s5.1, s4.1, s3.1, s2.1, s1.1]
  have z5 : IsZip g5 z ti to' .ellipsis := s5.extBut _ _ (Ne.symm d2) (s4.extBut _ _ (Ne.symm d4) (s3.extBut _ _ (Ne.symm d2) (s2.extBut _ _ (Ne.symm d3) z1)))
  have t5 : ItAt k1 g5 i1 a1 (j1 + 1) := t2.to fun o e => s5.extBut _ _ (Ne.symm d8) (s4.extBut _ _ d10 (s3.extBut _ _ (Ne.symm d8) e))
  have u5 : ItAt k2 g5 i2 a2 (j2 + 1) := t4.to fun o e => s5.extBut _ _ (Ne.symm d9) e
  refine wpAny_bind (wpAny_seqItems o5 rfl (wpAny_bind (wpAny_newTuple ?_)))
  refine (show wpAny _ _ (Builtin.SmallTypes.ownedTupleHandOut (.ref z) (.ref g5.objs.size) >>= _) _ _ _ from wpAny_bind ?_)
  unfold Builtin.SmallTypes.ownedTupleHandOut -- here
  have z6 : IsZip (g5.push { cls := .type "tuple", data := .seq #[x, y] }) z ti to' .ellipsis := Heap.get?_push_of_some _ z5
  refine wpAny_bind (wpAny_setField_rec z6 (by simp) fun g7 z7 s7 => ?_)
  have z7 : IsZip g7 z ti to' (rawInt g5.objs.size) := z7
  refine wpAny_setField_rec z7 (by simp) fun g8 z8 s8 => wpAny_pure ⟨_, rfl, ?_⟩
  have z8 : IsZip g8 z ti to' (rawInt g5.objs.size) := z8
  have e8 : ∀ c o, c ≠ z → g5.get? c = some o → g8.get? c = some o := fun c o c1 e => s8.extBut _ _ c1 (s7.extBut _ _ c1 (Heap.get?_push_of_some _ e))
  have p8 : IsPair g8 g5.objs.size x y := s8.extBut _ _ (Nat.ne_of_gt (Heap.lt_size z5)) (s7.extBut _ _ (Nat.ne_of_gt (Heap.lt_size z5)) (Heap.get?_push_size _ rfl))
  have all : ∀ c o, c ≠ z → c ≠ to' → c ≠ i1 → c ≠ i2 → s.heap.get? c = some o → g8.get? c = some o := fun c o c1 c2 c3 c4 e => e8 c o c1 (s5.extBut _ _ c2 (s4.extBut _ _ c4 (e3 c o c1 c3 c2 e)))
  rw [sz] at z8 p8
  show Q (.ref g5.objs.size) _
  rw [sz]
  exact q g8 ⟨z8, all _ _ d1 d5 d6 d7 hI, x, y, e8 _ _ d2 o5⟩ (t5.to fun o e => e8 _ o d3 e) (u5.to fun o e => e8 _ o d4 e) p8 all
theorem zip_stop {k1 k2 : Bool} {z ti to' i1 i2 a1 a2 : Addr} {j1 j2 : Nat} {xs ys : Array Value} {Q : PySem.Fin → Shared → Prop} (hh : A.handled = none) (D : Far z ti to' i1 i2) (Z : ZipAt s.heap z ti to' i1 i2 .none)
    (h1 : ItAt k1 s.heap i1 a1 j1) (h2 : ItAt k2 s.heap i2 a2 j2) (r1 : RowAt k1 s.heap a1 xs) (r2 : RowAt k2 s.heap a2 ys) (n2 : a2 ≠ z ∧ a2 ≠ to' ∧ a2 ≠ i1 ∧ a2 ≠ i2) (n1 : a1 ≠ z) (hend : xs[j1]? = none ∨ ys[j2]? = none)
    (q : ∀ h' e, Kept4 z to' i1 i2 s.heap h' → (∃ o, h'.get? e = some o ∧ o.cls = .type "StopIteration") → E (.ref e) { s with heap := h' }) :
    wpAny (model prog w) A (Builtin.«zip.__next__» ⟨[.ref z], []⟩) Q E s := by -- here
  obtain ⟨hz, hI, a, b, hO⟩ := Z
  obtain ⟨d1, d2, d3, d4, d5, d6, d7, d8, d9, d10⟩ := D.all
  refine (show wpAny _ _ (field (.ref z) 2 >>= _) _ _ _ from wpAny_bind (wpAny_field hz rfl (x := .bool false) rfl ?_))
  refine (show wpAny _ _ (field (.ref z) 3 >>= _) _ _ _ from wpAny_bind (wpAny_field hz rfl (x := .ref ti) rfl (wpAny_bind (wpAny_seqItems hI rfl ?_))))
  refine (show wpAny _ _ (Builtin.SmallTypes.ownedTupleIsFree (.ref z) >>= _) _ _ _ from wpAny_bind ?_)
  unfold Builtin.SmallTypes.ownedTupleIsFree -- here
  refine wpAny_bind (wpAny_field hz rfl (x := .none) rfl (wpAny_pure ?_)) -- here
  dsimp only
  rw [if_pos rfl]
  refine wpAny_bind (wpAny_rule (wpAny_bind (wpAny_field hz rfl (x := .ref to') rfl (wpAny_bind (wpAny_setField_rec hz (by simp) fun g1 z1 s1 => wpAny_bind ?_)))))
  have z1 : IsZip g1 z ti to' .ellipsis := z1
  simp only [List.zipIdx_cons, List.zipIdx_nil, List.forIn_cons, List.forIn_nil] -- here
  have fin : ∀ (g : Heap) (e : Addr) (zg : IsZip g z ti to' .ellipsis) (he : ∃ o, g.get? e = some o ∧ o.cls = .type "StopIteration") (kg : Kept4 z to' i1 i2 s.heap g), wpAny (model prog w) A (setField (.ref z) 0 .none) (fun _ s' => E (.ref e) s') E { s with heap := g } := fun g e zg ⟨o, ho, hc⟩ kg => by
    have ne : e ≠ z := fun x => by subst x; rw [zg] at ho; cases ho; simp at hc
    exact wpAny_setField_rec zg (by simp) fun g' _ s' => q g' e (fun c o c1 c2 c3 c4 x => s'.extBut _ _ c1 (kg c o c1 c2 c3 c4 x)) ⟨o, s'.extBut _ _ ne ho, hc⟩
  cases hx : xs[j1]? with
  | none =>
    refine wpAny_bind (wpAny_bind (wpAny_onRaise (show wpAny _ _ (Builtin.SmallTypes.nextOf (.ref i1) >>= _) _ _ _ from wpAny_bind (next_row_end hh (h1.to fun o e => s1.extBut _ _ d3 e) (r1.to fun o e => s1.extBut _ _ n1 e) hx fun g2 e s2 he => ?_))))
    exact fin g2 e (s2 _ _ (Ne.symm d3) z1) he fun c o c1 _ c3 _ x => s2 _ _ c3 (s1.extBut _ _ c1 x)
  | some x =>
    have hy : ys[j2]? = none := hend.resolve_left fun h => by rw [hx] at h; cases h
    refine wpAny_bind (wpAny_bind (wpAny_onRaise (show wpAny _ _ (Builtin.SmallTypes.nextOf (.ref i1) >>= _) _ _ _ from wpAny_bind (next_row (h1.to fun o e => s1.extBut _ _ d3 e) (r1.to fun o e => s1.extBut _ _ n1 e) hx fun g2 t2 s2 => wpAny_pure ?_))))
    have o2 : IsPair g2 to' a b := s2.extBut _ _ d8 (s1.extBut _ _ d2 hO)
    refine wpAny_bind (wpAny_seqItems o2 rfl (wpAny_bind (wpAny_updateSeq_pair o2 fun g3 o3 s3 => wpAny_bind (wpAny_letGo (wpAny_pure ?_)))))
    have e3 : ∀ c o, c ≠ z → c ≠ i1 → c ≠ to' → s.heap.get? c = some o → g3.get? c = some o := fun c o c1 c2 c3 e => s3.extBut _ _ c3 (s2.extBut _ _ c2 (s1.extBut _ _ c1 e))
    refine wpAny_bind (wpAny_bind (wpAny_onRaise (show wpAny _ _ (Builtin.SmallTypes.nextOf (.ref i2) >>= _) _ _ _ from wpAny_bind (next_row_end hh (h2.to fun o e => e3 _ o d4 (Ne.symm d10) (Ne.symm d9) e) (r2.to fun o e => e3 _ o n2.1 n2.2.2.1 n2.2.1 e) hy fun g4 e s4 he => ?_))))
    exact fin g4 e (s4 _ _ (Ne.symm d4) (s3.extBut _ _ (Ne.symm d2) (s2.extBut _ _ (Ne.symm d3) z1))) he fun c o c1 c2 c3 c4 x => s4 _ _ c4 (e3 c o c1 c3 c2 x)
theorem zip_next {k1 k2 : Bool} {z ti to' i1 i2 a1 a2 : Addr} {j1 j2 : Nat} {xs ys : Array Value} {x y : Value} {Q : Option Value → Shared → Prop} (D : Far z ti to' i1 i2) (Z : ZipAt s.heap z ti to' i1 i2 .none)
    (h1 : ItAt k1 s.heap i1 a1 j1) (h2 : ItAt k2 s.heap i2 a2 j2) (r1 : RowAt k1 s.heap a1 xs) (r2 : RowAt k2 s.heap a2 ys) (n2 : a2 ≠ z ∧ a2 ≠ to' ∧ a2 ≠ i1 ∧ a2 ≠ i2) (n1 : a1 ≠ z) (hx : xs[j1]? = some x) (hy : ys[j2]? = some y)
    (q : ∀ h', ZipAt h' z ti to' i1 i2 (rawInt s.heap.objs.size) → ItAt k1 h' i1 a1 (j1 + 1) → ItAt k2 h' i2 a2 (j2 + 1) → IsPair h' s.heap.objs.size x y → Kept4 z to' i1 i2 s.heap h' → Q (some (.ref s.heap.objs.size)) { s with heap := h' }) :
    wpAny (model prog w) A (pyNext (.ref z)) Q E s := by -- here
  have ty : s.TypeIs (.ref z) "zip" := ⟨_, Z.zip, rfl⟩
  unfold pyNext
  exact wpAny_bind (wpAny_attempt (wpAny_callSpecial?_slot (name := Str.ofString "__next__") ty F.slot_zip_next (wpAny_call_entry F.slot_zip_next ty F.entry_zip_next
    (zip_item D Z h1 h2 r1 r2 n2 n1 hx hy fun h' a b c d e => wpAny_pure (q h' a b c d e)) (F.args_zip_next_1 _))))
theorem zip_none {k1 k2 : Bool} {z ti to' i1 i2 a1 a2 : Addr} {j1 j2 : Nat} {xs ys : Array Value} {Q : Option Value → Shared → Prop} (hh : A.handled = none) (D : Far z ti to' i1 i2) (Z : ZipAt s.heap z ti to' i1 i2 .none)
    (h1 : ItAt k1 s.heap i1 a1 j1) (h2 : ItAt k2 s.heap i2 a2 j2) (r1 : RowAt k1 s.heap a1 xs) (r2 : RowAt k2 s.heap a2 ys) (n2 : a2 ≠ z ∧ a2 ≠ to' ∧ a2 ≠ i1 ∧ a2 ≠ i2) (n1 : a1 ≠ z) (hend : xs[j1]? = none ∨ ys[j2]? = none)
    (q : ∀ h', Kept4 z to' i1 i2 s.heap h' → Q none { s with heap := h' }) : wpAny (model prog w) A (pyNext (.ref z)) Q E s := by
  have ty : s.TypeIs (.ref z) "zip" := ⟨_, Z.zip, rfl⟩
  unfold pyNext
  refine wpAny_bind (wpAny_attempt (wpAny_callSpecial?_slot (name := Str.ofString "__next__") ty F.slot_zip_next (wpAny_call_entry F.slot_zip_next ty F.entry_zip_next
    (zip_stop hh D Z h1 h2 r1 r2 n2 n1 hend fun h' e kp he => ?_) (F.args_zip_next_1 _))))
  obtain ⟨o, ho, hc⟩ := he
  exact wpAny_bind (wpAny_isInstance (T := "StopIteration") (b := true) ⟨o, ho, hc⟩ isSubtype_stop (wpAny_pure (q _ kp)))
end
/-- what zip(a, b) lays -/
abbrev itObj (k : Bool) (a : Addr) : Obj := { cls := .type (if k then "list_iterator" else "tuple_iterator"), data := .fields #[.ref a, .int 0 0] }
abbrev zh1 (h : Heap) (k1 : Bool) (a1 : Addr) : Heap := h.push (itObj k1 a1)
abbrev zh2 (h : Heap) (k1 k2 : Bool) (a1 a2 : Addr) : Heap := (zh1 h k1 a1).push (itObj k2 a2)
abbrev zh3 (h : Heap) (k1 k2 : Bool) (a1 a2 : Addr) : Heap := (zh2 h k1 k2 a1 a2).push { cls := .type "tuple", data := .seq #[.ref h.objs.size, .ref (zh1 h k1 a1).objs.size] }
abbrev zh4 (h : Heap) (k1 k2 : Bool) (a1 a2 : Addr) : Heap := (zh3 h k1 k2 a1 a2).push { cls := .type "tuple", data := .seq #[.none, .none] }
abbrev zh5 (h : Heap) (k1 k2 : Bool) (a1 a2 : Addr) : Heap := (zh4 h k1 k2 a1 a2).push { cls := .type "zip", data := .fields #[.none, .bool false, .bool false, .ref (zh2 h k1 k2 a1 a2).objs.size, .ref (zh3 h k1 k2 a1 a2).objs.size] }
set_option maxHeartbeats 4000000 in
theorem zip_made_ff (a1 a2 : Addr) (xs ys : Array Value) : Meets (Builtin.«zip.__new__» ⟨[.type "zip", .ref a1, .ref a2], []⟩) (fun _ R s => s.heap.IsTuple a1 xs ∧ s.heap.IsTuple a2 ys ∧
      R (.ok (.ret (.ref (zh4 s.heap false false a1 a2).objs.size))) { s with heap := zh5 s.heap false false a1 a2 }) :=
  .of_wp fun prog w A R s ⟨r1, r2, fin⟩ => by
    obtain ⟨hp, g, d, tk, os⟩ := s -- here
    have hsub := sub_zip
    have q1 : Heap.IsTuple (Shared.heap ⟨hp, g, d, tk, os⟩) a1 xs := r1
    have q2 : Heap.IsTuple (Shared.heap ⟨hp.push { cls := .type "tuple_iterator", data := .fields #[.ref a1, .int 0 0] }, g, d, tk, os⟩) a2 ys := Heap.IsTuple.push r2 _
    wp_walk using wpAny_pyIter_tuple q1, wpAny_pyIter_tuple q2
    exact ⟨_, rfl, fin⟩
set_option maxHeartbeats 4000000 in
theorem zip_made_ft (a1 a2 : Addr) (xs ys : Array Value) : Meets (Builtin.«zip.__new__» ⟨[.type "zip", .ref a1, .ref a2], []⟩) (fun _ R s => s.heap.IsTuple a1 xs ∧ s.heap.IsList a2 ys ∧
      R (.ok (.ret (.ref (zh4 s.heap false true a1 a2).objs.size))) { s with heap := zh5 s.heap false true a1 a2 }) :=
  .of_wp fun prog w A R s ⟨r1, r2, fin⟩ => by
    obtain ⟨hp, g, d, tk, os⟩ := s -- here
    have hsub := sub_zip
    have q1 : Heap.IsTuple (Shared.heap ⟨hp, g, d, tk, os⟩) a1 xs := r1
    have q2 : Heap.IsList (Shared.heap ⟨hp.push { cls := .type "tuple_iterator", data := .fields #[.ref a1, .int 0 0] }, g, d, tk, os⟩) a2 ys := Heap.IsList.push r2 _
    wp_walk using wpAny_pyIter_tuple q1, wpAny_pyIter_list q2
    exact ⟨_, rfl, fin⟩
set_option maxHeartbeats 4000000 in
theorem zip_made_tf (a1 a2 : Addr) (xs ys : Array Value) : Meets (Builtin.«zip.__new__» ⟨[.type "zip", .ref a1, .ref a2], []⟩) (fun _ R s => s.heap.IsList a1 xs ∧ s.heap.IsTuple a2 ys ∧
      R (.ok (.ret (.ref (zh4 s.heap true false a1 a2).objs.size))) { s with heap := zh5 s.heap true false a1 a2 }) :=
  .of_wp fun prog w A R s ⟨r1, r2, fin⟩ => by
    obtain ⟨hp, g, d, tk, os⟩ := s -- here
    have hsub := sub_zip
    have q1 : Heap.IsList (Shared.heap ⟨hp, g, d, tk, os⟩) a1 xs := r1
    have q2 : Heap.IsTuple (Shared.heap ⟨hp.push { cls := .type "list_iterator", data := .fields #[.ref a1, .int 0 0] }, g, d, tk, os⟩) a2 ys := Heap.IsTuple.push r2 _
    wp_walk using wpAny_pyIter_list q1, wpAny_pyIter_tuple q2
    exact ⟨_, rfl, fin⟩
set_option maxHeartbeats 4000000 in
theorem zip_made_tt (a1 a2 : Addr) (xs ys : Array Value) : Meets (Builtin.«zip.__new__» ⟨[.type "zip", .ref a1, .ref a2], []⟩) (fun _ R s => s.heap.IsList a1 xs ∧ s.heap.IsList a2 ys ∧
      R (.ok (.ret (.ref (zh4 s.heap true true a1 a2).objs.size))) { s with heap := zh5 s.heap true true a1 a2 }) :=
  .of_wp fun prog w A R s ⟨r1, r2, fin⟩ => by
    obtain ⟨hp, g, d, tk, os⟩ := s -- here
    have hsub := sub_zip
    have q1 : Heap.IsList (Shared.heap ⟨hp, g, d, tk, os⟩) a1 xs := r1
    have q2 : Heap.IsList (Shared.heap ⟨hp.push { cls := .type "list_iterator", data := .fields #[.ref a1, .int 0 0] }, g, d, tk, os⟩) a2 ys := Heap.IsList.push r2 _
    wp_walk using wpAny_pyIter_list q1, wpAny_pyIter_list q2
    exact ⟨_, rfl, fin⟩
theorem zip_made (k1 k2 : Bool) (a1 a2 : Addr) (xs ys : Array Value) : Meets (Builtin.«zip.__new__» ⟨[.type "zip", .ref a1, .ref a2], []⟩) (fun _ R s => RowAt k1 s.heap a1 xs ∧ RowAt k2 s.heap a2 ys ∧
      R (.ok (.ret (.ref (zh4 s.heap k1 k2 a1 a2).objs.size))) { s with heap := zh5 s.heap k1 k2 a1 a2 }) := by
  cases k1 <;> cases k2
  · exact zip_made_ff a1 a2 xs ys
  · exact zip_made_ft a1 a2 xs ys
  · exact zip_made_tf a1 a2 xs ys
  · exact zip_made_tt a1 a2 xs ys
theorem itObj_at {k : Bool} {h : Heap} {p a : Addr} (e : h.get? p = some (itObj k a)) : ItAt k h p a 0 := by
  cases k <;> exact ⟨_, e, rfl, rfl⟩
section
variable {prog : Program} {w : World} {A : Around} {E : Value → Shared → Prop} {s : Shared}
theorem call_zip {k1 k2 : Bool} {a1 a2 : Addr} {xs ys : Array Value} {Q : Value → Shared → Prop} (r1 : RowAt k1 s.heap a1 xs) (r2 : RowAt k2 s.heap a2 ys)
    (q : ∀ h', ZipAt h' (s.heap.objs.size + 4) (s.heap.objs.size + 2) (s.heap.objs.size + 3) s.heap.objs.size (s.heap.objs.size + 1) .none → ItAt k1 h' s.heap.objs.size a1 0 → ItAt k2 h' (s.heap.objs.size + 1) a2 0 →
      (∀ c o, s.heap.get? c = some o → h'.get? c = some o) → Q (.ref (s.heap.objs.size + 4)) { s with heap := h' }) : wpAny (model prog w) A (call (.type "zip") [.ref a1, .ref a2]) Q E s := by
  refine callType_new F.called_zip (by decide) (F.typeCall_zip_2 _ _) (F.newCall_zip_2 _ _) (fun obj => F.args_object_init_3 obj _ _) F.entry_zip_new (zip_made k1 k2 a1 a2 xs ys) ⟨r1, r2, ?_⟩
  have y1 : (zh1 s.heap k1 a1).objs.size = s.heap.objs.size + 1 := Heap.size_push ..
  have y2 : (zh2 s.heap k1 k2 a1 a2).objs.size = s.heap.objs.size + 2 := by rw [Heap.size_push, y1]
  have y3 : (zh3 s.heap k1 k2 a1 a2).objs.size = s.heap.objs.size + 3 := by rw [Heap.size_push, y2]
  have y4 : (zh4 s.heap k1 k2 a1 a2).objs.size = s.heap.objs.size + 4 := by rw [Heap.size_push, y3]
  have up : ∀ {h : Heap} {o : Obj} {c : Addr} {u : Obj}, h.get? c = some u → (h.push o).get? c = some u := fun e => Heap.get?_push_of_some _ e
  have g5 : (zh5 s.heap k1 k2 a1 a2).get? (zh4 s.heap k1 k2 a1 a2).objs.size = some _ := Heap.get?_push_size _ rfl
  have g4 : (zh5 s.heap k1 k2 a1 a2).get? (zh3 s.heap k1 k2 a1 a2).objs.size = some _ := up (Heap.get?_push_size _ rfl)
  have g3 : (zh5 s.heap k1 k2 a1 a2).get? (zh2 s.heap k1 k2 a1 a2).objs.size = some _ := up (up (Heap.get?_push_size _ rfl))
  have g2 : (zh5 s.heap k1 k2 a1 a2).get? (zh1 s.heap k1 a1).objs.size = some (itObj k2 a2) := up (up (up (Heap.get?_push_size _ rfl)))
  have g1 : (zh5 s.heap k1 k2 a1 a2).get? s.heap.objs.size = some (itObj k1 a1) := up (up (up (up (Heap.get?_push_size _ rfl))))
  show _ ∧ _
  rw [y2, y3, y4] at g5
  rw [y1, y2] at g3
  rw [y3] at g4
  rw [y1] at g2
  rw [y4]
  exact ⟨⟨_, g5, rfl⟩, q _ ⟨g5, g3, _, _, g4⟩ (itObj_at g1) (itObj_at g2) fun c o x => up (up (up (up (up x))))⟩
end
end C

end

section
set_option Elab.async false
set_option linter.all false
set_option maxRecDepth 100000
set_option maxHeartbeats 4000002
set_option autoImplicit false
namespace C
open PySem PySem.Spec PyProof.Rows L2

/-- several records turn, a new one is tracked -/
theorem Inv.turnedN {X : Cx} {pins : List (Addr × Obj)} {σ : L2.St} {H : Hp} {s : Shared} {h' : Heap} {t' : Nat} {ch : List Addr} {n : Addr} {o : HO} (I : L2.Inv X pins σ H s) (hch : ∀ b ∈ ch, FpOk X pins H b)
    (k : ∀ b u, b ∉ ch → s.heap.get? b = some u → h'.get? b = some u) (hp : s.heap.objs.size ≤ n) (new : ObjOk X.prog X.w (upd H n o) h' n o) : L2.Inv X pins σ (upd H n o) { s with heap := h', toks := t' } := by
  have fr := I.hok.fresh hp
  have nn : ∀ b u, s.heap.get? b = some u → b ≠ n := fun b u e => Nat.ne_of_lt (Nat.lt_of_lt_of_le (Heap.lt_size e) hp)
  have nch : ∀ b u, H b = some u → b ∉ ch := fun b u e z => by rw [(hch b z).1] at e; cases e
  refine I.step (g' := s.gens) (d' := s.drawn) (ch := ch) (fun b hb => ?_) (fun b u _ _ hc e _ => k b u hc e) (fun b u _ _ hc e _ => ⟨u.slots, k b u hc e⟩) (fun b u _ e z => by rw [upd_ne (nn b u e)]; exact z)
    (fun b u hc e => ⟨u, k b u hc e⟩) (fun b xs e => by rw [upd_ne (ne_of_none e fr)]; exact e) (fun b u xs e => by rw [upd_ne (ne_of_none e fr)]; exact e) (fun b ps e => ⟨#[], by rw [upd_ne (ne_of_none e fr), e]; simp⟩) (fun m hm => ?_) (fun b u e => ?_) I.bare
  · obtain ⟨f0, f1, f2, f3, f4, f5⟩ := hch b hb
    exact ⟨f3, f1, f4, f5⟩
  · obtain ⟨ob, es, ep, ho, r⟩ := hm
    exact ⟨ob, es, ep, k _ ob (fun z => (hch _ z).2.1 rfl) ho, r⟩
  · by_cases hb : b = n
    · subst hb; rw [upd_same] at e; cases e; exact new
    · rw [upd_ne hb] at e
      refine (I.hok b u e).stay (fun c v hc q => k c v ?_ q) (fun c q => by rw [upd_ne (ne_of_none q fr)]; exact q) fun c xs q => by rw [upd_ne (ne_of_none q fr)]; exact q
      rcases hc with rfl | hc
      · exact nch _ _ e
      · exact nch _ _ hc
theorem Inv.turnedL {X : Cx} {pins : List (Addr × Obj)} {σ : L2.St} {H : Hp} {s : Shared} {h' : Heap} {t' : Nat} {ch : List Addr} (I : L2.Inv X pins σ H s) (hch : ∀ b ∈ ch, FpOk X pins H b)
    (k : ∀ b u, b ∉ ch → s.heap.get? b = some u → h'.get? b = some u) : L2.Inv X pins σ H { s with heap := h', toks := t' } := by
  have nch : ∀ b u, H b = some u → b ∉ ch := fun b u e z => by rw [(hch b z).1] at e; cases e
  refine I.step (g' := s.gens) (d' := s.drawn) (ch := ch) (fun b hb => ?_) (fun b u _ _ hc e _ => k b u hc e) (fun b u _ _ hc e _ => ⟨u.slots, k b u hc e⟩) (fun b u _ e z => z)
    (fun b u hc e => ⟨u, k b u hc e⟩) (fun b xs e => e) (fun b u xs e => e) (fun b ps e => ⟨#[], by rw [e]; simp⟩) (fun m hm => ?_) (fun b u e => ?_) I.bare
  · obtain ⟨f0, f1, f2, f3, f4, f5⟩ := hch b hb
    exact ⟨f3, f1, f4, f5⟩
  · obtain ⟨ob, es, ep, ho, r⟩ := hm
    exact ⟨ob, es, ep, k _ ob (fun z => (hch _ z).2.1 rfl) ho, r⟩
  · refine (I.hok b u e).stay (fun c v hc q => k c v ?_ q) (fun c q => q) fun c xs q => q
    rcases hc with rfl | hc
    · exact nch _ _ e
    · exact nch _ _ hc

/-- a row: a list (true), a tuple (false) -/
def Sq : Bool → PySem.W.Frag → Hp → Addr → List V → Prop
  | true, K, H, a, xs => SqL K H a xs
  | false, K, H, a, xs => SqT K H a xs
section
variable {X : Cx} {pins : List (Addr × Obj)} {σ : L2.St} {H : Hp} {s : Shared} {a : Addr} {xs ys : List V} {k : Bool}
theorem Sq.row (I : L2.Inv X pins σ H s) (h : Sq k X.K H a xs) : ∃ its : List Value, Vals xs its ∧ RowAt k s.heap a its.toArray := by
  cases k with
  | true => obtain ⟨its, r, p, _⟩ := I.list h; exact ⟨its, r, p.isList⟩
  | false => obtain ⟨its, r, p, _⟩ := I.tuple h; exact ⟨its, r, p⟩
theorem Sq.inj (I : L2.Inv X pins σ H s) (h : Sq k X.K H a xs) (h' : Sq k X.K H a ys) : xs = ys := by
  cases k with
  | true => exact I.list_inj h h'
  | false => exact I.tuple_inj h h'
theorem Sq.far (I : L2.Inv X pins σ H s) {b : Addr} (h : Sq k X.K H a xs) (f : FpOk X pins H b) : a ≠ b := by
  have held : ∀ o, X.K.lookup a = some o → a ≠ b := fun o e z => by
    subst z
    have eb := I.mod.kin a o e
    rcases f.2.2.2.1 with q | q
    · exact I.ok.noex a o eb q
    · exact absurd (Nat.lt_of_lt_of_le (Heap.lt_size (I.ok.bs a o eb).1) q) (Nat.lt_irrefl _)
  have there : ∀ u, Rd H a u → a ≠ b := fun u e z => by
    subst z
    rcases e with e | ⟨o, e⟩ <;> rw [f.1] at e <;> cases e
  cases k with
  | true =>
    rcases h with h | ⟨o, _, _, e, _⟩
    · exact there _ h
    · exact held o e
  | false =>
    rcases h with h | ⟨o, _, _, e, _⟩
    · exact there _ h
    · exact held o e
end
/-- two rows walked together -/
def Itz (K : PySem.W.Frag) (k1 k2 : Bool) (a1 a2 : Addr) : It :=
  ⟨fun i H => ∃ xs ys x y, Sq k1 K H a1 xs ∧ Sq k2 K H a2 ys ∧ xs[i]? = some x ∧ ys[i]? = some y,
   fun i H v H' => ∃ p x y, H p = none ∧ v = .ref p ∧ H' = upd H p (.tup [x, y]) ∧ (∀ xs, Sq k1 K H a1 xs → xs[i]? = some x) ∧ ∀ ys, Sq k2 K H a2 ys → ys[i]? = some y,
   fun i H => ∃ xs ys, Sq k1 K H a1 xs ∧ Sq k2 K H a2 ys ∧ (xs.length ≤ i ∨ ys.length ≤ i)⟩
theorem turn_zip {P : Program} {w : World} {K : PySem.W.Frag} {elts : List Expr} {x1 : Nat} {pos : Pos} {k1 k2 : Bool} {a1 a2 z ti to' i1 i2 : Addr} (D : Far z ti to' i1 i2) :
    Turn P w K (.Tuple elts x1 pos) (Itz K k1 k2 a1 a2) [z, ti, to', i1, i2] z (fun i h => ZipAt h z ti to' i1 i2 .none ∧ ItAt k1 h i1 a1 i ∧ ItAt k2 h i2 a2 i) where
  mem := by simp
  obj := fun i h ⟨Z, t1, t2⟩ b hb => by
    simp only [List.mem_cons, List.not_mem_nil, or_false] at hb -- here
    obtain ⟨zz, its, a, b, kp⟩ := Z
    rcases hb with rfl | rfl | rfl | rfl | rfl
    · exact ⟨_, zz, fun v q => by cases q⟩
    · exact ⟨_, its, fun v q => by cases q⟩
    · exact ⟨_, kp, fun v q => by cases q⟩
    · exact t1.obj
    · exact t2.obj
  keep := fun i h h' ⟨⟨zz, its, a, b, kp⟩, t1, t2⟩ e => ⟨⟨e z (by simp) _ zz, e ti (by simp) _ its, a, b, e to' (by simp) _ kp⟩, t1.to fun o q => e i1 (by simp) o q, t2.to fun o q => e i2 (by simp) o q⟩
  item := by
    intro X hP hw hK hc i pins s σ H E I hf ⟨Z, t1, t2⟩ ⟨xs, ys, x, y, q1, q2, e1, e2⟩
    subst hP hw hK
    obtain ⟨its1, v1, r1⟩ := q1.row I
    obtain ⟨its2, v2, r2⟩ := q2.row I
    obtain ⟨u1, g1, ru1⟩ := v1.get e1
    obtain ⟨u2, g2, ru2⟩ := v2.get e2
    have f1 : ∀ b ∈ [z, ti, to', i1, i2], a1 ≠ b := fun b hb => q1.far I (hf b hb)
    have f2 : ∀ b ∈ [z, ti, to', i1, i2], a2 ≠ b := fun b hb => q2.far I (hf b hb)
    refine zip_next D Z t1 t2 r1 r2 ⟨f2 z (by simp), f2 to' (by simp), f2 i1 (by simp), f2 i2 (by simp)⟩ (f1 z (by simp)) (by simpa using g1) (by simpa using g2) fun h' Z' t1' t2' hp kp => ?_
    refine ⟨_, rfl, wpAny_letOwnedTupleGo_zip (s := { s with heap := h' }) Z'.zip fun h2 z2 s2 => ?_⟩
    obtain ⟨d1, d2, d3, d4, d5, d6, d7, d8, d9, d10⟩ := D.all
    have lt : ∀ b ∈ [z, ti, to', i1, i2], s.heap.objs.size ≠ b := fun b hb => by
      have ob : ∃ o, s.heap.get? b = some o := by
        simp only [List.mem_cons, List.not_mem_nil, or_false] at hb -- here
        obtain ⟨zz, its, a, b', kp⟩ := Z
        rcases hb with rfl | rfl | rfl | rfl | rfl
        · exact ⟨_, zz⟩
        · exact ⟨_, its⟩
        · exact ⟨_, kp⟩
        · exact ⟨_, t1.obj.choose_spec.1⟩
        · exact ⟨_, t2.obj.choose_spec.1⟩
      obtain ⟨o, e⟩ := ob
      exact Nat.ne_of_gt (Heap.lt_size e)
    have pair : IsPair h2 s.heap.objs.size u1 u2 := s2.extBut _ _ (lt z (by simp)) hp
    have J : L2.Inv X pins σ (upd H s.heap.objs.size (.tup [x, y])) { s with heap := h2, toks := s.toks } := Inv.turnedN (ch := [z, ti, to', i1, i2]) I hf (fun b u hb e => by
      simp only [List.mem_cons, List.not_mem_nil, or_false, not_or] at hb
      exact s2.extBut _ _ hb.1 (kp b u hb.1 hb.2.2.1 hb.2.2.2.1 hb.2.2.2.2 e)) (Nat.le_refl _) ⟨by show 2 ≤ sizeLine; rw [sizeLine_eq]; decide, [u1, u2], .cons ru1 (.cons ru2 .nil), ⟨_, pair, rfl, 0, rfl⟩⟩
    refine ⟨.ref s.heap.objs.size, _, J, rfl, ⟨s.heap.objs.size, x, y, I.hok.fresh (Nat.le_refl _), rfl, rfl, fun xs' h => by rw [h.inj I q1]; exact e1, fun ys' h => by rw [h.inj I q2]; exact e2⟩, ?_, fun b hb => ?_⟩
    · obtain ⟨_, its, a, b, kk⟩ := Z'
      exact ⟨⟨z2, s2.extBut _ _ d1 its, a, b, s2.extBut _ _ d2 kk⟩, t1'.to fun o q => s2.extBut _ _ d3 q, t2'.to fun o q => s2.extBut _ _ d4 q⟩
    · rw [upd_ne (Ne.symm (lt b hb))]; exact (hf b hb).1
  done := by
    intro X hP hw hK hc i pins s σ H E I hf ⟨Z, t1, t2⟩ ⟨xs, ys, q1, q2, e⟩
    subst hP hw hK
    obtain ⟨its1, v1, r1⟩ := q1.row I
    obtain ⟨its2, v2, r2⟩ := q2.row I
    have f1 : ∀ b ∈ [z, ti, to', i1, i2], a1 ≠ b := fun b hb => q1.far I (hf b hb)
    have f2 : ∀ b ∈ [z, ti, to', i1, i2], a2 ≠ b := fun b hb => q2.far I (hf b hb)
    refine zip_none (I.ok.hd hc) D Z t1 t2 r1 r2 ⟨f2 z (by simp), f2 to' (by simp), f2 i1 (by simp), f2 i2 (by simp)⟩ (f1 z (by simp)) ?_ fun h' kp => ⟨rfl, Inv.turnedL (t' := s.toks) (ch := [z, ti, to', i1, i2]) I hf fun b u hb e => ?_⟩
    · have l1 := v1.length
      have l2 := v2.length
      rcases e with e | e
      · exact .inl (by simp; omega)
      · exact .inr (by simp; omega)
    · simp only [List.mem_cons, List.not_mem_nil, or_false, not_or] at hb
      exact kp b u hb.1 hb.2.2.1 hb.2.2.2.1 hb.2.2.2.2 e
  self := fun _ _ _ _ _ ⟨Z, _⟩ h => wpAny_pyIter_zip Z.zip h
theorem far_new (n : Nat) : Far (n + 4) (n + 2) (n + 3) n (n + 1) := ⟨by
  have h1 : n + 4 ≠ n + 2 := by omega
  have h2 : n + 4 ≠ n + 3 := by omega
  have h3 : n + 4 ≠ n := by omega
  have h4 : n + 4 ≠ n + 1 := by omega
  have h5 : n + 2 ≠ n + 3 := by omega
  have h6 : n + 2 ≠ n := by omega
  have h7 : n + 2 ≠ n + 1 := by omega
  have h8 : n + 3 ≠ n := by omega
  have h9 : n + 3 ≠ n + 1 := by omega
  have h10 : n ≠ n + 1 := by omega
  exact List.nodup_cons.mpr ⟨by simp only [List.mem_cons, List.not_mem_nil, or_false, not_or]; exact ⟨h1, h2, h3, h4⟩, List.nodup_cons.mpr ⟨by simp only [List.mem_cons, List.not_mem_nil, or_false, not_or]; exact ⟨h5, h6, h7⟩, List.nodup_cons.mpr ⟨by simp only [List.mem_cons, List.not_mem_nil, or_false, not_or]; exact ⟨h8, h9⟩, List.nodup_cons.mpr ⟨by simp only [List.mem_cons, List.not_mem_nil, or_false]; exact h10, List.nodup_cons.mpr ⟨by simp, .nil⟩⟩⟩⟩⟩⟩
def iZp (K : PySem.W.Frag) (ta : TA) : TI := fun σ H R => ta σ H fun vs H1 => ∃ k1 k2 a1 a2 xs ys, vs = [.ref a1, .ref a2] ∧ Sq k1 K H1 a1 xs ∧ Sq k2 K H1 a2 ys ∧ R (Itz K k1 k2 a1 a2) H1
section
variable {X : Cx} {B : Bas} {a b : Expr} {m m1 m2 : M T} {pos p : Pos} {elts : List Expr} {x1 : Nat} {tpos : Pos}
theorem pi_zip {ta : TA} (hg : Gl X "zip") (hm : X.mg "zip" = none) (ha : PA X [a, b] ta) (hs : starEach [a, b] X.env = [(false, eval a X.env), (false, eval b X.env)] := by rfl) (hs2 : starEach [b] X.env = [(false, eval b X.env)] := by rfl) :
    PI X (.Tuple elts x1 tpos) (.Call (.Name "zip" p) [a, b] [] pos) (iZp X.K ta) := by
  intro pins s σ H R I h
  refine Call_ (ld_blt I hg hm boot_zip (PyProof.Rows.callWith_type1 (thn (ha pos pins s σ H _ I h) fun us s1 ⟨vs, H1, I1, r1, q1⟩ => ?_) (by rw [hs, hs2]) (by rw [hs2]; rfl)))
  obtain ⟨k1, k2, a1, a2, xs, ys, e, w1, w2, q⟩ := q1
  subst e
  cases r1 with
  | cons r rr =>
    cases rr with
    | cons r' rr =>
      cases rr
      cases r
      cases r'
      obtain ⟨its1, v1, r1⟩ := w1.row I1
      obtain ⟨its2, v2, r2⟩ := w2.row I1
      refine call_zip r1 r2 fun h' Z t1 t2 kp => wpAny_pyIter_zip Z.zip ?_
      have D : Far (s1.heap.objs.size + 4) (s1.heap.objs.size + 2) (s1.heap.objs.size + 3) s1.heap.objs.size (s1.heap.objs.size + 1) := far_new s1.heap.objs.size
      refine ⟨_, _, _, _, H1, rfl, I1.kept (t' := s1.toks) kp, turn_zip D, ⟨Z, t1, t2⟩, fun b hb => ?_, q⟩
      have hle : s1.heap.objs.size ≤ b := by
        simp only [List.mem_cons, List.not_mem_nil, or_false] at hb -- here
        rcases hb with rfl | rfl | rfl | rfl | rfl
        · exact Nat.le_add_right _ 4
        · exact Nat.le_add_right _ 2
        · exact Nat.le_add_right _ 3
        · exact Nat.le_refl _
        · exact Nat.le_add_right _ 1
      exact I1.fpOk hle (I1.hok.fresh hle)
theorem iZip_inv {ts : List T} {s s' : Sta} (h : iZip m1 m2 s = some (ts, s')) : ∃ t u s1 xs ys, m1 s = some (t, s1) ∧ m2 s1 = some (u, s') ∧ seqOf t = some xs ∧ seqOf u = some ys ∧ xs.length < lim ∧ ys.length < lim ∧ ts = zipT xs ys := by
  unfold iZip at h
  split at h
  · rename_i t s1 e1
    split at h
    · rename_i u s2 e2
      split at h
      · rename_i xs ys e3 e4
        split at h
        · rename_i hl; cases h; exact ⟨t, u, s1, xs, ys, e1, e2, e3, e4, hl.1, hl.2, rfl⟩
        · cases h
      · cases h
    · cases h
  · cases h
theorem sz_zip : ∀ st ts st', iZip m1 m2 st = some (ts, st') → ts.length ≤ sizeLine := fun st ts st' e => by
  obtain ⟨t, u, s1, xs, ys, _, _, _, _, l1, _, rfl⟩ := iZip_inv e
  unfold zipT
  rw [List.length_map, List.length_zip]
  have := lim_line
  omega
theorem zipT_get {xs ys : List T} {i : Nat} {t : T} (h : (zipT xs ys)[i]? = some t) : ∃ x y, xs[i]? = some x ∧ ys[i]? = some y ∧ t = .tup [x, y] := by
  unfold zipT at h
  rw [List.getElem?_map] at h
  obtain ⟨p, e, rfl⟩ := Option.map_eq_some_iff.mp h
  obtain ⟨e1, e2⟩ := List.getElem?_zip_eq_some.mp e
  exact ⟨p.1, p.2, e1, e2, rfl⟩
/-- a row's tree -/
theorem seq_row {K : PySem.W.Frag} {S : Hp} {as : List Addr} {v : V} {t : T} {xs : List T} (r : Rep K S as v t) (e : seqOf t = some xs) : ∃ k a vs, v = .ref a ∧ Sq k K S a vs ∧ Reps K S as vs xs ∧ (k = true ∧ t = .lst xs ∨ k = false ∧ t = .tup xs) := by
  cases r with
  | @lst a vs ts g1 g2 => simp only [seqOf] at e; cases e; exact ⟨true, a, vs, rfl, g1, g2, .inl ⟨rfl, rfl⟩⟩
  | @tup a vs ts g1 g2 => simp only [seqOf] at e; cases e; exact ⟨false, a, vs, rfl, g1, g2, .inr ⟨rfl, rfl⟩⟩
  | _ => simp only [seqOf, reduceCtorEq] at e
theorem Sq.mono {k : Bool} {K : PySem.W.Frag} {S H : Hp} {a : Addr} {vs : List V} (e : Same S H) (h : Sq k K S a vs) : Sq k K H a vs := by
  cases k with
  | true => exact sqL_mono e h
  | false => exact sqT_mono e h
theorem rep_row {K : PySem.W.Frag} {S : Hp} {as : List Addr} {a : Addr} {t : T} {xs : List T} {k : Bool} (r : Rep K S as (.ref a) t) (e : k = true ∧ t = .lst xs ∨ k = false ∧ t = .tup xs) : ∃ vs, Sq k K S a vs ∧ Reps K S as vs xs := by
  rcases e with ⟨rfl, rfl⟩ | ⟨rfl, rfl⟩
  · cases r with
    | lst g1 g2 => exact ⟨_, g1, g2⟩
  · cases r with
    | tup g1 g2 => exact ⟨_, g1, g2⟩
theorem ti_zip (hg : Gl X "zip") (hm : X.mg "zip" = none) (h1 : PE X a (tOf X.K B m1)) (h2 : PE X b (tOf X.K B m2)) (hs : starEach [a, b] X.env = [(false, eval a X.env), (false, eval b X.env)] := by rfl) (hs2 : starEach [b] X.env = [(false, eval b X.env)] := by rfl) :
    PI X (.Tuple elts x1 tpos) (.Call (.Name "zip" p) [a, b] [] pos) (iOf X.K B (iZip m1 m2)) := by
  intro pins s σ H R I hw
  refine pi_zip (ta := tCons (tOf X.K B m1) (tCons (tOf X.K B m2) tNil)) hg hm (pa_cons h1 (pa_cons h2 pa_nil (by rw [hs2]; rfl)) (by rw [hs, hs2])) hs hs2 pins s σ H R I ?_
  obtain ⟨st, ps, S, as, Rl, ts, st', e, hz, q⟩ := hw
  obtain ⟨t, u, s1, xs, ys, e1, e2, e3, e4, l1, l2, rfl⟩ := iZip_inv e
  refine ⟨st, ps, S, as, Rl, t, s1, e1, fun v H1 S1 as1 R1 => ⟨s1, _, S1, as1, R1, u, st', e2, fun v2 H2 S2 as2 R2 => ?_⟩⟩
  obtain ⟨k1, a1, vs1, rfl, w1, p1, c1⟩ := seq_row R2.top2 e3
  obtain ⟨k2, a2, vs2, rfl, w2, p2, c2⟩ := seq_row R2.top e4
  refine ⟨k1, k2, a1, a2, vs1, vs2, rfl, w1.mono R2.sub, w2.mono R2.sub, q _ H2 S2 as2 [(.ref a2, u), (.ref a1, t)] R2 fun S3 as3 H3 hp hh => ?_⟩
  obtain ⟨us1, y1, z1⟩ := rep_row (hp (.ref a1, t) (by simp)) c1
  obtain ⟨us2, y2, z2⟩ := rep_row (hp (.ref a2, u) (by simp)) c2
  refine ⟨fun i tt et => ?_, fun i hi => ⟨us1, us2, y1.mono hh, y2.mono hh, ?_⟩⟩
  · obtain ⟨x, y, f1, f2, rfl⟩ := zipT_get et
    obtain ⟨vx, gx, rx⟩ := z1.get f1
    obtain ⟨vy, gy, ry⟩ := z2.get f2
    refine ⟨⟨us1, us2, vx, vy, y1.mono hh, y2.mono hh, gx, gy⟩, fun v H' ⟨pp, x', y', hn, hv, hH, b1, b2⟩ => ?_⟩
    have c1 := b1 _ (y1.mono hh)
    have c2 := b2 _ (y2.mono hh)
    rw [gx] at c1; rw [gy] at c2
    cases c1; cases c2
    subst hv hH
    have x := Ext.laid hh hn (.tup [vx, vy])
    exact ⟨_, x, .tup (SqT.of upd_same) (.cons (rx.mono x.s nol) (.cons (ry.mono x.s nol) .nil))⟩
  · rw [z1.length, z2.length]
    unfold zipT at hi
    rw [List.length_map, List.length_zip] at hi
    omega
end
end C

end

section
set_option Elab.async false
set_option linter.all false
set_option maxRecDepth 100000
set_option maxHeartbeats 4000002
set_option autoImplicit false
namespace C
open PySem PySem.Spec PyProof.Rows L2
section
variable {X : Cx}
theorem ixOf_at {pins : List (Addr × Obj)} {σ : L2.St} {H S : Hp} {s : Shared} {as : List Addr} {A : Around} (I : L2.Inv X pins σ H s) (sub : Same S H) (hu : A.units + 40 < cLine) {x : V} {t : T} {v : Value} {dx : PyData} (hx : Rep X.K S as x t) (rx : RelV x v) (ex : dat t = some dx) :
    ∀ {vs : List V} {ts : List T} {us : List Value} {d j : Nat}, Reps X.K S as vs ts → Vals vs us → ixOf t ts d = some j → d ≤ j ∧ ∃ h : j - d < us.length, eqBy s.heap dx us[j - d] = true ∧ ∀ m (hm : m < us.length), m < j - d → eqBy s.heap dx us[m] = false
  | _, _, _, _, _, .nil, r, e => by simp only [ixOf] at e; cases e
  | _, _, _, d, j, .cons h q, r, e => by
    cases r with
    | @cons _ u1 _ us1 r1 r2 =>
      simp only [ixOf] at e
      split at e
      · rename_i he
        cases e
        obtain ⟨dy, dx', f1, f2, hd, hv⟩ := eqD_inv he
        rw [ex] at f2; cases f2
        obtain ⟨b1, x1⟩ := h.reads I sub f1 r1
        refine ⟨Nat.le_refl _, ⟨by simp, ?_, fun m hm hlt => by omega⟩⟩
        simp only [Nat.sub_self, List.getElem_cons_zero]
        rw [eqBy_eq x1 (dat_lay _ f1), ← hv]
      · rename_i he
        obtain ⟨dy, dx', f1, f2, hd, hv⟩ := eqD_inv he
        rw [ex] at f2; cases f2
        obtain ⟨b1, x1⟩ := h.reads I sub f1 r1
        obtain ⟨g1, g2, g3, g4⟩ := ixOf_at I sub hu hx rx ex q r2 e
        have ej : j - d = (j - (d + 1)) + 1 := by omega
        refine ⟨by omega, ⟨by rw [ej]; simpa using g2, ?_, fun m hm hlt => ?_⟩⟩
        · simp only [ej, List.getElem_cons_succ]; exact g3
        · cases m with
          | zero => simp only [List.getElem_cons_zero]; rw [eqBy_eq x1 (dat_lay _ f1), ← hv]
          | succ m => simp only [List.getElem_cons_succ]; exact g4 m (by simpa using hm) (by omega)
      · cases e
def rIndex (K : PySem.W.Frag) : V → List V → Hp → VK → Prop := fun x vs H Q => ∃ S as l ts y t j b, x = .ref l ∧ vs = [y] ∧ Same S H ∧ Rep K S as (.ref l) (.lst ts) ∧ Rep K S as y t ∧ (dat t).isSome = true ∧ inL t ts = some b ∧ ixOf t ts 0 = some j ∧ ts.length < lim ∧ Q (.int (j : Nat)) H
theorem mt_index (hu : X.A.units + 64 < cLine) : MtM X "list.index" (rIndex X.K) := by
  intro pins s σ H x vs v us Q I rx rv ⟨S, as, l, ts, y, t, j, b, e1, e2, sub, rl, ry, hd, hi, hj, hl, q⟩
  subst e1 e2
  cases rx
  obtain ⟨u, rfl, ru⟩ := rv.one
  obtain ⟨dx, ex⟩ := Option.isSome_iff_exists.mp hd
  have hu1 : X.A.in1.units + 40 < cLine := by show X.A.units + 1 + 40 < cLine; omega
  cases rl with
  | @lst _ vs _ g1 g2 =>
    obtain ⟨its, r, ⟨⟨cls2, dd2, data2, sl2⟩, n2, ho2, hc2, hd02, hd2⟩, _⟩ := I.list (sqL_mono sub g1)
    simp only at hc2 hd2
    subst hc2 hd2
    obtain ⟨i1, i2⟩ := inL_at I sub hu1 ry ru ex g2 r hi
    obtain ⟨_, c1, c2, c3⟩ := ixOf_at I sub hu1 ry ru ex g2 r hj
    have ln : its.length = ts.length := by rw [← r.length]; exact g2.length
    refine call_meets F.slot_list_index ⟨_, ho2, rfl⟩ F.entry_list_index (F.args_list_index_2 _ _)
      (SeqAt.list_indexAt l its.toArray n2 dd2 sl2 u (eqBy s.heap dx) j (by simpa using c1) (by have : ts.length < 1000000 := hl; simp at c1; omega) (by simpa using c2) (fun m hm hlt => by simpa using c3 m (by simpa using hm) hlt)) ⟨ho2, fun y hy => i1 y (by simpa using hy), ?_⟩
    exact ⟨.int j, H, I.tok _, ⟨_, rfl⟩, q⟩
variable {B : Bas} {o e : Expr} {m1 m2 : M T} {apos cpos : Pos}
theorem indexT_inv {x y w : T} (h : indexT x y = some w) : ∃ xs b j, x = .lst xs ∧ xs.length < lim ∧ (dat y).isSome = true ∧ inL y xs = some b ∧ ixOf y xs 0 = some j ∧ w = .int (j : Nat) := by
  unfold indexT at h
  split at h
  · split at h
    · rename_i hc
      obtain ⟨j, e1, e2⟩ := Option.map_eq_some_iff.mp h
      obtain ⟨b, hb⟩ := Option.isSome_iff_exists.mp hc.2.2
      exact ⟨_, b, j, rfl, hc.1, hc.2.1, hb, e1, e2.symm⟩
    · cases h
  · cases h
theorem te_index (hu : X.A.units + 64 < cLine) (ho : PE X o (tOf X.K B m1)) (he : PE X e (tOf X.K B m2))
    (hbase : attributeBase o "index" X.env (eval o X.env) = eval o X.env := by rfl)
    (hfew : ((backTo cpos (starEach [e] X.env)).all (fun x => !x.1) && (backToKw cpos (keywordEach [] X.env)).all (fun x => x.1.isSome)
      && decide ([e].length + ([] : List Keyword).length + (if ([] : List Keyword).isEmpty then 0 else 1) < 30)) = true := by rfl)
    (hline : (apos.endLine == cpos.line) = true := by rfl) (hs : starEach [e] X.env = (false, eval e X.env) :: starEach [] X.env := by rfl) (hplain : (backTo cpos (starEach [] X.env)).any (·.1) = false := by rfl) :
    PE X (.Call (.Attribute o "index" apos) [e] [] cpos) (tOf X.K B (mOp indexT m1 m2)) :=
  (pe_bm F.plainAttrs_list F.slot_list_index F.type_list_index (mt_index hu) ho (pa_cons he pa_nil hs) hbase hfew hline hs hplain).imp fun σ H Q ⟨st, ps, S, as, R, t, st', e, q⟩ => by
    obtain ⟨t1, s1, t2, e1, e2, e3⟩ := mOp_inv e
    obtain ⟨xs, b, j, rfl, hl, hd, hi, hj, rfl⟩ := indexT_inv e3
    refine ⟨st, ps, S, as, R, _, s1, e1, fun v H1 S1 as1 R1 => ?_⟩
    have top := R1.top
    cases top with
    | @lst a vs _ g1 g2 =>
      refine ⟨.inl ⟨rfl, _, sqL_mono R1.sub g1⟩, s1, _, S1, as1, R1, t2, st', e2, fun u H2 S2 as2 R2 => ?_⟩
      exact ⟨S2, as2, a, xs, u, t2, j, b, rfl, rfl, R2.sub, R2.top2, R2.top, hd, hi, hj, hl, q _ H2 S2 as2 (R2.drop.drop.push (.int _))⟩
end
end C

end

section
set_option linter.all false
set_option maxRecDepth 100000
set_option autoImplicit false
namespace C
open PySem
/-! ### evaluation of what defs mean -/
theorem compL_map {α : Type} {h f : α → T} {g : G} {c : M Bool} {e : M T} {nv : Nat} {cap : List Slot} {sto : List SO} (hcap : cap.map thaw = cap) :
    ∀ (l : List α) (acc : List T) (pre : List Slot), pre.length = nv → acc.length + l.length ≤ lim →
      (∀ a ∈ l, ∀ pre : List Slot, pre.length = nv → ∃ pre', pre'.length = nv ∧ g (h a) ⟨pre ++ cap, sto⟩ = some ⟨pre' ++ cap, sto⟩ ∧ c ⟨pre' ++ cap, sto⟩ = some (true, ⟨pre' ++ cap, sto⟩) ∧ e ⟨pre' ++ cap, sto⟩ = some (f a, ⟨pre' ++ cap, sto⟩)) →
      ∃ s', compL g c e (l.map h) ⟨pre ++ cap, sto⟩ acc = some (acc ++ l.map f, s') ∧ s'.sto = sto
  | [], acc, pre, hp, hl, H => ⟨⟨pre ++ cap, sto⟩, by simp [compL], rfl⟩
  | a :: l, acc, pre, hp, hl, H => by
    obtain ⟨pre', p1, p2, p3, p4⟩ := H a List.mem_cons_self pre hp
    have hlen : acc.length < lim := by simp at hl ⊢; omega
    obtain ⟨s', q1, q2⟩ := compL_map hcap l (acc ++ [f a]) (pre'.map thaw) (by simpa using p1) (by simp at hl ⊢; omega) fun b hb => H b (List.mem_cons_of_mem _ hb)
    refine ⟨s', ?_, q2⟩
    rw [List.map_cons, compL, p2]
    dsimp only
    rw [p3]
    dsimp only
    rw [p4]
    dsimp only
    rw [if_pos hlen, freezeAll]
    dsimp only
    rw [List.map_append, hcap, q1]
    simp
theorem mComp_map {α : Type} (h f : α → T) (l : List α) {g : G} {c : M Bool} {e : M T} {nv : Nat} {ci : List Nat} {it : M (List T)} {s s1 : Sta} (env : List Slot) (cap : List Slot) (hit : it s = some (l.map h, s1)) (henv : freezeAt ci s1.env = env) (hci : ci.map (fun i => (env[i]?).getD none) = cap) (hcap : cap.map thaw = cap) (hl : l.length ≤ lim)
    (H : ∀ a ∈ l, ∀ pre : List Slot, pre.length = nv → ∃ pre', pre'.length = nv ∧ g (h a) ⟨pre ++ cap, s1.sto⟩ = some ⟨pre' ++ cap, s1.sto⟩ ∧ c ⟨pre' ++ cap, s1.sto⟩ = some (true, ⟨pre' ++ cap, s1.sto⟩) ∧ e ⟨pre' ++ cap, s1.sto⟩ = some (f a, ⟨pre' ++ cap, s1.sto⟩)) :
    mComp nv ci g it c e s = some (.lst (l.map f), ⟨env, s1.sto⟩) := by
  obtain ⟨s', q1, q2⟩ := compL_map hcap l [] (List.replicate nv none) (by simp) (by simpa using hl) H
  unfold mComp
  rw [hit]
  dsimp only
  rw [henv, hci, q1]
  dsimp only
  rw [q2]; rfl
/-- texts that can be laid -/
def okS (x : Str) : Prop := PyData.canLay0 (.str x) = true
theorem dat_str {x : Str} (h : okS x) : dat (.str x) = some (.str x) := by
  unfold okS at h
  simp [dat, h]
theorem neO_str {a b : Str} (ha : okS a) (hb : okS b) : neO (.str a) (.str b) = some (.bl (!(a == b))) := by
  simp [neO, eqT, eqD, dat_str ha, dat_str hb, PyData.depth, PyData.eqv]
/-- what is flat enough to be compared -/
def Pl (n : Nat) (t : T) : Prop := ∃ d, dat t = some d ∧ d.depth ≤ n
theorem pl_int (n : Nat) (i : Int) : Pl n (.int i) := ⟨.int i, by simp [dat], by simp [PyData.depth]⟩
theorem pl_str (n : Nat) {x : Str} (h : okS x) : Pl n (.str x) := ⟨.str x, dat_str h, by simp [PyData.depth]⟩
theorem pls {n : Nat} : ∀ ts : List T, (∀ t ∈ ts, Pl n t) → ∃ ds, dats ts = some ds ∧ PyData.depthAll ds ≤ n
  | [], _ => ⟨[], by simp [dats], by simp [PyData.depthAll]⟩
  | t :: r, h => by
    obtain ⟨d, d1, d2⟩ := h t List.mem_cons_self
    obtain ⟨ds, e1, e2⟩ := pls r fun x hx => h x (List.mem_cons_of_mem _ hx)
    exact ⟨d :: ds, by simp [dats, d1, e1], by simp only [PyData.depthAll]; omega⟩
theorem pl_tup {n : Nat} {ts : List T} (h : ∀ t ∈ ts, Pl n t) : Pl (n + 1) (.tup ts) := by
  obtain ⟨ds, e1, e2⟩ := pls ts h
  exact ⟨.tuple ds, by simp [dat, e1], by simp only [PyData.depth]; omega⟩
theorem pl_lst {n : Nat} {ts : List T} (h : ∀ t ∈ ts, Pl n t) : Pl (n + 1) (.lst ts) := by
  obtain ⟨ds, e1, e2⟩ := pls ts h
  exact ⟨.list ds, by simp [dat, e1], by simp only [PyData.depth]; omega⟩
mutual
theorem eqv_self : ∀ d : PyData, d.canLay0 = true → PyData.eqv d d = true
  | .none, _ => by simp [PyData.eqv]
  | .bool b, _ => by simp [PyData.eqv] -- here
  | .int i, _ => by simp [PyData.eqv] -- here
  | .str x, _ => by simp [PyData.eqv] -- here
  | .list xs, h => by simp only [PyData.eqv]; exact eqvs_self xs (by simpa [PyData.canLay0] using h)
  | .tuple xs, h => by simp only [PyData.eqv]; exact eqvs_self xs (by simpa [PyData.canLay0] using h)
  | .dict _, h => by simp [PyData.canLay0] at h
theorem eqvs_self : ∀ xs : List PyData, PyData.canLayAll0 xs = true → PyData.eqvAll xs xs = true
  | [], _ => by simp [PyData.eqvAll]
  | x :: xs, h => by
    simp only [PyData.canLayAll0, Bool.and_eq_true] at h
    simp only [PyData.eqvAll, eqv_self x h.1, eqvs_self xs h.2, Bool.and_self]
end
theorem eqT_self {n : Nat} {ts : List T} (h : Pl n (.lst ts)) (hn : n ≤ 40) : eqT (.lst ts) (.lst ts) = some true := by
  obtain ⟨d, e1, e2⟩ := h
  have : d.depth ≤ 40 := Nat.le_trans e2 hn
  simp [eqT, eqD, e1, this, eqv_self d (dat_lay _ e1)]
theorem neO_self {n : Nat} {ts : List T} (h : Pl n (.lst ts)) (hn : n ≤ 40) : neO (.lst ts) (.lst ts) = some (.bl false) := by
  simp [neO, eqT_self h hn]
end C
namespace C
open PySem
theorem forL_go {g : G} {b : S} (P : List T → Sta → Prop) (H : ∀ t r s, P (t :: r) s → ∃ s1 s2, g t s = some s1 ∧ b s1 = some (.next, s2) ∧ P r s2) : ∀ (ts : List T) (s : Sta), P ts s → ∃ s', forL g b ts s = some (.next, s') ∧ P [] s'
  | [], s, h => ⟨s, by simp [forL], h⟩
  | t :: r, s, h => by
    obtain ⟨s1, s2, h1, h2, h3⟩ := H t r s h
    obtain ⟨s', e, p⟩ := forL_go P H r s2 h3
    refine ⟨s', ?_, p⟩
    rw [forL]; dsimp only; rw [h1]; dsimp only; rw [h2]; dsimp only; exact e
theorem forL_at {g : G} {b : S} {ts : List T} {s : Sta} {r : Option (Flow × Sta)} (hF : forL g b ts s = r) (P : List T → Sta → Prop) (hP : P ts s) (H : ∀ t r s, P (t :: r) s → ∃ s1 s2, g t s = some s1 ∧ b s1 = some (.next, s2) ∧ P r s2) : ∃ s', r = some (.next, s') ∧ P [] s' := by
  obtain ⟨s', e, p⟩ := forL_go P H ts s hP
  exact ⟨s', hF.symm.trans e, p⟩
end C
namespace C
open PySem
theorem mComp_at {α : Type} {g : G} {c : M Bool} {e : M T} {nv : Nat} {ci : List Nat} {it : M (List T)} {s : Sta} {r : Option (T × Sta)} (hF : mComp nv ci g it c e s = r) (h f : α → T) (l : List α) (s1 : Sta) (env cap : List Slot) (hit : it s = some (l.map h, s1)) (henv : freezeAt ci s1.env = env) (hci : ci.map (fun i => (env[i]?).getD none) = cap) (hcap : cap.map thaw = cap) (hl : l.length ≤ lim)
    (H : ∀ a ∈ l, ∀ pre : List Slot, pre.length = nv → ∃ pre', pre'.length = nv ∧ g (h a) ⟨pre ++ cap, s1.sto⟩ = some ⟨pre' ++ cap, s1.sto⟩ ∧ c ⟨pre' ++ cap, s1.sto⟩ = some (true, ⟨pre' ++ cap, s1.sto⟩) ∧ e ⟨pre' ++ cap, s1.sto⟩ = some (f a, ⟨pre' ++ cap, s1.sto⟩)) :
    r = some (.lst (l.map f), ⟨env, s1.sto⟩) := hF.symm.trans (mComp_map h f l env cap hit henv hci hcap hl H)
theorem itemT_lst {α : Type} (h : α → T) (l : List α) {i : Int} (h0 : 0 ≤ i) (h1 : i < l.length) : ∃ a ∈ l, itemT (.lst (l.map h)) (.int i) = some (h a) := by
  have hi : i.toNat < l.length := by omega
  refine ⟨l[i.toNat], List.getElem_mem hi, ?_⟩
  simp [itemT, ixI, h0, h1, List.getElem?_eq_getElem hi]
theorem itemT_at {α : Type} (h : α → T) (l : List α) {k : Nat} (hk : k < l.length) : itemT (.lst (l.map h)) (.int (k : Int)) = some (h l[k]) := by
  have h1 : (k : Int) < (l.length : Int) := by omega
  simp [itemT, ixI, h1, List.getElem?_eq_getElem hk]
end C

end

section
set_option linter.all false
set_option maxRecDepth 100000
set_option autoImplicit false
namespace C
open PySem
/-! ### loops as folds, comprehensions with a test, things that equal themselves -/
theorem forL_fold {α σ : Type} {g : G} {b : S} (h : α → T) (R : σ → Sta) (step : σ → α → σ) (P : List α → σ → Prop)
    (H : ∀ a r x, P (a :: r) x → (∃ s1, g (h a) (R x) = some s1 ∧ b s1 = some (.next, R (step x a))) ∧ P r (step x a)) :
    ∀ (l : List α) (x : σ), P l x → forL g b (l.map h) (R x) = some (.next, R (l.foldl step x)) ∧ P [] (l.foldl step x)
  | [], x, p => ⟨by simp [forL], p⟩
  | a :: l, x, p => by
    obtain ⟨⟨s1, h1, h2⟩, h3⟩ := H a l x p
    obtain ⟨e, q⟩ := forL_fold h R step P H l (step x a) h3
    refine ⟨?_, q⟩
    rw [List.map_cons, forL]; dsimp only; rw [h1]; dsimp only; rw [h2]; dsimp only; exact e
/-- the loop that was met, as a fold -/
theorem forL_met {α σ : Type} {g : G} {b : S} {ts : List T} {s : Sta} {r : Option (Flow × Sta)} (hF : forL g b ts s = r) (h : α → T) (l : List α) (R : σ → Sta) (x0 : σ) (step : σ → α → σ) (P : List α → σ → Prop) (ht : ts = l.map h) (hs : s = R x0) (hP : P l x0)
    (H : ∀ a r x, P (a :: r) x → (∃ s1, g (h a) (R x) = some s1 ∧ b s1 = some (.next, R (step x a))) ∧ P r (step x a)) :
    r = some (.next, R (l.foldl step x0)) ∧ P [] (l.foldl step x0) := by
  subst ht hs
  obtain ⟨e, p⟩ := forL_fold h R step P H l x0 hP
  exact ⟨hF.symm.trans e, p⟩
theorem compL_filter {α : Type} {h f : α → T} {q : α → Bool} {g : G} {c : M Bool} {e : M T} {nv : Nat} {cap : List Slot} {sto : List SO} (hcap : cap.map thaw = cap) :
    ∀ (l : List α) (acc : List T) (pre : List Slot), pre.length = nv → acc.length + l.length ≤ lim →
      (∀ a ∈ l, ∀ pre : List Slot, pre.length = nv → ∃ pre', pre'.length = nv ∧ g (h a) ⟨pre ++ cap, sto⟩ = some ⟨pre' ++ cap, sto⟩ ∧ c ⟨pre' ++ cap, sto⟩ = some (q a, ⟨pre' ++ cap, sto⟩) ∧ (q a = true → e ⟨pre' ++ cap, sto⟩ = some (f a, ⟨pre' ++ cap, sto⟩))) →
      ∃ s', compL g c e (l.map h) ⟨pre ++ cap, sto⟩ acc = some (acc ++ (l.filter q).map f, s') ∧ s'.sto = sto
  | [], acc, pre, hp, hl, H => ⟨⟨pre ++ cap, sto⟩, by simp [compL], rfl⟩
  | a :: l, acc, pre, hp, hl, H => by
    obtain ⟨pre', p1, p2, p3, p4⟩ := H a List.mem_cons_self pre hp
    have hlen : acc.length < lim := by simp at hl ⊢; omega
    rw [List.map_cons, compL, p2]
    dsimp only
    rw [p3]
    cases hq : q a with
    | true =>
      obtain ⟨s', q1, q2⟩ := compL_filter hcap l (acc ++ [f a]) (pre'.map thaw) (by simpa using p1) (by simp at hl ⊢; omega) fun b hb => H b (List.mem_cons_of_mem _ hb)
      refine ⟨s', ?_, q2⟩
      dsimp only
      rw [p4 hq]
      dsimp only
      rw [if_pos hlen, freezeAll]
      dsimp only
      rw [List.map_append, hcap, q1]
      simp [hq]
    | false =>
      obtain ⟨s', q1, q2⟩ := compL_filter hcap l acc (pre'.map thaw) (by simpa using p1) (by simp at hl ⊢; omega) fun b hb => H b (List.mem_cons_of_mem _ hb)
      refine ⟨s', ?_, q2⟩
      dsimp only
      rw [freezeAll]
      dsimp only
      rw [List.map_append, hcap, q1]
      simp [hq]
theorem mComp_met {α : Type} {g : G} {c : M Bool} {e : M T} {nv : Nat} {ci : List Nat} {it : M (List T)} {s : Sta} {r : Option (T × Sta)} (hF : mComp nv ci g it c e s = r) (h f : α → T) (q : α → Bool) (l : List α) (s1 : Sta) (env cap : List Slot) (hit : it s = some (l.map h, s1)) (henv : freezeAt ci s1.env = env) (hci : ci.map (fun i => (env[i]?).getD none) = cap) (hcap : cap.map thaw = cap) (hl : l.length ≤ lim)
    (H : ∀ a ∈ l, ∀ pre : List Slot, pre.length = nv → ∃ pre', pre'.length = nv ∧ g (h a) ⟨pre ++ cap, s1.sto⟩ = some ⟨pre' ++ cap, s1.sto⟩ ∧ c ⟨pre' ++ cap, s1.sto⟩ = some (q a, ⟨pre' ++ cap, s1.sto⟩) ∧ (q a = true → e ⟨pre' ++ cap, s1.sto⟩ = some (f a, ⟨pre' ++ cap, s1.sto⟩))) :
    r = some (.lst ((l.filter q).map f), ⟨env, s1.sto⟩) := by
  obtain ⟨s', q1, q2⟩ := compL_filter hcap l [] (List.replicate nv none) (by simp) (by simpa using hl) H
  rw [← hF]
  unfold mComp
  rw [hit]
  dsimp only
  rw [henv, hci, q1]
  dsimp only
  rw [q2]; rfl
theorem eqD_self {n : Nat} {t : T} (h : Pl n t) (hn : n ≤ 40) : eqD t t = some true := by
  obtain ⟨d, e1, e2⟩ := h
  have : d.depth ≤ 40 := Nat.le_trans e2 hn
  simp [eqD, e1, this, eqv_self d (dat_lay _ e1)]
theorem eqT_same {n : Nat} {t : T} (h : Pl n t) (hn : n ≤ 40) : eqT t t = some true := by
  cases t with
  | dic k => obtain ⟨d, e1, _⟩ := h; simp [dat] at e1
  | _ => exact eqD_self h hn
theorem neO_same {n : Nat} {t : T} (h : Pl n t) (hn : n ≤ 40) : neO t t = some (.bl false) := by simp [neO, eqT_same h hn]
theorem eqO_same {n : Nat} {t : T} (h : Pl n t) (hn : n ≤ 40) : eqO t t = some (.bl true) := by simp [eqO, eqT_same h hn]
theorem eqO_int {a b : Int} : eqO (.int a) (.int b) = some (.bl (a == b)) := by simp [eqO, eqT, eqD, dat, PyData.depth, PyData.eqv]
theorem neO_int {a b : Int} : neO (.int a) (.int b) = some (.bl (!(a == b))) := by simp [neO, eqT, eqD, dat, PyData.depth, PyData.eqv]
theorem eqD_str {a b : Str} (ha : okS a) (hb : okS b) : eqD (.str a) (.str b) = some (a == b) := by
  simp [eqD, dat_str ha, dat_str hb, PyData.depth, PyData.eqv]
theorem eqO_str {a b : Str} (ha : okS a) (hb : okS b) : eqO (.str a) (.str b) = some (.bl (a == b)) := by
  simp [eqO, eqT, eqD, dat_str ha, dat_str hb, PyData.depth, PyData.eqv]
theorem itemL_n {xs : List T} {k : Nat} {t : T} (h : xs[k]? = some t) : itemT (.lst xs) (.int (k : Int)) = some t := by
  have hk : k < xs.length := (List.getElem?_eq_some_iff.mp h).1
  have h1 : (k : Int) < (xs.length : Int) := by omega
  simp [itemT, ixI, h1, h]
theorem itemU_n {xs : List T} {k : Nat} {t : T} (h : xs[k]? = some t) : itemT (.tup xs) (.int (k : Int)) = some t := by
  have hk : k < xs.length := (List.getElem?_eq_some_iff.mp h).1
  have h1 : (k : Int) < (xs.length : Int) := by omega
  simp [itemT, ixI, h1, h]
theorem item0t {a : T} {r : List T} : itemT (.tup (a :: r)) (.int 0) = some a := itemU_n (k := 0) rfl
theorem item1t {a b : T} {r : List T} : itemT (.tup (a :: b :: r)) (.int 1) = some b := itemU_n (k := 1) rfl
theorem item2t {a b c : T} {r : List T} : itemT (.tup (a :: b :: c :: r)) (.int 2) = some c := itemU_n (k := 2) rfl
theorem item3t {a b c d : T} {r : List T} : itemT (.tup (a :: b :: c :: d :: r)) (.int 3) = some d := itemU_n (k := 3) rfl
theorem rangeT_zip {α : Type} (zs : List α) : rangeT zs.length = zs.zipIdx.map fun p => .int (p.2 : Int) := by
  unfold rangeT
  apply List.ext_getElem
  · simp
  · intro i h1 h2
    simp
theorem foldl_app {α β : Type} (f : α → List β) : ∀ (l : List α) (acc : List β), l.foldl (fun acc a => acc ++ f a) acc = acc ++ l.flatMap f
  | [], acc => by simp
  | a :: l, acc => by rw [List.foldl_cons, foldl_app f l, List.flatMap_cons, List.append_assoc]
theorem flatMap_eq {α β : Type} {f g : α → List β} : ∀ {l : List α}, (∀ a ∈ l, f a = g a) → l.flatMap f = l.flatMap g
  | [], _ => rfl
  | a :: l, h => by rw [List.flatMap_cons, List.flatMap_cons, h a List.mem_cons_self, flatMap_eq fun b hb => h b (List.mem_cons_of_mem _ hb)]
theorem hTup2 {i j : Nat} {x y : T} {s : Sta} : hTup [i, j] (.tup [x, y]) s = some (putSlot j y false (putSlot i x false s)) := by simp [hTup]
theorem seq_next {a b c : S} {s s' : Sta} (h : sSeq a b s = some (.next, s')) : sSeq a (sSeq b c) s = c s' := by
  unfold sSeq at h ⊢
  cases ha : a s with
  | none => rw [ha] at h; cases h
  | some p =>
    obtain ⟨fl, s1⟩ := p
    rw [ha] at h
    cases fl with
    | next => dsimp only at h ⊢; rw [h]
    | _ => cases h
theorem seq_step {a b : S} {s s' : Sta} (h : a s = some (.next, s')) : sSeq a b s = b s' := by unfold sSeq; rw [h]
/-- it comes out, so -/
def Out (r : Option (T × List SO)) (P : T → List SO → Prop) : Prop := ∃ t s, r = some (t, s) ∧ P t s
theorem Out.of {t : T} {s : List SO} {P : T → List SO → Prop} (h : P t s) : Out (some (t, s)) P := ⟨t, s, rfl, h⟩
theorem seqOf_lst {xs : List T} : seqOf (.lst xs) = some xs := rfl
theorem seqOf_tup {xs : List T} : seqOf (.tup xs) = some xs := rfl
end C

end

section
set_option linter.all false
namespace K
open C PySem
/- at_most(box, number): box number -/
def m_at_most : Fn := runFn 2
  (sRet (mMap (fun l => some (.tup l)) (mCons (mPure (.str "most")) (mCons (mMap (fun l => some (.tup l)) (mCons (mUn negT (mVar 1)) (mCons (mMap (fun l => some (.tup l)) (mCons (mMap (fun l => some (.tup l)) (mCons (mVar 0) (mCons (mPure (.int 1)) mNil))) mNil)) mNil))) mNil))))
/- at_least(box, number): box number -/
def m_at_least : Fn := runFn 2
  (sRet (mMap (fun l => some (.tup l)) (mCons (mPure (.str "most")) (mCons (mMap (fun l => some (.tup l)) (mCons (mVar 1) (mCons (mMap (fun l => some (.tup l)) (mCons (mMap (fun l => some (.tup l)) (mCons (mVar 0) (mCons (mUn negT (mPure (.int 1))) mNil))) mNil)) mNil))) mNil))))
/- stand_remark(program, stand, hand): program stand hand members box number other place -/
def m_stand_remark : Fn := runFn 8
  (sSeq (sNew 3 (mMap (fun l => some (.lst l)) mNil))
  (sSeq (sFor (hTup [4, 5]) (iZip (mOp itemT (mVar 0) (mPure (.int 0))) (mOp itemT (mVar 1) (mPure (.int 1))))
  (sSeq (sAppend 3 (mCall m_at_most (mCons (mOp itemT (mVar 4) (mPure (.int 0))) (mCons (mVar 5) mNil))))
  (sAppend 3 (mCall m_at_least (mCons (mOp itemT (mVar 4) (mPure (.int 0))) (mCons (mVar 5) mNil))))))
  (sSeq (sFor (hTup [6, 7]) (iZip (mOp itemT (mVar 0) (mPure (.int 1))) (mOp itemT (mVar 1) (mPure (.int 0))))
  (sIf (mTest (mOp neO (mOp itemT (mVar 6) (mPure (.int 0))) (mVar 2)))
  (sAppend 3 (mMap (fun l => some (.tup l)) (mCons (mPure (.str "at")) (mCons (mOp itemT (mVar 6) (mPure (.int 0))) (mCons (mVar 7) mNil)))))
  sNil))
  (sRet (mMap (fun l => some (.tup l)) (mCons (mPure (.str "and")) (mCons (mMap tupleT (mCons (mVar 3) mNil)) mNil)))))))
/- listed_remark(program, stands, hand, place): program stands hand place spot listed -/
def m_listed_remark : Fn := runFn 6
  (sSeq (sSet 4 (mOp indexT (mComp 2 [] (hTup [0, 1]) (iSeq (mOp itemT (mVar 0) (mPure (.int 1)))) mTrue (mVar 0)) (mVar 2)))
  (sSeq (sSet 5 (mComp 1 [0, 2, 3, 4] (hName 0) (iSeq (mVar 1)) (mTest (mOp eqO (mOp itemT (mOp itemT (mVar 0) (mPure (.int 0))) (mVar 4)) (mVar 3))) (mCall m_stand_remark (mCons (mVar 1) (mCons (mVar 0) (mCons (mVar 2) mNil))))))
  (sRet (mIf (mTest (mOp eqO (mMap lenT (mCons (mVar 5) mNil)) (mPure (.int 1)))) (mOp itemT (mVar 5) (mPure (.int 0))) (mMap (fun l => some (.tup l)) (mCons (mPure (.str "or")) (mCons (mMap tupleT (mCons (mVar 5) mNil)) mNil)))))))
/- _law_cell_at(_law_script, _law_k): _law_script _law_k -/
def m_law_cell_at : Fn := runFn 2
  (sSeq (sIf (mTest (mOp ltT (mVar 1) (mMap lenT (mCons (mVar 0) mNil))))
  (sRet (mOp itemT (mVar 0) (mVar 1)))
  sNil)
  (sRet (mPure (.int 0))))
/- _law_signed(_law_cell, _law_most): _law_cell _law_most -/
def m_law_signed : Fn := runFn 2
  (sSeq (sIf (mTest (mOp ltT (mVar 0) (mPure (.int 0))))
  (sRet (mUn negT (mOp modT (mUn negT (mVar 0)) (mVar 1))))
  sNil)
  (sRet (mOp modT (mVar 0) (mVar 1))))
/- _law_stand(_law_script, _law_k, _law_program): _law_script _law_k _law_program _law_cell _law_places _law_values _law_j -/
def m_law_stand : Fn := runFn 7
  (sSeq (sSet 3 (mCall m_law_cell_at (mCons (mVar 0) (mCons (mVar 1) mNil))))
  (sSeq (sSet 4 (mMap tupleT (mCons (mComp 1 [3, 2] (hName 0) (iRange (mMap lenT (mCons (mOp itemT (mVar 2) (mPure (.int 1))) mNil))) mTrue (mOp modT (mOp fdivT (mVar 1) (mOp addT (mPure (.int 1)) (mOp mulT (mPure (.int 3)) (mVar 0)))) (mOp itemT (mOp itemT (mOp itemT (mVar 2) (mPure (.int 1))) (mVar 0)) (mPure (.int 1))))) mNil)))
  (sSeq (sNew 5 (mMap (fun l => some (.lst l)) mNil))
  (sSeq (sFor (hName 6) (iRange (mMap lenT (mCons (mOp itemT (mVar 2) (mPure (.int 0))) mNil)))
  (sAppend 5 (mOp itemT (mMap (fun l => some (.lst l)) (mCons (mOp subT (mOp modT (mOp fdivT (mVar 3) (mOp addT (mPure (.int 2)) (mVar 6))) (mPure (.int 5))) (mPure (.int 2))) (mCons (mCall m_law_signed (mCons (mOp fdivT (mVar 3) (mOp addT (mPure (.int 1)) (mVar 6))) (mCons (mOp powT (mPure (.int 10)) (mPure (.int 30))) mNil))) mNil))) (mOp modT (mOp fdivT (mVar 3) (mPure (.int 5))) (mPure (.int 2))))))
  (sRet (mMap (fun l => some (.tup l)) (mCons (mVar 4) (mCons (mMap tupleT (mCons (mVar 5) mNil)) mNil))))))))
/- _law_remark(_law_program, _law_at, _law_stand_here): _law_program _law_at _law_stand_here _law_parts _law_j -/
def m_law_remark : Fn := runFn 5
  (sSeq (sNew 3 (mMap (fun l => some (.lst l)) mNil))
  (sSeq (sFor (hName 4) (iRange (mMap lenT (mCons (mOp itemT (mVar 0) (mPure (.int 0))) mNil)))
  (sSeq (sAppend 3 (mMap (fun l => some (.tup l)) (mCons (mPure (.str "most")) (mCons (mMap (fun l => some (.tup l)) (mCons (mUn negT (mOp itemT (mOp itemT (mVar 2) (mPure (.int 1))) (mVar 4))) (mCons (mMap (fun l => some (.tup l)) (mCons (mMap (fun l => some (.tup l)) (mCons (mOp itemT (mOp itemT (mOp itemT (mVar 0) (mPure (.int 0))) (mVar 4)) (mPure (.int 0))) (mCons (mPure (.int 1)) mNil))) mNil)) mNil))) mNil))))
  (sAppend 3 (mMap (fun l => some (.tup l)) (mCons (mPure (.str "most")) (mCons (mMap (fun l => some (.tup l)) (mCons (mOp itemT (mOp itemT (mVar 2) (mPure (.int 1))) (mVar 4)) (mCons (mMap (fun l => some (.tup l)) (mCons (mMap (fun l => some (.tup l)) (mCons (mOp itemT (mOp itemT (mOp itemT (mVar 0) (mPure (.int 0))) (mVar 4)) (mPure (.int 0))) (mCons (mUn negT (mPure (.int 1))) mNil))) mNil)) mNil))) mNil))))))
  (sSeq (sFor (hName 4) (iRange (mMap lenT (mCons (mOp itemT (mVar 0) (mPure (.int 1))) mNil)))
  (sIf (mTest (mOp neO (mVar 4) (mVar 1)))
  (sAppend 3 (mMap (fun l => some (.tup l)) (mCons (mPure (.str "at")) (mCons (mOp itemT (mOp itemT (mOp itemT (mVar 0) (mPure (.int 1))) (mVar 4)) (mPure (.int 0))) (mCons (mOp itemT (mOp itemT (mVar 2) (mPure (.int 0))) (mVar 4)) mNil)))))
  sNil))
  (sRet (mMap (fun l => some (.tup l)) (mCons (mPure (.str "and")) (mCons (mMap tupleT (mCons (mVar 3) mNil)) mNil)))))))
/- law(_law_script): _law_script _law_first _law_boxes _law_k _law_owner _law_hands _law_program _law_stands _law_kept _law_at _law_place _law_due _law_found -/
def m_law : Fn := runFn 13
  (sSeq (sSet 1 (mCall m_law_cell_at (mCons (mVar 0) (mCons (mPure (.int 0)) mNil))))
  (sSeq (sNew 2 (mMap (fun l => some (.lst l)) mNil))
  (sSeq (sFor (hName 3) (iRange (mOp modT (mVar 1) (mPure (.int 5))))
  (sSeq (sSet 4 (mOp itemT (mMap (fun l => some (.lst l)) (mCons (mPure (.str "")) (mCons (mPure (.str "q")) mNil))) (mOp modT (mOp fdivT (mCall m_law_cell_at (mCons (mVar 0) (mCons (mOp addT (mPure (.int 1)) (mVar 3)) mNil))) (mPure (.int 4))) (mPure (.int 2)))))
  (sAppend 2 (mMap (fun l => some (.tup l)) (mCons (mOp itemT (mMap (fun l => some (.lst l)) (mStrs ["x", "y", "b1", "b"])) (mVar 3)) (mCons (mVar 4) (mCons (mUn negT (mOp powT (mPure (.int 10)) (mPure (.int 30)))) (mCons (mOp powT (mPure (.int 10)) (mPure (.int 30))) (mCons (mPure (.int 0)) mNil)))))))))
  (sSeq (sSet 5 (mComp 1 [0] (hName 0) (iRange (mOp addT (mPure (.int 1)) (mOp modT (mOp fdivT (mVar 1) (mPure (.int 5))) (mPure (.int 4))))) mTrue (mMap (fun l => some (.tup l)) (mCons (mOp itemT (mMap (fun l => some (.lst l)) (mStrs ["q", "p", "pq", "h2"])) (mVar 0)) (mCons (mOp addT (mPure (.int 1)) (mOp modT (mCall m_law_cell_at (mCons (mVar 1) (mCons (mOp addT (mPure (.int 1)) (mVar 0)) mNil))) (mPure (.int 4)))) mNil)))))
  (sSeq (sSet 6 (mMap (fun l => some (.tup l)) (mCons (mVar 2) (mCons (mVar 5) (mCons (mMap (fun l => some (.lst l)) mNil) (mCons (mMap (fun l => some (.tup l)) mNil) mNil))))))
  (sSeq (sSet 7 (mComp 1 [0, 6] (hName 0) (iRange (mOp modT (mOp fdivT (mVar 1) (mPure (.int 20))) (mPure (.int 13)))) mTrue (mCall m_law_stand (mCons (mVar 1) (mCons (mOp addT (mPure (.int 5)) (mVar 0)) (mCons (mVar 2) mNil))))))
  (sSeq (sSet 8 (mMap listT (mCons (mVar 7) mNil)))
  (sSeq (sFor (hName 9) (iRange (mMap lenT (mCons (mVar 5) mNil)))
  (sFor (hName 10) (iRange (mOp itemT (mOp itemT (mVar 5) (mVar 9)) (mPure (.int 1))))
  (sSeq (sSet 11 (mComp 1 [6, 9, 10] (hName 0) (iSeq (mVar 7)) (mTest (mOp eqO (mOp itemT (mOp itemT (mVar 0) (mPure (.int 0))) (mVar 2)) (mVar 3))) (mCall m_law_remark (mCons (mVar 1) (mCons (mVar 2) (mCons (mVar 0) mNil))))))
  (sSeq (sSet 12 (mCall m_listed_remark (mCons (mVar 6) (mCons (mVar 7) (mCons (mOp itemT (mOp itemT (mVar 5) (mVar 9)) (mPure (.int 0))) (mCons (mVar 10) mNil))))))
  (sSeq (sIf (mAnd (mTest (mOp eqO (mMap lenT (mCons (mVar 11) mNil)) (mPure (.int 1)))) (mTest (mOp neO (mVar 12) (mOp itemT (mVar 11) (mPure (.int 0))))))
  (sRet (mPure (.bl false)))
  sNil)
  (sSeq (sIf (mAnd (mTest (mOp neO (mMap lenT (mCons (mVar 11) mNil)) (mPure (.int 1)))) (mTest (mOp neO (mVar 12) (mMap (fun l => some (.tup l)) (mCons (mPure (.str "or")) (mCons (mMap tupleT (mCons (mVar 11) mNil)) mNil))))))
  (sRet (mPure (.bl false)))
  sNil)
  (sIf (mOr (mNot (mTest (mMap isTup (mCons (mVar 12) mNil)))) (mNot (mTest (mMap isTup (mCons (mOp itemT (mVar 12) (mPure (.int 1))) mNil)))))
  (sRet (mPure (.bl false)))
  sNil)))))))
  (sRet (mOp eqO (mVar 7) (mVar 8)))))))))))
end K

end

section
set_option linter.all false
set_option maxRecDepth 100000
set_option autoImplicit false
namespace K
open C PySem
abbrev scr (cs : List Int) : T := .lst (cs.map .int)
def cell (cs : List Int) (k : Nat) : Int := cs.getD k 0
theorem cell_at {cs : List Int} {k : Nat} {sto : List SO} : m_law_cell_at [scr cs, .int (k : Int)] sto = some (.int (cell cs k), sto) := by
  by_cases h : k < cs.length
  · have h1 : ((k : Int) < (cs.length : Int)) := by omega
    have h2 : cs[k]? = some cs[k] := List.getElem?_eq_getElem h
    simp [runFn, sSeq, sIf, sSet, sNew, sRet, sNil, sNx, sRetOwn, sGo, sReverse, sFor, sAppend, sExtend, lstAt, mTest, mNot, mAnd, mOr, mBool, mIf, mOp, mUn, mVar, mMap, mCons, mNil, mPure, mStrs, mCall, putSlot, hName, hTup, iRange, iSeq, ltT, leT, lenT, addT, subT, modT, fdivT, negT, absT, seqOf, mTrue, freezeAt, thaw, m_law_cell_at, itemT, ixI, h1, h2, cell, List.getD]
  · have h1 : ¬ ((k : Int) < (cs.length : Int)) := by omega
    have h2 : cs[k]? = none := List.getElem?_eq_none_iff.mpr (by omega)
    simp [runFn, sSeq, sIf, sSet, sNew, sRet, sNil, sNx, sRetOwn, sGo, sReverse, sFor, sAppend, sExtend, lstAt, mTest, mNot, mAnd, mOr, mBool, mIf, mOp, mUn, mVar, mMap, mCons, mNil, mPure, mStrs, mCall, putSlot, hName, hTup, iRange, iSeq, ltT, leT, lenT, addT, subT, modT, fdivT, negT, absT, seqOf, mTrue, freezeAt, thaw, m_law_cell_at, itemT, ixI, h1, h2, cell, List.getD]
theorem cell_n {cs : List Int} {k : Nat} {i : Int} {sto : List SO} (h : i = (k : Int)) : m_law_cell_at [scr cs, .int i] sto = some (.int (cell cs k), sto) := by
  rw [h]; exact cell_at
theorem signed {c m : Int} (hm : 0 < m) {sto : List SO} : ∃ r, m_law_signed [.int c, .int m] sto = some (.int r, sto) := by
  by_cases h : c < 0 <;> simp [runFn, sSeq, sIf, sSet, sNew, sRet, sNil, sNx, sRetOwn, sGo, sReverse, sFor, sAppend, sExtend, lstAt, mTest, mNot, mAnd, mOr, mBool, mIf, mOp, mUn, mVar, mMap, mCons, mNil, mPure, mStrs, mCall, putSlot, hName, hTup, iRange, iSeq, ltT, leT, lenT, addT, subT, modT, fdivT, negT, absT, seqOf, mTrue, freezeAt, thaw, m_law_signed, h, hm]
theorem item0 {a : T} {r : List T} : itemT (.tup (a :: r)) (.int 0) = some a := by simp [itemT, ixI]
theorem item1 {a b : T} {r : List T} : itemT (.tup (a :: b :: r)) (.int 1) = some b := itemU_n (k := 1) rfl
/-! ### what is drawn -/
abbrev Hd := Str × Int
def hT (h : Hd) : T := .tup [.str h.1, .int h.2]
abbrev Bx := Str × Str
def bT (b : Bx) : T := .tup [.str b.1, .str b.2, .int (-1000000000000000000000000000000), .int 1000000000000000000000000000000, .int 0]
abbrev Sd := List Int × List Int
def sdT (s : Sd) : T := .tup [.tup (s.1.map .int), .tup (s.2.map .int)]
abbrev prg (bs : List Bx) (hs : List Hd) : T := .tup [.lst (bs.map bT), .lst (hs.map hT), .lst [], .tup []]
def hname (k : Nat) : Str := (["q", "p", "pq", "h2"] : List Str).getD k "p"
def bname (k : Nat) : Str := (["x", "y", "b1", "b"] : List Str).getD k "x"
theorem hname_ok : ∀ k, k < 4 → okS (hname k) := by unfold okS; decide +kernel
theorem hname_inj : ∀ k, k < 4 → ∀ j, j < 4 → (hname k == hname j) = (k == j) := by decide +kernel
theorem bname_ok : ∀ k, k < 4 → okS (bname k) := by unfold okS; decide +kernel
theorem hname_at {k : Nat} (h : k < 4) : itemT (.lst [.str "q", .str "p", .str "pq", .str "h2"]) (.int (k : Int)) = some (.str (hname k)) := by
  match k, h with
  | 0, _ => rfl
  | 1, _ => rfl
  | 2, _ => rfl
  | 3, _ => rfl
theorem bname_at {k : Nat} (h : k < 4) : itemT (.lst [.str "x", .str "y", .str "b1", .str "b"]) (.int (k : Int)) = some (.str (bname k)) := by
  match k, h with
  | 0, _ => rfl
  | 1, _ => rfl
  | 2, _ => rfl
  | 3, _ => rfl
theorem owner_at {v : Int} : ∃ o : Str, itemT (.lst [.str "", .str "q"]) (.int (v % 2)) = some (.str o) := by
  rcases Int.emod_two_eq v with h | h <;> rw [h]
  · exact ⟨"", rfl⟩
  · exact ⟨"q", rfl⟩
theorem either_at {v : Int} {a b : Int} : ∃ o : Int, itemT (.lst [.int a, .int b]) (.int (v % 2)) = some (.int o) := by
  rcases Int.emod_two_eq v with h | h <;> rw [h]
  · exact ⟨a, rfl⟩
  · exact ⟨b, rfl⟩
/-- the hands are named in their order -/
def okHs (hs : List Hd) : Prop := hs.length ≤ 4 ∧ (∀ k (h : k < hs.length), hs[k].1 = hname k) ∧ ∀ h ∈ hs, 1 ≤ h.2 ∧ h.2 ≤ 4
def okBs (bs : List Bx) : Prop := bs.length ≤ 4 ∧ ∀ b ∈ bs, okS b.1
def okSd (bs : List Bx) (hs : List Hd) (s : Sd) : Prop := s.1.length = hs.length ∧ s.2.length = bs.length
theorem okHs_name {hs : List Hd} (ok : okHs hs) : ∀ h ∈ hs, okS h.1 := fun h hh => by
  obtain ⟨k, hk, e⟩ := List.getElem_of_mem hh
  rw [← e, ok.2.1 k hk]
  exact hname_ok k (Nat.lt_of_lt_of_le hk ok.1)
/-! ### remarks -/
def mostT (n : Int) (b : Str) (k : Int) : T := .tup [.str "most", .tup [.int n, .tup [.tup [.str b, .int k]]]]
def atT (h : Str) (p : Int) : T := .tup [.str "at", .str h, .int p]
def boxP (z : Bx × Int) : List T := [mostT (-z.2) z.1.1 1, mostT z.2 z.1.1 (-1)]
def handP (at' : Nat) (z : (Hd × Int) × Nat) : List T := if z.2 = at' then [] else [atT z.1.1.1 z.1.2]
def remT (bs : List Bx) (hs : List Hd) (at' : Nat) (s : Sd) : T := .tup [.str "and", .tup ((bs.zip s.2).flatMap boxP ++ (hs.zip s.1).zipIdx.flatMap (handP at'))]
theorem at_most {b : Str} {n : Int} {sto : List SO} : m_at_most [.str b, .int n] sto = some (mostT (-n) b 1, sto) := by simp [runFn, sSeq, sIf, sSet, sNew, sRet, sNil, sNx, sRetOwn, sGo, sReverse, sFor, sAppend, sExtend, lstAt, mTest, mNot, mAnd, mOr, mBool, mIf, mOp, mUn, mVar, mMap, mCons, mNil, mPure, mStrs, mCall, putSlot, hName, hTup, iRange, iSeq, ltT, leT, lenT, addT, subT, modT, fdivT, negT, absT, seqOf, mTrue, freezeAt, thaw, m_at_most, mostT]
theorem at_least {b : Str} {n : Int} {sto : List SO} : m_at_least [.str b, .int n] sto = some (mostT n b (-1), sto) := by simp [runFn, sSeq, sIf, sSet, sNew, sRet, sNil, sNx, sRetOwn, sGo, sReverse, sFor, sAppend, sExtend, lstAt, mTest, mNot, mAnd, mOr, mBool, mIf, mOp, mUn, mVar, mMap, mCons, mNil, mPure, mStrs, mCall, putSlot, hName, hTup, iRange, iSeq, ltT, leT, lenT, addT, subT, modT, fdivT, negT, absT, seqOf, mTrue, freezeAt, thaw, m_at_least, mostT]
theorem len_flat {α : Type} {f : α → List T} {n : Nat} (h : ∀ a, (f a).length ≤ n) : ∀ l : List α, (l.flatMap f).length ≤ n * l.length
  | [] => by simp
  | a :: l => by
    rw [List.flatMap_cons, List.length_append, List.length_cons, Nat.mul_add]
    have := len_flat h l
    have := h a
    omega
theorem boxP_len (z : Bx × Int) : (boxP z).length ≤ 2 := by simp [boxP]
theorem handP_len {a : Nat} (z : (Hd × Int) × Nat) : (handP a z).length ≤ 1 := by unfold handP; split <;> simp
def wrk (bs : List Bx) (hs : List Hd) (a : Nat) (s : Sd) (t : T) (x : List T × Slot) : Sta := ⟨[], []⟩
section
variable {bs : List Bx} {hs : List Hd} {s : Sd} {a : Nat} {sto : List SO}
theorem law_remark (okb : okBs bs) (okh : okHs hs) (oks : okSd bs hs s) : m_law_remark [prg bs hs, .int (a : Int), sdT s] sto = some (remT bs hs a s, sto) := by
  have lb : (bs.zip s.2).length = bs.length := by rw [List.length_zip, oks.2, Nat.min_self]
  have lh : (hs.zip s.1).length = hs.length := by rw [List.length_zip, oks.1, Nat.min_self]
  have nb : bs.length < lim := by have := okb.1; show _ < 1000000; omega
  have nh : hs.length < lim := by have := okh.1; show _ < 1000000; omega
  unfold m_law_remark
  simp [runFn, sSeq, sIf, sSet, sNew, sRet, sNil, sNx, sRetOwn, sGo, sReverse, sFor, sAppend, sExtend, lstAt, mTest, mNot, mAnd, mOr, mBool, mIf, mOp, mUn, mVar, mMap, mCons, mNil, mPure, mStrs, mCall, putSlot, hName, hTup, iRange, iSeq, ltT, leT, lenT, addT, subT, modT, fdivT, negT, absT, seqOf, mTrue, freezeAt, thaw, item0, item1, nb, nh]
  generalize hF : forL _ _ _ _ = r
  obtain ⟨rfl, p1⟩ := forL_met hF (fun p => T.int (p.2 : Int)) (bs.zip s.2).zipIdx (fun x => (⟨[some (prg bs hs, false), some (.int a, false), some (sdT s, false), some (.lst x.1, true), x.2], sto⟩ : Sta)) (([], none) : List T × Slot) (fun x p => (x.1 ++ boxP p.1, some (.int p.2, false)))
    (fun l x => x.1.length + 2 * l.length ≤ 8 ∧ ∀ p ∈ l, (bs.zip s.2)[p.2]? = some p.1) (by rw [← lb, rangeT_zip]) rfl ⟨by rw [List.length_zipIdx, lb]; have := okb.1; simp; omega, fun p hp => List.mem_zipIdx_iff_getElem?.mp hp⟩ (by
      rintro p r x ⟨h1, h2⟩
      have hp := h2 p List.mem_cons_self
      obtain ⟨e1, e2⟩ := List.getElem?_zip_eq_some.mp hp
      have i1 : itemT (.lst (bs.map bT)) (.int (p.2 : Int)) = some (bT p.1.1) := itemL_n (by rw [List.getElem?_map, e1]; rfl)
      have i2 : itemT (.tup (s.2.map T.int)) (.int (p.2 : Int)) = some (.int p.1.2) := itemU_n (by rw [List.getElem?_map, e2]; rfl)
      have hl : x.1.length < lim := by simp only [List.length_cons] at h1; show _ < 1000000; omega
      have hl2 : x.1.length + 1 < lim := by simp only [List.length_cons] at h1; show _ < 1000000; omega
      refine ⟨⟨_, rfl, ?_⟩, ?_, fun q hq => h2 q (List.mem_cons_of_mem _ hq)⟩
      · simp [runFn, sSeq, sIf, sSet, sNew, sRet, sNil, sNx, sRetOwn, sGo, sReverse, sFor, sAppend, sExtend, lstAt, mTest, mNot, mAnd, mOr, mBool, mIf, mOp, mUn, mVar, mMap, mCons, mNil, mPure, mStrs, mCall, putSlot, hName, hTup, iRange, iSeq, ltT, leT, lenT, addT, subT, modT, fdivT, negT, absT, seqOf, mTrue, freezeAt, thaw, item0, item1, sdT, i2, i1, hl, hl2, bT, boxP, mostT]
      · simp only [List.length_cons, List.length_append] at h1 ⊢
        have := boxP_len p.1
        omega)
  have fold1 : ∀ (l : List ((Bx × Int) × Nat)) (x : List T × Slot), (l.foldl (fun x p => (x.1 ++ boxP p.1, some (T.int p.2, false))) x).1 = x.1 ++ l.flatMap fun p => boxP p.1 := fun l => by
    induction l with
    | nil => intro x; simp
    | cons p l ih => intro x; rw [List.foldl_cons, ih, List.flatMap_cons, List.append_assoc]
  generalize hX : List.foldl _ _ _ = X1 at p1
  have e1 : X1.1 = (bs.zip s.2).flatMap boxP := by
    rw [← hX, fold1]
    simp only [List.nil_append]
    rw [← List.flatMap_map Prod.fst boxP, List.zipIdx_map_fst]
  dsimp only
  rw [e1]
  simp [runFn, sSeq, sIf, sSet, sNew, sRet, sNil, sNx, sRetOwn, sGo, sReverse, sFor, sAppend, sExtend, lstAt, mTest, mNot, mAnd, mOr, mBool, mIf, mOp, mUn, mVar, mMap, mCons, mNil, mPure, mStrs, mCall, putSlot, hName, hTup, iRange, iSeq, ltT, leT, lenT, addT, subT, modT, fdivT, negT, absT, seqOf, mTrue, freezeAt, thaw, item0, item1, nh]
  generalize hF : forL _ _ _ _ = r
  obtain ⟨rfl, p2⟩ := forL_met hF (fun p => T.int (p.2 : Int)) (hs.zip s.1).zipIdx (fun x => (⟨[some (prg bs hs, false), some (.int a, false), some (sdT s, false), some (.lst x.1, true), x.2], sto⟩ : Sta)) (((bs.zip s.2).flatMap boxP, X1.2) : List T × Slot) (fun x p => (x.1 ++ handP a p, some (.int p.2, false)))
    (fun l x => x.1.length + l.length ≤ 12 ∧ ∀ p ∈ l, (hs.zip s.1)[p.2]? = some p.1) (by rw [← lh, rangeT_zip]) rfl ⟨by
      rw [List.length_zipIdx, lh]
      have := len_flat boxP_len (bs.zip s.2)
      rw [lb] at this
      have := okb.1; have := okh.1
      dsimp only; omega, fun p hp => List.mem_zipIdx_iff_getElem?.mp hp⟩ (by
      rintro p r x ⟨h1, h2⟩
      have hp := h2 p List.mem_cons_self
      obtain ⟨f1, f2⟩ := List.getElem?_zip_eq_some.mp hp
      have i1 : itemT (.lst (hs.map hT)) (.int (p.2 : Int)) = some (hT p.1.1) := itemL_n (by rw [List.getElem?_map, f1]; rfl)
      have i2 : itemT (.tup (s.1.map T.int)) (.int (p.2 : Int)) = some (.int p.1.2) := itemU_n (by rw [List.getElem?_map, f2]; rfl)
      have hl : x.1.length < lim := by simp only [List.length_cons] at h1; show _ < 1000000; omega
      refine ⟨⟨_, rfl, ?_⟩, ?_, fun q hq => h2 q (List.mem_cons_of_mem _ hq)⟩
      · by_cases hq : p.2 = a
        · have hb : ((p.2 : Int) == (a : Int)) = true := by rw [hq]; exact beq_self_eq_true _
          simp [runFn, sSeq, sIf, sSet, sNew, sRet, sNil, sNx, sRetOwn, sGo, sReverse, sFor, sAppend, sExtend, lstAt, mTest, mNot, mAnd, mOr, mBool, mIf, mOp, mUn, mVar, mMap, mCons, mNil, mPure, mStrs, mCall, putSlot, hName, hTup, iRange, iSeq, ltT, leT, lenT, addT, subT, modT, fdivT, negT, absT, seqOf, mTrue, freezeAt, thaw, neO_int, hb, handP, hq]
        · have hb : ((p.2 : Int) == (a : Int)) = false := beq_eq_false_iff_ne.mpr (by omega)
          simp [runFn, sSeq, sIf, sSet, sNew, sRet, sNil, sNx, sRetOwn, sGo, sReverse, sFor, sAppend, sExtend, lstAt, mTest, mNot, mAnd, mOr, mBool, mIf, mOp, mUn, mVar, mMap, mCons, mNil, mPure, mStrs, mCall, putSlot, hName, hTup, iRange, iSeq, ltT, leT, lenT, addT, subT, modT, fdivT, negT, absT, seqOf, mTrue, freezeAt, thaw, neO_int, hb, handP, hq, item0, item1, sdT, i2, i1, hl, hT, atT]
      · simp only [List.length_cons, List.length_append] at h1 ⊢
        have := handP_len (a := a) p
        omega)
  have fold2 : ∀ (l : List ((Hd × Int) × Nat)) (x : List T × Slot), (l.foldl (fun x p => (x.1 ++ handP a p, some (T.int p.2, false))) x).1 = x.1 ++ l.flatMap (handP a) := fun l => by
    induction l with
    | nil => intro x; simp
    | cons p l ih => intro x; rw [List.foldl_cons, ih, List.flatMap_cons, List.append_assoc]
  generalize hY : List.foldl _ _ _ = Y1 at p2
  have e2 : Y1.1 = (bs.zip s.2).flatMap boxP ++ (hs.zip s.1).zipIdx.flatMap (handP a) := by rw [← hY, fold2]
  dsimp only
  rw [e2]
  simp [runFn, sSeq, sIf, sSet, sNew, sRet, sNil, sNx, sRetOwn, sGo, sReverse, sFor, sAppend, sExtend, lstAt, mTest, mNot, mAnd, mOr, mBool, mIf, mOp, mUn, mVar, mMap, mCons, mNil, mPure, mStrs, mCall, putSlot, hName, hTup, iRange, iSeq, ltT, leT, lenT, addT, subT, modT, fdivT, negT, absT, seqOf, mTrue, freezeAt, thaw, tupleT, remT]
end
end K

end

section
set_option linter.all false
set_option maxRecDepth 100000
set_option autoImplicit false
namespace K
open C PySem
section
variable {bs : List Bx} {hs : List Hd} {s : Sd} {a : Nat} {sto : List SO}
def handQ (n : Str) (z : Hd × Int) : List T := if z.1.1 = n then [] else [atT z.1.1 z.2]
theorem zipT_map {α β : Type} (f : α → T) (g : β → T) (xs : List α) (ys : List β) : zipT (xs.map f) (ys.map g) = (xs.zip ys).map fun p => .tup [f p.1, g p.2] := by
  unfold zipT
  rw [List.zip_map, List.map_map]
  rfl
theorem handQ_len {n : Str} (z : Hd × Int) : (handQ n z).length ≤ 1 := by unfold handQ; split <;> simp
/-- the hand's own number and its name tell the same one -/
theorem hands_alike (okh : okHs hs) (ha : a < hs.length) (pl : List Int) : (hs.zip pl).flatMap (handQ (hname a)) = (hs.zip pl).zipIdx.flatMap (handP a) := by
  have h1 : (hs.zip pl).flatMap (handQ (hname a)) = (hs.zip pl).zipIdx.flatMap fun p => handQ (hname a) p.1 := by
    rw [← List.flatMap_map Prod.fst (handQ (hname a)), List.zipIdx_map_fst]
  rw [h1]
  apply flatMap_eq
  intro p hp
  have hp := List.mem_zipIdx_iff_getElem?.mp hp
  obtain ⟨f1, f2⟩ := List.getElem?_zip_eq_some.mp hp
  obtain ⟨hk, e⟩ := List.getElem?_eq_some_iff.mp f1
  have hn := okh.2.1 p.2 hk
  rw [e] at hn
  have hi := hname_inj p.2 (Nat.lt_of_lt_of_le hk okh.1) a (Nat.lt_of_lt_of_le ha okh.1)
  unfold handQ handP
  rw [hn]
  by_cases hq : p.2 = a
  · rw [if_pos hq, if_pos (by rw [hq])]
  · have : hname p.2 ≠ hname a := by
      rw [beq_eq_false_iff_ne.mpr hq] at hi
      exact beq_eq_false_iff_ne.mp hi
    rw [if_neg hq, if_neg this]
theorem stand_remark (okb : okBs bs) (okh : okHs hs) (oks : okSd bs hs s) (ha : a < hs.length) : m_stand_remark [prg bs hs, sdT s, .str (hname a)] sto = some (remT bs hs a s, sto) := by
  have lb : (bs.zip s.2).length = bs.length := by rw [List.length_zip, oks.2, Nat.min_self]
  have lh : (hs.zip s.1).length = hs.length := by rw [List.length_zip, oks.1, Nat.min_self]
  have nb : bs.length < lim := by have := okb.1; show _ < 1000000; omega
  have nh : hs.length < lim := by have := okh.1; show _ < 1000000; omega
  have nb2 : s.2.length < lim := by rw [oks.2]; exact nb
  have nh2 : s.1.length < lim := by rw [oks.1]; exact nh
  have okn := hname_ok a (Nat.lt_of_lt_of_le ha okh.1)
  unfold m_stand_remark
  simp [runFn, sSeq, sIf, sSet, sNew, sRet, sNil, sNx, sRetOwn, sGo, sReverse, sFor, sAppend, sExtend, lstAt, mTest, mNot, mAnd, mOr, mBool, mIf, mOp, mUn, mVar, mMap, mCons, mNil, mPure, mStrs, mCall, putSlot, hName, hTup, iRange, iSeq, ltT, leT, lenT, addT, subT, modT, fdivT, negT, absT, seqOf, mTrue, freezeAt, thaw, item0, item1, nb, iZip, sdT, nb2]
  rw [zipT_map]
  generalize hF : forL _ _ _ _ = r
  obtain ⟨rfl, p1⟩ := forL_met hF (fun p => T.tup [bT p.1, .int p.2]) (bs.zip s.2) (fun x => (⟨[some (prg bs hs, false), some (sdT s, false), some (.str (hname a), false), some (.lst x.1, true), x.2.1, x.2.2, none, none], sto⟩ : Sta)) (([], none, none) : List T × Slot × Slot) (fun x p => (x.1 ++ boxP p, some (bT p.1, false), some (.int p.2, false)))
    (fun l x => x.1.length + 2 * l.length ≤ 8) rfl rfl (by rw [lb]; have := okb.1; simp; omega) (by
      rintro p r x h1
      have hl : x.1.length < lim := by simp only [List.length_cons] at h1; show _ < 1000000; omega
      have hl2 : x.1.length + 1 < lim := by simp only [List.length_cons] at h1; show _ < 1000000; omega
      refine ⟨⟨_, hTup2, ?_⟩, ?_⟩
      · simp [runFn, sSeq, sIf, sSet, sNew, sRet, sNil, sNx, sRetOwn, sGo, sReverse, sFor, sAppend, sExtend, lstAt, mTest, mNot, mAnd, mOr, mBool, mIf, mOp, mUn, mVar, mMap, mCons, mNil, mPure, mStrs, mCall, putSlot, hName, hTup, iRange, iSeq, ltT, leT, lenT, addT, subT, modT, fdivT, negT, absT, seqOf, mTrue, freezeAt, thaw, item0, bT, at_most, at_least, hl, hl2, boxP]
      · simp only [List.length_cons, List.length_append] at h1 ⊢
        have := boxP_len p
        omega)
  have fold1 : ∀ (l : List (Bx × Int)) (x : List T × Slot × Slot), (l.foldl (fun x p => (x.1 ++ boxP p, some (bT p.1, false), some (.int p.2, false))) x).1 = x.1 ++ l.flatMap boxP := fun l => by
    induction l with
    | nil => intro x; simp
    | cons p l ih => intro x; rw [List.foldl_cons, ih, List.flatMap_cons, List.append_assoc]
  generalize hX : List.foldl _ _ _ = X1 at p1
  have e1 : X1.1 = (bs.zip s.2).flatMap boxP := by rw [← hX, fold1]; rfl
  dsimp only
  rw [e1]
  simp [runFn, sSeq, sIf, sSet, sNew, sRet, sNil, sNx, sRetOwn, sGo, sReverse, sFor, sAppend, sExtend, lstAt, mTest, mNot, mAnd, mOr, mBool, mIf, mOp, mUn, mVar, mMap, mCons, mNil, mPure, mStrs, mCall, putSlot, hName, hTup, iRange, iSeq, ltT, leT, lenT, addT, subT, modT, fdivT, negT, absT, seqOf, mTrue, freezeAt, thaw, item0, item1, nh, iZip, sdT, nh2]
  rw [zipT_map]
  generalize hF : forL _ _ _ _ = r
  obtain ⟨rfl, p2⟩ := forL_met hF (fun p => T.tup [hT p.1, .int p.2]) (hs.zip s.1) (fun x => (⟨[some (prg bs hs, false), some (sdT s, false), some (.str (hname a), false), some (.lst x.1, true), X1.2.1, X1.2.2, x.2.1, x.2.2], sto⟩ : Sta)) (((bs.zip s.2).flatMap boxP, none, none) : List T × Slot × Slot) (fun x p => (x.1 ++ handQ (hname a) p, some (hT p.1, false), some (.int p.2, false)))
    (fun l x => x.1.length + l.length ≤ 12 ∧ ∀ p ∈ l, p.1 ∈ hs) rfl rfl ⟨by
      have := len_flat boxP_len (bs.zip s.2)
      rw [lb] at this
      have := okb.1; have := okh.1
      dsimp only; omega, fun p hp => (List.of_mem_zip hp).1⟩ (by
      rintro p r x ⟨h1, h2⟩
      have okp := okHs_name okh _ (h2 p List.mem_cons_self)
      have hl : x.1.length < lim := by simp only [List.length_cons] at h1; show _ < 1000000; omega
      refine ⟨⟨_, hTup2, ?_⟩, ?_, fun q hq => h2 q (List.mem_cons_of_mem _ hq)⟩
      · have hne := neO_str okp okn
        by_cases hq : p.1.1 = hname a
        · simp [runFn, sSeq, sIf, sSet, sNew, sRet, sNil, sNx, sRetOwn, sGo, sReverse, sFor, sAppend, sExtend, lstAt, mTest, mNot, mAnd, mOr, mBool, mIf, mOp, mUn, mVar, mMap, mCons, mNil, mPure, mStrs, mCall, putSlot, hName, hTup, iRange, iSeq, ltT, leT, lenT, addT, subT, modT, fdivT, negT, absT, seqOf, mTrue, freezeAt, thaw, item0, hT, hne, handQ, hq]
          simp [hq] at hne
          simp [runFn, sSeq, sIf, sSet, sNew, sRet, sNil, sNx, sRetOwn, sGo, sReverse, sFor, sAppend, sExtend, lstAt, mTest, mNot, mAnd, mOr, mBool, mIf, mOp, mUn, mVar, mMap, mCons, mNil, mPure, mStrs, mCall, putSlot, hName, hTup, iRange, iSeq, ltT, leT, lenT, addT, subT, modT, fdivT, negT, absT, seqOf, mTrue, freezeAt, thaw, hne]
        · have hb : (p.1.1 == hname a) = false := beq_eq_false_iff_ne.mpr hq
          simp [runFn, sSeq, sIf, sSet, sNew, sRet, sNil, sNx, sRetOwn, sGo, sReverse, sFor, sAppend, sExtend, lstAt, mTest, mNot, mAnd, mOr, mBool, mIf, mOp, mUn, mVar, mMap, mCons, mNil, mPure, mStrs, mCall, putSlot, hName, hTup, iRange, iSeq, ltT, leT, lenT, addT, subT, modT, fdivT, negT, absT, seqOf, mTrue, freezeAt, thaw, item0, hT, hne, handQ, hq, hb, hl, atT]
      · simp only [List.length_cons, List.length_append] at h1 ⊢
        have := handQ_len (n := hname a) p
        omega)
  have fold2 : ∀ (l : List (Hd × Int)) (x : List T × Slot × Slot), (l.foldl (fun x p => (x.1 ++ handQ (hname a) p, some (hT p.1, false), some (.int p.2, false))) x).1 = x.1 ++ l.flatMap (handQ (hname a)) := fun l => by
    induction l with
    | nil => intro x; simp
    | cons p l ih => intro x; rw [List.foldl_cons, ih, List.flatMap_cons, List.append_assoc]
  generalize hY : List.foldl _ _ _ = Y1 at p2
  have e2 : Y1.1 = (bs.zip s.2).flatMap boxP ++ (hs.zip s.1).zipIdx.flatMap (handP a) := by rw [← hY, fold2, hands_alike okh ha]
  dsimp only
  rw [e2]
  simp [runFn, sSeq, sIf, sSet, sNew, sRet, sNil, sNx, sRetOwn, sGo, sReverse, sFor, sAppend, sExtend, lstAt, mTest, mNot, mAnd, mOr, mBool, mIf, mOp, mUn, mVar, mMap, mCons, mNil, mPure, mStrs, mCall, putSlot, hName, hTup, iRange, iSeq, ltT, leT, lenT, addT, subT, modT, fdivT, negT, absT, seqOf, mTrue, freezeAt, thaw, tupleT, remT]
end
end K

end

section
set_option linter.all false
set_option maxRecDepth 100000
set_option autoImplicit false
namespace K
open C PySem
section
variable {bs : List Bx} {hs : List Hd} {s : Sd} {a : Nat} {sto : List SO}
theorem ixOf_names (hs : List Hd) (a : Nat) (d : Nat) (h4 : hs.length + d ≤ 4) (hn : ∀ k (h : k < hs.length), hs[k].1 = hname (k + d)) (ha : d ≤ a) (hb : a < hs.length + d) : ixOf (.str (hname a)) (hs.map fun h => .str h.1) d = some a := by
  induction hs generalizing d with
  | nil => simp at hb; omega
  | cons h hs ih =>
    have h0 : h.1 = hname d := by have := hn 0 (by simp); simpa using this
    simp only [List.length_cons] at h4 hb
    have e : eqD (.str h.1) (.str (hname a)) = some (d == a) := by
      rw [h0, eqD_str (hname_ok d (by omega)) (hname_ok a (by omega)), hname_inj d (by omega) a (by omega)]
    rw [List.map_cons, ixOf, e]
    by_cases hq : d = a
    · rw [hq]; simp
    · rw [beq_eq_false_iff_ne.mpr hq]
      refine ih (d + 1) (by omega) (fun k hk => ?_) (by omega) (by omega)
      have := hn (k + 1) (by simp; omega)
      rw [show k + (d + 1) = k + 1 + d by omega]
      simpa using this
def stAt (a : Nat) (p : Int) (s : Sd) : Bool := s.1.getD a 0 == p
def dueT (bs : List Bx) (hs : List Hd) (a : Nat) (p : Int) (ss : List Sd) : List T := (ss.filter (stAt a p)).map (remT bs hs a)
def listT' (l : List T) : T := if l.length = 1 then l.getD 0 .non else .tup [.str "or", .tup l]
theorem place_at (oks : okSd bs hs s) (ha : a < hs.length) : itemT (.tup (s.1.map T.int)) (.int (a : Int)) = some (.int (s.1.getD a 0)) := by
  have h : a < s.1.length := by rw [oks.1]; exact ha
  refine itemU_n ?_
  rw [List.getElem?_map, List.getElem?_eq_getElem h, List.getD_eq_getElem?_getD, List.getElem?_eq_getElem h]; rfl
theorem listed_remark (okb : okBs bs) (okh : okHs hs) {ss : List Sd} (oks : ∀ s ∈ ss, okSd bs hs s) (hl : ss.length ≤ 12) (ha : a < hs.length) {p : Int} :
    m_listed_remark [prg bs hs, .lst (ss.map sdT), .str (hname a), .int p] sto = some (listT' (dueT bs hs a p ss), sto) := by
  have nh : hs.length < lim := by have := okh.1; show _ < 1000000; omega
  have ns : ss.length < lim := by show _ < 1000000; omega
  unfold m_listed_remark
  simp [runFn, sSeq, sIf, sSet, sNew, sRet, sNil, sNx, sRetOwn, sGo, sReverse, sFor, sAppend, sExtend, lstAt, mTest, mNot, mAnd, mOr, mBool, mIf, mOp, mUn, mVar, mMap, mCons, mNil, mPure, mStrs, mCall, putSlot, hName, hTup, iRange, iSeq, ltT, leT, lenT, addT, subT, modT, fdivT, negT, absT, seqOf, mTrue, freezeAt, thaw]
  generalize hF : mComp 2 _ _ _ _ _ _ = r
  have e := mComp_at hF hT (fun h => T.str h.1) hs ⟨[some (prg bs hs, false), some (.lst (ss.map sdT), false), some (.str (hname a), false), some (.int p, false), none, none], sto⟩ [some (prg bs hs, false), some (.lst (ss.map sdT), false), some (.str (hname a), false), some (.int p, false), none, none] [] (by simp [runFn, sSeq, sIf, sSet, sNew, sRet, sNil, sNx, sRetOwn, sGo, sReverse, sFor, sAppend, sExtend, lstAt, mTest, mNot, mAnd, mOr, mBool, mIf, mOp, mUn, mVar, mMap, mCons, mNil, mPure, mStrs, mCall, putSlot, hName, hTup, iRange, iSeq, ltT, leT, lenT, addT, subT, modT, fdivT, negT, absT, seqOf, mTrue, freezeAt, thaw, item1, nh]) rfl rfl rfl (Nat.le_of_lt nh) (fun h hh pre hp => by
    match pre, hp with
    | [p0, p1], _ => exact ⟨[some (.str h.1, false), some (.int h.2, false)], rfl, by simp [runFn, sSeq, sIf, sSet, sNew, sRet, sNil, sNx, sRetOwn, sGo, sReverse, sFor, sAppend, sExtend, lstAt, mTest, mNot, mAnd, mOr, mBool, mIf, mOp, mUn, mVar, mMap, mCons, mNil, mPure, mStrs, mCall, putSlot, hName, hTup, iRange, iSeq, ltT, leT, lenT, addT, subT, modT, fdivT, negT, absT, seqOf, mTrue, freezeAt, thaw, hT], rfl, by simp [runFn, sSeq, sIf, sSet, sNew, sRet, sNil, sNx, sRetOwn, sGo, sReverse, sFor, sAppend, sExtend, lstAt, mTest, mNot, mAnd, mOr, mBool, mIf, mOp, mUn, mVar, mMap, mCons, mNil, mPure, mStrs, mCall, putSlot, hName, hTup, iRange, iSeq, ltT, leT, lenT, addT, subT, modT, fdivT, negT, absT, seqOf, mTrue, freezeAt, thaw]⟩)
  subst e
  have okn := hname_ok a (Nat.lt_of_lt_of_le ha okh.1)
  have inn : ∀ l : List Hd, (∀ h ∈ l, okS h.1) → (inL (.str (hname a)) (l.map fun h => T.str h.1)).isSome = true := fun l => by
    induction l with
    | nil => intro _; rfl
    | cons h l ih =>
      intro ok
      have := ih fun x hx => ok x (List.mem_cons_of_mem _ hx)
      obtain ⟨b, hb⟩ := Option.isSome_iff_exists.mp this
      simp [inL, eqD_str (ok h List.mem_cons_self) okn, hb]
  have ix : indexT (.lst (hs.map fun h => T.str h.1)) (.str (hname a)) = some (.int (a : Int)) := by
    simp [indexT, nh, dat_str okn, inn hs (okHs_name okh), ixOf_names hs a 0 (by have := okh.1; omega) okh.2.1 (by omega) (by omega)]
  simp [runFn, sSeq, sIf, sSet, sNew, sRet, sNil, sNx, sRetOwn, sGo, sReverse, sFor, sAppend, sExtend, lstAt, mTest, mNot, mAnd, mOr, mBool, mIf, mOp, mUn, mVar, mMap, mCons, mNil, mPure, mStrs, mCall, putSlot, hName, hTup, iRange, iSeq, ltT, leT, lenT, addT, subT, modT, fdivT, negT, absT, seqOf, mTrue, freezeAt, thaw, ix]
  generalize hF : mComp 1 _ _ _ _ _ _ = r
  have e := mComp_met hF sdT (remT bs hs a) (stAt a p) ss ⟨[some (prg bs hs, false), some (.lst (ss.map sdT), false), some (.str (hname a), false), some (.int p, false), some (.int a, false), none], sto⟩ [some (prg bs hs, false), some (.lst (ss.map sdT), false), some (.str (hname a), false), some (.int p, false), some (.int a, false), none] [some (prg bs hs, false), some (.str (hname a), false), some (.int p, false), some (.int a, false)] (by simp [runFn, sSeq, sIf, sSet, sNew, sRet, sNil, sNx, sRetOwn, sGo, sReverse, sFor, sAppend, sExtend, lstAt, mTest, mNot, mAnd, mOr, mBool, mIf, mOp, mUn, mVar, mMap, mCons, mNil, mPure, mStrs, mCall, putSlot, hName, hTup, iRange, iSeq, ltT, leT, lenT, addT, subT, modT, fdivT, negT, absT, seqOf, mTrue, freezeAt, thaw, ns]) rfl rfl rfl (Nat.le_of_lt ns) (fun s hs' pre hp => by
    have ok := oks s hs'
    have pa := place_at ok ha
    have sr := stand_remark (sto := sto) okb okh ok ha
    match pre, hp with
    | [p0], _ => exact ⟨[some (sdT s, false)], rfl, by simp [runFn, sSeq, sIf, sSet, sNew, sRet, sNil, sNx, sRetOwn, sGo, sReverse, sFor, sAppend, sExtend, lstAt, mTest, mNot, mAnd, mOr, mBool, mIf, mOp, mUn, mVar, mMap, mCons, mNil, mPure, mStrs, mCall, putSlot, hName, hTup, iRange, iSeq, ltT, leT, lenT, addT, subT, modT, fdivT, negT, absT, seqOf, mTrue, freezeAt, thaw], by simp [runFn, sSeq, sIf, sSet, sNew, sRet, sNil, sNx, sRetOwn, sGo, sReverse, sFor, sAppend, sExtend, lstAt, mTest, mNot, mAnd, mOr, mBool, mIf, mOp, mUn, mVar, mMap, mCons, mNil, mPure, mStrs, mCall, putSlot, hName, hTup, iRange, iSeq, ltT, leT, lenT, addT, subT, modT, fdivT, negT, absT, seqOf, mTrue, freezeAt, thaw, sdT, item0, pa, eqO_int, stAt], fun _ => by simp [runFn, sSeq, sIf, sSet, sNew, sRet, sNil, sNx, sRetOwn, sGo, sReverse, sFor, sAppend, sExtend, lstAt, mTest, mNot, mAnd, mOr, mBool, mIf, mOp, mUn, mVar, mMap, mCons, mNil, mPure, mStrs, mCall, putSlot, hName, hTup, iRange, iSeq, ltT, leT, lenT, addT, subT, modT, fdivT, negT, absT, seqOf, mTrue, freezeAt, thaw, sr]⟩)
  subst e
  by_cases h1 : (dueT bs hs a p ss).length = 1
  · obtain ⟨t, ht⟩ := List.length_eq_one_iff.mp h1
    have ht' := ht
    unfold dueT at ht'
    simp [runFn, sSeq, sIf, sSet, sNew, sRet, sNil, sNx, sRetOwn, sGo, sReverse, sFor, sAppend, sExtend, lstAt, mTest, mNot, mAnd, mOr, mBool, mIf, mOp, mUn, mVar, mMap, mCons, mNil, mPure, mStrs, mCall, putSlot, hName, hTup, iRange, iSeq, ltT, leT, lenT, addT, subT, modT, fdivT, negT, absT, seqOf, mTrue, freezeAt, thaw, eqO_int, ht', listT', ht, itemT, ixI]
  · have hb : (((dueT bs hs a p ss).length : Int) == 1) = false := beq_eq_false_iff_ne.mpr (by omega)
    unfold dueT at hb
    rw [List.length_map] at hb
    simp [runFn, sSeq, sIf, sSet, sNew, sRet, sNil, sNx, sRetOwn, sGo, sReverse, sFor, sAppend, sExtend, lstAt, mTest, mNot, mAnd, mOr, mBool, mIf, mOp, mUn, mVar, mMap, mCons, mNil, mPure, mStrs, mCall, putSlot, hName, hTup, iRange, iSeq, ltT, leT, lenT, addT, subT, modT, fdivT, negT, absT, seqOf, mTrue, freezeAt, thaw, eqO_int, hb, listT', h1, tupleT]
    unfold dueT
    rfl
theorem law_stand {cs : List Int} {k : Nat} (okb : okBs bs) (okh : okHs hs) : ∃ s, okSd bs hs s ∧ m_law_stand [scr cs, .int (k : Int), prg bs hs] sto = some (sdT s, sto) := by
  have nb : bs.length < lim := by have := okb.1; show _ < 1000000; omega
  have nh : hs.length < lim := by have := okh.1; show _ < 1000000; omega
  have hc := cell_at (cs := cs) (k := k) (sto := sto)
  generalize cell cs k = v at hc
  have hsg : ∀ j : Int, ∃ r, m_law_signed [.int j, .int 1000000000000000000000000000000] sto = some (.int r, sto) := fun j => signed (by decide)
  obtain ⟨f, hf⟩ : ∃ f : Int → Int, ∀ j, m_law_signed [.int j, .int 1000000000000000000000000000000] sto = some (.int (f j), sto) := ⟨fun j => Classical.choose (hsg j), fun j => Classical.choose_spec (hsg j)⟩
  have hei : ∀ x y : Int, ∃ o : Int, itemT (.lst [.int x, .int y]) (.int (v / 5 % 2)) = some (.int o) := fun x y => either_at
  obtain ⟨g, hg⟩ : ∃ g : Int → Int → Int, ∀ x y, itemT (.lst [.int x, .int y]) (.int (v / 5 % 2)) = some (.int (g x y)) := ⟨fun x y => Classical.choose (hei x y), fun x y => Classical.choose_spec (hei x y)⟩
  let pl : List Int := hs.zipIdx.map fun p => v / (1 + 3 * (p.2 : Int)) % p.1.2
  let vl : List Int := bs.zipIdx.map fun p => g (v / (2 + (p.2 : Int)) % 5 - 2) (f (v / (1 + (p.2 : Int))))
  refine ⟨(pl, vl), ⟨by simp [pl], by simp [vl]⟩, ?_⟩
  let e0 : List Slot := [some (scr cs, false), some (.int k, false), some (prg bs hs, false), some (.int v, false), none, none, none]
  unfold m_law_stand
  simp [runFn, sSeq, sIf, sSet, sNew, sRet, sNil, sNx, sRetOwn, sGo, sReverse, sFor, sAppend, sExtend, lstAt, mTest, mNot, mAnd, mOr, mBool, mIf, mOp, mUn, mVar, mMap, mCons, mNil, mPure, mStrs, mCall, putSlot, hName, hTup, iRange, iSeq, ltT, leT, lenT, addT, subT, modT, fdivT, negT, absT, seqOf, mTrue, freezeAt, thaw, hc]
  generalize hF : mComp 1 _ _ _ _ _ _ = r
  have e := mComp_at hF (fun (p : Hd × Nat) => T.int (p.2 : Int)) (fun p => T.int (v / (1 + 3 * (p.2 : Int)) % p.1.2)) hs.zipIdx ⟨e0, sto⟩ e0 [some (.int v, false), some (prg bs hs, false)] (by simp [runFn, sSeq, sIf, sSet, sNew, sRet, sNil, sNx, sRetOwn, sGo, sReverse, sFor, sAppend, sExtend, lstAt, mTest, mNot, mAnd, mOr, mBool, mIf, mOp, mUn, mVar, mMap, mCons, mNil, mPure, mStrs, mCall, putSlot, hName, hTup, iRange, iSeq, ltT, leT, lenT, addT, subT, modT, fdivT, negT, absT, seqOf, mTrue, freezeAt, thaw, e0, item1, nh]; exact rangeT_zip hs) rfl rfl rfl (by rw [List.length_zipIdx]; exact Nat.le_of_lt nh) (fun p hp pre hl => by
    have hp := List.mem_zipIdx_iff_getElem?.mp hp
    have i1 : itemT (.lst (hs.map hT)) (.int (p.2 : Int)) = some (hT p.1) := itemL_n (by rw [List.getElem?_map, hp]; rfl)
    have hk := (List.getElem?_eq_some_iff.mp hp).1
    have h4 := okh.1
    have hm : 0 < p.1.2 := by have := okh.2.2 p.1 (List.mem_of_getElem? hp); omega
    have b3 : bnd64 3 = true := by decide
    have d1 : 0 < 1 + 3 * (p.2 : Int) := by omega
    have d2 : 1 + 3 * (p.2 : Int) < 1073741824 := by omega
    match pre, hl with
    | [p0], _ => exact ⟨[some (.int p.2, false)], rfl, by simp [runFn, sSeq, sIf, sSet, sNew, sRet, sNil, sNx, sRetOwn, sGo, sReverse, sFor, sAppend, sExtend, lstAt, mTest, mNot, mAnd, mOr, mBool, mIf, mOp, mUn, mVar, mMap, mCons, mNil, mPure, mStrs, mCall, putSlot, hName, hTup, iRange, iSeq, ltT, leT, lenT, addT, subT, modT, fdivT, negT, absT, seqOf, mTrue, freezeAt, thaw], rfl, by simp [runFn, sSeq, sIf, sSet, sNew, sRet, sNil, sNx, sRetOwn, sGo, sReverse, sFor, sAppend, sExtend, lstAt, mTest, mNot, mAnd, mOr, mBool, mIf, mOp, mUn, mVar, mMap, mCons, mNil, mPure, mStrs, mCall, putSlot, hName, hTup, iRange, iSeq, ltT, leT, lenT, addT, subT, modT, fdivT, negT, absT, seqOf, mTrue, freezeAt, thaw, mulT, b3, d1, d2, item1, i1, hT, hm]⟩)
  subst e
  simp [runFn, sSeq, sIf, sSet, sNew, sRet, sNil, sNx, sRetOwn, sGo, sReverse, sFor, sAppend, sExtend, lstAt, mTest, mNot, mAnd, mOr, mBool, mIf, mOp, mUn, mVar, mMap, mCons, mNil, mPure, mStrs, mCall, putSlot, hName, hTup, iRange, iSeq, ltT, leT, lenT, addT, subT, modT, fdivT, negT, absT, seqOf, mTrue, freezeAt, thaw, tupleT, item0, nb, e0]
  generalize hF : forL _ _ _ _ = r
  obtain ⟨rfl, p1⟩ := forL_met hF (fun (p : Bx × Nat) => T.int (p.2 : Int)) bs.zipIdx (fun x => (⟨[some (scr cs, false), some (.int k, false), some (prg bs hs, false), some (.int v, false), some (.tup (pl.map .int), false), some (.lst (x.1.map T.int), true), x.2], sto⟩ : Sta)) (([], none) : List Int × Slot)
    (fun x p => (x.1 ++ [g (v / (2 + (p.2 : Int)) % 5 - 2) (f (v / (1 + (p.2 : Int))))], some (.int p.2, false)))
    (fun l x => x.1.length + l.length = bs.length ∧ ∀ p ∈ l, p.2 < 4) (rangeT_zip bs) (by simp [pl]) ⟨by simp, fun p hp => by
      have hp := List.mem_zipIdx_iff_getElem?.mp hp
      have hk := (List.getElem?_eq_some_iff.mp hp).1
      exact Nat.lt_of_lt_of_le hk okb.1⟩ (by
      rintro p r x ⟨h1, h2⟩
      have h4 := okb.1
      have hp := h2 p List.mem_cons_self
      have hl : x.1.length < lim := by simp only [List.length_cons] at h1; show _ < 1000000; omega
      have d1 : 0 < 1 + (p.2 : Int) := by omega
      have d2 : 1 + (p.2 : Int) < 1073741824 := by omega
      have d3 : 0 < 2 + (p.2 : Int) := by omega
      have d4 : 2 + (p.2 : Int) < 1073741824 := by omega
      refine ⟨⟨_, rfl, ?_⟩, ?_, fun q hq => h2 q (List.mem_cons_of_mem _ hq)⟩
      · simp [runFn, sSeq, sIf, sSet, sNew, sRet, sNil, sNx, sRetOwn, sGo, sReverse, sFor, sAppend, sExtend, lstAt, mTest, mNot, mAnd, mOr, mBool, mIf, mOp, mUn, mVar, mMap, mCons, mNil, mPure, mStrs, mCall, putSlot, hName, hTup, iRange, iSeq, ltT, leT, lenT, addT, subT, modT, fdivT, negT, absT, seqOf, mTrue, freezeAt, thaw, hf, hg, powT, d1, d2, d3, d4, hl]
      · simp only [List.length_cons, List.length_append, List.length_nil] at h1 ⊢; omega)
  have fold1 : ∀ (l : List (Bx × Nat)) (x : List Int × Slot), (l.foldl (fun x p => (x.1 ++ [g (v / (2 + (p.2 : Int)) % 5 - 2) (f (v / (1 + (p.2 : Int))))], some (.int p.2, false))) x).1 = x.1 ++ l.map fun p => g (v / (2 + (p.2 : Int)) % 5 - 2) (f (v / (1 + (p.2 : Int)))) := fun l => by
    induction l with
    | nil => intro x; simp
    | cons p l ih => intro x; rw [List.foldl_cons, ih, List.map_cons, List.append_assoc]; rfl
  generalize hX : List.foldl _ _ _ = X1 at p1
  have e1 : X1.1 = vl := by rw [← hX, fold1]; rfl
  dsimp only
  rw [e1]
  simp [runFn, sSeq, sIf, sSet, sNew, sRet, sNil, sNx, sRetOwn, sGo, sReverse, sFor, sAppend, sExtend, lstAt, mTest, mNot, mAnd, mOr, mBool, mIf, mOp, mUn, mVar, mMap, mCons, mNil, mPure, mStrs, mCall, putSlot, hName, hTup, iRange, iSeq, ltT, leT, lenT, addT, subT, modT, fdivT, negT, absT, seqOf, mTrue, freezeAt, thaw, tupleT, sdT]
end
end K

end

section
set_option linter.all false
set_option maxRecDepth 100000
set_option autoImplicit false
namespace K
open C PySem
section
variable {bs : List Bx} {hs : List Hd} {s : Sd} {a : Nat} {sto : List SO}
theorem pl_most {n k : Int} {b : Str} (h : okS b) : Pl 4 (mostT n b k) := pl_tup (n := 3) fun t ht => by
  simp only [List.mem_cons, List.not_mem_nil, or_false] at ht
  rcases ht with rfl | rfl
  · exact pl_str 3 (by unfold okS; decide +kernel)
  · refine pl_tup (n := 2) fun t ht => ?_
    simp only [List.mem_cons, List.not_mem_nil, or_false] at ht
    rcases ht with rfl | rfl
    · exact pl_int 2 _
    · refine pl_tup (n := 1) fun t ht => ?_
      simp only [List.mem_cons, List.not_mem_nil, or_false] at ht
      subst ht
      refine pl_tup (n := 0) fun t ht => ?_
      simp only [List.mem_cons, List.not_mem_nil, or_false] at ht
      rcases ht with rfl | rfl
      · exact pl_str 0 h
      · exact pl_int 0 _
theorem pl_at {h : Str} {p : Int} (ok : okS h) : Pl 4 (atT h p) := pl_tup (n := 3) fun t ht => by
  simp only [List.mem_cons, List.not_mem_nil, or_false] at ht
  rcases ht with rfl | rfl | rfl
  · exact pl_str 3 (by unfold okS; decide +kernel)
  · exact pl_str 3 ok
  · exact pl_int 3 _
theorem pl_rem (okb : okBs bs) (okh : okHs hs) : Pl 6 (remT bs hs a s) := pl_tup (n := 5) fun t ht => by
  simp only [List.mem_cons, List.not_mem_nil, or_false] at ht
  rcases ht with rfl | rfl
  · exact pl_str 5 (by unfold okS; decide +kernel)
  · refine pl_tup (n := 4) fun t ht => ?_
    rcases List.mem_append.mp ht with h | h
    · obtain ⟨z, hz, h⟩ := List.mem_flatMap.mp h
      have ok := okb.2 z.1 (List.of_mem_zip hz).1
      simp only [boxP, List.mem_cons, List.not_mem_nil, or_false] at h
      rcases h with rfl | rfl <;> exact pl_most ok
    · obtain ⟨z, hz, h⟩ := List.mem_flatMap.mp h
      unfold handP at h
      split at h
      · cases h
      · simp only [List.mem_cons, List.not_mem_nil, or_false] at h
        subst h
        have hz := List.mem_zipIdx_iff_getElem?.mp hz
        exact pl_at (okHs_name okh _ (List.of_mem_zip (List.mem_of_getElem? hz)).1)
theorem pl_listed (okb : okBs bs) (okh : okHs hs) {ss : List Sd} {p : Int} : Pl 8 (listT' (dueT bs hs a p ss)) := by
  have hm : ∀ t ∈ dueT bs hs a p ss, Pl 6 t := fun t ht => by
    obtain ⟨s, _, rfl⟩ := List.mem_map.mp ht
    exact pl_rem okb okh
  unfold listT'
  split
  · rename_i h1
    obtain ⟨t, e⟩ := List.length_eq_one_iff.mp h1
    rw [e] at hm ⊢
    obtain ⟨d, d1, d2⟩ := hm t List.mem_cons_self
    exact ⟨d, d1, by omega⟩
  · refine pl_tup (n := 7) fun t ht => ?_
    simp only [List.mem_cons, List.not_mem_nil, or_false] at ht
    rcases ht with rfl | rfl
    · exact pl_str 7 (by unfold okS; decide +kernel)
    · exact pl_tup (n := 6) hm
theorem pl_stands {ss : List Sd} : Pl 3 (.lst (ss.map sdT)) := pl_lst (n := 2) fun t ht => by
  obtain ⟨s, _, rfl⟩ := List.mem_map.mp ht
  refine pl_tup (n := 1) fun t ht => ?_
  simp only [List.mem_cons, List.not_mem_nil, or_false] at ht
  rcases ht with rfl | rfl <;> refine pl_tup (n := 0) fun t ht => ?_ <;> obtain ⟨i, _, rfl⟩ := List.mem_map.mp ht <;> exact pl_int 0 i
/-- what is found is a tuple, and so is its second part -/
theorem listed_tup {ss : List Sd} {p : Int} : ∃ x xs, listT' (dueT bs hs a p ss) = .tup [x, .tup xs] := by
  unfold listT'
  split
  · rename_i h1
    obtain ⟨t, e⟩ := List.length_eq_one_iff.mp h1
    rw [e]
    have : t ∈ dueT bs hs a p ss := by rw [e]; exact List.mem_cons_self
    obtain ⟨s, _, rfl⟩ := List.mem_map.mp this
    exact ⟨_, _, rfl⟩
  · exact ⟨_, _, rfl⟩
end
theorem itemL0 {a : T} {r : List T} : itemT (.lst (a :: r)) (.int 0) = some a := itemL_n (k := 0) rfl
theorem law_true {cs : List Int} : m_law [scr cs] [] = some (.bl true, []) := by
  have c0 := cell_n (cs := cs) (k := 0) (i := 0) (sto := []) rfl
  generalize cell cs 0 = v at c0
  have n0 : 0 ≤ v % 5 := Int.emod_nonneg _ (by omega)
  have n1 : v % 5 < 5 := Int.emod_lt_of_pos _ (by omega)
  have m0 : 0 ≤ v / 5 % 4 := Int.emod_nonneg _ (by omega)
  have m1 : v / 5 % 4 < 4 := Int.emod_lt_of_pos _ (by omega)
  have q0 : 0 ≤ v / 20 % 13 := Int.emod_nonneg _ (by omega)
  have q1 : v / 20 % 13 < 13 := Int.emod_lt_of_pos _ (by omega)
  generalize hn : v % 5 = n at n0 n1
  generalize hm : 1 + v / 5 % 4 = m at m0 m1
  generalize hq : v / 20 % 13 = q at q0 q1
  have r1 : n.natAbs < lim := by show _ < 1000000; omega
  have r2 : m.natAbs < lim := by show _ < 1000000; omega
  have r3 : q.natAbs < lim := by show _ < 1000000; omega
  have how : ∀ w : Int, ∃ o : Str, itemT (.lst [.str "", .str "q"]) (.int (w % 2)) = some (.str o) := fun w => owner_at
  obtain ⟨ow, how⟩ : ∃ ow : Int → Str, ∀ w, itemT (.lst [.str "", .str "q"]) (.int (w % 2)) = some (.str (ow w)) := ⟨fun w => Classical.choose (how w), fun w => Classical.choose_spec (how w)⟩
  unfold m_law
  simp [runFn, sSeq, sIf, sSet, sNew, sRet, sNil, sNx, sRetOwn, sGo, sReverse, sFor, sAppend, sExtend, lstAt, mTest, mNot, mAnd, mOr, mBool, mIf, mOp, mUn, mVar, mMap, mCons, mNil, mPure, mStrs, mCall, putSlot, hName, hTup, iRange, iSeq, ltT, leT, lenT, addT, subT, modT, fdivT, negT, absT, seqOf, mTrue, freezeAt, thaw, c0, hn, r1]
  generalize hF : forL _ _ _ _ = r
  obtain ⟨rfl, p1⟩ := forL_met hF (fun (k : Nat) => T.int (k : Int)) (List.range n.toNat) (fun x => (⟨[some (scr cs, false), some (.int v, false), some (.lst (x.1.map bT), true), x.2.1, x.2.2, none, none, none, none, none, none, none, none], []⟩ : Sta)) (([], none, none) : List Bx × Slot × Slot)
    (fun x k => (x.1 ++ [(bname k, ow (cell cs (1 + k) / 4))], some (.int (k : Int), false), some (.str (ow (cell cs (1 + k) / 4)), false)))
    (fun l x => x.1.length + l.length ≤ 4 ∧ (∀ k ∈ l, k < 4) ∧ ∀ b ∈ x.1, okS b.1) rfl rfl ⟨by simp; omega, fun k hk => by rw [List.mem_range] at hk; omega, fun b hb => by cases hb⟩ (by
      rintro k r x ⟨h1, h2, h3⟩
      have k4 := h2 k List.mem_cons_self
      have hc := cell_n (cs := cs) (k := 1 + k) (i := 1 + (k : Int)) (sto := []) (by omega)
      have hb := bname_at k4
      have hl : x.1.length < lim := by simp only [List.length_cons] at h1; show _ < 1000000; omega
      refine ⟨⟨_, rfl, ?_⟩, ?_, fun j hj => h2 j (List.mem_cons_of_mem _ hj), ?_⟩
      · simp [runFn, sSeq, sIf, sSet, sNew, sRet, sNil, sNx, sRetOwn, sGo, sReverse, sFor, sAppend, sExtend, lstAt, mTest, mNot, mAnd, mOr, mBool, mIf, mOp, mUn, mVar, mMap, mCons, mNil, mPure, mStrs, mCall, putSlot, hName, hTup, iRange, iSeq, ltT, leT, lenT, addT, subT, modT, fdivT, negT, absT, seqOf, mTrue, freezeAt, thaw, hc, how, hb, powT, hl, bT]
      · simp only [List.length_cons, List.length_append, List.length_nil] at h1 ⊢; omega
      · intro b hb
        rcases List.mem_append.mp hb with z | z
        · exact h3 b z
        · simp only [List.mem_cons, List.not_mem_nil, or_false] at z
          subst z
          exact bname_ok k k4)
  generalize hX : List.foldl _ _ _ = X1 at p1
  obtain ⟨bs, o3, o4⟩ := X1
  have okb : okBs bs := ⟨by have := p1.1; simpa using this, p1.2.2⟩
  clear hX hF p1
  simp [runFn, sSeq, sIf, sSet, sNew, sRet, sNil, sNx, sRetOwn, sGo, sReverse, sFor, sAppend, sExtend, lstAt, mTest, mNot, mAnd, mOr, mBool, mIf, mOp, mUn, mVar, mMap, mCons, mNil, mPure, mStrs, mCall, putSlot, hName, hTup, iRange, iSeq, ltT, leT, lenT, addT, subT, modT, fdivT, negT, absT, seqOf, mTrue, freezeAt, thaw, hm, r2]
  generalize hF : mComp 1 _ _ _ _ _ _ = r
  let hs : List Hd := (List.range m.toNat).map fun k => (hname k, 1 + cell cs (1 + k) % 4)
  have ehs : hs.map hT = (List.range m.toNat).map fun k => hT (hname k, 1 + cell cs (1 + k) % 4) := by simp [hs]
  have e := mComp_at hF (fun (k : Nat) => T.int (k : Int)) (fun k => hT (hname k, 1 + cell cs (1 + k) % 4)) (List.range m.toNat) ⟨[some (scr cs, false), some (.int v, false), some (.lst (bs.map bT), true), o3, o4, none, none, none, none, none, none, none, none], []⟩ [some (scr cs, false), some (.int v, false), some (.lst (bs.map bT), true), o3, o4, none, none, none, none, none, none, none, none] [some (scr cs, false)] (by simp [runFn, sSeq, sIf, sSet, sNew, sRet, sNil, sNx, sRetOwn, sGo, sReverse, sFor, sAppend, sExtend, lstAt, mTest, mNot, mAnd, mOr, mBool, mIf, mOp, mUn, mVar, mMap, mCons, mNil, mPure, mStrs, mCall, putSlot, hName, hTup, iRange, iSeq, ltT, leT, lenT, addT, subT, modT, fdivT, negT, absT, seqOf, mTrue, freezeAt, thaw, hm, r2]; rfl) rfl rfl rfl (by rw [List.length_range]; show _ ≤ 1000000; omega) (fun k hk pre hp => by
    have k4 : k < 4 := by rw [List.mem_range] at hk; omega
    have hc := cell_n (cs := cs) (k := 1 + k) (i := 1 + (k : Int)) (sto := []) (by omega)
    have hb := hname_at k4
    match pre, hp with
    | [p0], _ => exact ⟨[some (.int k, false)], rfl, by simp [runFn, sSeq, sIf, sSet, sNew, sRet, sNil, sNx, sRetOwn, sGo, sReverse, sFor, sAppend, sExtend, lstAt, mTest, mNot, mAnd, mOr, mBool, mIf, mOp, mUn, mVar, mMap, mCons, mNil, mPure, mStrs, mCall, putSlot, hName, hTup, iRange, iSeq, ltT, leT, lenT, addT, subT, modT, fdivT, negT, absT, seqOf, mTrue, freezeAt, thaw], rfl, by simp [runFn, sSeq, sIf, sSet, sNew, sRet, sNil, sNx, sRetOwn, sGo, sReverse, sFor, sAppend, sExtend, lstAt, mTest, mNot, mAnd, mOr, mBool, mIf, mOp, mUn, mVar, mMap, mCons, mNil, mPure, mStrs, mCall, putSlot, hName, hTup, iRange, iSeq, ltT, leT, lenT, addT, subT, modT, fdivT, negT, absT, seqOf, mTrue, freezeAt, thaw, hc, hb, hT]⟩)
  subst e
  rw [← ehs]
  have okh : okHs hs := by
    refine ⟨by simp [hs]; omega, fun k hk => by simp [hs], fun h hh => ?_⟩
    obtain ⟨k, _, rfl⟩ := List.mem_map.mp hh
    have := Int.emod_nonneg (cell cs (1 + k)) (show (4 : Int) ≠ 0 by decide)
    have := Int.emod_lt_of_pos (cell cs (1 + k)) (show (0 : Int) < 4 by decide)
    dsimp only
    omega
  clear_value hs
  clear hF
  simp [runFn, sSeq, sIf, sSet, sNew, sRet, sNil, sNx, sRetOwn, sGo, sReverse, sFor, sAppend, sExtend, lstAt, mTest, mNot, mAnd, mOr, mBool, mIf, mOp, mUn, mVar, mMap, mCons, mNil, mPure, mStrs, mCall, putSlot, hName, hTup, iRange, iSeq, ltT, leT, lenT, addT, subT, modT, fdivT, negT, absT, seqOf, mTrue, freezeAt, thaw, hq, r3]
  generalize hF : mComp 1 _ _ _ _ _ _ = r
  have hst : ∀ k : Nat, ∃ s, okSd bs hs s ∧ m_law_stand [scr cs, .int ((5 + k : Nat) : Int), prg bs hs] [] = some (sdT s, []) := fun k => law_stand okb okh
  obtain ⟨st, hst⟩ : ∃ st : Nat → Sd, ∀ k, okSd bs hs (st k) ∧ m_law_stand [scr cs, .int ((5 + k : Nat) : Int), prg bs hs] [] = some (sdT (st k), []) := ⟨fun k => Classical.choose (hst k), fun k => Classical.choose_spec (hst k)⟩
  let ss : List Sd := (List.range q.toNat).map st
  have ess : ss.map sdT = (List.range q.toNat).map fun k => sdT (st k) := by simp [ss]
  let e6 : List Slot := [some (scr cs, false), some (.int v, false), some (.lst (bs.map bT), false), o3, o4, some (.lst (hs.map hT), false), some (prg bs hs, false)]
  have e := mComp_at hF (fun (k : Nat) => T.int (k : Int)) (fun k => sdT (st k)) (List.range q.toNat) ⟨e6 ++ List.replicate 6 none, []⟩ (e6 ++ List.replicate 6 none) [some (scr cs, false), some (prg bs hs, false)] (by simp [runFn, sSeq, sIf, sSet, sNew, sRet, sNil, sNx, sRetOwn, sGo, sReverse, sFor, sAppend, sExtend, lstAt, mTest, mNot, mAnd, mOr, mBool, mIf, mOp, mUn, mVar, mMap, mCons, mNil, mPure, mStrs, mCall, putSlot, hName, hTup, iRange, iSeq, ltT, leT, lenT, addT, subT, modT, fdivT, negT, absT, seqOf, mTrue, freezeAt, thaw, e6, hq, r3]; rfl) rfl rfl rfl (by rw [List.length_range]; show _ ≤ 1000000; omega) (fun k hk pre hp => by
    have h2 := (hst k).2
    rw [show ((5 + k : Nat) : Int) = 5 + (k : Int) by omega] at h2
    match pre, hp with
    | [p0], _ => exact ⟨[some (.int k, false)], rfl, by simp [runFn, sSeq, sIf, sSet, sNew, sRet, sNil, sNx, sRetOwn, sGo, sReverse, sFor, sAppend, sExtend, lstAt, mTest, mNot, mAnd, mOr, mBool, mIf, mOp, mUn, mVar, mMap, mCons, mNil, mPure, mStrs, mCall, putSlot, hName, hTup, iRange, iSeq, ltT, leT, lenT, addT, subT, modT, fdivT, negT, absT, seqOf, mTrue, freezeAt, thaw], rfl, by simp [runFn, sSeq, sIf, sSet, sNew, sRet, sNil, sNx, sRetOwn, sGo, sReverse, sFor, sAppend, sExtend, lstAt, mTest, mNot, mAnd, mOr, mBool, mIf, mOp, mUn, mVar, mMap, mCons, mNil, mPure, mStrs, mCall, putSlot, hName, hTup, iRange, iSeq, ltT, leT, lenT, addT, subT, modT, fdivT, negT, absT, seqOf, mTrue, freezeAt, thaw, h2]⟩)
  subst e
  rw [← ess]
  have oks : ∀ s ∈ ss, okSd bs hs s := fun s hs' => by
    obtain ⟨k, _, rfl⟩ := List.mem_map.mp hs'
    exact (hst k).1
  have sl : ss.length ≤ 12 := by simp [ss]; omega
  clear_value ss
  clear hF ess hst
  have nh : hs.length < lim := by have := okh.1; show _ < 1000000; omega
  have ns : ss.length < lim := by show _ < 1000000; omega
  simp [runFn, sSeq, sIf, sSet, sNew, sRet, sNil, sNx, sRetOwn, sGo, sReverse, sFor, sAppend, sExtend, lstAt, mTest, mNot, mAnd, mOr, mBool, mIf, mOp, mUn, mVar, mMap, mCons, mNil, mPure, mStrs, mCall, putSlot, hName, hTup, iRange, iSeq, ltT, leT, lenT, addT, subT, modT, fdivT, negT, absT, seqOf, mTrue, freezeAt, thaw, e6, listT, nh]
  let e8 : List Slot := [some (scr cs, false), some (.int v, false), some (.lst (bs.map bT), false), o3, o4, some (.lst (hs.map hT), false), some (prg bs hs, false), some (.lst (ss.map sdT), false), some (.lst (ss.map sdT), false)]
  generalize hF : forL _ _ _ _ = r
  obtain ⟨rfl, p1⟩ := forL_met hF (fun (p : Hd × Nat) => T.int (p.2 : Int)) hs.zipIdx (fun (x : Slot × Slot × Slot × Slot) => (⟨e8 ++ [x.1, x.2.1, x.2.2.1, x.2.2.2], []⟩ : Sta)) (none, none, none, none)
    (fun x p => ((some (T.int p.2, false)), ((List.range p.1.2.toNat).foldl (fun (y : Slot × Slot × Slot) (k : Nat) => (some (T.int (k : Int), false), some (T.lst (dueT bs hs p.2 k ss), false), some (listT' (dueT bs hs p.2 k ss), false))) x.2)))
    (fun l x => ∀ p ∈ l, hs[p.2]? = some p.1) (rangeT_zip hs) rfl (fun p hp => List.mem_zipIdx_iff_getElem?.mp hp) (by
      rintro p r x h2
      have hp := h2 p List.mem_cons_self
      obtain ⟨hk, he⟩ := List.getElem?_eq_some_iff.mp hp
      have hnm : p.1.1 = hname p.2 := by rw [← okh.2.1 p.2 hk, he]
      have i1 : itemT (.lst (hs.map hT)) (.int (p.2 : Int)) = some (hT p.1) := itemL_n (by rw [List.getElem?_map, hp]; rfl)
      have hpl := okh.2.2 p.1 (List.mem_of_getElem? hp)
      have r5 : p.1.2.natAbs < lim := by show _ < 1000000; omega
      refine ⟨⟨_, rfl, ?_⟩, fun q hq => h2 q (List.mem_cons_of_mem _ hq)⟩
      simp [runFn, sSeq, sIf, sSet, sNew, sRet, sNil, sNx, sRetOwn, sGo, sReverse, sFor, sAppend, sExtend, lstAt, mTest, mNot, mAnd, mOr, mBool, mIf, mOp, mUn, mVar, mMap, mCons, mNil, mPure, mStrs, mCall, putSlot, hName, hTup, iRange, iSeq, ltT, leT, lenT, addT, subT, modT, fdivT, negT, absT, seqOf, mTrue, freezeAt, thaw, e8, i1, hT, item1, r5]
      generalize hG : forL _ _ _ _ = r
      obtain ⟨rfl, p2⟩ := forL_met hG (fun (k : Nat) => T.int (k : Int)) (List.range p.1.2.toNat) (fun (y : Slot × Slot × Slot) => (⟨e8 ++ [some (T.int p.2, false), y.1, y.2.1, y.2.2], []⟩ : Sta)) x.2
        (fun y k => (some (T.int (k : Int), false), some (T.lst (dueT bs hs p.2 k ss), false), some (listT' (dueT bs hs p.2 k ss), false))) (fun _ _ => True) rfl rfl trivial (by
          rintro k r y _
          refine ⟨⟨_, rfl, ?_⟩, trivial⟩
          have lr := listed_remark (sto := []) okb okh oks sl hk (p := (k : Int))
          simp [runFn, sSeq, sIf, sSet, sNew, sRet, sNil, sNx, sRetOwn, sGo, sReverse, sFor, sAppend, sExtend, lstAt, mTest, mNot, mAnd, mOr, mBool, mIf, mOp, mUn, mVar, mMap, mCons, mNil, mPure, mStrs, mCall, putSlot, hName, hTup, iRange, iSeq, ltT, leT, lenT, addT, subT, modT, fdivT, negT, absT, seqOf, mTrue, freezeAt, thaw, e8]
          generalize hF : mComp 1 _ _ _ _ _ _ = r
          have e := mComp_met hF sdT (remT bs hs p.2) (stAt p.2 k) ss ⟨e8 ++ [some (T.int p.2, false), some (T.int k, false), y.2.1, y.2.2], []⟩ (e8 ++ [some (T.int p.2, false), some (T.int k, false), y.2.1, y.2.2]) [some (prg bs hs, false), some (.int p.2, false), some (.int k, false)] (by simp [runFn, sSeq, sIf, sSet, sNew, sRet, sNil, sNx, sRetOwn, sGo, sReverse, sFor, sAppend, sExtend, lstAt, mTest, mNot, mAnd, mOr, mBool, mIf, mOp, mUn, mVar, mMap, mCons, mNil, mPure, mStrs, mCall, putSlot, hName, hTup, iRange, iSeq, ltT, leT, lenT, addT, subT, modT, fdivT, negT, absT, seqOf, mTrue, freezeAt, thaw, e8, ns]) rfl rfl rfl (Nat.le_of_lt ns) (fun s hs' pre hp => by
            have ok := oks s hs'
            have pa := place_at ok hk
            have sr := law_remark (a := p.2) (sto := []) okb okh ok
            match pre, hp with
            | [p0], _ => exact ⟨[some (sdT s, false)], rfl, by simp [runFn, sSeq, sIf, sSet, sNew, sRet, sNil, sNx, sRetOwn, sGo, sReverse, sFor, sAppend, sExtend, lstAt, mTest, mNot, mAnd, mOr, mBool, mIf, mOp, mUn, mVar, mMap, mCons, mNil, mPure, mStrs, mCall, putSlot, hName, hTup, iRange, iSeq, ltT, leT, lenT, addT, subT, modT, fdivT, negT, absT, seqOf, mTrue, freezeAt, thaw], by simp [runFn, sSeq, sIf, sSet, sNew, sRet, sNil, sNx, sRetOwn, sGo, sReverse, sFor, sAppend, sExtend, lstAt, mTest, mNot, mAnd, mOr, mBool, mIf, mOp, mUn, mVar, mMap, mCons, mNil, mPure, mStrs, mCall, putSlot, hName, hTup, iRange, iSeq, ltT, leT, lenT, addT, subT, modT, fdivT, negT, absT, seqOf, mTrue, freezeAt, thaw, sdT, item0, pa, eqO_int, stAt], fun _ => by simp [runFn, sSeq, sIf, sSet, sNew, sRet, sNil, sNx, sRetOwn, sGo, sReverse, sFor, sAppend, sExtend, lstAt, mTest, mNot, mAnd, mOr, mBool, mIf, mOp, mUn, mVar, mMap, mCons, mNil, mPure, mStrs, mCall, putSlot, hName, hTup, iRange, iSeq, ltT, leT, lenT, addT, subT, modT, fdivT, negT, absT, seqOf, mTrue, freezeAt, thaw, sr]⟩)
          subst e
          rw [show List.map (remT bs hs p.2) (List.filter (stAt p.2 ↑k) ss) = dueT bs hs p.2 k ss from rfl]
          obtain ⟨tx, txs, etup⟩ := listed_tup (bs := bs) (hs := hs) (a := p.2) (ss := ss) (p := (k : Int))
          have hpl2 := pl_listed (a := p.2) (ss := ss) (p := (k : Int)) okb okh
          have same := neO_same hpl2 (by decide)
          by_cases h1 : (dueT bs hs p.2 k ss).length = 1
          · obtain ⟨t, ht⟩ := List.length_eq_one_iff.mp h1
            have el : listT' (dueT bs hs p.2 k ss) = t := by unfold listT'; rw [if_pos h1, ht]; rfl
            rw [el] at lr same etup ⊢
            subst etup
            simp [runFn, sSeq, sIf, sSet, sNew, sRet, sNil, sNx, sRetOwn, sGo, sReverse, sFor, sAppend, sExtend, lstAt, mTest, mNot, mAnd, mOr, mBool, mIf, mOp, mUn, mVar, mMap, mCons, mNil, mPure, mStrs, mCall, putSlot, hName, hTup, iRange, iSeq, ltT, leT, lenT, addT, subT, modT, fdivT, negT, absT, seqOf, mTrue, freezeAt, thaw, e8, i1, hT, item0, item1, itemL0, hnm, lr, eqO_int, neO_int, ht, same, isTup]
          · have hb : (((dueT bs hs p.2 k ss).length : Int) == 1) = false := beq_eq_false_iff_ne.mpr (by omega)
            have el : listT' (dueT bs hs p.2 k ss) = .tup [.str "or", .tup (dueT bs hs p.2 k ss)] := by unfold listT'; rw [if_neg h1]
            rw [el] at lr same ⊢
            simp [runFn, sSeq, sIf, sSet, sNew, sRet, sNil, sNx, sRetOwn, sGo, sReverse, sFor, sAppend, sExtend, lstAt, mTest, mNot, mAnd, mOr, mBool, mIf, mOp, mUn, mVar, mMap, mCons, mNil, mPure, mStrs, mCall, putSlot, hName, hTup, iRange, iSeq, ltT, leT, lenT, addT, subT, modT, fdivT, negT, absT, seqOf, mTrue, freezeAt, thaw, e8, i1, hT, item0, item1, hnm, lr, eqO_int, neO_int, hb, same, isTup, tupleT])
      simp [runFn, sSeq, sIf, sSet, sNew, sRet, sNil, sNx, sRetOwn, sGo, sReverse, sFor, sAppend, sExtend, lstAt, mTest, mNot, mAnd, mOr, mBool, mIf, mOp, mUn, mVar, mMap, mCons, mNil, mPure, mStrs, mCall, putSlot, hName, hTup, iRange, iSeq, ltT, leT, lenT, addT, subT, modT, fdivT, negT, absT, seqOf, mTrue, freezeAt, thaw, e8])
  have fin := eqO_same (pl_stands (ss := ss)) (by decide)
  simp [runFn, sSeq, sIf, sSet, sNew, sRet, sNil, sNx, sRetOwn, sGo, sReverse, sFor, sAppend, sExtend, lstAt, mTest, mNot, mAnd, mOr, mBool, mIf, mOp, mUn, mVar, mMap, mCons, mNil, mPure, mStrs, mCall, putSlot, hName, hTup, iRange, iSeq, ltT, leT, lenT, addT, subT, modT, fdivT, negT, absT, seqOf, mTrue, freezeAt, thaw, e8, fin]
end K

end

section
set_option Elab.async false
set_option linter.all false
set_option maxRecDepth 100000
set_option maxHeartbeats 1000000
namespace D
open PySem L2 C
def top (i : Nat) : Stmt := PySem.Challenge.pw_calm_k72_listed_remarks.main.body.getD i (.Pass ⟨0, 0, 0, 0⟩)
section

variable {P : Program} {w : World} {K : PySem.W.Frag} {mg : Str → Option Value} {base : Heap} {f : Addr} {fd : FuncData}

abbrev s_at_most : Stmt := top 1
theorem sc_at_most : FnScope ["box", "number"] ["box", "number"] (defScope s_at_most) := ⟨rfl, rfl, rfl, by decide +kernel, rfl, by decide +kernel, by decide +kernel⟩
theorem fo_at_most (F : Fun K "at_most" "at_most" s_at_most f fd) : FnOk P w K mg base CX0 1 f fd ["box", "number"] (spF K (["box", "number"] : List Str).length _root_.K.m_at_most) := by
  refine fn_tree (N := ["box", "number"]) F sc_at_most (by decide)  fun cdv A outer s H E B hr => ?_
  have hu := hu_of hr
  have hq := hr.units
  have nd : (["box", "number"] : List Str).Nodup := sc_at_most.nd
  exact (ts_one (ts_ret (te_tup (ta_cons te_str (ta_cons (te_tup (ta_cons (te_un unT_neg (te_var 1 (pv 1))) (ta_cons (te_tup (ta_cons (te_tup (ta_cons (te_var 0 (pv 0)) (ta_cons te_int ta_nil)) (le1000 (len_cons (len_cons len_nil)) (by decide))) ta_nil) (le1000 (len_cons len_nil) (by decide))) ta_nil)) (le1000 (len_cons (len_cons len_nil)) (by decide))) ta_nil)) (le1000 (len_cons (len_cons len_nil)) (by decide)))))
theorem ok_at_most (F : Fun K "at_most" "at_most" s_at_most f fd) (hmg : mg "at_most" = some (.ref f)) : DefOk P w K mg base "at_most" 1 ["box", "number"] _root_.K.m_at_most :=
  ⟨f, fd, fo_at_most F, F.binds (ps := ["box", "number"]) fun _ _ _ _ _ _ us hl => match us, hl with | [_, _], _ => rfl, F.kp, hmg⟩

abbrev s_at_least : Stmt := top 2
theorem sc_at_least : FnScope ["box", "number"] ["box", "number"] (defScope s_at_least) := ⟨rfl, rfl, rfl, by decide +kernel, rfl, by decide +kernel, by decide +kernel⟩
theorem fo_at_least (F : Fun K "at_least" "at_least" s_at_least f fd) : FnOk P w K mg base CX0 1 f fd ["box", "number"] (spF K (["box", "number"] : List Str).length _root_.K.m_at_least) := by
  refine fn_tree (N := ["box", "number"]) F sc_at_least (by decide)  fun cdv A outer s H E B hr => ?_
  have hu := hu_of hr
  have hq := hr.units
  have nd : (["box", "number"] : List Str).Nodup := sc_at_least.nd
  exact (ts_one (ts_ret (te_tup (ta_cons te_str (ta_cons (te_tup (ta_cons (te_var 1 (pv 1)) (ta_cons (te_tup (ta_cons (te_tup (ta_cons (te_var 0 (pv 0)) (ta_cons (te_un unT_neg te_int) ta_nil)) (le1000 (len_cons (len_cons len_nil)) (by decide))) ta_nil) (le1000 (len_cons len_nil) (by decide))) ta_nil)) (le1000 (len_cons (len_cons len_nil)) (by decide))) ta_nil)) (le1000 (len_cons (len_cons len_nil)) (by decide)))))
theorem ok_at_least (F : Fun K "at_least" "at_least" s_at_least f fd) (hmg : mg "at_least" = some (.ref f)) : DefOk P w K mg base "at_least" 1 ["box", "number"] _root_.K.m_at_least :=
  ⟨f, fd, fo_at_least F, F.binds (ps := ["box", "number"]) fun _ _ _ _ _ _ us hl => match us, hl with | [_, _], _ => rfl, F.kp, hmg⟩

abbrev s_stand_remark : Stmt := top 5
theorem sc_stand_remark : FnScope ["program", "stand", "hand", "members", "box", "number", "other", "place"] ["program", "stand", "hand"] (defScope s_stand_remark) := ⟨rfl, rfl, rfl, by decide +kernel, rfl, by decide +kernel, by decide +kernel⟩
theorem fo_stand_remark (F : Fun K "stand_remark" "stand_remark" s_stand_remark f fd) (d_at_least : DefOk P w K mg base "at_least" 1 ["box", "number"] (_root_.K.m_at_least)) (d_at_most : DefOk P w K mg base "at_most" 1 ["box", "number"] (_root_.K.m_at_most)) (b_tuple : mg "tuple" = none) (b_zip : mg "zip" = none) : FnOk P w K mg base CX0 2 f fd ["program", "stand", "hand"] (spF K (["program", "stand", "hand"] : List Str).length _root_.K.m_stand_remark) := by
  have d_at_least := d_at_least.mono (show 1 ≤ 1 by first | decide | omega)
  have d_at_most := d_at_most.mono (show 1 ≤ 1 by first | decide | omega)
  refine fn_tree (N := ["program", "stand", "hand", "members", "box", "number", "other", "place"]) F sc_stand_remark (by decide)  fun cdv A outer s H E B hr => ?_
  have hu := hu_of hr
  have hq := hr.units
  have nd : (["program", "stand", "hand", "members", "box", "number", "other", "place"] : List Str).Nodup := sc_stand_remark.nd
  exact (ts_cons (ts_new 3 (ps_set nd rfl (Or.inl rfl) (tf_lst ta_nil (le1000 len_nil (by decide)))) (fun _ _ _ h => h))
  (ts_cons (ts_for PassesOwn.never rfl (ti_zip (by rfl) b_zip (te_ix hu (te_var 0 (pv 0)) te_int (fun _ _ => rfl)) (te_ix hu (te_var 1 (pv 1)) te_int (fun _ _ => rfl))) (tg_tup (is := [4, 5]) (pg_tup rfl (pgs_cons (pg_name nd rfl (Or.inl rfl)) (pgs_cons (pg_name nd rfl (Or.inl rfl)) pgs_nil))))
  (ts_cons (ts_append 3 (ps_expr (pe_bm PySem.F.plainAttrs_list PySem.F.slot_list_append PySem.F.type_list_append mt_append (pv 3) (pa_cons (te_callD d_at_most hr (by rfl) (ta_cons (te_ix hu (te_var 4 (pv 4)) te_int (fun _ _ => rfl)) (ta_cons (te_var 5 (pv 5)) ta_nil)) (eq_cons (eq_cons eq_nil))) pa_nil))))
  (ts_one (ts_append 3 (ps_expr (pe_bm PySem.F.plainAttrs_list PySem.F.slot_list_append PySem.F.type_list_append mt_append (pv 3) (pa_cons (te_callD d_at_least hr (by rfl) (ta_cons (te_ix hu (te_var 4 (pv 4)) te_int (fun _ _ => rfl)) (ta_cons (te_var 5 (pv 5)) ta_nil)) (eq_cons (eq_cons eq_nil))) pa_nil)))))) sz_zip)
  (ts_cons (ts_for PassesOwn.never rfl (ti_zip (by rfl) b_zip (te_ix hu (te_var 0 (pv 0)) te_int (fun _ _ => rfl)) (te_ix hu (te_var 1 (pv 1)) te_int (fun _ _ => rfl))) (tg_tup (is := [6, 7]) (pg_tup rfl (pgs_cons (pg_name nd rfl (Or.inl rfl)) (pgs_cons (pg_name nd rfl (Or.inl rfl)) pgs_nil))))
  (ts_one (ts_if (tc_cmp (opT_ne hq) (te_ix hu (te_var 6 (pv 6)) te_int (fun _ _ => rfl)) (te_var 2 (pv 2)) (nomark _))
  (ts_one (ts_append 3 (ps_expr (pe_bm PySem.F.plainAttrs_list PySem.F.slot_list_append PySem.F.type_list_append mt_append (pv 3) (pa_cons (te_tup (ta_cons te_str (ta_cons (te_ix hu (te_var 6 (pv 6)) te_int (fun _ _ => rfl)) (ta_cons (te_var 7 (pv 7)) ta_nil))) (le1000 (len_cons (len_cons (len_cons len_nil))) (by decide))) pa_nil)))))
  ts_nil)) sz_zip)
  (ts_one (ts_ret (te_tup (ta_cons te_str (ta_cons (te_of_cb (pe_callTy callT_tuple (by rfl) b_tuple PyProof.Rows.boot_tuple (ta_cons (te_var 3 (pv 3)) ta_nil))) ta_nil)) (le1000 (len_cons (len_cons len_nil)) (by decide))))))))
theorem ok_stand_remark (F : Fun K "stand_remark" "stand_remark" s_stand_remark f fd) (hmg : mg "stand_remark" = some (.ref f)) (d_at_least : DefOk P w K mg base "at_least" 1 ["box", "number"] (_root_.K.m_at_least)) (d_at_most : DefOk P w K mg base "at_most" 1 ["box", "number"] (_root_.K.m_at_most)) (b_tuple : mg "tuple" = none) (b_zip : mg "zip" = none) : DefOk P w K mg base "stand_remark" 2 ["program", "stand", "hand"] _root_.K.m_stand_remark :=
  ⟨f, fd, fo_stand_remark F d_at_least d_at_most b_tuple b_zip, F.binds (ps := ["program", "stand", "hand"]) fun _ _ _ _ _ _ us hl => match us, hl with | [_, _, _], _ => rfl, F.kp, hmg⟩

abbrev s_listed_remark : Stmt := top 4
theorem sc_listed_remark : FnScope ["program", "stands", "hand", "place", "spot", "listed"] ["program", "stands", "hand", "place"] (defScope s_listed_remark) := ⟨rfl, rfl, rfl, by decide +kernel, rfl, by decide +kernel, by decide +kernel⟩
theorem fo_listed_remark (F : Fun K "listed_remark" "listed_remark" s_listed_remark f fd) (d_stand_remark : DefOk P w K mg base "stand_remark" 2 ["program", "stand", "hand"] (_root_.K.m_stand_remark)) (b_len : mg "len" = none) (b_tuple : mg "tuple" = none) : FnOk P w K mg base CX0 3 f fd ["program", "stands", "hand", "place"] (spF K (["program", "stands", "hand", "place"] : List Str).length _root_.K.m_listed_remark) := by
  have d_stand_remark := d_stand_remark.mono (show 2 ≤ 2 by first | decide | omega)
  refine fn_tree (N := ["program", "stands", "hand", "place", "spot", "listed"]) F sc_listed_remark (by decide)  fun cdv A outer s H E B hr => ?_
  have hu := hu_of hr
  have hq := hr.units
  have nd : (["program", "stands", "hand", "place", "spot", "listed"] : List Str).Nodup := sc_listed_remark.nd
  exact (ts_cons (ts_set 4 (ps_set nd rfl (Or.inr rfl) (te_index hq (te_fresh (tf_comp (N := ["name", "places"]) ⟨rfl, fun j k h => match j, h with | _ + 0, h => (by cases h)⟩ ⟨rfl, rfl, by decide +kernel, by decide +kernel⟩ rfl (ti_seq (te_ix hu (te_var 0 (pv 0)) te_int (fun _ _ => rfl))) sz_seq (fun C s₀ H₀ ex pn => pgE fun B => (tg_tup (is := [0, 1]) (pg_tup rfl (pgs_cons (pg_name (show (["name", "places"] : List Str).Nodup by decide +kernel) rfl (Or.inl rfl)) (pgs_cons (pg_name (show (["name", "places"] : List Str).Nodup by decide +kernel) rfl (Or.inl rfl)) pgs_nil))))) (fun C s₀ H₀ ex pn => ptsE_nil) (fun C s₀ H₀ ex pn => peE fun B => (te_var 0 (pv 0))))) (te_var 2 (pv 2)))) (fun _ _ _ h => h))
  (ts_cons (ts_set 5 (ps_comp (N := ["stand", "program", "hand", "place", "spot"]) ⟨rfl, rfl, by decide +kernel, by decide +kernel⟩ rfl (ti_seq (te_var 1 (pv 1))) (fun C s₀ H₀ ex pn => pgE fun B => (tg_name 0 (pg_name (show (["stand", "program", "hand", "place", "spot"] : List Str).Nodup by decide +kernel) rfl (Or.inl rfl)))) (fun C s₀ H₀ ex pn => (ptsE_one fun B => (tc_cmp (opT_eq hq) (te_ix hu (te_ix hu (te_var 0 (pv 0)) te_int (fun _ _ => rfl)) (te_var 4 (pv 4)) (fun _ _ => rfl)) (te_var 3 (pv 3)) (nomark _)))) (fun C s₀ H₀ ex pn => peE fun B => (te_callD d_stand_remark hr (by rfl) (ta_cons (te_var 1 (pv 1)) (ta_cons (te_var 0 (pv 0)) (ta_cons (te_var 2 (pv 2)) ta_nil))) (eq_cons (eq_cons (eq_cons eq_nil))))) (pg_name nd rfl (Or.inl rfl)) rfl) (fun σ H Q h => comp_f ⟨rfl, fun j k h => match j, h with | 0, h => (by cases h; exact ⟨_, rfl, rfl, ⟨.inl rfl, .inr (.inl rfl), .inl rfl⟩⟩) | 1, h => (by cases h; exact ⟨_, rfl, rfl, ⟨.inl rfl, .inr (.inl rfl), .inl rfl⟩⟩) | 2, h => (by cases h; exact ⟨_, rfl, rfl, ⟨.inl rfl, .inr (.inl rfl), .inl rfl⟩⟩) | 3, h => (by cases h; exact ⟨_, rfl, rfl, ⟨.inl rfl, .inr (.inl rfl), .inl rfl⟩⟩) | _ + 4, h => (by cases h)⟩ sz_seq (f_of_t h)))
  (ts_one (ts_ret (te_ifExp (tc_cmp (opT_eq hq) (te_of_cb (pe_callB callT_len (by rfl) b_len PySem.boot_len (ta_cons (te_var 5 (pv 5)) ta_nil))) te_int (nomark _)) (te_ix hu (te_var 5 (pv 5)) te_int (fun _ _ => rfl)) (te_tup (ta_cons te_str (ta_cons (te_of_cb (pe_callTy callT_tuple (by rfl) b_tuple PyProof.Rows.boot_tuple (ta_cons (te_var 5 (pv 5)) ta_nil))) ta_nil)) (le1000 (len_cons (len_cons len_nil)) (by decide))))))))
theorem ok_listed_remark (F : Fun K "listed_remark" "listed_remark" s_listed_remark f fd) (hmg : mg "listed_remark" = some (.ref f)) (d_stand_remark : DefOk P w K mg base "stand_remark" 2 ["program", "stand", "hand"] (_root_.K.m_stand_remark)) (b_len : mg "len" = none) (b_tuple : mg "tuple" = none) : DefOk P w K mg base "listed_remark" 3 ["program", "stands", "hand", "place"] _root_.K.m_listed_remark :=
  ⟨f, fd, fo_listed_remark F d_stand_remark b_len b_tuple, F.binds (ps := ["program", "stands", "hand", "place"]) fun _ _ _ _ _ _ us hl => match us, hl with | [_, _, _, _], _ => rfl, F.kp, hmg⟩

abbrev s_law_cell_at : Stmt := top 7
theorem sc_law_cell_at : FnScope ["_law_script", "_law_k"] ["_law_script", "_law_k"] (defScope s_law_cell_at) := ⟨rfl, rfl, rfl, by decide +kernel, rfl, by decide +kernel, by decide +kernel⟩
theorem fo_law_cell_at (F : Fun K "_law_cell_at" "_law_cell_at" s_law_cell_at f fd) (b_len : mg "len" = none) : FnOk P w K mg base CX0 1 f fd ["_law_script", "_law_k"] (spF K (["_law_script", "_law_k"] : List Str).length _root_.K.m_law_cell_at) := by
  refine fn_tree (N := ["_law_script", "_law_k"]) F sc_law_cell_at (by decide)  fun cdv A outer s H E B hr => ?_
  have hu := hu_of hr
  have hq := hr.units
  have nd : (["_law_script", "_law_k"] : List Str).Nodup := sc_law_cell_at.nd
  exact (ts_cons (ts_if (tc_cmp opT_lt (te_var 1 (pv 1)) (te_of_cb (pe_callB callT_len (by rfl) b_len PySem.boot_len (ta_cons (te_var 0 (pv 0)) ta_nil))) (nomark _))
  (ts_one (ts_ret (te_ix hu (te_var 0 (pv 0)) (te_var 1 (pv 1)) (fun _ _ => rfl))))
  ts_nil)
  (ts_one (ts_ret te_int)))
theorem ok_law_cell_at (F : Fun K "_law_cell_at" "_law_cell_at" s_law_cell_at f fd) (hmg : mg "_law_cell_at" = some (.ref f)) (b_len : mg "len" = none) : DefOk P w K mg base "_law_cell_at" 1 ["_law_script", "_law_k"] _root_.K.m_law_cell_at :=
  ⟨f, fd, fo_law_cell_at F b_len, F.binds (ps := ["_law_script", "_law_k"]) fun _ _ _ _ _ _ us hl => match us, hl with | [_, _], _ => rfl, F.kp, hmg⟩

abbrev s_law_signed : Stmt := top 8
theorem sc_law_signed : FnScope ["_law_cell", "_law_most"] ["_law_cell", "_law_most"] (defScope s_law_signed) := ⟨rfl, rfl, rfl, by decide +kernel, rfl, by decide +kernel, by decide +kernel⟩
theorem fo_law_signed (F : Fun K "_law_signed" "_law_signed" s_law_signed f fd) : FnOk P w K mg base CX0 1 f fd ["_law_cell", "_law_most"] (spF K (["_law_cell", "_law_most"] : List Str).length _root_.K.m_law_signed) := by
  refine fn_tree (N := ["_law_cell", "_law_most"]) F sc_law_signed (by decide)  fun cdv A outer s H E B hr => ?_
  have hu := hu_of hr
  have hq := hr.units
  have nd : (["_law_cell", "_law_most"] : List Str).Nodup := sc_law_signed.nd
  exact (ts_cons (ts_if (tc_cmp opT_lt (te_var 0 (pv 0)) te_int (nomark _))
  (ts_one (ts_ret (te_un unT_neg (te_op opT_mod (te_un unT_neg (te_var 0 (pv 0))) (te_var 1 (pv 1))))))
  ts_nil)
  (ts_one (ts_ret (te_op opT_mod (te_var 0 (pv 0)) (te_var 1 (pv 1))))))
theorem ok_law_signed (F : Fun K "_law_signed" "_law_signed" s_law_signed f fd) (hmg : mg "_law_signed" = some (.ref f)) : DefOk P w K mg base "_law_signed" 1 ["_law_cell", "_law_most"] _root_.K.m_law_signed :=
  ⟨f, fd, fo_law_signed F, F.binds (ps := ["_law_cell", "_law_most"]) fun _ _ _ _ _ _ us hl => match us, hl with | [_, _], _ => rfl, F.kp, hmg⟩

abbrev s_law_stand : Stmt := top 9
theorem sc_law_stand : FnScope ["_law_script", "_law_k", "_law_program", "_law_cell", "_law_places", "_law_values", "_law_j"] ["_law_script", "_law_k", "_law_program"] (defScope s_law_stand) := ⟨rfl, rfl, rfl, by decide +kernel, rfl, by decide +kernel, by decide +kernel⟩
theorem fo_law_stand (F : Fun K "_law_stand" "_law_stand" s_law_stand f fd) (d_law_cell_at : DefOk P w K mg base "_law_cell_at" 1 ["_law_script", "_law_k"] (_root_.K.m_law_cell_at)) (d_law_signed : DefOk P w K mg base "_law_signed" 1 ["_law_cell", "_law_most"] (_root_.K.m_law_signed)) (b_len : mg "len" = none) (b_range : mg "range" = none) (b_tuple : mg "tuple" = none) : FnOk P w K mg base CX0 2 f fd ["_law_script", "_law_k", "_law_program"] (spF K (["_law_script", "_law_k", "_law_program"] : List Str).length _root_.K.m_law_stand) := by
  have d_law_cell_at := d_law_cell_at.mono (show 1 ≤ 1 by first | decide | omega)
  have d_law_signed := d_law_signed.mono (show 1 ≤ 1 by first | decide | omega)
  refine fn_tree (N := ["_law_script", "_law_k", "_law_program", "_law_cell", "_law_places", "_law_values", "_law_j"]) F sc_law_stand (by decide)  fun cdv A outer s H E B hr => ?_
  have hu := hu_of hr
  have hq := hr.units
  have nd : (["_law_script", "_law_k", "_law_program", "_law_cell", "_law_places", "_law_values", "_law_j"] : List Str).Nodup := sc_law_stand.nd
  exact (ts_cons (ts_set 3 (ps_set nd rfl (Or.inr rfl) (te_callD d_law_cell_at hr (by rfl) (ta_cons (te_var 0 (pv 0)) (ta_cons (te_var 1 (pv 1)) ta_nil)) (eq_cons (eq_cons eq_nil)))) (fun _ _ _ h => h))
  (ts_cons (ts_set 4 (ps_set nd rfl (Or.inl rfl) (te_of_cb (pe_callTy callT_tuple (by rfl) b_tuple PyProof.Rows.boot_tuple (ta_cons (te_fresh (tf_comp (N := ["_law_j", "_law_cell", "_law_program"]) ⟨rfl, fun j k h => match j, h with | 0, h => (by cases h; exact ⟨_, rfl, rfl, ⟨.inl rfl, .inr (.inl rfl), .inl rfl⟩⟩) | 1, h => (by cases h; exact ⟨_, rfl, rfl, ⟨.inl rfl, .inr (.inl rfl), .inl rfl⟩⟩) | _ + 2, h => (by cases h)⟩ ⟨rfl, rfl, by decide +kernel, by decide +kernel⟩ rfl (ti_range (by rfl) b_range (te_of_cb (pe_callB callT_len (by rfl) b_len PySem.boot_len (ta_cons (te_ix hu (te_var 2 (pv 2)) te_int (fun _ _ => rfl)) ta_nil)))) sz_range (fun C s₀ H₀ ex pn => pgE fun B => (tg_name 0 (pg_name (show (["_law_j", "_law_cell", "_law_program"] : List Str).Nodup by decide +kernel) rfl (Or.inl rfl)))) (fun C s₀ H₀ ex pn => ptsE_nil) (fun C s₀ H₀ ex pn => peE fun B => (te_op opT_mod (te_op opT_fdiv (te_var 1 (pv 1)) (te_op opT_add te_int (te_op opT_mul te_int (te_var 0 (pv 0))))) (te_ix hu (te_ix hu (te_ix hu (te_var 2 (pv 2)) te_int (fun _ _ => rfl)) (te_var 0 (pv 0)) (fun _ _ => rfl)) te_int (fun _ _ => rfl)))))) ta_nil)))) (fun _ _ _ h => h))
  (ts_cons (ts_new 5 (ps_set nd rfl (Or.inl rfl) (tf_lst ta_nil (le1000 len_nil (by decide)))) (fun _ _ _ h => h))
  (ts_cons (ts_for PassesOwn.never rfl (ti_range (by rfl) b_range (te_of_cb (pe_callB callT_len (by rfl) b_len PySem.boot_len (ta_cons (te_ix hu (te_var 2 (pv 2)) te_int (fun _ _ => rfl)) ta_nil)))) (tg_name 6 (pg_name nd rfl (Or.inl rfl)))
  (ts_one (ts_append 5 (ps_expr (pe_bm PySem.F.plainAttrs_list PySem.F.slot_list_append PySem.F.type_list_append mt_append (pv 5) (pa_cons (te_ix hu (te_lst (ta_cons (te_op opT_sub (te_op opT_mod (te_op opT_fdiv (te_var 3 (pv 3)) (te_op opT_add te_int (te_var 6 (pv 6)))) te_int) te_int) (ta_cons (te_callD d_law_signed hr (by rfl) (ta_cons (te_op opT_fdiv (te_var 3 (pv 3)) (te_op opT_add te_int (te_var 6 (pv 6)))) (ta_cons (te_op opT_pow te_int te_int) ta_nil)) (eq_cons (eq_cons eq_nil))) ta_nil)) (le1000 (len_cons (len_cons len_nil)) (by decide))) (te_op opT_mod (te_op opT_fdiv (te_var 3 (pv 3)) te_int) te_int) (fun _ _ => rfl)) pa_nil))))) sz_range)
  (ts_one (ts_ret (te_tup (ta_cons (te_var 4 (pv 4)) (ta_cons (te_of_cb (pe_callTy callT_tuple (by rfl) b_tuple PyProof.Rows.boot_tuple (ta_cons (te_var 5 (pv 5)) ta_nil))) ta_nil)) (le1000 (len_cons (len_cons len_nil)) (by decide)))))))))
theorem ok_law_stand (F : Fun K "_law_stand" "_law_stand" s_law_stand f fd) (hmg : mg "_law_stand" = some (.ref f)) (d_law_cell_at : DefOk P w K mg base "_law_cell_at" 1 ["_law_script", "_law_k"] (_root_.K.m_law_cell_at)) (d_law_signed : DefOk P w K mg base "_law_signed" 1 ["_law_cell", "_law_most"] (_root_.K.m_law_signed)) (b_len : mg "len" = none) (b_range : mg "range" = none) (b_tuple : mg "tuple" = none) : DefOk P w K mg base "_law_stand" 2 ["_law_script", "_law_k", "_law_program"] _root_.K.m_law_stand :=
  ⟨f, fd, fo_law_stand F d_law_cell_at d_law_signed b_len b_range b_tuple, F.binds (ps := ["_law_script", "_law_k", "_law_program"]) fun _ _ _ _ _ _ us hl => match us, hl with | [_, _, _], _ => rfl, F.kp, hmg⟩

abbrev s_law_remark : Stmt := top 10
theorem sc_law_remark : FnScope ["_law_program", "_law_at", "_law_stand_here", "_law_parts", "_law_j"] ["_law_program", "_law_at", "_law_stand_here"] (defScope s_law_remark) := ⟨rfl, rfl, rfl, by decide +kernel, rfl, by decide +kernel, by decide +kernel⟩
theorem fo_law_remark (F : Fun K "_law_remark" "_law_remark" s_law_remark f fd) (b_len : mg "len" = none) (b_range : mg "range" = none) (b_tuple : mg "tuple" = none) : FnOk P w K mg base CX0 1 f fd ["_law_program", "_law_at", "_law_stand_here"] (spF K (["_law_program", "_law_at", "_law_stand_here"] : List Str).length _root_.K.m_law_remark) := by
  refine fn_tree (N := ["_law_program", "_law_at", "_law_stand_here", "_law_parts", "_law_j"]) F sc_law_remark (by decide)  fun cdv A outer s H E B hr => ?_
  have hu := hu_of hr
  have hq := hr.units
  have nd : (["_law_program", "_law_at", "_law_stand_here", "_law_parts", "_law_j"] : List Str).Nodup := sc_law_remark.nd
  exact (ts_cons (ts_new 3 (ps_set nd rfl (Or.inl rfl) (tf_lst ta_nil (le1000 len_nil (by decide)))) (fun _ _ _ h => h))
  (ts_cons (ts_for PassesOwn.never rfl (ti_range (by rfl) b_range (te_of_cb (pe_callB callT_len (by rfl) b_len PySem.boot_len (ta_cons (te_ix hu (te_var 0 (pv 0)) te_int (fun _ _ => rfl)) ta_nil)))) (tg_name 4 (pg_name nd rfl (Or.inl rfl)))
  (ts_cons (ts_append 3 (ps_expr (pe_bm PySem.F.plainAttrs_list PySem.F.slot_list_append PySem.F.type_list_append mt_append (pv 3) (pa_cons (te_tup (ta_cons te_str (ta_cons (te_tup (ta_cons (te_un unT_neg (te_ix hu (te_ix hu (te_var 2 (pv 2)) te_int (fun _ _ => rfl)) (te_var 4 (pv 4)) (fun _ _ => rfl))) (ta_cons (te_tup (ta_cons (te_tup (ta_cons (te_ix hu (te_ix hu (te_ix hu (te_var 0 (pv 0)) te_int (fun _ _ => rfl)) (te_var 4 (pv 4)) (fun _ _ => rfl)) te_int (fun _ _ => rfl)) (ta_cons te_int ta_nil)) (le1000 (len_cons (len_cons len_nil)) (by decide))) ta_nil) (le1000 (len_cons len_nil) (by decide))) ta_nil)) (le1000 (len_cons (len_cons len_nil)) (by decide))) ta_nil)) (le1000 (len_cons (len_cons len_nil)) (by decide))) pa_nil))))
  (ts_one (ts_append 3 (ps_expr (pe_bm PySem.F.plainAttrs_list PySem.F.slot_list_append PySem.F.type_list_append mt_append (pv 3) (pa_cons (te_tup (ta_cons te_str (ta_cons (te_tup (ta_cons (te_ix hu (te_ix hu (te_var 2 (pv 2)) te_int (fun _ _ => rfl)) (te_var 4 (pv 4)) (fun _ _ => rfl)) (ta_cons (te_tup (ta_cons (te_tup (ta_cons (te_ix hu (te_ix hu (te_ix hu (te_var 0 (pv 0)) te_int (fun _ _ => rfl)) (te_var 4 (pv 4)) (fun _ _ => rfl)) te_int (fun _ _ => rfl)) (ta_cons (te_un unT_neg te_int) ta_nil)) (le1000 (len_cons (len_cons len_nil)) (by decide))) ta_nil) (le1000 (len_cons len_nil) (by decide))) ta_nil)) (le1000 (len_cons (len_cons len_nil)) (by decide))) ta_nil)) (le1000 (len_cons (len_cons len_nil)) (by decide))) pa_nil)))))) sz_range)
  (ts_cons (ts_for PassesOwn.never rfl (ti_range (by rfl) b_range (te_of_cb (pe_callB callT_len (by rfl) b_len PySem.boot_len (ta_cons (te_ix hu (te_var 0 (pv 0)) te_int (fun _ _ => rfl)) ta_nil)))) (tg_name 4 (pg_name nd rfl (Or.inl rfl)))
  (ts_one (ts_if (tc_cmp (opT_ne hq) (te_var 4 (pv 4)) (te_var 1 (pv 1)) (nomark _))
  (ts_one (ts_append 3 (ps_expr (pe_bm PySem.F.plainAttrs_list PySem.F.slot_list_append PySem.F.type_list_append mt_append (pv 3) (pa_cons (te_tup (ta_cons te_str (ta_cons (te_ix hu (te_ix hu (te_ix hu (te_var 0 (pv 0)) te_int (fun _ _ => rfl)) (te_var 4 (pv 4)) (fun _ _ => rfl)) te_int (fun _ _ => rfl)) (ta_cons (te_ix hu (te_ix hu (te_var 2 (pv 2)) te_int (fun _ _ => rfl)) (te_var 4 (pv 4)) (fun _ _ => rfl)) ta_nil))) (le1000 (len_cons (len_cons (len_cons len_nil))) (by decide))) pa_nil)))))
  ts_nil)) sz_range)
  (ts_one (ts_ret (te_tup (ta_cons te_str (ta_cons (te_of_cb (pe_callTy callT_tuple (by rfl) b_tuple PyProof.Rows.boot_tuple (ta_cons (te_var 3 (pv 3)) ta_nil))) ta_nil)) (le1000 (len_cons (len_cons len_nil)) (by decide))))))))
theorem ok_law_remark (F : Fun K "_law_remark" "_law_remark" s_law_remark f fd) (hmg : mg "_law_remark" = some (.ref f)) (b_len : mg "len" = none) (b_range : mg "range" = none) (b_tuple : mg "tuple" = none) : DefOk P w K mg base "_law_remark" 1 ["_law_program", "_law_at", "_law_stand_here"] _root_.K.m_law_remark :=
  ⟨f, fd, fo_law_remark F b_len b_range b_tuple, F.binds (ps := ["_law_program", "_law_at", "_law_stand_here"]) fun _ _ _ _ _ _ us hl => match us, hl with | [_, _, _], _ => rfl, F.kp, hmg⟩

abbrev s_law : Stmt := top 11
theorem sc_law : FnScope ["_law_script", "_law_first", "_law_boxes", "_law_k", "_law_owner", "_law_hands", "_law_program", "_law_stands", "_law_kept", "_law_at", "_law_place", "_law_due", "_law_found"] ["_law_script"] (defScope s_law) := ⟨rfl, rfl, rfl, by decide +kernel, rfl, by decide +kernel, by decide +kernel⟩
theorem fo_law (F : Fun K "law" "law" s_law f fd) (d_law_cell_at : DefOk P w K mg base "_law_cell_at" 1 ["_law_script", "_law_k"] (_root_.K.m_law_cell_at)) (d_law_remark : DefOk P w K mg base "_law_remark" 1 ["_law_program", "_law_at", "_law_stand_here"] (_root_.K.m_law_remark)) (d_law_stand : DefOk P w K mg base "_law_stand" 2 ["_law_script", "_law_k", "_law_program"] (_root_.K.m_law_stand)) (d_listed_remark : DefOk P w K mg base "listed_remark" 3 ["program", "stands", "hand", "place"] (_root_.K.m_listed_remark)) (b_isinstance : mg "isinstance" = none) (b_len : mg "len" = none) (b_list : mg "list" = none) (b_range : mg "range" = none) (b_tuple : mg "tuple" = none) : FnOk P w K mg base CX0 4 f fd ["_law_script"] (spF K (["_law_script"] : List Str).length _root_.K.m_law) := by
  have d_law_cell_at := d_law_cell_at.mono (show 1 ≤ 3 by first | decide | omega)
  have d_law_remark := d_law_remark.mono (show 1 ≤ 3 by first | decide | omega)
  have d_law_stand := d_law_stand.mono (show 2 ≤ 3 by first | decide | omega)
  have d_listed_remark := d_listed_remark.mono (show 3 ≤ 3 by first | decide | omega)
  refine fn_tree (N := ["_law_script", "_law_first", "_law_boxes", "_law_k", "_law_owner", "_law_hands", "_law_program", "_law_stands", "_law_kept", "_law_at", "_law_place", "_law_due", "_law_found"]) F sc_law (by decide)  fun cdv A outer s H E B hr => ?_
  have hu := hu_of hr
  have hq := hr.units
  have nd : (["_law_script", "_law_first", "_law_boxes", "_law_k", "_law_owner", "_law_hands", "_law_program", "_law_stands", "_law_kept", "_law_at", "_law_place", "_law_due", "_law_found"] : List Str).Nodup := sc_law.nd
  exact (ts_cons (ts_set 1 (ps_set nd rfl (Or.inl rfl) (te_callD d_law_cell_at hr (by rfl) (ta_cons (te_var 0 (pv 0)) (ta_cons te_int ta_nil)) (eq_cons (eq_cons eq_nil)))) (fun _ _ _ h => h))
  (ts_cons (ts_new 2 (ps_set nd rfl (Or.inl rfl) (tf_lst ta_nil (le1000 len_nil (by decide)))) (fun _ _ _ h => h))
  (ts_cons (ts_for PassesOwn.never rfl (ti_range (by rfl) b_range (te_op opT_mod (te_var 1 (pv 1)) te_int)) (tg_name 3 (pg_name nd rfl (Or.inl rfl)))
  (ts_cons (ts_set 4 (ps_set nd rfl (Or.inl rfl) (te_ix hu (te_lst (ta_cons te_str (ta_cons te_str ta_nil)) (le1000 (len_cons (len_cons len_nil)) (by decide))) (te_op opT_mod (te_op opT_fdiv (te_callD d_law_cell_at hr (by rfl) (ta_cons (te_var 0 (pv 0)) (ta_cons (te_op opT_add te_int (te_var 3 (pv 3))) ta_nil)) (eq_cons (eq_cons eq_nil))) te_int) te_int) (fun _ _ => rfl))) (fun _ _ _ h => h))
  (ts_one (ts_append 2 (ps_expr (pe_bm PySem.F.plainAttrs_list PySem.F.slot_list_append PySem.F.type_list_append mt_append (pv 2) (pa_cons (te_tup (ta_cons (te_ix hu (te_lst (ta_strs (.cons (.cons (.cons (.cons .nil))))) (le1000 (len_strs _) (by decide))) (te_var 3 (pv 3)) (fun _ _ => rfl)) (ta_cons (te_var 4 (pv 4)) (ta_cons (te_un unT_neg (te_op opT_pow te_int te_int)) (ta_cons (te_op opT_pow te_int te_int) (ta_cons te_int ta_nil))))) (le1000 (len_cons (len_cons (len_cons (len_cons (len_cons len_nil))))) (by decide))) pa_nil)))))) sz_range)
  (ts_cons (ts_set 5 (ps_comp (N := ["_law_k", "_law_script"]) ⟨rfl, rfl, by decide +kernel, by decide +kernel⟩ rfl (ti_range (by rfl) b_range (te_op opT_add te_int (te_op opT_mod (te_op opT_fdiv (te_var 1 (pv 1)) te_int) te_int))) (fun C s₀ H₀ ex pn => pgE fun B => (tg_name 0 (pg_name (show (["_law_k", "_law_script"] : List Str).Nodup by decide +kernel) rfl (Or.inl rfl)))) (fun C s₀ H₀ ex pn => ptsE_nil) (fun C s₀ H₀ ex pn => peE fun B => (te_tup (ta_cons (te_ix hu (te_lst (ta_strs (.cons (.cons (.cons (.cons .nil))))) (le1000 (len_strs _) (by decide))) (te_var 0 (pv 0)) (fun _ _ => rfl)) (ta_cons (te_op opT_add te_int (te_op opT_mod (te_callD d_law_cell_at hr (by rfl) (ta_cons (te_var 1 (pv 1)) (ta_cons (te_op opT_add te_int (te_var 0 (pv 0))) ta_nil)) (eq_cons (eq_cons eq_nil))) te_int)) ta_nil)) (le1000 (len_cons (len_cons len_nil)) (by decide)))) (pg_name nd rfl (Or.inl rfl)) rfl) (fun σ H Q h => comp_f ⟨rfl, fun j k h => match j, h with | 0, h => (by cases h; exact ⟨_, rfl, rfl, ⟨.inl rfl, .inr (.inl rfl), .inl rfl⟩⟩) | _ + 1, h => (by cases h)⟩ sz_range (f_of_t h)))
  (ts_cons (ts_set 6 (ps_set nd rfl (Or.inr rfl) (te_tup (ta_cons (te_var 2 (pv 2)) (ta_cons (te_var 5 (pv 5)) (ta_cons (te_lst ta_nil (le1000 len_nil (by decide))) (ta_cons (te_tup ta_nil (le1000 len_nil (by decide))) ta_nil)))) (le1000 (len_cons (len_cons (len_cons (len_cons len_nil)))) (by decide)))) (fun _ _ _ h => h))
  (ts_cons (ts_set 7 (ps_comp (N := ["_law_k", "_law_script", "_law_program"]) ⟨rfl, rfl, by decide +kernel, by decide +kernel⟩ rfl (ti_range (by rfl) b_range (te_op opT_mod (te_op opT_fdiv (te_var 1 (pv 1)) te_int) te_int)) (fun C s₀ H₀ ex pn => pgE fun B => (tg_name 0 (pg_name (show (["_law_k", "_law_script", "_law_program"] : List Str).Nodup by decide +kernel) rfl (Or.inl rfl)))) (fun C s₀ H₀ ex pn => ptsE_nil) (fun C s₀ H₀ ex pn => peE fun B => (te_callD d_law_stand hr (by rfl) (ta_cons (te_var 1 (pv 1)) (ta_cons (te_op opT_add te_int (te_var 0 (pv 0))) (ta_cons (te_var 2 (pv 2)) ta_nil))) (eq_cons (eq_cons (eq_cons eq_nil))))) (pg_name nd rfl (Or.inl rfl)) rfl) (fun σ H Q h => comp_f ⟨rfl, fun j k h => match j, h with | 0, h => (by cases h; exact ⟨_, rfl, rfl, ⟨.inl rfl, .inr (.inl rfl), .inl rfl⟩⟩) | 1, h => (by cases h; exact ⟨_, rfl, rfl, ⟨.inl rfl, .inr (.inl rfl), .inl rfl⟩⟩) | _ + 2, h => (by cases h)⟩ sz_range (f_of_t h)))
  (ts_cons (ts_set 8 (ps_set nd rfl (Or.inl rfl) (te_of_cb (pe_callTy callT_list (by rfl) b_list PyProof.Rows.boot_list (ta_cons (te_var 7 (pv 7)) ta_nil)))) (fun _ _ _ h => h))
  (ts_cons (ts_for PassesOwn.never rfl (ti_range (by rfl) b_range (te_of_cb (pe_callB callT_len (by rfl) b_len PySem.boot_len (ta_cons (te_var 5 (pv 5)) ta_nil)))) (tg_name 9 (pg_name nd rfl (Or.inr rfl)))
  (ts_one (ts_for PassesOwn.never rfl (ti_range (by rfl) b_range (te_ix hu (te_ix hu (te_var 5 (pv 5)) (te_var 9 (pv 9)) (fun _ _ => rfl)) te_int (fun _ _ => rfl))) (tg_name 10 (pg_name nd rfl (Or.inr rfl)))
  (ts_cons (ts_set 11 (ps_comp (N := ["_law_stand_here", "_law_program", "_law_at", "_law_place"]) ⟨rfl, rfl, by decide +kernel, by decide +kernel⟩ rfl (ti_seq (te_var 7 (pv 7))) (fun C s₀ H₀ ex pn => pgE fun B => (tg_name 0 (pg_name (show (["_law_stand_here", "_law_program", "_law_at", "_law_place"] : List Str).Nodup by decide +kernel) rfl (Or.inl rfl)))) (fun C s₀ H₀ ex pn => (ptsE_one fun B => (tc_cmp (opT_eq hq) (te_ix hu (te_ix hu (te_var 0 (pv 0)) te_int (fun _ _ => rfl)) (te_var 2 (pv 2)) (fun _ _ => rfl)) (te_var 3 (pv 3)) (nomark _)))) (fun C s₀ H₀ ex pn => peE fun B => (te_callD d_law_remark hr (by rfl) (ta_cons (te_var 1 (pv 1)) (ta_cons (te_var 2 (pv 2)) (ta_cons (te_var 0 (pv 0)) ta_nil))) (eq_cons (eq_cons (eq_cons eq_nil))))) (pg_name nd rfl (Or.inl rfl)) rfl) (fun σ H Q h => comp_f ⟨rfl, fun j k h => match j, h with | 0, h => (by cases h; exact ⟨_, rfl, rfl, ⟨.inl rfl, .inr (.inl rfl), .inl rfl⟩⟩) | 1, h => (by cases h; exact ⟨_, rfl, rfl, ⟨.inl rfl, .inr (.inl rfl), .inl rfl⟩⟩) | 2, h => (by cases h; exact ⟨_, rfl, rfl, ⟨.inl rfl, .inr (.inl rfl), .inl rfl⟩⟩) | _ + 3, h => (by cases h)⟩ sz_seq (f_of_t h)))
  (ts_cons (ts_set 12 (ps_set nd rfl (Or.inl rfl) (te_callD d_listed_remark hr (by rfl) (ta_cons (te_var 6 (pv 6)) (ta_cons (te_var 7 (pv 7)) (ta_cons (te_ix hu (te_ix hu (te_var 5 (pv 5)) (te_var 9 (pv 9)) (fun _ _ => rfl)) te_int (fun _ _ => rfl)) (ta_cons (te_var 10 (pv 10)) ta_nil)))) (eq_cons (eq_cons (eq_cons (eq_cons eq_nil)))))) (fun _ _ _ h => h))
  (ts_cons (ts_if (PW.pt (tc_and (tc_cmp (opT_eq hq) (te_of_cb (pe_callB callT_len (by rfl) b_len PySem.boot_len (ta_cons (te_var 11 (pv 11)) ta_nil))) te_int (nomark _)) (tc_and1 (tc_cmp (opT_ne hq) (te_var 12 (pv 12)) (te_ix hu (te_var 11 (pv 11)) te_int (fun _ _ => rfl)) (nomark _)))))
  (ts_one (ts_ret te_bl))
  ts_nil)
  (ts_cons (ts_if (PW.pt (tc_and (tc_cmp (opT_ne hq) (te_of_cb (pe_callB callT_len (by rfl) b_len PySem.boot_len (ta_cons (te_var 11 (pv 11)) ta_nil))) te_int (nomark _)) (tc_and1 (tc_cmp (opT_ne hq) (te_var 12 (pv 12)) (te_tup (ta_cons te_str (ta_cons (te_of_cb (pe_callTy callT_tuple (by rfl) b_tuple PyProof.Rows.boot_tuple (ta_cons (te_var 11 (pv 11)) ta_nil))) ta_nil)) (le1000 (len_cons (len_cons len_nil)) (by decide))) (nomark _)))))
  (ts_one (ts_ret te_bl))
  ts_nil)
  (ts_one (ts_if (PW.pt (tc_or (tc_not (tc_val (te_isi_tuple (by rfl) b_isinstance (by rfl) b_tuple (te_var 12 (pv 12))))) (tc_or1 (tc_not (tc_val (te_isi_tuple (by rfl) b_isinstance (by rfl) b_tuple (te_ix hu (te_var 12 (pv 12)) te_int (fun _ _ => rfl))))))))
  (ts_one (ts_ret te_bl))
  ts_nil)))))) sz_range)) sz_range)
  (ts_one (ts_ret (te_cmp (opT_eq hq) (te_var 7 (pv 7)) (te_var 8 (pv 8)) (nomark _))))))))))))
theorem ok_law (F : Fun K "law" "law" s_law f fd) (hmg : mg "law" = some (.ref f)) (d_law_cell_at : DefOk P w K mg base "_law_cell_at" 1 ["_law_script", "_law_k"] (_root_.K.m_law_cell_at)) (d_law_remark : DefOk P w K mg base "_law_remark" 1 ["_law_program", "_law_at", "_law_stand_here"] (_root_.K.m_law_remark)) (d_law_stand : DefOk P w K mg base "_law_stand" 2 ["_law_script", "_law_k", "_law_program"] (_root_.K.m_law_stand)) (d_listed_remark : DefOk P w K mg base "listed_remark" 3 ["program", "stands", "hand", "place"] (_root_.K.m_listed_remark)) (b_isinstance : mg "isinstance" = none) (b_len : mg "len" = none) (b_list : mg "list" = none) (b_range : mg "range" = none) (b_tuple : mg "tuple" = none) : DefOk P w K mg base "law" 4 ["_law_script"] _root_.K.m_law :=
  ⟨f, fd, fo_law F d_law_cell_at d_law_remark d_law_stand d_listed_remark b_isinstance b_len b_list b_range b_tuple, F.binds (ps := ["_law_script"]) fun _ _ _ _ _ _ us hl => match us, hl with | [_], _ => rfl, F.kp, hmg⟩

end
end D

end

section
set_option Elab.async false
set_option linter.all false
set_option maxRecDepth 100000
set_option maxHeartbeats 1000000
namespace D
open PySem L2 C
theorem all_mk {l : PySem.W.OpenLaw} {w : World} {K : PySem.W.Frag} {h : Heap} {mg : Str → Option Value} {fa f1 f2 f3 f4 f5 f6 f7 f8 f9 : Addr} (X : K.In h) (G : h.Ns mainGlobals mg) (hfa : mg "law" = some (.ref fa))
    {od1 an1 od2 an2 od3 an3 od4 an4 od5 an5 od6 an6 od7 an7 od8 an8 od9 an9 : Option Addr} {sl1 sl2 sl3 sl4 sl5 sl6 sl7 sl8 sl9 : Array (Option Value)} {oc1 kV1 dc1 pm1 cd1 ct1 oc2 kV2 dc2 pm2 cd2 ct2 oc3 kV3 dc3 pm3 cd3 ct3 oc4 kV4 dc4 pm4 cd4 ct4 oc5 kV5 dc5 pm5 cd5 ct5 oc6 kV6 dc6 pm6 cd6 ct6 oc7 kV7 dc7 pm7 cd7 ct7 oc8 kV8 dc8 pm8 cd8 ct8 oc9 kV9 dc9 pm9 cd9 ct9 : Value}
    (a1 : PySem.W.nsIn K mainGlobals "at_most" = some (some (.ref f1))) (l1 : K.lookup f1 = some ⟨oc1, od1, .func (PySem.W.fnOf "at_most" "at_most" (defArgs s_at_most) (defBody s_at_most) (defScope s_at_most) .none kV1 dc1 pm1 an1 cd1 ct1), sl1⟩) (c1 : PySem.W.codeIn K cd1 "at_most" = true) (k1 : PySem.W.keepIn K (.ref f1) = true)
    (a2 : PySem.W.nsIn K mainGlobals "at_least" = some (some (.ref f2))) (l2 : K.lookup f2 = some ⟨oc2, od2, .func (PySem.W.fnOf "at_least" "at_least" (defArgs s_at_least) (defBody s_at_least) (defScope s_at_least) .none kV2 dc2 pm2 an2 cd2 ct2), sl2⟩) (c2 : PySem.W.codeIn K cd2 "at_least" = true) (k2 : PySem.W.keepIn K (.ref f2) = true)
    (a3 : PySem.W.nsIn K mainGlobals "stand_remark" = some (some (.ref f3))) (l3 : K.lookup f3 = some ⟨oc3, od3, .func (PySem.W.fnOf "stand_remark" "stand_remark" (defArgs s_stand_remark) (defBody s_stand_remark) (defScope s_stand_remark) .none kV3 dc3 pm3 an3 cd3 ct3), sl3⟩) (c3 : PySem.W.codeIn K cd3 "stand_remark" = true) (k3 : PySem.W.keepIn K (.ref f3) = true)
    (a4 : PySem.W.nsIn K mainGlobals "listed_remark" = some (some (.ref f4))) (l4 : K.lookup f4 = some ⟨oc4, od4, .func (PySem.W.fnOf "listed_remark" "listed_remark" (defArgs s_listed_remark) (defBody s_listed_remark) (defScope s_listed_remark) .none kV4 dc4 pm4 an4 cd4 ct4), sl4⟩) (c4 : PySem.W.codeIn K cd4 "listed_remark" = true) (k4 : PySem.W.keepIn K (.ref f4) = true)
    (a5 : PySem.W.nsIn K mainGlobals "_law_cell_at" = some (some (.ref f5))) (l5 : K.lookup f5 = some ⟨oc5, od5, .func (PySem.W.fnOf "_law_cell_at" "_law_cell_at" (defArgs s_law_cell_at) (defBody s_law_cell_at) (defScope s_law_cell_at) .none kV5 dc5 pm5 an5 cd5 ct5), sl5⟩) (c5 : PySem.W.codeIn K cd5 "_law_cell_at" = true) (k5 : PySem.W.keepIn K (.ref f5) = true)
    (a6 : PySem.W.nsIn K mainGlobals "_law_signed" = some (some (.ref f6))) (l6 : K.lookup f6 = some ⟨oc6, od6, .func (PySem.W.fnOf "_law_signed" "_law_signed" (defArgs s_law_signed) (defBody s_law_signed) (defScope s_law_signed) .none kV6 dc6 pm6 an6 cd6 ct6), sl6⟩) (c6 : PySem.W.codeIn K cd6 "_law_signed" = true) (k6 : PySem.W.keepIn K (.ref f6) = true)
    (a7 : PySem.W.nsIn K mainGlobals "_law_stand" = some (some (.ref f7))) (l7 : K.lookup f7 = some ⟨oc7, od7, .func (PySem.W.fnOf "_law_stand" "_law_stand" (defArgs s_law_stand) (defBody s_law_stand) (defScope s_law_stand) .none kV7 dc7 pm7 an7 cd7 ct7), sl7⟩) (c7 : PySem.W.codeIn K cd7 "_law_stand" = true) (k7 : PySem.W.keepIn K (.ref f7) = true)
    (a8 : PySem.W.nsIn K mainGlobals "_law_remark" = some (some (.ref f8))) (l8 : K.lookup f8 = some ⟨oc8, od8, .func (PySem.W.fnOf "_law_remark" "_law_remark" (defArgs s_law_remark) (defBody s_law_remark) (defScope s_law_remark) .none kV8 dc8 pm8 an8 cd8 ct8), sl8⟩) (c8 : PySem.W.codeIn K cd8 "_law_remark" = true) (k8 : PySem.W.keepIn K (.ref f8) = true)
    (a9 : PySem.W.nsIn K mainGlobals "law" = some (some (.ref f9))) (l9 : K.lookup f9 = some ⟨oc9, od9, .func (PySem.W.fnOf "law" "law" (defArgs s_law) (defBody s_law) (defScope s_law) .none kV9 dc9 pm9 an9 cd9 ct9), sl9⟩) (c9 : PySem.W.codeIn K cd9 "law" = true) (k9 : PySem.W.keepIn K (.ref f9) = true)
    (z_isinstance : PySem.W.nsIn K mainGlobals "isinstance" = some none)
    (z_len : PySem.W.nsIn K mainGlobals "len" = some none)
    (z_list : PySem.W.nsIn K mainGlobals "list" = some none)
    (z_range : PySem.W.nsIn K mainGlobals "range" = some none)
    (z_tuple : PySem.W.nsIn K mainGlobals "tuple" = some none)
    (z_zip : PySem.W.nsIn K mainGlobals "zip" = some none)
    : ∃ fd : FuncData, (∀ (s : Shared) (v : Value), BindsTo s fd ⟨[v], []⟩ [("_law_script", v)]) ∧ ∀ base : Heap, K.In base → base.Ns mainGlobals mg → FnOk l.prog w K mg base CX0 4 fa fd ["_law_script"] (spF K 1 _root_.K.m_law) := by
  have e := hfa.symm.trans (PySem.W.mg_of X G a9)
  cases e
  have F1 := fun_mk (st := s_at_most) l1 c1 k1
  have F2 := fun_mk (st := s_at_least) l2 c2 k2
  have F3 := fun_mk (st := s_stand_remark) l3 c3 k3
  have F4 := fun_mk (st := s_listed_remark) l4 c4 k4
  have F5 := fun_mk (st := s_law_cell_at) l5 c5 k5
  have F6 := fun_mk (st := s_law_signed) l6 c6 k6
  have F7 := fun_mk (st := s_law_stand) l7 c7 k7
  have F8 := fun_mk (st := s_law_remark) l8 c8 k8
  have F9 := fun_mk (st := s_law) l9 c9 k9
  have b_isinstance := PySem.W.mg_none_of X G z_isinstance
  have b_len := PySem.W.mg_none_of X G z_len
  have b_list := PySem.W.mg_none_of X G z_list
  have b_range := PySem.W.mg_none_of X G z_range
  have b_tuple := PySem.W.mg_none_of X G z_tuple
  have b_zip := PySem.W.mg_none_of X G z_zip
  refine ⟨PySem.W.fnOf "law" "law" (defArgs s_law) (defBody s_law) (defScope s_law) .none kV9 dc9 pm9 an9 cd9 ct9, fun s v => .of_eq rfl, fun base _ _ => ?_⟩
  have d_at_most := ok_at_most (P := l.prog) (w := w) (base := base) F1 (PySem.W.mg_of X G a1)
  have d_at_least := ok_at_least (P := l.prog) (w := w) (base := base) F2 (PySem.W.mg_of X G a2)
  have d_stand_remark := ok_stand_remark (P := l.prog) (w := w) (base := base) F3 (PySem.W.mg_of X G a3) d_at_least d_at_most b_tuple b_zip
  have d_listed_remark := ok_listed_remark (P := l.prog) (w := w) (base := base) F4 (PySem.W.mg_of X G a4) d_stand_remark b_len b_tuple
  have d_law_cell_at := ok_law_cell_at (P := l.prog) (w := w) (base := base) F5 (PySem.W.mg_of X G a5) b_len
  have d_law_signed := ok_law_signed (P := l.prog) (w := w) (base := base) F6 (PySem.W.mg_of X G a6)
  have d_law_stand := ok_law_stand (P := l.prog) (w := w) (base := base) F7 (PySem.W.mg_of X G a7) d_law_cell_at d_law_signed b_len b_range b_tuple
  have d_law_remark := ok_law_remark (P := l.prog) (w := w) (base := base) F8 (PySem.W.mg_of X G a8) b_len b_range b_tuple
  exact fo_law F9 d_law_cell_at d_law_remark d_law_stand d_listed_remark b_isinstance b_len b_list b_range b_tuple
theorem walk {l : PySem.W.OpenLaw} {q : Program} {loose : List Str} {XP : (Str → Option Value) → Heap → Prop} {YP : World → Heap → Prop} {d : DefRec} {K : Params → PySem.W.Frag} (hn : l.most = some 63) (hdf : d.params.defaults = [])
    (hY : ∀ (w : World) (h : Heap), YP w h → (K w.params).In h)
    (F : ∀ (w : World) (mg : Str → Option Value) (fa : Addr) (h : Heap), (K w.params).In h → h.Ns mainGlobals mg → mg d.name = some (.ref fa) →
      ∃ fd : FuncData, (∀ (s : Shared) (u : Value), BindsTo s fd ⟨[u], []⟩ [("_law_script", u)]) ∧ ∀ base : Heap, (K w.params).In base → base.Ns mainGlobals mg → FnOk l.prog w (K w.params) mg base CX0 4 fa fd ["_law_script"] (spF (K w.params) 1 _root_.K.m_law)) :
    PySem.W.WalkO q loose XP YP l.row.toRowW d [] (fun f vs => PySem.call f vs) :=
  L2.walk_of (n := 63) (k := 4) (x := "_law_script") (CX := fun _ => CX0) (sp := fun w => spF (K w.params) 1 _root_.K.m_law) hn (by decide) hdf ⟨rfl, by decide, by decide⟩ hY F (fun w H a ns hl _ hS => law_sp hS (_root_.K.law_true (cs := ns))) fun _ _ _ _ _ z => z
end D
open PySem PySem.W PyProof.Rows
set_option maxRecDepth 100000 in
set_option maxHeartbeats 0 in
theorem PySem.Challenge.cw_calm_k72_listed_remarks_holds : PySem.Challenge.rw_calm_k72_listed_remarks.Holds := by
  w_on; o_law; k_head; (case hw => w_witness2)
  k_fill
  refine D.walk (l := PySem.Challenge.rw_calm_k72_listed_remarks) rfl rfl (fun w h Y => PySem.W.kIn_of Y) ?F
  case F =>
    intro w mg fa h KX G hmg
    refine' D.all_mk KX G hmg ?a1 ?l1 ?c1 ?k1 ?a2 ?l2 ?c2 ?k2 ?a3 ?l3 ?c3 ?k3 ?a4 ?l4 ?c4 ?k4 ?a5 ?l5 ?c5 ?k5 ?a6 ?l6 ?c6 ?k6 ?a7 ?l7 ?c7 ?k7 ?a8 ?l8 ?c8 ?k8 ?a9 ?l9 ?c9 ?k9 ?z_isinstance ?z_len ?z_list ?z_range ?z_tuple ?z_zip
    (case a1 => k_is)
    (case l1 => k_is)
    (case c1 => k_is)
    (case k1 => k_is)
    (case a2 => k_is)
    (case l2 => k_is)
    (case c2 => k_is)
    (case k2 => k_is)
    (case a3 => k_is)
    (case l3 => k_is)
    (case c3 => k_is)
    (case k3 => k_is)
    (case a4 => k_is)
    (case l4 => k_is)
    (case c4 => k_is)
    (case k4 => k_is)
    (case a5 => k_is)
    (case l5 => k_is)
    (case c5 => k_is)
    (case k5 => k_is)
    (case a6 => k_is)
    (case l6 => k_is)
    (case c6 => k_is)
    (case k6 => k_is)
    (case a7 => k_is)
    (case l7 => k_is)
    (case c7 => k_is)
    (case k7 => k_is)
    (case a8 => k_is)
    (case l8 => k_is)
    (case c8 => k_is)
    (case k8 => k_is)
    (case a9 => k_is)
    (case l9 => k_is)
    (case c9 => k_is)
    (case k9 => k_is)
    (case z_isinstance => k_is)
    (case z_len => k_is)
    (case z_list => k_is)
    (case z_range => k_is)
    (case z_tuple => k_is)
    (case z_zip => k_is)
#print axioms PySem.Challenge.cw_calm_k72_listed_remarks_holds

end
