import PyProof.Rows.All
import Wide.All
import OpenK.AllK
import Wide.FinOn
import Lean
import PyProof.EqAt
import PyProof.EqKinds
import PyProof.TupleCall
import PyProof.P3Statements
import PyProof.Lay0
import PyProof.P3Eq
import PyProof.NeData
import KE.KEqDict
import PyProof.ListRange
import KE.KDictSum
import PyProof.AttrMissHeap
import PyProof.WalksS
import KE.KDictOf
import KE.KRevSl
import PyProof.ZipIter
import PyProof.WalksMore
import PyProof.Rows.FactsT2
import PyProof.Rows.SetFrom
import PyProof.Rows.SortStr
import KE.KDictList
import PyProof.FactsAll.set
import PyProof.CollectWalk
import PyProof.DictWalks
import PyProof.DictItems
import PyProof.EnumMake
import PyProof.Rows.EnumRows
import PySem.Challenge.RW_calm_k20_steps_done
set_option Elab.async false
noncomputable section
set_option linter.all false
set_option maxRecDepth 100000
namespace L2
open PySem PySem.Spec PyProof.Rows
noncomputable abbrev Key:=Sum Int Str
noncomputable def Oz:Key→Value→Bool
  | .inl k,v=>Value.isInt k v
  | .inr x,v=>Value.isStrOf x v
noncomputable def a8l (w:World):Key→Int
  | .inl k=>hashInt k
  | .inr x=>hashStr w x
theorem um:∀ {k:Key} {v:Value},Oz k v = true→(∃ i t,k = Sum.inl i∧v = Value.int i t)∨(∃ x t,k = Sum.inr x∧v = Value.str x t)
  | .inl i,v,h=>by
    obtain ⟨t,e⟩:=Value.isInt_shape (k:=i) (v:=v) h
    exact .inl ⟨i,t,rfl,e⟩
  | .inr x,v,h=>by
    obtain ⟨t,e⟩:=Value.isStrOf_shape (x:=x) (v:=v) h
    exact .inr ⟨x,t,rfl,e⟩
theorem Vx (i:Int) (t:Tok):Oz (.inl i) (.int i t) = true:=by simp [Oz,Value.isInt]
theorem Xk (x:Str) (t:Tok):Oz (.inr x) (.str x t) = true:=by simp [Oz,Value.isStrOf]
theorem a65 (a b:Int):decide ((Sum.inl a:Key) = Sum.inl b) = (a == b):=by
  by_cases e:a = b
  · subst e; simp
  · have h:¬ (Sum.inl a:Key) = Sum.inl b:=fun q=>e (Sum.inl.inj q)
    rw [decide_eq_false h]
    exact (beq_eq_false_iff_ne.mpr e).symm
theorem a67 (a b:Str):decide ((Sum.inr a:Key) = Sum.inr b) = decide (a = b):=by
  by_cases e:a = b
  · subst e; simp
  · have h:¬ (Sum.inr a:Key) = Sum.inr b:=fun q=>e (Sum.inr.inj q)
    rw [decide_eq_false h,decide_eq_false e]
theorem a4n (a:Int) (b:Str):decide ((Sum.inl a:Key) = Sum.inr b) = false:=decide_eq_false (fun q=>nomatch q)
theorem a4p (a:Str) (b:Int):decide ((Sum.inr a:Key) = Sum.inl b) = false:=decide_eq_false (fun q=>nomatch q)
noncomputable def u6 (prog:Program) (w:World):PySem.KeyKind prog w Key where
  is:=Oz
  hash:=a8l w
  inj:=fun v a b ha hb=>by
    rcases um ha with ⟨i,t,rfl,rfl⟩ | ⟨x,t,rfl,rfl⟩
    · rcases um hb with ⟨j,u,rfl,e⟩ | ⟨y,u,rfl,e⟩
      · injection e with e1 _; rw [e1]
      · exact nomatch e
    · rcases um hb with ⟨j,u,rfl,e⟩ | ⟨y,u,rfl,e⟩
      · exact nomatch e
      · injection e with e1 _; rw [e1]
  byValue:=fun k v h=>by
    rcases um h with ⟨i,t,rfl,rfl⟩ | ⟨x,t,rfl,rfl⟩ <;> rfl
  pyHash:=fun hv h=>by
    rcases um hv with ⟨i,t,rfl,rfl⟩ | ⟨x,t,rfl,rfl⟩
    · exact wpAny_pyHash_int h
    · exact wpAny_pyHash_str h
  eqBool:=fun hu hv h=>by
    rcases um hu with ⟨i,t,rfl,rfl⟩ | ⟨x,t,rfl,rfl⟩
    · rcases um hv with ⟨j,u,rfl,rfl⟩ | ⟨y,u,rfl,rfl⟩
      · rw [a65] at h; exact wpAny_eqBool_int h
      · rw [a4n] at h; exact SeqAt.EqAt.int_str i t y u _ _ _ _ h
    · rcases um hv with ⟨j,u,rfl,rfl⟩ | ⟨y,u,rfl,rfl⟩
      · rw [a4p] at h; exact SeqAt.EqAt.str_int x t j u _ _ _ _ h
      · rw [a67] at h; exact wpAny_eqBool_str h
  «strs»:=fun k x t v h=>by
    rcases um h with ⟨i,u,rfl,e⟩ | ⟨y,u,rfl,e⟩
    · exact nomatch e
    · injection e with e1 _
      subst e1
      cases v <;> rfl
theorem U5 (prog:Program) (w:World) (k:Key) (v:Value):(u6 prog w).is k v = Oz k v:=rfl
theorem Qc (prog:Program) (w:World) (i:Int) (t:Tok):(u6 prog w).is (.inl i) (.int i t) = true:=Vx i t
theorem Qq (prog:Program) (w:World) (x:Str) (t:Tok):(u6 prog w).is (.inr x) (.str x t) = true:=Xk x t
end L2
namespace L2
open PySem PySem.Spec PyProof.Rows
inductive V where
  | non | bl (b:Bool) | int (i:Int) | str (x:Str) | byt (b:Array UInt8) | flt (b:UInt64) | ref (a:Addr) | ty (n:String)
  deriving DecidableEq
noncomputable def RelV:V→Value→Prop
  | .non,u=>u = Value.none
  | .bl b,u=>u = Value.bool b
  | .int i,u=>∃ t,u = Value.int i t
  | .str x,u=>∃ t,u = Value.str x t
  | .byt b,u=>∃ t,u = Value.bytes b t
  | .flt b,u=>∃ t,u = Value.float b t
  | .ref a,u=>u = Value.ref a
  | .ty n,u=>u = Value.type n
noncomputable abbrev Vals:List V→List Value→Prop:=Paired RelV
theorem Vals.length {xs:List V} {us:List Value} (r:Vals xs us):xs.length = us.length:=Paired.length r
theorem Vals.get:∀ {xs:List V} {us:List Value} {i:Nat} {x:V},Vals xs us→xs[i]? = some x→∃ u,us[i]? = some u∧RelV x u
  | _,_,_,_,.nil,e=>by simp at e
  | _,_,0,_,.cons r _,e=>by simp at e; subst e; exact ⟨_,rfl,r⟩
  | _,_,i + 1,x,.cons _ t,e=>by
    obtain ⟨u,h1,h2⟩:=Vals.get (i:=i) (x:=x) t (by simpa using e)
    exact ⟨u,by simpa using h1,h2⟩
theorem Vals.set {x:V} {u:Value} (r:RelV x u):∀ {xs:List V} {us:List Value} (i:Nat),Vals xs us→Vals (xs.set i x) (us.set i u)
  | _,_,_,.nil=>.nil
  | _,_,0,.cons _ t=>.cons r t
  | _,_,i + 1,.cons q t=>.cons q (Vals.set r i t)
theorem Vals.append:∀ {xs ys:List V} {us ws:List Value},Vals xs us→Vals ys ws→Vals (xs ++ ys) (us ++ ws)
  | _,_,_,_,.nil,s=>s
  | _,_,_,_,.cons r t,s=>.cons r (Vals.append t s)
theorem Vals.take:∀ {xs:List V} {us:List Value} (n:Nat),Vals xs us→Vals (xs.take n) (us.take n)
  | _,_,0,_=>.nil
  | _,_,_ + 1,.nil=>.nil
  | _,_,n + 1,.cons r t=>.cons r (Vals.take n t)
theorem Vals.drop:∀ {xs:List V} {us:List Value} (n:Nat),Vals xs us→Vals (xs.drop n) (us.drop n)
  | _,_,0,r=>r
  | _,_,_ + 1,.nil=>.nil
  | _,_,n + 1,.cons _ t=>Vals.drop n t
noncomputable def Q6:Option V→Option Value→Prop
  | some v,some u=>RelV v u
  | none,none=>True
  | _,_=>False
noncomputable def KV {κ:Type}:List (κ × V)→List (κ × Value)→Prop:=Paired fun (p:κ × V) (q:κ × Value)=>p.1 = q.1∧RelV p.2 q.2
noncomputable def kV:Key→V
  | .inl i=>.int i
  | .inr x=>.str x
inductive HO where
  /-- a list -/
  | lst (xs:List V)
  /-- a tuple (never changes) -/
  | tup (xs:List V)
  /-- a dict whose keys are ints and texts; one whose keys are tuples of ints and texts (the empty one is both) -/
  | dK (kvs:List (Key × V)) | dT (kvs:List (List Key × V))
  /-- a set of ints: its members,its size -/
  | set (S:Int→Bool) (n:Nat)
  /-- an instance of the class at C,its dict at dx,its attributes -/
  | ins (C dx:Addr) (fs:List (Str × V))
  /-- the dict of the instance at x -/
  | own (x:Addr)
  /-- the dict of an exception -/
  | xd (fs:List (Str × V))
  /-- a bound method,f of x -/
  | met (f x:Addr)
  /-- a range object lo,lo + 1,.. below hi -/
  | rng (lo hi:Int)
  /-- a thing that is known to the object (the script; a dict while a loop walks it): read,never written while it is so -/
  | frz (o:Obj) (u:HO)
  /-- a code object's table -/
  | tbl (ps:Array Value)
  /-- any other thing,by what is true of its one object (a def of one's own: SetO a S n:=HO.ext fun h=>..) -/
  | ext (φ:Heap→Prop)
noncomputable abbrev Hp:=Addr→Option HO
noncomputable def upd (H:Hp) (a:Addr) (o:HO):Hp:=fun b=>if b = a then some o else H b
theorem jd {H:Hp} {a:Addr} {o:HO}:upd H a o a = some o:=by unfold upd; rw [if_pos rfl]
theorem jg {H:Hp} {a b:Addr} {o:HO} (h:b≠a):upd H a o b = H b:=by unfold upd; rw [if_neg h]
theorem a6n {H:Hp} {a b:Addr} {o u:HO} (h:H a = some o) (h':H b = some u) (d:o≠u):a≠b:=by
  intro e; subst e; rw [h] at h'; exact d (Option.some.inj h')
theorem xg {H:Hp} {a b:Addr} {o:HO} (h:H a = some o) (h':H b = none):a≠b:=by
  intro e; subst e; rw [h] at h'; cases h'
noncomputable def Yp (h:Heap) (a:Addr) (items:Array Value):Prop:=∃ o,h.get? a = some o∧o.cls = .type "tuple" ∧ o.dict = none∧∃ n,o.data = .seq items n
theorem Yp.is {h:Heap} {a:Addr} {items:Array Value} (x:Yp h a items):IsTup h a items:=let ⟨o,e,c,_,d⟩:=x; ⟨o,e,c,d⟩
theorem Yp.new (h:Heap) (items:Array Value):Yp (h.push { cls:=.type "tuple",data:=.seq items }) h.objs.size items:=⟨_,Heap.get?_push_size _ rfl,rfl,rfl,0,rfl⟩
noncomputable section
variable (P:Program) (w:World)
noncomputable def zq (H:Hp) (h:Heap) (a:Addr):HO→Prop
  | .lst xs=>xs.length≤sizeLine∧∃ (its:List Value) (n:Nat),Vals xs its∧h.get? a = some { cls:=.type "list",data:=.seq its.toArray n }
  | .tup xs=>xs.length≤sizeLine∧∃ its:List Value,Vals xs its∧Yp h a its.toArray
  | .dK kvs=>kvs.length≤sizeLine∧(a == sysModules) = false∧∃ vs,KV kvs vs∧h.DictOf (u6 P w) a vs
  | .dT kvs=>kvs.length≤sizeLine∧(a == sysModules) = false∧∃ xs:List (List Key × Addr × Value),
      Paired (fun (p:List Key × V) (q:List Key × Addr × Value)=>p.1 = q.1∧H q.2.1 = some (.tup (p.1.map kV))∧RelV p.2 q.2.2) kvs xs ∧
      ∃ o es ep,h.get? a = some o∧o.ExactDict∧o.data = .dict es ep∧es.toList = xs.map (entryOfKey (tupleKind (u6 P w)))∧(xs.map (·.1)).Nodup
  | .set S n=>h.SetOf (intKind P w) a S n
  | .ins C dx fs=>H dx = some (.own a)∧fs.length≤1000∧dx≠a∧h.get? a = some (PySem.W.instObj C dx) ∧
      ∃ mA,h.Ns1 dx mA∧(∀ f,Q6 (fs.lookup f) (mA f))∧PySem.Within mA (fs.map (·.1))
  | .own _=>∃ o,h.get? a = some o
  | .xd fs=>∃ mA,h.Ns1 a mA∧∀ f,Q6 (fs.lookup f) (mA f)
  | .rng lo hi=>∃ t u v,h.get? a = some { cls:=.type "range",data:=.fields #[.int lo t,.int hi u,.int 1 v] }
  | .frz o u=>h.get? a = some o∧zq H h a u
  | .tbl ps=>h.get? a = some { cls:=.none,data:=.fields ps }
  | .met f x=>h.get? a = some (PySem.W.methodObj (.ref f) (.ref x))
  | .ext φ=>φ h∧(∃ o,h.get? a = some o)∧∀ h1 h2:Heap,φ h1→(∀ o,h1.get? a = some o→h2.get? a = some o)→φ h2
noncomputable def HOk (H:Hp) (h:Heap):Prop:=∀ a o,H a = some o→zq P w H h a o
end
noncomputable section
variable {P:Program} {w:World} {H H':Hp} {h h':Heap} {a:Addr} {o:HO}
theorem zq.lt (x:zq P w H h a o):a < h.objs.size:=by
  cases o with
  | lst xs=>obtain ⟨_,_,_,_,e⟩:=x; exact Heap.lt_size e
  | tup xs=>obtain ⟨_,_,_,p⟩:=x; exact p.is.lt
  | dK kvs=>obtain ⟨_,_,_,_,o,_,_,e,_⟩:=x; exact Heap.lt_size e
  | dT kvs=>obtain ⟨_,_,_,_,o,_,_,e,_⟩:=x; exact Heap.lt_size e
  | set S n=>obtain ⟨o,_,_,_,e,_⟩:=x; exact Heap.lt_size e
  | ins C dx fs=>obtain ⟨_,_,_,e,_⟩:=x; exact Heap.lt_size e
  | own y=>obtain ⟨_,e⟩:=x; exact Heap.lt_size e
  | xd fs=>obtain ⟨_,⟨_,_,_,e,_⟩,_⟩:=x; exact Heap.lt_size e
  | rng lo hi=>obtain ⟨_,_,_,e⟩:=x; exact Heap.lt_size e
  | frz ob u=>obtain ⟨e,_⟩:=x; exact Heap.lt_size e
  | tbl ps=>exact Heap.lt_size (show h.get? a = some _ from x)
  | met f y=>exact Heap.lt_size (show h.get? a = some _ from x)
  | ext φ=>obtain ⟨_,⟨_,e⟩,_⟩:=x; exact Heap.lt_size e
theorem Paired.a6u {α β:Type} {F G:α→β→Prop}:∀ {l₁:List α} {l₂:List β},Paired F l₁ l₂→(∀ a b,F a b→G a b)→Paired G l₁ l₂
  | _,_,.nil,_=>.nil
  | _,_,.cons r t,f=>.cons (f _ _ r) (Paired.a6u t f)
theorem zq.stay (x:zq P w H h a o) (k:∀ b u,(b = a∨H b = some (.own a))→h.get? b = some u→h'.get? b = some u)
    (ho:∀ b,H b = some (.own a)→H' b = some (.own a)) (ht:∀ b xs,H b = some (.tup xs)→H' b = some (.tup xs)):zq P w H' h' a o:=by
  induction o with
  | lst xs=>obtain ⟨z,its,n,r,e⟩:=x; exact ⟨z,its,n,r,k _ _ (.inl rfl) e⟩
  | tup xs=>obtain ⟨z,its,r,ob,e,c⟩:=x; exact ⟨z,its,r,ob,k _ _ (.inl rfl) e,c⟩
  | dK kvs=>obtain ⟨z,y,vs,r,ob,es,ep,e,c⟩:=x; exact ⟨z,y,vs,r,ob,es,ep,k _ _ (.inl rfl) e,c⟩
  | dT kvs =>
    obtain ⟨z,y,xs,r,ob,es,ep,e,c⟩:=x
    exact ⟨z,y,xs,Paired.a6u r fun p q z=>⟨z.1,ht _ _ z.2.1,z.2.2⟩,ob,es,ep,k _ _ (.inl rfl) e,c⟩
  | set S n=>obtain ⟨ob,es,ep,t,e,c⟩:=x; exact ⟨ob,es,ep,t,k _ _ (.inl rfl) e,c⟩
  | ins C dx fs =>
    obtain ⟨d,z,ne,e,mA,⟨od,es,ep,e2,c⟩,r⟩:=x
    exact ⟨ho _ d,z,ne,k _ _ (.inl rfl) e,mA,⟨od,es,ep,k _ _ (.inr d) e2,c⟩,r⟩
  | own y=>obtain ⟨ob,e⟩:=x; exact ⟨ob,k _ _ (.inl rfl) e⟩
  | xd fs=>obtain ⟨mA,⟨od,es,ep,e,c⟩,r⟩:=x; exact ⟨mA,⟨od,es,ep,k _ _ (.inl rfl) e,c⟩,r⟩
  | rng lo hi=>obtain ⟨t,u,v,e⟩:=x; exact ⟨t,u,v,k _ _ (.inl rfl) e⟩
  | frz ob u ih=>obtain ⟨e,q⟩:=x; exact ⟨k _ _ (.inl rfl) e,ih q⟩
  | tbl ps =>
    have e:h.get? a = some { cls:=.none,data:=.fields ps }:=x
    show h'.get? a = some { cls:=.none,data:=.fields ps }
    exact k a _ (.inl rfl) e
  | met f y =>
    have e:h.get? a = some (PySem.W.methodObj (.ref f) (.ref y)):=x
    show h'.get? a = some (PySem.W.methodObj (.ref f) (.ref y))
    exact k a _ (.inl rfl) e
  | ext φ=>obtain ⟨p,⟨o,e⟩,st⟩:=x; exact ⟨st _ _ p fun o q=>k _ _ (.inl rfl) q,⟨o,k _ _ (.inl rfl) e⟩,st⟩
theorem HOk.lt (x:HOk P w H h) (e:H a = some o):a < h.objs.size:=(x a o e).lt
theorem HOk.fresh (x:HOk P w H h) (e:h.objs.size≤a):H a = none:=by
  cases q:H a with
  | none=>rfl
  | some u=>exact absurd (Nat.lt_of_lt_of_le (x.lt q) e) (Nat.lt_irrefl _)
theorem HOk.kept (x:HOk P w H h) (k:∀ b u,h.get? b = some u→h'.get? b = some u):HOk P w H h':=fun a o e =>
  (x a o e).stay (fun b u _ q=>k b u q) (fun _ q=>q) fun _ _ q=>q
theorem HOk.laid (x:HOk P w H h) (k:∀ b u,h.get? b = some u→h'.get? b = some u) (hp:h.objs.size≤a) (new:zq P w (upd H a o) h' a o):HOk P w (upd H a o) h':=fun b u e=>by
  have hn:=x.fresh hp
  by_cases hb:b = a
  · subst hb; rw [jd] at e; cases e; exact new
  · rw [jg hb] at e
    exact (x b u e).stay (fun c v _ q=>k c v q) (fun c q=>by rw [jg (xg q hn)]; exact q) fun c xs q=>by rw [jg (xg q hn)]; exact q
end
noncomputable def Rd (H:Hp) (a:Addr) (u:HO):Prop:=H a = some u∨∃ o,H a = some (.frz o u)
theorem Rd.of {H:Hp} {a:Addr} {u:HO} (h:H a = some u):Rd H a u:=.inl h
theorem Rd.ok {P:Program} {w:World} {H:Hp} {h:Heap} {a:Addr} {u:HO} (r:Rd H a u) (x:HOk P w H h):zq P w H h a u:=by
  rcases r with r | ⟨o,r⟩
  · exact x a u r
  · obtain ⟨_,q⟩:=x a _ r
    exact q
noncomputable def Mut:Option HO→Prop
  | some (.lst _)=>True
  | some (.dK _)=>True
  | some (.dT _)=>True
  | some (.set _ _)=>True
  | some (.ins _ _ _)=>True
  | some (.ext _)=>True
  | _=>False
noncomputable section
variable {P:Program} {w:World} {H:Hp} {h h':Heap} {x e:Addr} {o':HO}
theorem HOk.write (ok:HOk P w H h) (mu:Mut (H x)) (he:e = x∨H e = some (.own x)) (k:∀ b u,b≠e→h.get? b = some u→h'.get? b = some u) (heo:∃ u,h'.get? e = some u)
    (new:zq P w (upd H x o') h' x o'):HOk P w (upd H x o') h':=fun b u q=>by
  have nown:∀ c y,H c = some (.own y)→c≠x:=fun c y r z=>by subst z; rw [r] at mu; exact mu
  have ntup:∀ c xs,H c = some (.tup xs)→c≠x:=fun c xs r z=>by subst z; rw [r] at mu; exact mu
  by_cases hb:b = x
  · subst hb; rw [jd] at q; cases q; exact new
  · rw [jg hb] at q
    by_cases hbe:b = e
    · have q':H b = some (.own x):=by
        rcases he with z | z
        · exact absurd (hbe.trans z) hb
        · rw [hbe]; exact z
      rw [q] at q'; cases q'
      obtain ⟨v,hv⟩:=heo
      exact ⟨v,by rw [hbe]; exact hv⟩
    · refine (ok b u q).stay (fun c v hc r=>k c v ?_ r) (fun c r=>by rw [jg (nown c b r)]; exact r) fun c xs r=>by rw [jg (ntup c xs r)]; exact r
      rcases hc with rfl | hc
      · exact hbe
      · rintro rfl
        rcases he with z | z
        · exact nown c b hc z
        · rw [hc] at z; cases z; exact hb rfl
end
structure Un (fs ex:List Addr) (H H':Hp) (h h':Heap):Prop where
  keep:∀ b o,h.get? b = some o→H b = none→b∉fs→b∉ex→h'.get? b = some o
  slot:∀ b o,h.get? b = some o→H b = none→b∈fs→b∉ex→∃ sl,h'.get? b = some { o with slots:=sl }
  free:∀ b o,h.get? b = some o→H b = none→b∉ex→H' b = none
  there:∀ b o,h.get? b = some o→b∉ex→∃ o',h'.get? b = some o'
  tups:∀ b xs,H b = some (.tup xs)→H' b = some (.tup xs)
  frzs:∀ b o u,H b = some (.frz o u)→H' b = some (.frz o u)
  tbls:∀ b ps,H b = some (.tbl ps)→∃ more,H' b = some (.tbl (ps ++ more))
noncomputable section
variable {fs fs' ex ex':List Addr} {H H1 H2:Hp} {h h1 h2 h':Heap} {a x e:Addr} {o:HO}
theorem Un.any (u:Un fs ex H H1 h h1) {b:Addr} {ob:Obj} (q:h.get? b = some ob) (n:H b = none) (hx:b∉ex):∃ sl,h1.get? b = some { ob with slots:=sl }:=by
  by_cases hb:b∈fs
  · exact u.slot b ob q n hb hx
  · exact ⟨ob.slots,u.keep b ob q n hb hx⟩
theorem Un.trans (a:Un fs ex H H1 h h1) (b:Un fs ex H1 H2 h1 h2):Un fs ex H H2 h h2 where
  keep:=fun c ob q n hc hx=>b.keep c ob (a.keep c ob q n hc hx) (a.free c ob q n hx) hc hx
  slot:=fun c ob q n hc hx=>by
    obtain ⟨sl,e1⟩:=a.slot c ob q n hc hx
    obtain ⟨sl',e2⟩:=b.slot c _ e1 (a.free c ob q n hx) hc hx
    exact ⟨sl',e2⟩
  free:=fun c ob q n hx=>by
    obtain ⟨o',e1⟩:=a.there c ob q hx
    exact b.free c o' e1 (a.free c ob q n hx) hx
  there:=fun c ob q hx=>by
    obtain ⟨o',e1⟩:=a.there c ob q hx
    exact b.there c o' e1 hx
  tups:=fun c xs q=>b.tups c xs (a.tups c xs q)
  frzs:=fun c ob xs q=>b.frzs c ob xs (a.frzs c ob xs q)
  tbls:=fun c ps q=>by
    obtain ⟨m1,e1⟩:=a.tbls c ps q
    obtain ⟨m2,e2⟩:=b.tbls c _ e1
    exact ⟨m1 ++ m2,by rw [e2,Array.append_assoc]⟩
theorem Un.kept (k:∀ b u,h.get? b = some u→h'.get? b = some u):Un fs ex H H h h' :=
  ⟨fun b ob q _ _ _=>k b ob q,fun b ob q _ _ _=>⟨ob.slots,k b ob q⟩,fun _ _ _ n _=>n,fun b ob q _=>⟨ob,k b ob q⟩,fun _ _ q=>q,fun _ _ _ q=>q,fun _ ps q=>⟨#[],by rw [q]; simp⟩⟩
theorem Un.refl:Un fs ex H H h h:=Un.kept fun _ _ q=>q
theorem Un.laid (k:∀ b u,h.get? b = some u→h'.get? b = some u) (hp:h.objs.size≤a) (hn:H a = none):Un fs ex H (upd H a o) h h' where
  keep:=fun b u q _ _ _=>k b u q
  slot:=fun b u q _ _ _=>⟨u.slots,k b u q⟩
  free:=fun b u q n _=>by rw [jg (Nat.ne_of_lt (Nat.lt_of_lt_of_le (Heap.lt_size q) hp))]; exact n
  there:=fun b u q _=>⟨u,k b u q⟩
  tups:=fun b xs q=>by rw [jg (xg q hn)]; exact q
  frzs:=fun b u xs q=>by rw [jg (xg q hn)]; exact q
  tbls:=fun b ps q=>⟨#[],by rw [jg (xg q hn),q]; simp⟩
theorem Un.write (mu:Mut (H x)) (he:e = x∨H e = some (.own x)) (k:∀ b u,b≠e→h.get? b = some u→h'.get? b = some u) (heo:∃ u,h'.get? e = some u):Un fs ex H (upd H x o) h h':=by
  have hx:∀ b,H b = none→b≠x:=fun b n z=>by subst z; rw [n] at mu; exact mu
  have hb:∀ b,H b = none→b≠e:=fun b n z=>by
    subst z
    rcases he with r | r
    · exact hx b n r
    · rw [n] at r; cases r
  have hm:∀ b u,H b = some u→¬ Mut (some u)→b≠x:=fun b u q nm z=>by subst z; rw [q] at mu; exact nm mu
  refine ⟨fun b u q n _ _=>k b u (hb b n) q,fun b u q n _ _=>⟨u.slots,k b u (hb b n) q⟩,fun b u q n _=>by rw [jg (hx b n)]; exact n,fun b u q _=>?_,
    fun b xs q=>by rw [jg (hm b _ q fun z=>z)]; exact q,fun b u xs q=>by rw [jg (hm b _ q fun z=>z)]; exact q,fun b ps q=>⟨#[],by rw [jg (hm b _ q fun z=>z),q]; simp⟩⟩
  by_cases hbe:b = e
  · subst hbe; exact heo
  · exact ⟨u,k b u hbe q⟩
theorem Un.mono (u:Un fs ex H H1 h h1) (hs:∀ b∈fs,b∈fs') (hx:∀ b∈ex,b∈ex'):Un fs' ex' H H1 h h1 :=
  ⟨fun b ob q n hb he=>u.keep b ob q n (fun z=>hb (hs b z)) fun z=>he (hx b z),fun _ _ q n _ he=>u.any q n fun z=>he (hx _ z),fun b ob q n he=>u.free b ob q n fun z=>he (hx b z),fun b ob q he=>u.there b ob q fun z=>he (hx b z),u.tups,u.frzs,u.tbls⟩
end
noncomputable def trk (h:Heap) (H:Hp):List Addr:=(List.range h.objs.size).filter fun a=>(H a).isSome
noncomputable def Zm (h:Heap) (H:Hp):Heap:=PySem.W.hideAll h (trk h H)
theorem Vn (h:Heap) (H:Hp):(Zm h H).objs.size = h.objs.size:=PySem.W.hideAll_size _ _
theorem Zk {h:Heap} {H:Hp} {b:Addr} {o:Obj} (e:h.get? b = some o) (n:H b = none):(Zm h H).get? b = some o :=
  PySem.W.hideAll_get _ e fun hm=>by
    have q:(H b).isSome = true:=(List.mem_filter.mp hm).2
    rw [n] at q; simp at q
theorem a3p {h:Heap} {H:Hp} {b:Addr} {o:Obj} (e:(Zm h H).get? b = some o):h.get? b = some o∧H b = none:=by
  have e':h.get? b = some o:=PySem.W.of_hideAll (trk h H) e
  refine ⟨e',?_⟩
  cases q:H b with
  | none=>rfl
  | some x =>
    have hm:b∈trk h H:=List.mem_filter.mpr ⟨List.mem_range.mpr (Heap.lt_size e'),by simp [q]⟩
    have z:(Zm h H).get? b = none:=PySem.W.hideAll_none (trk h H) hm
    rw [z] at e; cases e
noncomputable def a2t (g h:Heap) (L:Addr):List (Addr × Obj):=(List.range h.objs.size).filterMap fun a=>if a = L∨(g.get? a).isSome = true then none else (h.get? a).map fun o=>(a,o)
noncomputable def rest (g h:Heap) (L d:Addr):List (Addr × Obj):=(a2t g h L).filter fun p=>decide (p.1≠d)
end L2
namespace L2
open PySem PySem.Spec PyProof.Rows
structure Mod (K:PySem.W.Frag) (mg:Str→Option Value) (base:Heap):Prop where
  kin:K.In base
  glob:base.Ns mainGlobals mg
  blt:∃ mb,base.Ns builtinsNs mb∧∀ x:Str,x ≠ "__name__" → mb x = bootBuiltins x
  nolimit:base.NoLimit
structure Cx where
  prog:Program
  w:World
  K:PySem.W.Frag
  mg:Str→Option Value
  base:Heap
  A:Around
  N:List Str
  s₀:Shared
  H₀:Hp
  env:Env
  outer:List Env
  stack:List Env
  ex:List Addr
  fn:Str→Bool
  calm:Bool
  pn:List (Addr × Obj)
  xe:Value→Shared→Prop
noncomputable def frs (l:List Env):List Addr:=l.filterMap (·.frame)
noncomputable abbrev Cx.fs (X:Cx):List Addr:=frs X.outer
noncomputable def Vis (sc:Scope) (x:Str):Prop:=sc.names.lookup x = some .local∨sc.names.lookup x = some .cell∨sc.names.lookup x = some .free
noncomputable def Loc (sc:Scope) (x:Str):Prop:=sc.names.lookup x = some .local∨sc.names.lookup x = some .cell
noncomputable def Look (env:Env) (h:Heap) (m:Str→Option Value) (x:Str) (u:Value):Prop :=
  (env.kindOf x = some .local∧m x = some u)∨((env.kindOf x = some .cell∨env.kindOf x = some .free)∧∃ c,env.cells.lookup x = some c∧h.IsCell c (some u))
structure Cx.Ok (X:Cx):Prop where
  mod:Mod X.K X.mg X.base
  kind:X.env.scope.kind = .function
  glob:X.env.globals = mainGlobals
  blt:X.env.builtins = builtinsNs
  above:X.s₀.heap.objs.size≤X.env.locals
  inj:∀ x y c,X.env.cells.lookup x = some c→X.env.cells.lookup y = some c→x = y
  has:∀ x,(X.env.kindOf x = some .cell∨X.env.kindOf x = some .free)→∃ c,X.env.cells.lookup x = some c
  cab:∀ x c,X.fn x = true→X.env.cells.lookup x = some c→X.s₀.heap.objs.size≤c
  hd:X.calm = true→X.A.handled = none
  frames:X.A.frames = some X.stack
  stk:X.stack = X.outer∨(X.stack = X.env :: X.outer∧X.env.frame = some X.env.locals)
  exf:∀ b∈X.ex,b≠X.env.locals∧∀ x c,X.env.cells.lookup x = some c→c≠b
  bs:∀ b o,X.base.get? b = some o→X.s₀.heap.get? b = some o∧X.H₀ b = none
  bsz:X.base.objs.size≤X.s₀.heap.objs.size
  noex:∀ b o,X.base.get? b = some o→b∉X.ex
  exfs:∀ b∈X.ex,b∉X.fs
  Vj:X.s₀.heap.FunFrames X.base X.outer
  frf:∀ b∈X.fs,X.H₀ b = none
structure Inv (X:Cx) (pins:List (Addr × Obj)) (σ:List (Option V)) (H:Hp) (s:Shared):Prop where
  ok:X.Ok
  os:s.os = X.s₀.os
  bare:AllBare s.gens
  base:Un X.fs X.ex X.H₀ H X.s₀.heap s.heap
  loc:∃ m,s.heap.Ns X.env.locals m∧∀ (i:Nat) (x:Str) (v:V),X.N[i]? = some x→σ[i]? = some (some v)→Vis X.env.scope x→∃ u,RelV v u∧Look X.env s.heap m x u
  cell:∀ x c,X.env.cells.lookup x = some c→∃ v,s.heap.IsCell c v
  free:H X.env.locals = none
  freeC:∀ x c,X.env.cells.lookup x = some c→H c = none
  pin:∀ p∈X.pn ++ pins,s.heap.get? p.1 = some p.2∧H p.1 = none∧p.1≠X.env.locals∧p.1∉X.fs∧∀ v,p.2.data≠.cell v
  hok:HOk X.prog X.w H s.heap
  len:σ.length = X.N.length
noncomputable section
variable {X:Cx} {pins:List (Addr × Obj)} {σ:List (Option V)} {H H':Hp} {s:Shared} {h':Heap}
theorem Cx.Ok.a8f (ok:X.Ok) {b:Addr} {o:Obj} (e:X.base.get? b = some o):b∉X.fs:=fun hb=>by
  have:=(ok.Vj.mem hb).1
  rw [e] at this; cases this
theorem Inv.bs (I:Inv X pins σ H s):∀ b o,X.base.get? b = some o→s.heap.get? b = some o∧H b = none:=fun b o e =>
  ⟨I.base.keep b o (I.ok.bs b o e).1 (I.ok.bs b o e).2 (I.ok.a8f e) (I.ok.noex b o e),I.base.free b o (I.ok.bs b o e).1 (I.ok.bs b o e).2 (I.ok.noex b o e)⟩
theorem Inv.bk (I:Inv X pins σ H s):∀ b o,X.base.get? b = some o→s.heap.get? b = some o:=fun b o e=>(I.bs b o e).1
theorem Inv.mod (I:Inv X pins σ H s):Mod X.K X.mg X.base:=I.ok.mod
theorem Inv.kIn (I:Inv X pins σ H s):X.K.In s.heap:=I.ok.mod.kin.keeps I.bk
theorem Inv.fr (I:Inv X pins σ H s):∃ m,Fr X.base X.env.locals s.heap m :=
  let ⟨m,hn,_⟩:=I.loc
  ⟨m,hn,I.bk,Nat.le_trans I.ok.bsz I.ok.above⟩
theorem Inv.lt (I:Inv X pins σ H s):X.env.locals < s.heap.objs.size:=let ⟨_,hn,_⟩:=I.loc; hn.lt
theorem Inv.sz (I:Inv X pins σ H s):X.s₀.heap.objs.size≤s.heap.objs.size:=Nat.le_trans I.ok.above (Nat.le_of_lt I.lt)
theorem Inv.a8j (I:Inv X pins σ H s) {a:Addr} (h:s.heap.objs.size≤a):a∉X.fs:=fun hb=>by
  obtain ⟨_,o,ho,_⟩:=I.ok.Vj.mem hb
  exact absurd (Nat.lt_of_lt_of_le (Heap.lt_size ho) (Nat.le_trans I.sz h)) (Nat.lt_irrefl _)
theorem Inv.cne (I:Inv X pins σ H s):∀ x c,X.env.cells.lookup x = some c→c≠X.env.locals:=fun x c e z=>by
  obtain ⟨v,o,ho,hd⟩:=I.cell x c e
  obtain ⟨m,⟨o',es,ep,ho',hd',_⟩,_⟩:=I.loc
  rw [z,ho'] at ho; cases ho; rw [hd'] at hd; cases hd
theorem Inv.Vj (I:Inv X pins σ H s):s.heap.FunFrames X.base X.outer:=by
  have all:∀ (l:List Env),(∀ b∈frs l,b∈X.fs)→X.s₀.heap.FunFrames X.base l→s.heap.FunFrames X.base l:=by
    intro l
    induction l with
    | nil=>intro _ _; trivial
    | cons env r ih =>
      intro hs hl
      obtain ⟨hk,⟨L,o,hf,hn,ho,hd⟩,hr⟩:=hl
      have hL:L∈X.fs:=hs L (by unfold frs; rw [List.filterMap_cons,hf]; exact List.mem_cons_self)
      obtain ⟨sl,e⟩:=I.base.slot L o ho (I.ok.frf L hL) hL fun z=>I.ok.exfs L z hL
      exact ⟨hk,⟨L,_,hf,hn,e,hd⟩,ih (fun b hb=>hs b (by unfold frs; rw [List.filterMap_cons,hf]; exact List.mem_cons_of_mem _ hb)) hr⟩
  exact all X.outer (fun _ hb=>hb) I.ok.Vj
theorem Inv.stack (I:Inv X pins σ H s):s.heap.FunFrames X.base X.stack:=by
  rcases I.ok.stk with e | ⟨e,hf⟩
  · rw [e]; exact I.Vj
  · rw [e]
    obtain ⟨m,hn,_⟩:=I.loc
    refine .cons (by rw [I.ok.kind]; decide) hf hn ?_ I.Vj
    exact Heap.get?_none_of_le (Nat.le_trans I.ok.bsz I.ok.above)
theorem Inv.Tw (I:Inv X pins σ H s):∀ b∈frs X.stack,b∈X.env.locals :: X.fs:=fun b hb=>by
  rcases I.ok.stk with e | ⟨e,hf⟩
  · rw [e] at hb; exact List.mem_cons_of_mem _ hb
  · rw [e] at hb
    unfold frs at hb
    rw [List.filterMap_cons,hf] at hb
    exact hb
theorem Inv.Vo (I:Inv X pins σ H s):∀ b∈frs X.stack,H b = none:=fun b hb=>by
  rcases List.mem_cons.mp (I.Tw b hb) with e | hb
  · rw [e]; exact I.free
  · obtain ⟨_,o,ho,_⟩:=I.ok.Vj.mem hb
    exact I.base.free b o ho (I.ok.frf b hb) fun z=>I.ok.exfs b z hb
theorem Inv.step {g':Array GenState} {t':Nat} {d':Drawn} {ch:List Addr} (I:Inv X pins σ H s)
    (hch:∀ b∈ch,(b∈X.ex∨X.s₀.heap.objs.size≤b)∧b≠X.env.locals∧(∀ x c,X.env.cells.lookup x = some c→c≠b)∧∀ p∈X.pn ++ pins,p.1≠b)
    (keep:∀ b o,b≠X.env.locals→b∉X.fs→b∉ch→s.heap.get? b = some o→H b = none→h'.get? b = some o)
    (slot:∀ b o,b≠X.env.locals→b∈X.fs→b∉ch→s.heap.get? b = some o→H b = none→∃ sl,h'.get? b = some { o with slots:=sl }) (free:∀ b o,b∉ch→s.heap.get? b = some o→H b = none→H' b = none)
    (there:∀ b o,b∉ch→s.heap.get? b = some o→∃ o',h'.get? b = some o')
    (tups:∀ b xs,H b = some (.tup xs)→H' b = some (.tup xs)) (frzs:∀ b o u,H b = some (.frz o u)→H' b = some (.frz o u)) (tbls:∀ b ps,H b = some (.tbl ps)→∃ more,H' b = some (.tbl (ps ++ more)))
    (ns:∀ m,s.heap.Ns X.env.locals m→h'.Ns X.env.locals m) (hok:HOk X.prog X.w H' h') (hg:AllBare g') :
    Inv X pins σ H' { s with heap:=h',gens:=g',drawn:=d',toks:=t' }:=by
  have neL:∀ b o,X.s₀.heap.get? b = some o→b≠X.env.locals:=fun b o e=>Nat.ne_of_lt (Nat.lt_of_lt_of_le (Heap.lt_size e) I.ok.above)
  have neC:∀ b o,X.s₀.heap.get? b = some o→b∉X.ex→b∉ch:=fun b o e hx hb=>by
    rcases (hch b hb).1 with z | z
    · exact hx z
    · exact absurd (Nat.lt_of_lt_of_le (Heap.lt_size e) z) (Nat.lt_irrefl _)
  have cellK:∀ x c,X.env.cells.lookup x = some c→∀ v,s.heap.IsCell c v→h'.IsCell c v:=fun x c e v z9=>by
    obtain ⟨o,ho,hd⟩:=z9
    have nch:c∉ch:=fun z=>(hch c z).2.2.1 x c e rfl
    by_cases hc:c∈X.fs
    · obtain ⟨sl,q⟩:=slot c o (I.cne x c e) hc nch ho (I.freeC x c e)
      exact ⟨_,q,hd⟩
    · exact ⟨o,keep c o (I.cne x c e) hc nch ho (I.freeC x c e),hd⟩
  refine ⟨I.ok,I.os,hg,⟨fun b o e n hb hx=>?_,fun b o e n hb hx=>?_,fun b o e n hx=>?_,fun b o e hx=>?_,fun b xs e=>tups b xs (I.base.tups b xs e),fun b o xs e=>frzs b o xs (I.base.frzs b o xs e),fun b ps e=>?_⟩,?_,fun x c e=>?_,?_,fun x c e=>?_,fun p hp=>?_,hok,I.len⟩
  · exact keep b o (neL b o e) hb (neC b o e hx) (I.base.keep b o e n hb hx) (I.base.free b o e n hx)
  · obtain ⟨sl,e1⟩:=I.base.slot b o e n hb hx
    obtain ⟨sl',e2⟩:=slot b _ (neL b o e) hb (neC b o e hx) e1 (I.base.free b o e n hx)
    exact ⟨sl',e2⟩
  · obtain ⟨o',e1⟩:=I.base.there b o e hx
    exact free b o' (neC b o e hx) e1 (I.base.free b o e n hx)
  · obtain ⟨o',e1⟩:=I.base.there b o e hx
    exact there b o' (neC b o e hx) e1
  · obtain ⟨m1,e1⟩:=I.base.tbls b ps e
    obtain ⟨m2,e2⟩:=tbls b _ e1
    exact ⟨m1 ++ m2,by rw [e2,Array.append_assoc]⟩
  · obtain ⟨m,hn,hl⟩:=I.loc
    refine ⟨m,ns m hn,fun i x v e1 e2 e3=>?_⟩
    obtain ⟨u,r,l⟩:=hl i x v e1 e2 e3
    refine ⟨u,r,?_⟩
    rcases l with l | ⟨k,c,e,z⟩
    · exact .inl l
    · exact .inr ⟨k,c,e,cellK x c e _ z⟩
  · obtain ⟨v,z⟩:=I.cell x c e
    exact ⟨v,cellK x c e v z⟩
  · obtain ⟨m,⟨o,_,_,ho,_⟩,_⟩:=I.loc
    exact free _ o (fun z=>(hch _ z).2.1 rfl) ho I.free
  · obtain ⟨v,o,ho,hd⟩:=I.cell x c e
    exact free c o (fun z=>(hch c z).2.2.1 x c e rfl) ho (I.freeC x c e)
  · obtain ⟨e,n,ne,nf,d⟩:=I.pin p hp
    have nch:p.1∉ch:=fun z=>(hch p.1 z).2.2.2 p hp rfl
    exact ⟨keep p.1 p.2 ne nf nch e n,free p.1 p.2 nch e n,ne,nf,d⟩
theorem Inv.un {t':Nat} (I:Inv X pins σ H s) (u:Un X.fs [] H H' s.heap h') (hok:HOk X.prog X.w H' h'):Inv X pins σ H' { s with heap:=h',toks:=t' }:=by
  obtain ⟨m,⟨o,es,ep,ho,r⟩,_⟩:=id I.loc
  obtain ⟨sl,hL⟩:=u.any ho I.free (by simp)
  exact I.step (g':=s.gens) (d':=s.drawn) (ch:=[]) (fun _ z=>nomatch z) (fun b o _ hb _ e n=>u.keep b o e n hb (by simp)) (fun b o _ hb _ e n=>u.slot b o e n hb (by simp)) (fun b o _ e n=>u.free b o e n (by simp)) (fun b o _ e=>u.there b o e (by simp)) u.tups u.frzs u.tbls (fun m' hm=>by
    obtain ⟨o',es',ep',ho',r'⟩:=hm
    rw [ho] at ho'; cases ho'
    exact ⟨_,es',ep',hL,r'⟩) hok I.bare
theorem Inv.call {g':Array GenState} {t':Nat} {d':Drawn} {ch:List Addr} (I:Inv X pins σ H s) (u:Un (frs X.stack) ch H H' s.heap h') (hok:HOk X.prog X.w H' h') (hg:AllBare g')
    (hch:∀ b∈ch,(b∈X.ex∨X.s₀.heap.objs.size≤b)∧b≠X.env.locals∧(∀ x c,X.env.cells.lookup x = some c→c≠b)∧∀ p∈X.pn ++ pins,p.1≠b) :
    Inv X pins σ H' { s with heap:=h',gens:=g',drawn:=d',toks:=t' }:=by
  obtain ⟨m,⟨o,es,ep,ho,r⟩,_⟩:=id I.loc
  obtain ⟨sl,hL⟩:=u.any ho I.free fun z=>(hch _ z).2.1 rfl
  exact I.step (ch:=ch) hch (fun b o hL hb hc e n=>u.keep b o e n (fun z=>(List.mem_cons.mp (I.Tw b z)).elim hL hb) hc) (fun b o _ _ hc e n=>u.any e n hc) (fun b o hc e n=>u.free b o e n hc) (fun b o hc e=>u.there b o e hc) u.tups u.frzs u.tbls (fun m' hm=>by
    obtain ⟨o',es',ep',ho',r'⟩:=hm
    rw [ho] at ho'; cases ho'
    exact ⟨_,es',ep',hL,r'⟩) hok hg
theorem Inv.turned {t':Nat} {it:Addr} (I:Inv X pins σ H s) (k:∀ b o,b≠it→s.heap.get? b = some o→h'.get? b = some o) (hn:H it = none) (hL:it≠X.env.locals)
    (h1:it∈X.ex∨X.s₀.heap.objs.size≤it) (h2:∀ x c,X.env.cells.lookup x = some c→c≠it) (h3:∀ p∈X.pn ++ pins,p.1≠it):Inv X pins σ H { s with heap:=h',toks:=t' }:=by
  have nit:∀ b u,H b = some u→b≠it:=fun b u e z=>by rw [z,hn] at e; cases e
  refine I.step (g':=s.gens) (d':=s.drawn) (ch:=[it]) (fun b hb=>?_) (fun b o _ _ hc e _=>k b o (fun z=>hc (by simp [z])) e) (fun b o _ _ hc e _=>⟨o.slots,k b o (fun z=>hc (by simp [z])) e⟩) (fun _ _ _ _ n=>n)
    (fun b o hc e=>⟨o,k b o (fun z=>hc (by simp [z])) e⟩) (fun _ _ e=>e) (fun _ _ _ e=>e) (fun b ps e=>⟨#[],by rw [e]; simp⟩) (fun m hm=>?_) (fun b u e=>?_) I.bare
  · have e:b = it:=by simpa using hb
    subst e
    exact ⟨h1,hL,h2,h3⟩
  · obtain ⟨o,es,ep,ho,r⟩:=hm
    exact ⟨o,es,ep,k _ o (Ne.symm hL) ho,r⟩
  · refine (I.hok b u e).stay (fun c v hc q=>k c v ?_ q) (fun _ q=>q) fun _ _ q=>q
    rcases hc with z | z
    · rw [z]; exact nit b u e
    · exact nit c _ z
theorem Inv.tok (I:Inv X pins σ H s) (t:Nat):Inv X pins σ H { s with toks:=t }:=I.un (h':=s.heap) (t':=t) Un.refl I.hok
theorem Inv.kept {t':Nat} (I:Inv X pins σ H s) (k:∀ b u,s.heap.get? b = some u→h'.get? b = some u):Inv X pins σ H { s with heap:=h',toks:=t' }:=I.un (Un.kept k) (I.hok.kept k)
theorem Inv.laid {a:Addr} {o:HO} {t':Nat} (I:Inv X pins σ H s) (k:∀ b u,s.heap.get? b = some u→h'.get? b = some u) (hp:s.heap.objs.size≤a) (new:zq X.prog X.w (upd H a o) h' a o) :
    Inv X pins σ (upd H a o) { s with heap:=h',toks:=t' }:=I.un (Un.laid k hp (I.hok.fresh hp)) (I.hok.laid k hp new)
theorem Inv.write {x e:Addr} {o:HO} {t':Nat} (I:Inv X pins σ H s) (mu:Mut (H x)) (he:e = x∨H e = some (.own x)) (k:∀ b u,b≠e→s.heap.get? b = some u→h'.get? b = some u) (heo:∃ u,h'.get? e = some u)
    (new:zq X.prog X.w (upd H x o) h' x o):Inv X pins σ (upd H x o) { s with heap:=h',toks:=t' }:=I.un (Un.write mu he k heo) (I.hok.write mu he k heo new)
theorem Inv.Wm {pins':List (Addr × Obj)} (I:Inv X pins σ H s) (h:∀ p∈pins',s.heap.get? p.1 = some p.2∧H p.1 = none∧p.1≠X.env.locals∧p.1∉X.fs∧∀ v,p.2.data≠.cell v):Inv X pins' σ H s :=
  ⟨I.ok,I.os,I.bare,I.base,I.loc,I.cell,I.free,I.freeC,fun p hp=>(List.mem_append.mp hp).elim (fun z=>I.pin p (List.mem_append_left _ z)) (h p),I.hok,I.len⟩
theorem Sd {N:List Str} (hN:N.Nodup) {i j:Nat} {x:Str} (a:N[i]? = some x) (b:N[j]? = some x):i = j:=by
  obtain ⟨h1,e1⟩:=List.getElem?_eq_some_iff.mp a
  obtain ⟨h2,e2⟩:=List.getElem?_eq_some_iff.mp b
  exact (List.getElem_inj hN).mp (e1.trans e2.symm)
theorem Xp {M:Model} {A:Around} {E:Value→Shared→Prop} {i:Nat} {x:Str} {v:V} {u:Value} {Q:Unit→Shared→Prop} (I:Inv X pins σ H s) (hN:X.N.Nodup) (hi:X.N[i]? = some x) (hx:Loc X.env.scope x) (r:RelV v u)
    (h:∀ s',Inv X pins (σ.set i (some v)) H s'→(∃ a,Heap.SameBut a s.heap s'.heap∧(a = X.env.locals∨X.env.cells.lookup x = some a))→Q () s') (hf:X.fn x = true∨X.env.scope.names.lookup x = some .local:=by first | exact .inl rfl | exact .inr rfl | assumption):wpAny M A (storeName X.env x u) Q E s:=by
  obtain ⟨m,hn,hl⟩:=id I.loc
  have hcls:(X.env.scope.kind == .class || (X.env.scope.kind == .module && X.env.locals != X.env.globals)) = false:=by rw [I.ok.kind]; rfl
  have hiσ:i < σ.length:=by rw [I.len]; exact (List.getElem?_eq_some_iff.mp hi).1
  have cne:=I.cne
  have tracked:∀ {a:Addr} {h':Heap},(∃ o,s.heap.get? a = some o∧H a = none)→Heap.SameBut a s.heap h'→HOk X.prog X.w H h':=fun {a h'} ha hs b ob e=>by
    obtain ⟨_,_,hfree⟩:=ha
    refine (I.hok b ob e).stay (fun c w' hc q=>(hs.2 c ?_).trans q) (fun _ q=>q) fun _ _ q=>q
    rintro rfl
    rcases hc with rfl | hc
    · rw [hfree] at e; cases e
    · rw [hfree] at hc; cases hc
  rcases hx with hk | hk
  · refine wpAny_storeName_local hk hn (fun h' hn' hs=>?_) hcls
    obtain ⟨oL,_,_,hoL,_⟩:=id hn
    refine h _ ⟨I.ok,I.os,I.bare,⟨fun b o e n hb hx=>?_,fun b o e n hb hx=>?_,I.base.free,fun b o e hx=>?_,I.base.tups,I.base.frzs,I.base.tbls⟩,⟨_,hn',fun j y v' e1 e2 e3=>?_⟩,fun y c e=>?_,I.free,I.freeC,fun p hp=>?_,tracked ⟨oL,hoL,I.free⟩ hs,by simpa using I.len⟩ ⟨_,hs,.inl rfl⟩
    · exact (hs.2 b (Nat.ne_of_lt (Nat.lt_of_lt_of_le (Heap.lt_size e) I.ok.above))).trans (I.base.keep b o e n hb hx)
    · obtain ⟨sl,e1⟩:=I.base.slot b o e n hb hx
      exact ⟨sl,(hs.2 b (Nat.ne_of_lt (Nat.lt_of_lt_of_le (Heap.lt_size e) I.ok.above))).trans e1⟩
    · obtain ⟨o',e1⟩:=I.base.there b o e hx
      exact ⟨o',(hs.2 b (Nat.ne_of_lt (Nat.lt_of_lt_of_le (Heap.lt_size e) I.ok.above))).trans e1⟩
    · by_cases hj:j = i
      · subst hj
        rw [hi] at e1; cases e1
        rw [List.getElem?_set_self hiσ] at e2
        cases e2
        exact ⟨u,r,.inl ⟨hk,by simp⟩⟩
      · rw [List.getElem?_set_ne (Ne.symm hj)] at e2
        obtain ⟨u',r',q⟩:=hl j y v' e1 e2 e3
        refine ⟨u',r',?_⟩
        rcases q with ⟨k,e⟩ | ⟨k,c,e,z⟩
        · refine .inl ⟨k,?_⟩
          have:y≠x:=fun e=>hj (Sd hN e1 (e ▸ hi))
          simp [this,e]
        · exact .inr ⟨k,c,e,z.sameBut hs (cne y c e)⟩
    · obtain ⟨w',z⟩:=I.cell y c e
      exact ⟨w',z.sameBut hs (cne y c e)⟩
    · obtain ⟨e,n,ne,nf,d⟩:=I.pin p hp
      exact ⟨(hs.2 p.1 ne).trans e,n,ne,nf,d⟩
  · have hfn:X.fn x = true:=by
      rcases hf with z | z
      · exact z
      · rw [z] at hk; cases hk
    obtain ⟨c,hc⟩:=I.ok.has x (.inl hk)
    obtain ⟨w',z⟩:=I.cell x c hc
    refine wpAny_storeName_cell I.ok.kind hk hc z (fun h' hc' hs=>?_)
    obtain ⟨oc,hoc,hocd⟩:=id z
    refine h { s with heap:=h' } ⟨I.ok,I.os,I.bare,⟨fun b o e n hb hx=>?_,fun b o e n hb hx=>?_,I.base.free,fun b o e hx=>?_,I.base.tups,I.base.frzs,I.base.tbls⟩,⟨m,hn.sameBut hs (Ne.symm (cne x c hc)),fun j y v' e1 e2 e3=>?_⟩,fun y c' e=>?_,I.free,I.freeC,fun p hp=>?_,tracked ⟨oc,hoc,I.freeC x c hc⟩ hs,by simpa using I.len⟩ ⟨c,hs,.inr hc⟩
    · exact (hs.2 b (Nat.ne_of_lt (Nat.lt_of_lt_of_le (Heap.lt_size e) (I.ok.cab x c hfn hc)))).trans (I.base.keep b o e n hb hx)
    · obtain ⟨sl,e1⟩:=I.base.slot b o e n hb hx
      exact ⟨sl,(hs.2 b (Nat.ne_of_lt (Nat.lt_of_lt_of_le (Heap.lt_size e) (I.ok.cab x c hfn hc)))).trans e1⟩
    · obtain ⟨o',e1⟩:=I.base.there b o e hx
      exact ⟨o',(hs.2 b (Nat.ne_of_lt (Nat.lt_of_lt_of_le (Heap.lt_size e) (I.ok.cab x c hfn hc)))).trans e1⟩
    · by_cases hj:j = i
      · subst hj
        rw [hi] at e1; cases e1
        rw [List.getElem?_set_self hiσ] at e2
        cases e2
        exact ⟨u,r,.inr ⟨.inl hk,c,hc,hc'⟩⟩
      · rw [List.getElem?_set_ne (Ne.symm hj)] at e2
        obtain ⟨u',r',q⟩:=hl j y v' e1 e2 e3
        refine ⟨u',r',?_⟩
        rcases q with q | ⟨k,c',e,z'⟩
        · exact .inl q
        · refine .inr ⟨k,c',e,z'.sameBut hs ?_⟩
          rintro rfl
          exact hj (Sd hN e1 (I.ok.inj _ _ _ e hc ▸ hi))
    · by_cases hcc:c' = c
      · subst hcc; exact ⟨_,hc'⟩
      · obtain ⟨w2,z2⟩:=I.cell y c' e
        exact ⟨w2,z2.sameBut hs hcc⟩
    · obtain ⟨e,n,ne,nf,d⟩:=I.pin p hp
      refine ⟨(hs.2 p.1 ?_).trans e,n,ne,nf,d⟩
      intro q
      rw [q,hoc] at e
      have q':oc = p.2:=Option.some.inj e
      exact d w' (by rw [← q']; exact hocd)
theorem Tg {M:Model} {A:Around} {E:Value→Shared→Prop} {i:Nat} {x:Str} {v:V} {u:Value} {Q:Unit→Shared→Prop} (I:Inv X pins σ H s) (hN:X.N.Nodup) (hi:X.N[i]? = some x) (hx:Loc X.env.scope x) (r:RelV v u)
    (h:∀ s',Inv X pins (σ.set i (some v)) H s'→Q () s') (hf:X.fn x = true∨X.env.scope.names.lookup x = some .local:=by first | exact .inl rfl | exact .inr rfl | assumption):wpAny M A (storeName X.env x u) Q E s :=
  Xp I hN hi hx r (fun s' I' _=>h s' I') hf
end
noncomputable abbrev XK:=Value→Option Addr→Hp→Prop
noncomputable abbrev St:=List (Option V)
noncomputable abbrev VK:=V→Hp→Prop
noncomputable abbrev TE:=St→Hp→VK→Prop
noncomputable abbrev TT:=St→Hp→(Bool→Hp→Prop)→Prop
noncomputable abbrev TA:=St→Hp→(List V→Hp→Prop)→Prop
structure Ends where
  nx:St→Hp→Prop
  rt:VK
  bk:St→Hp→Prop:=fun _ _=>False
  ct:St→Hp→Prop:=fun _ _=>False
noncomputable abbrev TS:=Ends→St→Hp→Prop
noncomputable def EP (X:Cx) (pins:List (Addr × Obj)) (σ:St) (Q:VK) (u:Value) (s':Shared):Prop:=∃ v H',Inv X pins σ H' s'∧RelV v u∧Q v H'
noncomputable def TP (X:Cx) (pins:List (Addr × Obj)) (σ:St) (Q:Bool→Hp→Prop) (b:Bool) (s':Shared):Prop:=∃ H',Inv X pins σ H' s'∧Q b H'
noncomputable def AP (X:Cx) (pins:List (Addr × Obj)) (σ:St) (Q:List V→Hp→Prop) (us:List Value) (s':Shared):Prop:=∃ vs H',Inv X pins σ H' s'∧Vals vs us∧Q vs H'
noncomputable def SP (X:Cx) (pins:List (Addr × Obj)) (D:Ends) (f:Flow) (s':Shared):Prop :=
  match f with
  | .next=>∃ σ' H',Inv X pins σ' H' s'∧D.nx σ' H'
  | .brk=>∃ σ' H',Inv X pins σ' H' s'∧D.bk σ' H'
  | .cont=>∃ σ' H',Inv X pins σ' H' s'∧D.ct σ' H'
  | .ret u=>∃ v σ' H',Inv X pins σ' H' s'∧RelV v u∧D.rt v H'
noncomputable def PE (X:Cx) (e:Expr) (t:TE):Prop :=
  ∀ (pins:List (Addr × Obj)) (s:Shared) (σ:St) (H:Hp) (Q:VK),Inv X pins σ H s→t σ H Q→wpAny (model X.prog X.w) X.A (eval e X.env) (EP X pins σ Q) X.xe s
noncomputable def PT (X:Cx) (e:Expr) (t:TT):Prop :=
  ∀ (pins:List (Addr × Obj)) (s:Shared) (σ:St) (H:Hp) (Q:Bool→Hp→Prop),Inv X pins σ H s→t σ H Q→wpAny (model X.prog X.w) X.A (isTrue e X.env (eval e X.env)) (TP X pins σ Q) X.xe s
noncomputable def PW (X:Cx) (e:Expr) (t:TT):Prop :=
  ∀ (whole:Sem Value) (pins:List (Addr × Obj)) (s:Shared) (σ:St) (H:Hp) (Q:Bool→Hp→Prop),Inv X pins σ H s→t σ H Q→wpAny (model X.prog X.w) X.A (isTrue e X.env whole) (TP X pins σ Q) X.xe s
theorem PW.pt {X:Cx} {e:Expr} {t:TT} (h:PW X e t):PT X e t:=h _
noncomputable def PA (X:Cx) (es:List Expr) (t:TA):Prop :=
  ∀ (pos:Pos) (pins:List (Addr × Obj)) (s:Shared) (σ:St) (H:Hp) (Q:List V→Hp→Prop),Inv X pins σ H s→t σ H Q→wpAny (model X.prog X.w) X.A (spliced (backTo pos (starEach es X.env))) (AP X pins σ Q) X.xe s
noncomputable def PS (X:Cx) (st:Stmt) (t:TS):Prop :=
  ∀ (pins:List (Addr × Obj)) (s:Shared) (σ:St) (H:Hp) (D:Ends),Inv X pins σ H s→t D σ H→wpAny (model X.prog X.w) X.A (exec st X.env) (SP X pins D) X.xe s
noncomputable def PSs (X:Cx) (st:List Stmt) (t:TS):Prop :=
  ∀ (pins:List (Addr × Obj)) (s:Shared) (σ:St) (H:Hp) (D:Ends),Inv X pins σ H s→t D σ H→wpAny (model X.prog X.w) X.A (execs st X.env) (SP X pins D) X.xe s
theorem thn {α:Type} {t:Sem α} {Q Q':α→Shared→Prop} {M:Model} {A:Around} {E:Value→Shared→Prop} {s:Shared} (h:wpAny M A t Q E s) (hQ:∀ a s,Q a s→Q' a s):wpAny M A t Q' E s:=wpAny_mono h hQ fun _ _ x=>x
end L2
namespace L2
open PySem PySem.Spec PyProof.Rows
noncomputable section
variable {X:Cx}
noncomputable def a0a (i:Nat):TE:=fun σ H Q=>∃ v,σ[i]? = some (some v)∧Q v H
noncomputable def tC (v:V):TE:=fun _ H Q=>Q v H
theorem a4x {i:Nat} {x:Str} {pos:Pos} (hN:X.N[i]? = some x) (hv:Vis X.env.scope x) (hd:(x == ("__debug__" : Str)) = false:=by decide) (hcd:(x == ("__classdict__" : Str)) = false:=by decide):PE X (.Name x pos) (a0a i):=by
  intro pins s σ H Q I h
  obtain ⟨v,e,h⟩:=h
  obtain ⟨m,hn,hl⟩:=I.loc
  obtain ⟨u,r,l⟩:=hl i x v hN e hv
  have fin:EP X pins σ Q u s:=⟨v,H,I,r,h⟩
  rcases l with ⟨hk,hm⟩ | ⟨hk,c,hc,hcell⟩
  · exact wpAny_Name (wpAny_loadName_local I.ok.kind hk hn hm fin) hd
  · rcases hk with hk | hk
    · exact wpAny_Name (wpAny_loadName_cell I.ok.kind hk hc hcell fin) hd
    · exact wpAny_Name (wpAny_loadName_free I.ok.kind hk hc hcell fin hcd) hd
theorem a68 {i j pos}:PE X (.Constant (.int i) j pos) (tC (.int i)):=fun _ _ _ H _ I h=>wpAny_Constant_int ⟨.int i,H,I.tok _,⟨_,rfl⟩,h⟩
theorem a7b {b j pos}:PE X (.Constant (.bool b) j pos) (tC (.bl b)):=fun _ _ _ H _ I h=>Constant_bool ⟨.bl b,H,I,rfl,h⟩
theorem a5o {j pos}:PE X (.Constant .none j pos) (tC .non):=fun _ _ _ H _ I h=>Constant_none ⟨.non,H,I,rfl,h⟩
theorem a5d {x j pos}:PE X (.Constant (.str x) j pos) (tC (.str x)):=fun _ _ _ H _ I h=>Calls.Constant_str ⟨.str x,H,I.tok _,⟨_,rfl⟩,h⟩
noncomputable def Gl (X:Cx) (x:Str):Prop:=X.env.kindOf x = some .globalImplicit
theorem a3l {E:Value→Shared→Prop} {pins:List (Addr × Obj)} {s:Shared} {σ:St} {H:Hp} {x:Str} {u:Value} {pos:Pos} {Q:Value→Shared→Prop} (I:Inv X pins σ H s) (hg:Gl X x) (hm:X.mg x = some u) (h:Q u s)
    (hd:(x == ("__debug__" : Str)) = false:=by decide):wpAny (model X.prog X.w) X.A (eval (.Name x pos) X.env) Q E s :=
  Calls.Name_function_global I.ok.kind hg (Calls.loadGlobal_global (by rw [I.ok.glob]; exact I.mod.glob.keeps I.bk) hm h) hd
theorem Ke {E:Value→Shared→Prop} {pins:List (Addr × Obj)} {s:Shared} {σ:St} {H:Hp} {x:Str} {u:Value} {pos:Pos} {Q:Value→Shared→Prop} (I:Inv X pins σ H s) (hg:Gl X x) (hm:X.mg x = none) (hv:bootBuiltins x = some u) (h:Q u s)
    (hn:x ≠ "__name__" := by decide) (hd:(x == ("__debug__" : Str)) = false:=by decide):wpAny (model X.prog X.w) X.A (eval (.Name x pos) X.env) Q E s:=by
  obtain ⟨mb,h1,h2⟩:=I.mod.blt
  exact Calls.Name_function_global I.ok.kind hg (Calls.loadGlobal_builtin (by rw [I.ok.glob]; exact I.mod.glob.keeps I.bk) hm (by rw [I.ok.blt]; exact h1.keeps I.bk) ((h2 x hn).trans hv) h) hd
theorem a2g {x:Str} {v:V} {u:Value} {pos:Pos} (hg:Gl X x) (hm:X.mg x = none) (hv:bootBuiltins x = some u) (r:RelV v u) (hn:x ≠ "__name__" := by decide) (hd:(x == ("__debug__" : Str)) = false:=by decide):PE X (.Name x pos) (tC v) :=
  fun _ _ _ H _ I h=>Ke I hg hm hv ⟨v,H,I,r,h⟩ hn hd
variable {a b:Expr} {ta tb:TE} {pos:Pos}
noncomputable def tB (t:TE):TT:=fun σ H Q=>t σ H fun x H1=>∃ c,x = .bl c∧Q c H1
theorem a5s {e:Expr} {t:TE} (h:PE X e t) (he:∀ whole,isTrue e X.env whole = (do let v ← whole; standAt e.pos; holding [v] (truthy v)):=by intro _; rfl):PT X e (tB t):=by
  intro pins s σ H Q I hw
  refine isTrue_plain (thn (h pins s σ H _ I hw) fun v s1 z0=>?_) (he _)
  obtain ⟨x,H1,I1,r1,q1⟩:=z0
  obtain ⟨d,rfl,q⟩:=q1
  cases r1
  exact wpAny_truthy_bool ⟨H1,I1,q⟩
variable {tA tB':TT} {rest:List Expr}
noncomputable def a80 (t u:TT):TT:=fun σ H Q=>t σ H fun c H1=>if c = true then u σ H1 Q else Q false H1
noncomputable def tOr (t u:TT):TT:=fun σ H Q=>t σ H fun c H1=>if c = true then Q true H1 else u σ H1 Q
noncomputable def a8h (t:TT):TT:=fun σ H Q=>t σ H fun c H1=>Q (!c) H1
theorem pw_and1 (ha:PT X a tA):PW X (.BoolOp .And [a] pos) tA:=by
  intro wh pins s σ H Q I h
  refine isTrue_and (thn (ha pins s σ H Q I h) fun c s1 e=>?_)
  cases c with
  | true=>exact isTrue_and_nil e
  | false=>exact e
theorem pw_or1 (ha:PT X a tA):PW X (.BoolOp .Or [a] pos) tA:=by
  intro wh pins s σ H Q I h
  refine isTrue_or (thn (ha pins s σ H Q I h) fun c s1 e=>?_)
  cases c with
  | false=>exact isTrue_or_nil e
  | true=>exact e
theorem pw_and (ha:PT X a tA) (hb:PW X (.BoolOp .And (b :: rest) pos) tB'):PW X (.BoolOp .And (a :: b :: rest) pos) (a80 tA tB'):=by
  intro wh pins s σ H Q I h
  refine isTrue_and (thn (ha pins s σ H _ I h) fun c s1 z0=>?_)
  obtain ⟨H1,I1,q1⟩:=z0
  cases c with
  | true=>exact hb wh pins s1 σ H1 Q I1 q1
  | false=>exact ⟨H1,I1,q1⟩
theorem pw_or (ha:PT X a tA) (hb:PW X (.BoolOp .Or (b :: rest) pos) tB'):PW X (.BoolOp .Or (a :: b :: rest) pos) (tOr tA tB'):=by
  intro wh pins s σ H Q I h
  refine isTrue_or (thn (ha pins s σ H _ I h) fun c s1 z0=>?_)
  obtain ⟨H1,I1,q1⟩:=z0
  cases c with
  | true=>exact ⟨H1,I1,q1⟩
  | false=>exact hb wh pins s1 σ H1 Q I1 q1
theorem a4i (ha:PT X a tA):PT X (.UnaryOp .Not a pos) (a8h tA):=by
  intro pins s σ H Q I h
  exact isTrue_not (ha pins s σ H (fun c H1=>Q (!c) H1) I h)
noncomputable def a77 (ta:TE):TE:=fun σ H Q=>ta σ H fun x H1=>∃ c,x = .bl c∧Q (.bl (!c)) H1
theorem a5x (ha:PE X a ta):PE X (.UnaryOp .Not a pos) (a77 ta):=by
  intro pins s σ H Q I h
  refine UnaryOp_ (thn (ha pins s σ H _ I h) fun v s1 z0=>?_)
  obtain ⟨x,H1,I1,r1,q1⟩:=z0
  obtain ⟨c,rfl,q1⟩:=q1
  cases r1
  exact not_of (wpAny_truthy_bool ⟨.bl (!c),H1,I1,rfl,q1⟩)
noncomputable def tIf (t:TT) (ta tb:TE):TE:=fun σ H Q=>t σ H fun c H1=>if c = true then ta σ H1 Q else tb σ H1 Q
theorem Zi {c:Expr} (hc:PT X c tA) (ha:PE X a ta) (hb:PE X b tb):PE X (.IfExp c a b pos) (tIf tA ta tb):=by
  intro pins s σ H Q I h
  refine wpAny_IfExp (thn (hc pins s σ H _ I h) fun d s1 z0=>?_)
  obtain ⟨H1,I1,q1⟩:=z0
  cases d with
  | true=>exact ha pins s1 σ H1 Q I1 q1
  | false=>exact hb pins s1 σ H1 Q I1 q1
end
end L2
namespace L2
open PySem PySem.Spec PyProof.Rows
noncomputable def SqL (K:PySem.W.Frag) (H:Hp) (a:Addr) (xs:List V):Prop :=
  Rd H a (.lst xs) ∨
    ∃ (o:Obj) (its:Array Value) (n:Nat),K.lookup a = some o∧o.cls = .type "list" ∧ o.dict = none∧o.data = .seq its n∧its.size≤sizeLine∧Vals xs its.toList
noncomputable def SqT (K:PySem.W.Frag) (H:Hp) (a:Addr) (xs:List V):Prop :=
  Rd H a (.tup xs) ∨
    ∃ (o:Obj) (its:Array Value) (n:Nat),K.lookup a = some o∧o.cls = .type "tuple" ∧ o.dict = none∧o.data = .seq its n∧its.size≤sizeLine∧Vals xs its.toList
noncomputable def a8m:Value→Option V
  | .none=>some .non
  | .bool b=>some (.bl b)
  | .int i _=>some (.int i)
  | .str x _=>some (.str x)
  | .bytes b _=>some (.byt b)
  | .float b _=>some (.flt b)
  | .ref a=>some (.ref a)
  | .type n=>some (.ty n)
  | _=>none
theorem RelV.abs {x:V} {u:Value} (r:RelV x u):a8m u = some x:=by
  cases x with
  | non=>cases r; rfl
  | bl _=>cases r; rfl
  | int _=>obtain ⟨t,rfl⟩:=r; rfl
  | str _=>obtain ⟨t,rfl⟩:=r; rfl
  | byt _=>obtain ⟨t,rfl⟩:=r; rfl
  | flt _=>obtain ⟨t,rfl⟩:=r; rfl
  | ref _=>cases r; rfl
  | ty _=>cases r; rfl
theorem RelV.inj {x y:V} {u:Value} (r:RelV x u) (q:RelV y u):x = y:=Option.some.inj (r.abs.symm.trans q.abs)
theorem Vals.inj:∀ {xs ys:List V} {us:List Value},Vals xs us→Vals ys us→xs = ys
  | _,_,_,.nil,.nil=>rfl
  | _,_,_,.cons r t,.cons r' t'=>by rw [r.inj r',Vals.inj t t']
noncomputable section
variable {X:Cx} {pins:List (Addr × Obj)} {σ:St} {H:Hp} {s:Shared} {a:Addr} {xs ys:List V}
theorem SqL.of {K:PySem.W.Frag} (h:H a = some (.lst xs)):SqL K H a xs:=.inl (.inl h)
theorem SqT.of {K:PySem.W.Frag} (h:H a = some (.tup xs)):SqT K H a xs:=.inl (.inl h)
theorem Inv.list (I:Inv X pins σ H s) (h:SqL X.K H a xs):∃ its:List Value,Vals xs its∧PlainL s.heap a its.toArray∧xs.length≤sizeLine:=by
  rcases h with h | ⟨o,its,n,hk,hc,hd,hs,hz,r⟩
  · obtain ⟨z,its,n,r,e⟩:=h.ok I.hok
    exact ⟨its,r,⟨_,n,e,rfl,rfl,rfl⟩,z⟩
  · refine ⟨its.toList,r,⟨o,n,I.kIn a o hk,hc,hd,by simpa using hs⟩,?_⟩
    have e:=r.length
    simp only [Array.length_toList] at e
    omega
theorem Inv.tuple (I:Inv X pins σ H s) (h:SqT X.K H a xs):∃ its:List Value,Vals xs its∧IsTup s.heap a its.toArray∧xs.length≤sizeLine:=by
  rcases h with h | ⟨o,its,n,hk,hc,hdn,hs,hz,r⟩
  · obtain ⟨z,its,r,p⟩:=h.ok I.hok
    exact ⟨its,r,p.is,z⟩
  · refine ⟨its.toList,r,⟨o,I.kIn a o hk,hc,n,by simpa using hs⟩,?_⟩
    have e:=r.length
    simp only [Array.length_toList] at e
    omega
theorem Inv.a5q (I:Inv X pins σ H s) (h:SqT X.K H a xs):∃ its:List Value,Vals xs its∧Yp s.heap a its.toArray∧xs.length≤sizeLine:=by
  rcases h with h | ⟨o,its,n,hk,hc,hdn,hs,hz,r⟩
  · obtain ⟨z,its,r,p⟩:=h.ok I.hok
    exact ⟨its,r,p,z⟩
  · refine ⟨its.toList,r,⟨o,I.kIn a o hk,hc,hdn,n,by simpa using hs⟩,?_⟩
    have e:=r.length
    simp only [Array.length_toList] at e
    omega
theorem Inv.U4 (I:Inv X pins σ H s) (h:SqL X.K H a xs) (h':SqL X.K H a ys):xs = ys:=by
  obtain ⟨its,r,⟨o,n,e,_,_,d⟩,_⟩:=I.list h
  obtain ⟨its',r',⟨o',n',e',_,_,d'⟩,_⟩:=I.list h'
  rw [e] at e'; cases e'
  rw [d] at d'
  injection d' with d1 _
  have:its = its':=by simpa using congrArg Array.toList d1
  subst this
  exact r.inj r'
theorem Inv.Vs (I:Inv X pins σ H s) (h:SqT X.K H a xs) (h':SqT X.K H a ys):xs = ys:=by
  obtain ⟨its,r,⟨o,e,_,n,d⟩,_⟩:=I.tuple h
  obtain ⟨its',r',⟨o',e',_,n',d'⟩,_⟩:=I.tuple h'
  rw [e] at e'; cases e'
  rw [d] at d'
  injection d' with d1 _
  have:its = its':=by simpa using congrArg Array.toList d1
  subst this
  exact r.inj r'
end
noncomputable abbrev Cx.wish (X:Cx) (E:Value→Shared→Prop):Cx:={ X with xe:=E }
noncomputable abbrev Cx.nox (X:Cx):Cx:=X.wish fun _ _=>False
theorem Cx.Ok.wish {X:Cx} (ok:X.Ok) (E:Value→Shared→Prop):(X.wish E).Ok :=
  ⟨ok.mod,ok.kind,ok.glob,ok.blt,ok.above,ok.inj,ok.has,ok.cab,ok.hd,ok.frames,ok.stk,ok.exf,ok.bs,ok.bsz,ok.noex,ok.exfs,ok.Vj,ok.frf⟩
theorem Cx.Ok.Ft {X:Cx} {E:Value→Shared→Prop} (ok:(X.wish E).Ok):X.Ok :=
  ⟨ok.mod,ok.kind,ok.glob,ok.blt,ok.above,ok.inj,ok.has,ok.cab,ok.hd,ok.frames,ok.stk,ok.exf,ok.bs,ok.bsz,ok.noex,ok.exfs,ok.Vj,ok.frf⟩
noncomputable section
variable {X:Cx} {pins:List (Addr × Obj)} {σ:St} {H:Hp} {s:Shared} {E:Value→Shared→Prop}
theorem Inv.wish (I:Inv X pins σ H s) (E:Value→Shared→Prop):Inv (X.wish E) pins σ H s:=⟨I.ok.wish E,I.os,I.bare,I.base,I.loc,I.cell,I.free,I.freeC,I.pin,I.hok,I.len⟩
theorem Inv.Ft (I:Inv (X.wish E) pins σ H s):Inv X pins σ H s:=⟨I.ok.Ft,I.os,I.bare,I.base,I.loc,I.cell,I.free,I.freeC,I.pin,I.hok,I.len⟩
theorem SP.Ft {D:Ends} {f:Flow} {s':Shared} (h:SP (X.wish E) pins D f s'):SP X pins D f s':=by
  cases f with
  | next=>obtain ⟨σ',H',I,q⟩:=h; exact ⟨σ',H',I.Ft,q⟩
  | brk=>obtain ⟨σ',H',I,q⟩:=h; exact ⟨σ',H',I.Ft,q⟩
  | cont=>obtain ⟨σ',H',I,q⟩:=h; exact ⟨σ',H',I.Ft,q⟩
  | ret u=>obtain ⟨v,σ',H',I,r,q⟩:=h; exact ⟨v,σ',H',I.Ft,r,q⟩
theorem PE.nox {e:Expr} {t:TE} (h:PE X.nox e t):PE X e t:=fun pins s σ H Q I hw =>
  wpAny_mono (h pins s σ H Q (I.wish _) hw) (fun _ _ ⟨v,H',I',r,q⟩=>⟨v,H',I'.Ft,r,q⟩) fun _ _ z=>False.elim z
theorem PT.nox {e:Expr} {t:TT} (h:PT X.nox e t):PT X e t:=fun pins s σ H Q I hw =>
  wpAny_mono (h pins s σ H Q (I.wish _) hw) (fun _ _ ⟨H',I',q⟩=>⟨H',I'.Ft,q⟩) fun _ _ z=>False.elim z
theorem PSs.nox {st:List Stmt} {t:TS} (h:PSs X.nox st t):PSs X st t:=fun pins s σ H D I hw =>
  wpAny_mono (h pins s σ H D (I.wish _) hw) (fun _ _ q=>q.Ft) fun _ _ z=>False.elim z
end
noncomputable section
variable {X:Cx} {st:Stmt} {rest:List Stmt} {t u:TS} {e:Expr} {te:TE} {pos:Pos}
noncomputable def a73:TS:=fun D σ H=>D.nx σ H
noncomputable def a84 (t u:TS):TS:=fun D σ H=>t { D with nx:=u D } σ H
theorem a1t:PSs X [] a73:=fun _ _ σ H _ I h=>wpAny_execs_nil ⟨σ,H,I,h⟩
theorem Yl (h1:PS X st t) (h2:PSs X rest u):PSs X (st :: rest) (a84 t u):=by
  intro pins s σ H D I h
  refine wpAny_execs_cons (thn (h1 pins s σ H { D with nx:=u D } I h) fun f s1 q=>?_)
  cases f with
  | next =>
    obtain ⟨σ',H',I',q⟩:=q
    exact h2 pins s1 σ' H' D I' q
  | ret v=>exact q
  | brk=>exact q
  | cont=>exact q
theorem a1r (h1:PS X st t):PSs X [st] t:=by
  intro pins s σ H D I h
  refine wpAny_execs_cons (thn (h1 pins s σ H D I h) fun f s1 q=>?_)
  cases f with
  | next=>exact wpAny_execs_nil q
  | ret v=>exact q
  | brk=>exact q
  | cont=>exact q
noncomputable def a6c:TS:=fun D σ H=>D.bk σ H
theorem Z9:PS X (.Break pos) a6c:=fun _ _ σ H _ I h=>wpAny_Break ⟨σ,H,I,h⟩
theorem Inv.quiet {pins:List (Addr × Obj)} {σ:St} {H:Hp} {s:Shared} (I:Inv X pins σ H s):interactive X.env = false:=by simp [interactive,I.ok.kind]
noncomputable def a2m (te:TE):TS:=fun D σ H=>te σ H fun _ H1=>D.nx σ H1
theorem Er (he:PE X e te) (hs:swapsWith e none pos.line X.env = pure false:=by rfl):PS X (.Expr e pos) (a2m te):=by
  intro pins s σ H D I h
  exact wpAny_Expr_any (thn (he pins s σ H _ I h) fun v s1 ⟨x,H1,I1,r1,q1⟩=>⟨σ,H1,I1,q1⟩) I.quiet hs
noncomputable def a8a (te:TE):TS:=fun D σ H=>te σ H D.rt
theorem a4l (he:PE X e te):PS X (.Return (some e) pos) (a8a te):=by
  intro pins s σ H D I h
  exact wpAny_Return_some (thn (he pins s σ H _ I h) fun v s1 ⟨x,H1,I1,r1,q1⟩=>⟨x,σ,H1,I1,r1,q1⟩)
noncomputable def a8i (c:TT) (t u:TS):TS:=fun D σ H=>c σ H fun b H1=>if b = true then t D σ H1 else u D σ H1
theorem a7l {c:Expr} {a b:List Stmt} {tc:TT} (hc:PT X c tc) (ha:PSs X a t) (hb:PSs X b u):PS X (.If c a b pos) (a8i tc t u):=by
  intro pins s σ H D I h
  refine wpAny_If (thn (hc pins s σ H _ I h) fun d s1 z0=>?_)
  obtain ⟨H1,I1,q1⟩:=z0
  cases d with
  | true=>exact ha pins s1 σ H1 D I1 q1
  | false=>exact hb pins s1 σ H1 D I1 q1
end
noncomputable abbrev TG:=V→St→Hp→(St→Hp→Prop)→Prop
noncomputable abbrev TGs:=List V→St→Hp→(St→Hp→Prop)→Prop
noncomputable def PG (X:Cx) (target:Expr) (t:TG):Prop :=
  ∀ (pins:List (Addr × Obj)) (s:Shared) (σ:St) (H:Hp) (v:V) (u:Value) (Q:St→Hp→Prop),Inv X pins σ H s→RelV v u→t v σ H Q →
    wpAny (model X.prog X.w) X.A (assign target X.env u) (fun _ s'=>∃ σ' H',Inv X pins σ' H' s'∧Q σ' H') X.xe s
noncomputable def PGs (X:Cx) (ts:List Expr) (t:TGs):Prop :=
  ∀ (pins:List (Addr × Obj)) (s:Shared) (σ:St) (H:Hp) (vs:List V) (us:List Value) (Q:St→Hp→Prop),Inv X pins σ H s→Vals vs us→t vs σ H Q →
    wpAny (model X.prog X.w) X.A (assignInOrder ((assignEach ts X.env).map (·.2)) us) (fun _ s'=>∃ σ' H',Inv X pins σ' H' s'∧Q σ' H') X.xe s
noncomputable abbrev a7f:=V→V→V→Hp→(Hp→Prop)→Prop
noncomputable def a7v (X:Cx) (t:a7f):Prop :=
  ∀ (pins:List (Addr × Obj)) (s:Shared) (σ:St) (H:Hp) (o i v:V) (ov iv u:Value) (Q:Hp→Prop),Inv X pins σ H s→RelV o ov→RelV i iv→RelV v u→t o i v H Q →
    wpAny (model X.prog X.w) X.A (setItem ov iv u) (fun _ s'=>∃ H',Inv X pins σ H' s'∧Q H') X.xe s
noncomputable section
variable {X:Cx} {pos:Pos}
noncomputable def Nj (i:Nat):TG:=fun v σ H Q=>Q (σ.set i (some v)) H
theorem jh {i:Nat} {x:Str} (hN:X.N.Nodup) (hi:X.N[i]? = some x) (hx:Loc X.env.scope x) (hf:X.fn x = true∨X.env.scope.names.lookup x = some .local:=by first | exact .inl rfl | exact .inr rfl | assumption):PG X (.Name x pos) (Nj i):=by
  intro pins s σ H v u Q I r h
  exact wpAny_assign_Name (Tg I hN hi hx r (fun s' I'=>⟨_,H,I',h⟩) hf)
noncomputable def a7s:TGs:=fun vs σ H Q=>vs = []∧Q σ H
noncomputable def a5h (t:TG) (u:TGs):TGs:=fun vs σ H Q=>∃ v r,vs = v :: r∧t v σ H fun σ' H'=>u r σ' H' Q
theorem Dg:PGs X [] a7s:=by
  intro pins s σ H vs us Q I r h
  obtain ⟨e,h⟩:=h
  subst e
  cases r
  exact assignInOrder_nil ⟨σ,H,I,h⟩
theorem nu {e:Expr} {es:List Expr} {t:TG} {u:TGs} (h1:PG X e t) (h2:PGs X es u)
    (hs:(assignEach (e :: es) X.env).map (·.2) = assign e X.env :: (assignEach es X.env).map (·.2):=by rfl):PGs X (e :: es) (a5h t u):=by
  intro pins s σ H vs us Q I r h
  obtain ⟨v,vr,e1,h⟩:=h
  subst e1
  cases r with
  | cons r rr =>
    rw [hs]
    refine assignInOrder_cons (thn (h1 pins s σ H _ _ _ I r h) fun _ s1 z0=>?_)
    obtain ⟨σ1,H1,I1,q1⟩:=z0
    exact h2 pins s1 σ1 H1 _ _ Q I1 rr q1
noncomputable def a7w (K:PySem.W.Frag) (n:Nat) (t:TGs):TG:=fun v σ H Q=>∃ a xs,v = .ref a∧SqT K H a xs∧xs.length = n∧t xs σ H Q
theorem G5 {es:List Expr} {k:Nat} {t:TGs} {n:Nat} (hc:X.calm = true) (h:PGs X es t)
    (hn:(assignEach es X.env).length = n:=by rfl) (hst:(assignEach es X.env).findIdx? (·.1) = none:=by rfl):PG X (.Tuple es k pos) (a7w X.K n t):=by
  intro pins s σ H v u Q I r hw
  obtain ⟨a,xs,e1,hq,hl,hw⟩:=hw
  subst e1
  cases r
  obtain ⟨its,rv,ht,hz⟩:=I.tuple hq
  refine assign_Tuple_tuple (I.ok.hd hc) ht (by simp [hn,← hl,rv.length]) hst fun h' hx=>?_
  have I1:Inv X pins σ H { s with heap:=h' }:=I.kept (t':=s.toks) fun b o e=>hx b o (Nat.ne_of_lt (Heap.lt_size e)) e
  exact h pins _ σ H xs _ Q I1 (by simpa using rv) hw
noncomputable def a7x (to ti:TE) (t:a7f):TG:=fun v σ H Q=>to σ H fun o H1=>ti σ H1 fun i H2=>t o i v H2 fun H3=>Q σ H3
theorem Rq {o i:Expr} {to ti:TE} {t:a7f} (ho:PE X o to) (hi:PE X i ti) (hs:a7v X t)
    (ha:∀ v,assign (.Subscript o i pos) X.env v = (do
      let ov ← holding [v] (eval o X.env)
      let iv ← holding [v,ov] (eval i X.env)
      standAt pos
      holding [v,ov,iv] (setItem ov iv v)
      release [v,ov,iv] []):=by intro _; rfl):PG X (.Subscript o i pos) (a7x to ti t):=by
  intro pins s σ H v u Q I r h
  rw [ha]
  refine wpAny_bind (wpAny_holding (thn (ho pins s σ H _ I h) fun ov s1 z0=>?_))
  obtain ⟨x,H1,I1,r1,q1⟩:=z0
  refine wpAny_bind (wpAny_holding (thn (hi pins s1 σ H1 _ I1 q1) fun iv s2 z0=>?_))
  obtain ⟨y,H2,I2,r2,q2⟩:=z0
  refine wpAny_bind (wpAny_standAt (wpAny_bind (wpAny_holding (thn (hs pins s2 σ H2 x y v ov iv u _ I2 r1 r2 r q2) fun _ s3 z0=>?_))))
  obtain ⟨H3,I3,q3⟩:=z0
  exact wpAny_release ⟨σ,H3,I3,q3⟩
noncomputable def a1v (te:TE) (g:TG):TS:=fun D σ H=>te σ H fun x H1=>g x σ H1 D.nx
theorem Jw {tg e:Expr} {te:TE} {g:TG} (he:PE X e te) (hg:PG X tg g) (hs:swapsWithSole [tg] e pos.line X.env = pure false:=by rfl) (hw:swappedStores [tg] e X.env = pure none:=by rfl)
    (h1:(assignEach [tg] X.env).map (·.2) = [assign tg X.env]:=by rfl):PS X (.Assign [tg] e pos) (a1v te g):=by
  intro pins s σ H D I h
  refine wpAny_Assign_stores (thn (he pins s σ H _ I h) fun v s1 z0=>?_) hs hw
  obtain ⟨x,H1,I1,r1,q1⟩:=z0
  rw [h1]
  exact thn (hg pins s1 σ H1 x v _ I1 r1 q1) fun _ s2 q=>q
theorem lu {i:Nat} {x:Str} {e:Expr} {te:TE} {pos':Pos} (hN:X.N.Nodup) (hi:X.N[i]? = some x) (hx:Loc X.env.scope x) (he:PE X e te) (hs:swapsWith e (some (.Name x pos')) pos.line X.env = pure false:=by rfl) (hf:X.fn x = true∨X.env.scope.names.lookup x = some .local:=by first | exact .inl rfl | exact .inr rfl | assumption) :
    PS X (.Assign [.Name x pos'] e pos) (a1v te (Nj i)):=by
  intro pins s σ H D I h
  refine wpAny_Assign_Name (thn (he pins s σ H _ I h) fun v s1 z0=>?_) hs
  obtain ⟨y,H1,I1,r1,q1⟩:=z0
  exact Tg I1 hN hi hx r1 (fun s2 I2=>⟨_,H1,I2,q1⟩) hf
end
noncomputable section
variable {X:Cx} {pos:Pos}
end
structure It where
  go:Nat→Hp→Prop
  yld:Nat→Hp→V→Hp→Prop
  stop:Nat→Hp→Prop
noncomputable def Q9 (X:Cx) (pins:List (Addr × Obj)) (H:Hp) (b:Addr):Prop :=
  H b = none∧b≠X.env.locals∧b∉X.fs∧(b∈X.ex∨X.s₀.heap.objs.size≤b)∧(∀ x c,X.env.cells.lookup x = some c→c≠b)∧∀ p∈X.pn ++ pins,p.1≠b
theorem Inv.a3s {X:Cx} {pins:List (Addr × Obj)} {σ:St} {H H':Hp} {s:Shared} {b:Addr} (I:Inv X pins σ H s) (hb:s.heap.objs.size≤b) (hn:H' b = none):Q9 X pins H' b:=by
  refine ⟨hn,Nat.ne_of_gt (Nat.lt_of_lt_of_le I.lt hb),I.a8j hb,.inr (Nat.le_trans I.sz hb),fun x c e z=>?_,fun p hp z=>?_⟩
  · obtain ⟨v,q⟩:=I.cell x c e
    exact absurd (Nat.lt_of_lt_of_le q.lt (by rw [z]; exact hb)) (Nat.lt_irrefl _)
  · exact absurd (Nat.lt_of_lt_of_le (Heap.lt_size (I.pin p hp).1) (by rw [z]; exact hb)) (Nat.lt_irrefl _)
structure Turn (P:Program) (w:World) (K:PySem.W.Frag) (tg:Expr) (J:It) (fp:List Addr) (it:Addr) (tn:Nat→Heap→Prop):Prop where
  mem:it∈fp
  obj:∀ i h,tn i h→∀ b∈fp,∃ o,h.get? b = some o∧∀ v,o.data≠.cell v
  keep:∀ i h h',tn i h→(∀ b∈fp,∀ o,h.get? b = some o→h'.get? b = some o)→tn i h'
  item:∀ (X:Cx),X.prog = P→X.w = w→X.K = K→X.calm = true→∀ (i:Nat) (pins:List (Addr × Obj)) (s:Shared) (σ:St) (H:Hp) (E:Value→Shared→Prop),Inv X pins σ H s→(∀ b∈fp,Q9 X pins H b)→tn i s.heap→J.go i H →
    wpAny (model P w) X.A (pyNext (.ref it)) (fun r s1=>∃ u,r = some u ∧
      wpAny (model P w) X.A (letOwnedTupleGo tg (.ref it) u) (fun _ s2=>∃ x H',Inv X pins σ H' s2∧RelV x u∧J.yld i H x H'∧tn (i + 1) s2.heap∧∀ b∈fp,H' b = none) E s1) E s
  done:∀ (X:Cx),X.prog = P→X.w = w→X.K = K→X.calm = true→∀ (i:Nat) (pins:List (Addr × Obj)) (s:Shared) (σ:St) (H:Hp) (E:Value→Shared→Prop),Inv X pins σ H s→(∀ b∈fp,Q9 X pins H b)→tn i s.heap→J.stop i H →
    wpAny (model P w) X.A (pyNext (.ref it)) (fun r s1=>r = none∧Inv X pins σ H s1) E s
  self:∀ (A:Around) (i:Nat) (s:Shared) (Q:Value→Shared→Prop) (E:Value→Shared→Prop),tn i s.heap→Q (.ref it) s→wpAny (model P w) A (pyIter (.ref it)) Q E s
noncomputable abbrev TI:=St→Hp→(It→Hp→Prop)→Prop
noncomputable def PIE (X:Cx) (pins:List (Addr × Obj)) (σ:St) (tg:Expr) (R:It→Hp→Prop) (itv:Value) (s2:Shared):Prop :=
  ∃ (it:Addr) (fp:List Addr) (tn:Nat→Heap→Prop) (J:It) (H':Hp),itv = .ref it∧Inv X pins σ H' s2∧Turn X.prog X.w X.K tg J fp it tn∧tn 0 s2.heap∧(∀ b∈fp,Q9 X pins H' b)∧R J H'
noncomputable def PI (X:Cx) (tg iter:Expr) (wi:TI):Prop :=
  ∀ (pins:List (Addr × Obj)) (s:Shared) (σ:St) (H:Hp) (R:It→Hp→Prop),Inv X pins σ H s→wi σ H R →
    wpAny (model X.prog X.w) X.A (eval iter X.env) (fun v s1=>wpAny (model X.prog X.w) X.A (pyIter v) (PIE X pins σ tg R) X.xe s1) X.xe s
theorem a1k {M:Model} {A:Around} {E:Value→Shared→Prop} {s:Shared} {tg:Expr} {it:Addr} {u:Value} {o:Obj} {n:String} {vs:Array Value} {Q:Unit→Shared→Prop} (ho:s.heap.get? it = some o) (hc:o.cls = .type n) (hd:o.data = .fields vs)
    (hn:["enumerate","zip","dict_itemiterator","dict_reverseitemiterator","odict_iterator","itertools.zip_longest","itertools.pairwise"].contains n = false) (hQ:Q () s):wpAny M A (letOwnedTupleGo tg (.ref it) u) Q E s:=by
  unfold letOwnedTupleGo
  cases tg <;> first
    | exact wpAny_pure hQ
    | (cases u <;> first
        | exact wpAny_pure hQ
        | (refine wpAny_bind (wpAny_load ho ?_)
           rw [hc,hd]
           show wpAny M A (if (["enumerate","zip","dict_itemiterator","dict_reverseitemiterator","odict_iterator","itertools.zip_longest","itertools.pairwise"].contains n && vs[0]? == some (rawInt _)) = true then _ else _) Q E s
           rw [if_neg (by intro h; rw [hn,Bool.false_and] at h; cases h)]
           exact wpAny_pure hQ))
noncomputable def Itl (K:PySem.W.Frag) (a:Addr):It :=
  ⟨fun i H=>∃ xs x,SqL K H a xs∧xs[i]? = some x,fun i H x H'=>H' = H∧∀ xs,SqL K H a xs→xs[i]? = some x,fun i H=>∃ xs,SqL K H a xs∧xs.length≤i⟩
noncomputable def Itt (K:PySem.W.Frag) (a:Addr):It :=
  ⟨fun i H=>∃ xs x,SqT K H a xs∧xs[i]? = some x,fun i H x H'=>H' = H∧∀ xs,SqT K H a xs→xs[i]? = some x,fun i H=>∃ xs,SqT K H a xs∧xs.length≤i⟩
noncomputable def Itr (lo:Int) (n:Nat):It:=⟨fun i _=>i < n,fun i H x H'=>H' = H∧x = .int (lo + i),fun i _=>n≤i⟩
theorem Wy {P:Program} {w:World} {K:PySem.W.Frag} {tg:Expr} (a it:Addr):Turn P w K tg (Itl K a) [it] it (fun i h=>h.IsListIter it a i) where
  mem:=by simp
  obj:=fun i h st b hb=>by
    have e:b = it:=by simpa using hb
    subst e
    obtain ⟨o,e,c,d⟩:=st
    exact ⟨o,e,fun v z=>by rw [d] at z; cases z⟩
  keep:=fun i h h' st k=>st.at fun o e=>k it (by simp) o e
  item:=by
    intro X hP hw hK hc i pins s σ H E I hf st hg
    subst hP hw hK
    obtain ⟨xs,x,hq,hx⟩:=hg
    obtain ⟨its,rv,p,hz⟩:=I.list hq
    obtain ⟨u,hu,ru⟩:=rv.get hx
    obtain ⟨f0,f1,f2,f3,f4,f5⟩:=hf it (by simp)
    refine wpAny_pyNext_list_item st p.isList (x:=u) (by simpa using hu) fun h' st' sb=>?_
    have I1:Inv X pins σ H { s with heap:=h' }:=I.turned (t':=s.toks) (fun b o hb e=>(sb.2 b hb).trans e) f0 f1 f3 f4 f5
    obtain ⟨o,e,c,d⟩:=id st'
    exact ⟨u,rfl,a1k (s:={ s with heap:=h' }) e c d (by decide) ⟨x,H,I1,ru,⟨rfl,fun ys hy=>by rw [I.U4 hy hq]; exact hx⟩,st',fun b hb=>(hf b hb).1⟩⟩
  done:=by
    intro X hP hw hK hc i pins s σ H E I hf st hg
    subst hP hw hK
    obtain ⟨xs,hq,hx⟩:=hg
    obtain ⟨its,rv,p,hz⟩:=I.list hq
    obtain ⟨f0,f1,f2,f3,f4,f5⟩:=hf it (by simp)
    have hl:=rv.length
    exact wpAny_pyNext_list_end (I.ok.hd hc) st p.isList (by simp; omega) fun h' eb=>⟨rfl,I.turned (t':=s.toks) (fun b o hb e=>eb b o hb e) f0 f1 f3 f4 f5⟩
  self:=fun _ _ _ _ _ st h=>wpAny_pyIter_listiter st h
theorem V4 {P:Program} {w:World} {K:PySem.W.Frag} {tg:Expr} (a it:Addr):Turn P w K tg (Itt K a) [it] it (fun i h=>h.IsTupleIter it a i) where
  mem:=by simp
  obj:=fun i h st b hb=>by
    have e:b = it:=by simpa using hb
    subst e
    obtain ⟨o,e,c,d⟩:=st
    exact ⟨o,e,fun v z=>by rw [d] at z; cases z⟩
  keep:=fun i h h' st k=>st.at fun o e=>k it (by simp) o e
  item:=by
    intro X hP hw hK hc i pins s σ H E I hf st hg
    subst hP hw hK
    obtain ⟨xs,x,hq,hx⟩:=hg
    obtain ⟨its,rv,p,hz⟩:=I.tuple hq
    obtain ⟨u,hu,ru⟩:=rv.get hx
    obtain ⟨f0,f1,f2,f3,f4,f5⟩:=hf it (by simp)
    refine wpAny_pyNext_tuple_item st (show s.heap.IsTuple a its.toArray from p) (x:=u) (by simpa using hu) fun h' st' sb=>?_
    have I1:Inv X pins σ H { s with heap:=h' }:=I.turned (t':=s.toks) (fun b o hb e=>(sb.2 b hb).trans e) f0 f1 f3 f4 f5
    obtain ⟨o,e,c,d⟩:=id st'
    exact ⟨u,rfl,a1k (s:={ s with heap:=h' }) e c d (by decide) ⟨x,H,I1,ru,⟨rfl,fun ys hy=>by rw [I.Vs hy hq]; exact hx⟩,st',fun b hb=>(hf b hb).1⟩⟩
  done:=by
    intro X hP hw hK hc i pins s σ H E I hf st hg
    subst hP hw hK
    obtain ⟨xs,hq,hx⟩:=hg
    obtain ⟨its,rv,p,hz⟩:=I.tuple hq
    obtain ⟨f0,f1,f2,f3,f4,f5⟩:=hf it (by simp)
    have hl:=rv.length
    exact wpAny_pyNext_tuple_end (I.ok.hd hc) st (show s.heap.IsTuple a its.toArray from p) (by simp; omega) fun h' eb=>⟨rfl,I.turned (t':=s.toks) (fun b o hb e=>eb b o hb e) f0 f1 f3 f4 f5⟩
  self:=fun _ _ _ _ _ st h=>wpAny_pyIter_tupleiter st h
theorem Ul {P:Program} {w:World} {K:PySem.W.Frag} {tg:Expr} (it:Addr) (lo:Int) (n:Nat):Turn P w K tg (Itr lo n) [it] it (fun i h=>IsRangeIter h it (lo + (i:Nat) * 1) ((n:Int) - (i:Nat)) 1) where
  mem:=by simp
  obj:=fun i h st b hb=>by
    have e:b = it:=by simpa using hb
    subst e
    exact ⟨_,st,fun v z=>by
      have z':Data.fields _ = Data.cell v:=z
      cases z'⟩
  keep:=fun i h h' st k=>k it (by simp) _ st
  item:=by
    intro X hP hw hK hc i pins s σ H E I hf st hg
    subst hP hw hK
    obtain ⟨f0,f1,f2,f3,f4,f5⟩:=hf it (by simp)
    have W:=Walks.range (prog:=X.prog) (w:=X.w) (I.ok.hd hc) it lo 1 n
    refine W.item i s _ _ hg st fun v h' tk hv st' kk=>?_
    obtain ⟨t,rfl⟩:=hv
    have I1:Inv X pins σ H { s with heap:=h',toks:=tk }:=I.turned (fun b o hb e=>kk b o (by simpa using hb) e) f0 f1 f3 f4 f5
    refine ⟨_,rfl,a1k (s:={ s with heap:=h',toks:=tk }) (n := "range_iterator") st' rfl rfl (by decide) ⟨.int (lo + i),H,I1,⟨t,?_⟩,⟨rfl,rfl⟩,st',fun b hb=>(hf b hb).1⟩⟩
    rw [Int.mul_one]
  done:=by
    intro X hP hw hK hc i pins s σ H E I hf st hg
    subst hP hw hK
    obtain ⟨f0,f1,f2,f3,f4,f5⟩:=hf it (by simp)
    exact wpAny_pyNext_range_end (I.ok.hd hc) st (by have:n≤i:=hg; omega) fun h' eb=>⟨rfl,I.turned (t':=s.toks) (fun b o hb e=>eb b o hb e) f0 f1 f3 f4 f5⟩
  self:=fun _ _ _ _ _ st h=>wpAny_pyIter_rangeiter st h
end L2
namespace L2
open PySem PySem.Spec PyProof.Rows
noncomputable section
variable {X:Cx} {tg:Expr}
theorem Ym {pins:List (Addr × Obj)} {σ:St} {H:Hp} {s:Shared} {R:It→Hp→Prop} {E:Value→Shared→Prop} {lo hi:Int} {t u v:Tok} {tk:Nat} (I:Inv X pins σ H s) (h1:-(2 ^ 62)≤lo) (h2:lo < 2 ^ 62) (h3:-(2 ^ 62)≤hi) (h4:hi < 2 ^ 62)
    (q:R (Itr lo (hi - lo).toNat) H):wpAny (model X.prog X.w) X.A (pyIter (.ref s.heap.objs.size)) (PIE X pins σ tg R) E { s with heap:=s.heap.push { cls:=.type "range",data:=.fields #[.int lo t,.int hi u,.int 1 v] },toks:=tk }:=by
  refine wpAny_pyIter_range (IsRange.new ..) (small_one h1 h2 h3 h4) ?_
  have I1:Inv X pins σ H { s with heap:=s.heap.push { cls:=.type "range",data:=.fields #[.int lo t,.int hi u,.int 1 v] },toks:=tk }:=I.kept fun b o e=>Heap.get?_push_of_some _ e
  refine ⟨(s.heap.push { cls:=.type "range",data:=.fields #[.int lo t,.int hi u,.int 1 v] }).objs.size,[(s.heap.push { cls:=.type "range",data:=.fields #[.int lo t,.int hi u,.int 1 v] }).objs.size],_,_,H,rfl,
    I1.kept (t':=tk) fun b o e=>Heap.get?_push_of_some _ e,Ul _ lo (hi - lo).toNat,?_,fun b hb=>?_,q⟩
  · have e1:lo + ((0:Nat):Int) * 1 = lo:=by simp
    have e2:(((hi - lo).toNat:Nat):Int) - ((0:Nat):Int) = Builtin.Range.rangeSize lo hi 1:=by rw [rangeSize_one]; split <;> omega
    show IsRangeIter _ _ (lo + ((0:Nat):Int) * 1) ((((hi - lo).toNat:Nat):Int) - ((0:Nat):Int)) 1
    rw [e1,e2]
    exact Heap.get?_push_size _ rfl
  · have e:b = (s.heap.push { cls:=.type "range",data:=.fields #[.int lo t,.int hi u,.int 1 v] }).objs.size:=by simpa using hb
    subst e
    exact I1.a3s (Nat.le_refl _) (I1.hok.fresh (Nat.le_refl _))
noncomputable def a6o (ta:TA):TI:=fun σ H R=>ta σ H fun vs H1=>∃ j:Int,vs = [.int j]∧-(2 ^ 62)≤j∧j < 2 ^ 62∧R (Itr 0 j.toNat) H1
theorem Y5 {a:Expr} {ta:TA} {p pos:Pos} (hg:Gl X "range") (hm:X.mg "range" = none) (ha:PA X [a] ta) (hs:starEach [a] X.env = [(false,eval a X.env)]:=by rfl):PI X tg (.Call (.Name "range" p) [a] [] pos) (a6o ta):=by
  intro pins s σ H R I h
  refine Call_ (Ke I hg hm boot_range (PyProof.Rows.callWith_type1 (thn (ha pos pins s σ H _ I h) fun us s1 z0=>?_) hs rfl))
  obtain ⟨vs,H1,I1,r1,q1⟩:=z0
  obtain ⟨j,e,q1,q2,q⟩:=q1
  subst e
  cases r1 with
  | cons r rr =>
    cases rr
    obtain ⟨t,rfl⟩:=r
    exact call_range_1 (Ym I1 (by omega) (by omega) q1 q2 (by simpa using q))
noncomputable def a8g (wi:TI) (g:TG) (tb:TS):TS:=fun D σ H=>wi σ H fun J H1=>∃ W:Nat→Nat→St→Hp→Prop,(∃ m,W 0 m σ H1)∧∀ i m σ H,W i m σ H →
  (J.stop i H∧D.nx σ H)∨(J.go i H∧∃ N:St→Hp→Prop,(∀ σ' H',N σ' H'→∃ m',m' < m∧W (i + 1) m' σ' H')∧∀ x H',J.yld i H x H'→g x σ H' fun σ2 H2=>tb { D with nx:=N,ct:=N,bk:=D.nx } σ2 H2)
noncomputable def Pn (fp:List Addr) (h:Heap):List (Addr × Obj):=fp.filterMap fun b=>(h.get? b).map fun o=>(b,o)
theorem Dj {fp:List Addr} {h:Heap} {b:Addr} {o:Obj} (hb:b∈fp) (e:h.get? b = some o):(b,o)∈Pn fp h:=List.mem_filterMap.mpr ⟨b,hb,by rw [e]; rfl⟩
theorem Wq {fp:List Addr} {h:Heap} {p:Addr × Obj} (hp:p∈Pn fp h):p.1∈fp∧h.get? p.1 = some p.2:=by
  obtain ⟨b,hb,e⟩:=List.mem_filterMap.mp hp
  cases q:h.get? b with
  | none=>rw [q] at e; cases e
  | some o =>
    rw [q] at e
    have e':(b,o) = p:=Option.some.inj e
    subst e'
    exact ⟨hb,q⟩
theorem Inv.pinned {pins:List (Addr × Obj)} {σ:St} {H:Hp} {s:Shared} {fp:List Addr} (I:Inv X pins σ H s) (hf:∀ b∈fp,Q9 X pins H b) (ho:∀ b∈fp,∃ o,s.heap.get? b = some o∧∀ v,o.data≠.cell v):Inv X (pins ++ Pn fp s.heap) σ H s :=
  I.Wm fun p hp=>(List.mem_append.mp hp).elim (fun z=>I.pin p (List.mem_append_right _ z)) fun z=>by
    obtain ⟨hb,e⟩:=Wq z
    obtain ⟨f0,f1,f2,_⟩:=hf p.1 hb
    obtain ⟨o,e',d⟩:=ho p.1 hb
    rw [e] at e'; cases e'
    exact ⟨e,f0,f1,f2,d⟩
theorem Inv.Gx {pins pl:List (Addr × Obj)} {σ:St} {H:Hp} {s:Shared} (I:Inv X (pins ++ pl) σ H s):Inv X pins σ H s:=I.Wm fun p hp=>I.pin p (List.mem_append_right _ (List.mem_append_left _ hp))
theorem a5g {iter:Expr} {body:List Stmt} {wi:TI} {g:TG} {tb:TS} {pos:Pos} (hp:PassesOwn (model X.prog X.w) X.A X.env X.xe) (hc:X.calm = true) (hi:PI X tg iter wi) (hg:PG X tg g) (hb:PSs X body tb)
    (hs:∀ x,foldedSetIterable iter X.env x = pure x:=by intro _; rfl):PS X (.For tg iter body [] pos) (a8g wi g tb):=by
  intro pins s σ H D I h
  refine wpAny_For (thn (hi pins s σ H _ I h) fun v s1 h1=>thn h1 fun itv s2 h2=>?_) hs
  obtain ⟨it,fp,tn,J,H2,e,I2,T,st2,f2,W,⟨m0,w0⟩,turn⟩:=h2
  subst e
  have stat:∀ {H':Hp},(∀ b∈fp,H' b = none)→∀ b∈fp,Q9 X pins H' b:=fun hn b hb=>⟨hn b hb,(f2 b hb).2⟩
  refine codeAny_forLoop_any (fun n s'=>∃ i σ' H',Inv X pins σ' H' s'∧tn i s'.heap∧(∀ b∈fp,H' b = none)∧W i n σ' H') ?_ m0 ⟨0,σ,H2,I2,st2,fun b hb=>(f2 b hb).1,w0⟩
  rintro n s3 ⟨i,σ3,H3,I3,st3,fr3,w3⟩
  rcases turn i n σ3 H3 w3 with ⟨stop,qn⟩ | ⟨go,N,hN,step⟩
  · refine wpAny_passesOwn hp (thn (T.done X rfl rfl rfl hc i pins s3 σ3 H3 X.xe I3 (stat fr3) st3 stop) fun r s4 z0=>?_)
    obtain ⟨hr,I4⟩:=z0
    subst hr
    exact wpAny_execs_nil ⟨σ3,H3,I4,qn⟩
  · refine wpAny_passesOwn hp (thn (T.item X rfl rfl rfl hc i pins s3 σ3 H3 X.xe I3 (stat fr3) st3 go) fun r s4 z0=>?_)
    obtain ⟨u,hr,h4⟩:=z0
    subst hr
    refine wpAny_passesOwn hp (thn h4 fun _ s5 z0=>?_)
    obtain ⟨x,H5,I5,r5,y5,st5,fr5⟩:=z0
    have I5':=I5.pinned (stat fr5) (T.obj _ _ st5)
    refine wpAny_passesOwn hp (thn (hg _ s5 σ3 H5 x u _ I5' r5 (step x H5 y5)) fun _ s6 z0=>?_)
    obtain ⟨σ6,H6,I6,q6⟩:=z0
    refine wpAny_passesOwn hp (thn (hb _ s6 σ6 H6 _ I6 q6) fun f s7 q7=>?_)
    have again:∀ {σ7:St} {H7:Hp},Inv X (pins ++ Pn fp s5.heap) σ7 H7 s7→N σ7 H7→∃ m,m < n∧∃ i σ' H',Inv X pins σ' H' s7∧tn i s7.heap∧(∀ b∈fp,H' b = none)∧W i m σ' H':=fun {σ7 H7} I7 n7=>by
      obtain ⟨m',hm,w7⟩:=hN σ7 H7 n7
      refine ⟨m',hm,i + 1,σ7,H7,I7.Gx,T.keep _ _ _ st5 fun b hb o e=>(I7.pin (b,o) (List.mem_append_right _ (List.mem_append_right _ (Dj hb e)))).1,fun b hb=>?_,w7⟩
      obtain ⟨o,e,d⟩:=T.obj _ _ st5 b hb
      exact (I7.pin (b,o) (List.mem_append_right _ (List.mem_append_right _ (Dj hb e)))).2.1
    cases f with
    | next=>obtain ⟨σ7,H7,I7,n7⟩:=q7; exact again I7 n7
    | cont=>obtain ⟨σ7,H7,I7,n7⟩:=q7; exact again I7 n7
    | brk=>obtain ⟨σ7,H7,I7,q7⟩:=q7; exact ⟨σ7,H7,I7.Gx,q7⟩
    | ret v=>obtain ⟨x7,σ7,H7,I7,r7,q7⟩:=q7; exact ⟨x7,σ7,H7,I7.Gx,r7,q7⟩
end
end L2
namespace L2
open PySem PySem.Spec PyProof.Rows
noncomputable abbrev R2:=V→V→Hp→VK→Prop
noncomputable def OpR (X:Cx) (f:Value→Value→Sem Value) (r:R2):Prop :=
  ∀ (pins:List (Addr × Obj)) (s:Shared) (σ:St) (H:Hp) (x y:V) (v u:Value) (Q:VK),Inv X pins σ H s→RelV x v→RelV y u→r x y H Q →
    wpAny (model X.prog X.w) X.A (f v u) (EP X pins σ Q) X.xe s
noncomputable def UnR (X:Cx) (f:Value→Sem Value) (r:V→Hp→VK→Prop):Prop :=
  ∀ (pins:List (Addr × Obj)) (s:Shared) (σ:St) (H:Hp) (x:V) (v:Value) (Q:VK),Inv X pins σ H s→RelV x v→r x H Q →
    wpAny (model X.prog X.w) X.A (f v) (EP X pins σ Q) X.xe s
noncomputable def Ge (X:Cx) (f:Value) (r:List V→Hp→VK→Prop):Prop :=
  ∀ (pins:List (Addr × Obj)) (s:Shared) (σ:St) (H:Hp) (xs:List V) (us:List Value) (Q:VK),Inv X pins σ H s→Vals xs us→r xs H Q →
    wpAny (model X.prog X.w) X.A (call f us) (EP X pins σ Q) X.xe s
noncomputable def tOp (r:R2) (ta tb:TE):TE:=fun σ H Q=>ta σ H fun x H1=>tb σ H1 fun y H2=>r x y H2 Q
noncomputable def tUn (r:V→Hp→VK→Prop) (ta:TE):TE:=fun σ H Q=>ta σ H fun x H1=>r x H1 Q
noncomputable def rI (C:Int→Int→Prop) (g:Int→Int→V):R2:=fun x y H Q=>∃ i j,x = .int i∧y = .int j∧C i j∧Q (g i j) H
noncomputable def rI0 (g:Int→Int→V):R2:=fun x y H Q=>∃ i j,x = .int i∧y = .int j∧Q (g i j) H
noncomputable def rU (g:Int→V):V→Hp→VK→Prop:=fun x H Q=>∃ i,x = .int i∧Q (g i) H
noncomputable section
variable {X:Cx} {a b c:Expr} {ta tb tc:TE} {pos:Pos}
theorem a7k (ha:PE X a ta) (hb:PE X b tb) {pins:List (Addr × Obj)} {s:Shared} {σ:St} {H:Hp} {R:V→V→Hp→Prop} (I:Inv X pins σ H s)
    (h:ta σ H fun x H1=>tb σ H1 fun y H2=>R x y H2) {Q:Value→Shared→Prop} {f:Value→Value→Sem Value}
    (hf:∀ v u s2 x y H2,Inv X pins σ H2 s2→RelV x v→RelV y u→R x y H2→wpAny (model X.prog X.w) X.A (f v u) Q X.xe s2) :
    wpAny (model X.prog X.w) X.A (eval a X.env) (fun v s₁=>wpAny (model X.prog X.w) X.A (eval b X.env) (fun u s₂=>wpAny (model X.prog X.w) X.A (f v u) Q X.xe s₂) X.xe s₁) X.xe s:=by
  refine thn (ha pins s σ H _ I h) fun v s1 z0=>?_
  obtain ⟨x,H1,I1,r1,q1⟩:=z0
  refine thn (hb pins s1 σ H1 _ I1 q1) fun u s2 z0=>?_
  obtain ⟨y,H2,I2,r2,q2⟩:=z0
  exact hf v u s2 x y H2 I2 r1 r2 q2
theorem a3x {op:Operator} {r:R2} (ho:OpR X (binaryOp op) r) (ha:PE X a ta) (hb:PE X b tb):PE X (.BinOp a op b pos) (tOp r ta tb):=by
  intro pins s σ H Q I h
  exact wpAny_BinOp (a7k ha hb I h fun v u s2 x y H2 I2 rx ry q=>ho pins s2 σ H2 x y v u Q I2 rx ry q)
theorem a7g {op:UnaryOp} {r:V→Hp→VK→Prop} (ho:UnR X (unaryOp op) r) (ha:PE X a ta):PE X (.UnaryOp op a pos) (tUn r ta):=by
  intro pins s σ H Q I h
  exact UnaryOp_ (thn (ha pins s σ H _ I h) fun v s1 ⟨x,H1,I1,r1,q1⟩=>ho pins s1 σ H1 x v Q I1 r1 q1)
theorem opI {f:Value→Value→Sem Value} {C:Int→Int→Prop} {g:Int→Int→Int}
    (rule:∀ (i j:Int) (t u:Tok) (s:Shared) (Q:Value→Shared→Prop) (E:Value→Shared→Prop),C i j→Q (.int (g i j) s.toks) { s with toks:=s.toks + 1 }→wpAny (model X.prog X.w) X.A (f (.int i t) (.int j u)) Q E s) :
    OpR X f (rI C fun i j=>.int (g i j)):=by
  intro pins s σ H x y v u Q I rx ry h
  obtain ⟨i,j,rfl,rfl,hc,q⟩:=h
  obtain ⟨t,rfl⟩:=rx
  obtain ⟨t',rfl⟩:=ry
  exact rule i j t t' s _ _ hc ⟨.int (g i j),H,I.tok _,⟨_,rfl⟩,q⟩
theorem a7u {f:Value→Value→Sem Value} {g:Int→Int→Int}
    (rule:∀ (i j:Int) (t u:Tok) (s:Shared) (Q:Value→Shared→Prop) (E:Value→Shared→Prop),Q (.int (g i j) s.toks) { s with toks:=s.toks + 1 }→wpAny (model X.prog X.w) X.A (f (.int i t) (.int j u)) Q E s) :
    OpR X f (rI0 fun i j=>.int (g i j)):=by
  intro pins s σ H x y v u Q I rx ry h
  obtain ⟨i,j,rfl,rfl,q⟩:=h
  obtain ⟨t,rfl⟩:=rx
  obtain ⟨t',rfl⟩:=ry
  exact rule i j t t' s _ _ ⟨.int (g i j),H,I.tok _,⟨_,rfl⟩,q⟩
theorem a7o {f:Value→Value→Sem Value} {g:Int→Int→Bool}
    (rule:∀ (i j:Int) (t u:Tok) (s:Shared) (Q:Value→Shared→Prop) (E:Value→Shared→Prop),Q (.bool (g i j)) s→wpAny (model X.prog X.w) X.A (f (.int i t) (.int j u)) Q E s) :
    OpR X f (rI0 fun i j=>.bl (g i j)):=by
  intro pins s σ H x y v u Q I rx ry h
  obtain ⟨i,j,rfl,rfl,q⟩:=h
  obtain ⟨t,rfl⟩:=rx
  obtain ⟨t',rfl⟩:=ry
  exact rule i j t t' s _ _ ⟨.bl (g i j),H,I,rfl,q⟩
noncomputable def a87 (i j:Int):Prop:=0≤j∧j≤1000000∧i.natAbs < 2 ^ 64
noncomputable def a7e (i j:Int):Prop:=(-(2 ^ 64) < i∧i < 2 ^ 64)∨(-(2 ^ 64) < j∧j < 2 ^ 64)
theorem a7e.ok {i j:Int} (h:a7e i j):IntMulOk i j:=by
  rcases h with ⟨h1,h2⟩ | ⟨h1,h2⟩
  · exact .of_left (intBits_le_64 h1 h2)
  · exact .of_right (intBits_le_64 h1 h2)
theorem a5f:OpR X (binaryOp .Add) (rI0 fun i j=>.int (i + j)):=a7u fun _ _ _ _ _ _ _ q=>add_int q
theorem a4c:OpR X (binaryOp .Sub) (rI0 fun i j=>.int (i - j)):=a7u fun _ _ _ _ _ _ _ q=>sub_int q
theorem a4b:OpR X (binaryOp .Mult) (rI a7e fun i j=>.int (i * j)):=opI fun _ _ _ _ _ _ _ hc q=>mul_int q hc.ok
theorem a4g:OpR X (binaryOp .Mod) (rI (fun _ j=>0 < j) fun i j=>.int (i % j)):=opI fun i j _ _ _ _ _ hc q=>by
  have h1:(0:Int) < j:=hc
  exact mod_int' (by omega) (by rw [Int.fmod_eq_emod_of_nonneg i (by omega)]; exact q)
theorem a5t:OpR X (binaryOp .Pow) (rI a87 fun i j=>.int (i ^ j.toNat)):=opI fun _ _ _ _ _ _ _ hc q=>pow_int_small hc.1 hc.2.1 hc.2.2 q
theorem unI {f:Value→Sem Value} {g:Int→Int}
    (rule:∀ (i:Int) (t:Tok) (s:Shared) (Q:Value→Shared→Prop) (E:Value→Shared→Prop),Q (.int (g i) s.toks) { s with toks:=s.toks + 1 }→wpAny (model X.prog X.w) X.A (f (.int i t)) Q E s) :
    UnR X f (rU fun i=>.int (g i)):=by
  intro pins s σ H x v Q I rx h
  obtain ⟨i,rfl,q⟩:=h
  obtain ⟨t,rfl⟩:=rx
  exact rule i t s _ _ ⟨.int (g i),H,I.tok _,⟨_,rfl⟩,q⟩
theorem a4u:UnR X (unaryOp .USub) (rU fun i=>.int (-i)):=unI fun _ _ _ _ _ q=>neg_int q
end
noncomputable section
variable {X:Cx} {a b c:Expr} {ta tb tc:TE} {pos:Pos}
theorem a4s {pins:List (Addr × Obj)} {σ:St} {H:Hp} {s:Shared} {Q:VK} {k k':Bool} (I:Inv X pins σ H s) (q:Q (.bl k) H) (e:k = k'):EP X pins σ Q (.bool k') s:=by
  subst e
  exact ⟨.bl k,H,I,rfl,q⟩
theorem a7i:OpR X (compareOp .Lt) (rI0 fun i j=>.bl (decide (i < j))):=a7o fun _ _ _ _ _ _ _ q=>lt_int q
theorem a6l:OpR X (compareOp .LtE) (rI0 fun i j=>.bl (decide (i≤j))):=a7o fun _ _ _ _ _ _ _ q=>le_int q
theorem a74:OpR X (compareOp .Gt) (rI0 fun i j=>.bl (decide (j < i))):=a7o fun _ _ _ _ _ _ _ q=>gt_int q
theorem a2a:OpR X (compareOp .IsNot) (fun x y H Q=>y = .non∧Q (.bl (!decide (x = .non))) H):=by
  intro pins s σ H x y v u Q I rx ry h
  obtain ⟨rfl,q⟩:=h
  cases ry
  refine isnot_none_gen (a4s I q ?_)
  cases x <;> first
    | (cases rx; rfl)
    | (obtain ⟨t,rfl⟩:=rx; rfl)
theorem OpR.or {f:Value→Value→Sem Value} {r r':R2} (h:OpR X f r) (h':OpR X f r'):OpR X f (fun x y H Q=>r x y H Q∨r' x y H Q):=by
  intro pins s σ H x y v u Q I rx ry q
  rcases q with q | q
  · exact h pins s σ H x y v u Q I rx ry q
  · exact h' pins s σ H x y v u Q I rx ry q
theorem lg (b:Expr) {op:CmpOp} (h:op≠.In:=by decide) (h2:op≠.NotIn:=by decide):behindInMarks op b = false:=by
  have e1:(op == CmpOp.In) = false:=by cases op <;> first | rfl | exact absurd rfl h
  have e2:(op == CmpOp.NotIn) = false:=by cases op <;> first | rfl | exact absurd rfl h2
  cases b <;> simp [behindInMarks,e1,e2]
theorem a2y {op:CmpOp} {r:R2} (ho:OpR X (compareOp op) r) (ha:PE X a ta) (hb:PE X b tb) (hm:behindInMarks op b = false):PE X (.Compare a [op] [b] pos) (tOp r ta tb):=by
  intro pins s σ H Q I h
  exact wpAny_Compare1 (a7k ha hb I h fun v u s2 x y H2 I2 rx ry q=>ho pins s2 σ H2 x y v u Q I2 rx ry q) hm
noncomputable def a5c (t:TE):TT:=fun σ H Q=>t σ H fun x H'=>∃ k,x = .bl k∧Q k H'
theorem a1z {op:CmpOp} {r:R2} (ho:OpR X (compareOp op) r) (ha:PE X a ta) (hb:PE X b tb) (hm:behindInMarks op b = false):PT X (.Compare a [op] [b] pos) (a5c (tOp r ta tb)):=by
  intro pins s σ H Q I h
  refine wpAny_isTrue_Compare1 (thn (ha pins s σ H _ I h) fun v s1 ⟨x,H1,I1,r1,q1⟩=>thn (hb pins s1 σ H1 _ I1 q1) fun u s2 ⟨y,H2,I2,r2,q2⟩ =>
    thn (ho pins s2 σ H2 x y v u _ I2 r1 r2 q2) fun c s3 ⟨z,H3,I3,r3,k,e,q3⟩=>?_) hm
  subst e
  cases r3
  exact wpAny_truthy_bool ⟨H3,I3,q3⟩
theorem Lr:(sizeLine:Nat) < 2 ^ 63:=by rw [sizeLine_eq]; decide
theorem Ue:OpR X (binaryOp .Add) (fun x y H Q=>∃ i j,x = .str i∧y = .str j∧i.length + j.length≤sizeLine∧Q (.str (i ++ j)) H):=by
  intro pins s σ H x y v u Q I rx ry h
  obtain ⟨i,j,rfl,rfl,hz,q⟩:=h
  obtain ⟨t,rfl⟩:=rx
  obtain ⟨t',rfl⟩:=ry
  exact add_str (fun t' tk=>⟨.str (i ++ j),H,I.tok _,⟨_,rfl⟩,q⟩) hz
theorem vals1 {x:V} {us:List Value} (r:Vals [x] us):∃ u,us = [u]∧RelV x u:=by
  cases r with
  | cons r1 r2=>cases r2; exact ⟨_,rfl,r1⟩
end
end L2
namespace L2
open PySem PySem.Spec PyProof.Rows
structure a7m (h:Heap) (x dx C:Addr) (mA:Str→Option Value):Prop where
  obj:h.get? x = some (PySem.W.instObj C dx)
  ns:h.Ns1 dx mA
  ne:dx≠x
theorem Xm {h:Heap} {dx:Addr} {mA:Str→Option Value} (n:h.Ns1 dx mA):∃ od,h.get? dx = some od∧∀ name,PySem.W.lookIn name od = some (mA name):=by
  obtain ⟨o,es,ep,ho,hd,hk,_,hm⟩:=n
  refine ⟨o,ho,fun name=>?_⟩
  have e:=hm name
  unfold nsFind findBy at e
  rw [← Array.find?_toList] at e
  unfold PySem.W.lookIn
  rw [hd]
  dsimp only
  split
  · rename_i y q
    rw [q] at e
    exact congrArg some e
  · rename_i q
    rw [q] at e
    have a:es.toList.any (·.refKey) = false:=by
      rw [List.any_eq_false]
      intro y hy
      obtain ⟨z,t,hkey⟩:=hk y (Array.mem_toList_iff.mp hy)
      simp [DictEntry.refKey,hkey]
    have a':¬ es.toList.any (·.refKey) = true:=by rw [a]; exact Bool.false_ne_true
    rw [if_neg a']
    exact congrArg some e
theorem a7m.look {h:Heap} {x dx C:Addr} {mA:Str→Option Value} (I:a7m h x dx C mA):∃ od,PySem.W.InstAt h x (PySem.W.instObj C dx) C (some od)∧∀ name,PySem.W.lookIn name od = some (mA name) :=
  let ⟨od,ho,hl⟩:=Xm I.ns
  ⟨od,⟨I.obj,rfl,rfl,ho⟩,hl⟩
noncomputable section
variable {prog:Program} {w:World} {A:Around} {E:Value→Shared→Prop} {s:Shared} {K:PySem.W.Frag} {x dx C f:Addr} {mA:Str→Option Value} {name:Str} {v:Value}
end
theorem Q6.some_of {v:V} {o:Option Value} (r:Q6 (some v) o):∃ u,o = some u∧RelV v u:=by
  cases o with
  | none=>exact (show False from r).elim
  | some u=>exact ⟨u,rfl,r⟩
theorem Q6.none_of {o:Option Value} (r:Q6 none o):o = none:=by
  cases o with
  | none=>rfl
  | some u=>exact (show False from r).elim
noncomputable section
variable {P:Program} {w:World} {H H':Hp} {h h':Heap} {a C dx:Addr} {fs fs':List (Str × V)}
theorem a2k (hok:HOk P w H h) (e:H a = some (.ins C dx fs)):∃ mA,a7m h a dx C mA∧(∀ f,Q6 (fs.lookup f) (mA f))∧PySem.Within mA (fs.map (·.1))∧fs.length≤1000∧H dx = some (.own a):=by
  obtain ⟨d,z,ne,ob,mA,n,r,q⟩:=(show zq P w H h a (.ins C dx fs) from hok a _ e)
  exact ⟨mA,⟨ob,n,ne⟩,r,q,z,d⟩
end
structure Cls (K:PySem.W.Frag) (C:Addr):Prop where
  pg:PySem.W.plainGet K C Str.empty = true
  hd:PySem.W.hasDictIn K C = true
  po:PySem.W.plainOver K C = true
  sa:PySem.W.findIn K (.ref C) "__setattr__" = some (some (.builtin "object.__setattr__"))
theorem Cls.get {K:PySem.W.Frag} {C:Addr} (c:Cls K C) (f:Str):PySem.W.plainGet K C f = true:=c.pg
structure Con (K:PySem.W.Frag) (C:Addr) (f:Str) (v:V) (u:Value):Prop where
  at_:PySem.W.findIn K (.ref C) f = some (some u)
  rel:RelV v u
  get:PySem.W.specialIn K u "__get__" = some none
  cp:PySem.W.copiedNames.contains f = false
structure Meth (K:PySem.W.Frag) (C:Addr) (m:Str) (f:Addr):Prop where
  at_:PySem.W.findIn K (.ref C) m = some (some (.ref f))
  fn:PySem.W.isFn K (.ref f) = true
  kp:PySem.W.keepIn K (.ref f) = true
noncomputable section
variable {X:Cx} {pins:List (Addr × Obj)} {σ:St} {H:Hp} {s:Shared} {a C dx:Addr} {fs:List (Str × V)} {f:Str} {v:V} {A:Around} {E:Value→Shared→Prop}
end
noncomputable section
variable {X:Cx} {o e value:Expr} {f:Str} {pos pos' tpos:Pos} {ta tv:TE}
end
noncomputable section
variable {X:Cx} {pins:List (Addr × Obj)} {σ:St} {H:Hp} {s:Shared} {A:Around} {E:Value→Shared→Prop} {Q:Value→Shared→Prop} {c:Value} {b:Bool}
inductive Vk (K:PySem.W.Frag) (H:Hp):V→Value→Prop where
  | non:Vk K H .non (.type "NoneType")
  | bl (x:Bool):Vk K H (.bl x) (.type "bool")
  | int (i:Int):Vk K H (.int i) (.type "int")
  | str (x:Str):Vk K H (.str x) (.type "str")
  | flt (x:UInt64):Vk K H (.flt x) (.type "float")
  | lst {a:Addr} {xs:List V} (e:H a = some (.lst xs)):Vk K H (.ref a) (.type "list")
  | frz {a:Addr} {o:Obj} {xs:List V} (e:H a = some (.frz o (.lst xs))):Vk K H (.ref a) (.type "list")
  | tup {a:Addr} {xs:List V} (e:H a = some (.tup xs)):Vk K H (.ref a) (.type "tuple")
  | dK {a:Addr} {kvs:List (Key × V)} (e:H a = some (.dK kvs)):Vk K H (.ref a) (.type "dict")
  | dT {a:Addr} {kvs:List (List Key × V)} (e:H a = some (.dT kvs)):Vk K H (.ref a) (.type "dict")
  | ins {a C dx:Addr} {fs:List (Str × V)} (e:H a = some (.ins C dx fs)) (cl:Cls K C) (ha:PySem.W.findIn K (.ref C) "__class__" = some (some (.builtin "object.__class__")))
      (hn:PySem.W.specialIn K (.builtin "object.__class__") "__get__" = some (some (.builtin "getset_descriptor.__get__"))) (htk:PySem.W.takesIn K (.builtin "object.__class__") = some true)
      (hm:PySem.W.mroIn K C (.type "object") = some true):Vk K H (.ref a) (.ref C)
theorem Gn {x:V} {u t:Value} (I:Inv X pins σ H s) (rx:RelV x u) (ty:Vk X.K H x t) (e:PySem.W.kitOne X.K t c = some b) (h:∀ tk,Q (.bool b) { s with toks:=tk }) :
    wpAny (model X.prog X.w) A (call (.builtin "isinstance") [u,c]) Q E s:=by
  cases ty with
  | non=>cases (show u = Value.none from rx); exact PySem.W.kia_one PySem.W.kitx_none I.kIn True.intro e (fun z=>nomatch z) h
  | bl y=>cases (show u = Value.bool y from rx); exact PySem.W.kia_one PySem.W.kitx_bool I.kIn True.intro e (fun z=>nomatch z) h
  | int i=>obtain ⟨t,q⟩:=(show ∃ t,u = Value.int i t from rx); cases q; exact PySem.W.kia_one PySem.W.kitx_int I.kIn True.intro e (fun z=>nomatch z) h
  | str y=>obtain ⟨t,q⟩:=(show ∃ t,u = Value.str y t from rx); cases q; exact PySem.W.kia_one PySem.W.kitx_str I.kIn True.intro e (fun z=>nomatch z) h
  | flt y=>obtain ⟨t,q⟩:=(show ∃ t,u = Value.float y t from rx); cases q; exact PySem.W.kia_one PySem.W.kitx_float I.kIn True.intro e (fun z=>nomatch z) h
  | @lst a xs ea =>
    cases (show u = Value.ref a from rx)
    obtain ⟨_,_,n,_,h1⟩:=(show zq X.prog X.w H s.heap a (.lst xs) from I.hok a _ ea)
    exact PySem.W.kia_one PySem.W.kitx_list I.kIn ⟨_,h1,rfl⟩ e (fun z=>nomatch z) h
  | @frz a ob xs ea =>
    cases (show u = Value.ref a from rx)
    obtain ⟨_,_,_,n,_,h1⟩:=(show zq X.prog X.w H s.heap a (.frz ob (.lst xs)) from I.hok a _ ea)
    exact PySem.W.kia_one PySem.W.kitx_list I.kIn ⟨_,h1,rfl⟩ e (fun z=>nomatch z) h
  | @tup a xs ea =>
    cases (show u = Value.ref a from rx)
    obtain ⟨_,_,_,p⟩:=(show zq X.prog X.w H s.heap a (.tup xs) from I.hok a _ ea)
    obtain ⟨o,h1,h2,_⟩:=p
    exact PySem.W.kia_one PySem.W.kitx_tuple I.kIn ⟨o,h1,h2⟩ e (fun z=>nomatch z) h
  | @dK a kvs ea =>
    cases (show u = Value.ref a from rx)
    obtain ⟨_,_,vs,_,p⟩:=(show zq X.prog X.w H s.heap a (.dK kvs) from I.hok a _ ea)
    obtain ⟨o,es,ep,h1,h2,_⟩:=p
    exact PySem.W.kia_one PySem.W.kitx_dict I.kIn ⟨o,h1,h2.1⟩ e (fun z=>nomatch z) h
  | @dT a kvs ea =>
    cases (show u = Value.ref a from rx)
    obtain ⟨_,_,xs,_,o,es,ep,h1,h2,_⟩:=(show zq X.prog X.w H s.heap a (.dT kvs) from I.hok a _ ea)
    exact PySem.W.kia_one PySem.W.kitx_dict I.kIn ⟨o,h1,h2.1⟩ e (fun z=>nomatch z) h
  | @ins a C dx fs ea cl ha hn htk hm =>
    cases (show u = Value.ref a from rx)
    obtain ⟨mA,O,_⟩:=a2k I.hok ea
    obtain ⟨od,J,_⟩:=O.look
    exact PySem.W.kia_one (PySem.W.kitx_own (cl.get _) cl.hd ha hn htk hm) I.kIn J e (fun z=>nomatch z) h
end
end L2
namespace L2
open PySem PySem.Spec PyProof.Rows
structure Le (k:Nat) (A:Around):Prop where
  hd:A.handled = none
  dp:A.depth + 3 * k + 5 < recursionLimit
  un:A.units + 16 * k + 200 < cLine
theorem Le.mono {j k:Nat} {A:Around} (r:Le k A) (h:j≤k):Le j A:=⟨r.hd,by have:=r.dp; omega,by have:=r.un; omega⟩
theorem Le.deeper {k:Nat} {A:Around} (r:Le (k + 1) A) (env:Env):Le k (A.deeper env) :=
  ⟨r.hd,by have:=r.dp; show A.depth + 1 + 3 * k + 5 < _; omega,by have:=r.un; show A.units + 3 + 16 * k + 200 < _; omega⟩
theorem Le.depth {k:Nat} {A:Around} (r:Le k A):A.depth < recursionLimit:=by have:=r.dp; omega
theorem Le.units {k:Nat} {A:Around} (r:Le k A):A.units + 64 < cLine:=by have:=r.un; omega
noncomputable def a4t:TA:=fun _ H Q=>Q [] H
noncomputable def Wb (ta:TE) (tr:TA):TA:=fun σ H Q=>ta σ H fun x H1=>tr σ H1 fun xs H2=>Q (x :: xs) H2
noncomputable section
variable {X:Cx} {e:Expr} {es:List Expr} {te:TE} {t:TA} {pos:Pos}
theorem Cm:PA X [] a4t:=fun _ _ _ _ H Q I h=>Calls.spliced_nil ⟨[],H,I,.nil,h⟩
theorem Ab (ha:PE X e te) (hr:PA X es t) (hs:starEach (e :: es) X.env = (false,eval e X.env) :: starEach es X.env:=by rfl):PA X (e :: es) (Wb te t):=by
  intro pos pins s σ H Q I h
  rw [hs]
  show wpAny _ _ (spliced ((false,eval e X.env) :: backTo pos (starEach es X.env))) _ _ s
  refine Calls.spliced_cons (thn (ha pins s σ H _ I h) fun u s1 z0=>?_)
  obtain ⟨x,H1,I1,r1,q1⟩:=z0
  exact thn (hr pos pins s1 σ H1 _ I1 q1) fun us s2 ⟨xs,H2,I2,r2,q2⟩=>⟨x :: xs,H2,I2,.cons r1 r2,q2⟩
noncomputable def a8b (t:TA):TE:=fun σ H Q=>t σ H fun xs H1=>xs.length≤sizeLine∧∀ p,H1 p = none→Q (.ref p) (upd H1 p (.tup xs))
noncomputable def a83 (t:TA):TE:=fun σ H Q=>t σ H fun xs H1=>xs.length≤sizeLine∧∀ p,H1 p = none→Q (.ref p) (upd H1 p (.lst xs))
theorem a4h {x1} (h:PA X es t):PE X (.Tuple es x1 pos) (a8b t):=by
  intro pins s σ H Q I hq
  refine wpAny_Tuple_spliced (thn (h pos pins s σ H _ I hq) fun us s1 ⟨xs,H1,I1,r,z,q⟩=>⟨by rw [← r.length]; exact z,?_⟩)
  have hf:H1 s1.heap.objs.size = none:=I1.hok.fresh (Nat.le_refl _)
  refine ⟨.ref s1.heap.objs.size,upd H1 s1.heap.objs.size (.tup xs),I1.laid (t':=s1.toks) (fun b u e=>Heap.get?_push_of_some _ e) (Nat.le_refl _) ?_,rfl,q _ hf⟩
  exact ⟨z,us,r,⟨_,Heap.get?_push_size _ rfl,rfl,rfl,_,rfl⟩⟩
theorem Tr (h:PA X es t):PE X (.List es pos) (a83 t):=by
  intro pins s σ H Q I hq
  refine wpAny_List_spliced (thn (h pos pins s σ H _ I hq) fun us s1 ⟨xs,H1,I1,r,z,q⟩=>⟨by rw [← r.length]; exact z,?_⟩)
  have hf:H1 s1.heap.objs.size = none:=I1.hok.fresh (Nat.le_refl _)
  refine ⟨.ref s1.heap.objs.size,upd H1 s1.heap.objs.size (.lst xs),I1.laid (t':=s1.toks) (fun b u e=>Heap.get?_push_of_some _ e) (Nat.le_refl _) ?_,rfl,q _ hf⟩
  exact ⟨z,us,0,r,Heap.get?_push_size _ rfl⟩
end
noncomputable abbrev Sp:=List V→Hp→VK→XK→Prop
noncomputable abbrev CXT:=List Env→Hp→Shared→XK→Value→Shared→Prop
structure a6h (P:Program) (w:World) (K:PySem.W.Frag) (mg:Str→Option Value) (base:Heap) (A:Around) (outer:List Env) (s:Shared) (H:Hp):Prop where
  frames:A.frames = some outer
  mod:Mod K mg base
  bs:∀ b o,base.get? b = some o→s.heap.get? b = some o∧H b = none
  bsz:base.objs.size≤s.heap.objs.size
  Vj:s.heap.FunFrames base outer
  frf:∀ b∈frs outer,H b = none
  hok:HOk P w H s.heap
  bare:AllBare s.gens
noncomputable def CE (outer:List Env) (P:Program) (w:World) (H:Hp) (s:Shared) (Q:VK) (u:Value) (s':Shared):Prop :=
  ∃ v H',s'.os = s.os∧AllBare s'.gens∧Un (frs outer) [] H H' s.heap s'.heap∧HOk P w H' s'.heap∧RelV v u∧Q v H'
noncomputable def CR (CX:CXT) (outer:List Env) (P:Program) (w:World) (H:Hp) (s:Shared) (Q:VK) (E:XK) (r:Result) (s':Shared):Prop :=
  match r with
  | .ok (.ret u)=>CE outer P w H s Q u s'
  | .ok _=>False
  | .error e=>CX outer H s E e s'
structure Cv (P:Program) (w:World) (K:PySem.W.Frag) (mg:Str→Option Value) (base:Heap) (CX:CXT) (k:Nat) (f:Addr) (fd:FuncData) (ps:List Str) (sp:Sp):Prop where
  len:∀ vs H Q E,sp vs H Q E→vs.length = ps.length
  run:∀ (A:Around) (outer:List Env) (s:Shared) (H:Hp) (args:Args) (us:List Value) (vs:List V) (Q:VK) (E:XK),Le k A→a6h P w K mg base A outer s H→BindsTo s fd args (ps.zip us)→Vals vs us→sp vs H Q E →
    codeAny (model P w) A (.call (.ref f) args) (CR CX outer P w H s Q E) s
theorem Cv.mono {P:Program} {w:World} {K:PySem.W.Frag} {mg:Str→Option Value} {base:Heap} {CX:CXT} {j k:Nat} {f:Addr} {fd:FuncData} {ps:List Str} {sp:Sp} (F:Cv P w K mg base CX j f fd ps sp) (h:j≤k) :
    Cv P w K mg base CX k f fd ps sp:=⟨F.len,fun A outer s H args us vs Q E hr=>F.run A outer s H args us vs Q E (hr.mono h)⟩
theorem Cv.imp {P:Program} {w:World} {K:PySem.W.Frag} {mg:Str→Option Value} {base:Heap} {CX:CXT} {k:Nat} {f:Addr} {fd:FuncData} {ps:List Str} {sp sp':Sp} (F:Cv P w K mg base CX k f fd ps sp)
    (h:∀ vs H Q E,sp' vs H Q E→sp vs H Q E):Cv P w K mg base CX k f fd ps sp' :=
  ⟨fun vs H Q E q=>F.len vs H Q E (h _ _ _ _ q),fun A outer s H args us vs Q E hr he hb hv hs=>F.run A outer s H args us vs Q E hr he hb hv (h _ _ _ _ hs)⟩
noncomputable section
variable {X:Cx} {pins:List (Addr × Obj)} {σ:St} {H:Hp} {s s':Shared}
theorem Inv.env0 (I:Inv X pins σ H s):a6h X.prog X.w X.K X.mg X.base X.A X.stack s H :=
  ⟨I.ok.frames,I.ok.mod,I.bs,Nat.le_trans I.ok.bsz I.sz,I.stack,I.Vo,I.hok,I.bare⟩
theorem Inv.after {Q:VK} {u:Value} (I:Inv X pins σ H s) (h:CE X.stack X.prog X.w H s Q u s'):EP X pins σ Q u s':=by
  obtain ⟨v,H',os,bare,un,hok,r,q⟩:=h
  obtain ⟨hh,g,d,t,os'⟩:=s'
  obtain rfl:os' = s.os:=os
  exact ⟨v,H',I.call (h':=hh) (g':=g) (d':=d) (t':=t) (ch:=[]) un hok bare (fun b z=>absurd z (by simp)),r,q⟩
end
noncomputable def a6w (sp:Sp) (dvs:List V) (E:XK) (t:TA):TE:=fun σ H Q=>t σ H fun vs H1=>sp (vs ++ dvs) H1 Q E
noncomputable def Binds (K:PySem.W.Frag) (fd:FuncData) (ps:List Str) (ds:List Value):Prop :=
  ∀ (s:Shared) (us:List Value),K.In s.heap→(us ++ ds).length = ps.length→BindsTo s fd ⟨us,[]⟩ (ps.zip (us ++ ds))
theorem Binds.all {K:PySem.W.Frag} {fd:FuncData} {ps:List Str} (h:∀ us:List Value,us.length = ps.length→bindArgs fd ⟨us,[]⟩ = pure (ps.zip us)):Binds K fd ps []:=fun s us _ hl=>by
  rw [List.append_nil] at hl ⊢
  exact .of_eq (h us hl)
noncomputable def Passes (CX:CXT) (X:Cx) (E:XK):Prop:=∀ (pins:List (Addr × Obj)) (σ:St) (H:Hp) (s:Shared) (e:Value) (s':Shared),Inv X pins σ H s→CX X.stack H s E e s'→X.xe e s'
noncomputable section
variable {X:Cx} {CX:CXT} {k:Nat} {f C:Addr} {fd:FuncData} {ps:List Str} {sp:Sp} {dvs:List V} {ds:List Value} {E:XK} {x m:Str} {p pos apos:Pos} {e o:Expr} {es:List Expr} {ta:TE} {t:TA}
theorem a6f {pins:List (Addr × Obj)} {σ:St} {H:Hp} {s:Shared} {Q:VK} {us:List Value} {vs:List V} (F:Cv X.prog X.w X.K X.mg X.base CX k f fd ps sp) (hr:Le k X.A) (hb:Binds X.K fd ps ds) (hd:Vals dvs ds) (hx:Passes CX X E)
    (I:Inv X pins σ H s) (r:Vals vs us) (h:sp (vs ++ dvs) H Q E):wpAny (model X.prog X.w) X.A (call (.ref f) us) (EP X pins σ Q) X.xe s:=by
  have r2:Vals (vs ++ dvs) (us ++ ds):=r.append hd
  have hl:(us ++ ds).length = ps.length:=by rw [← r2.length]; exact F.len _ _ _ _ h
  refine wpAny_call (codeAny_mono (F.run X.A X.stack s H ⟨us,[]⟩ (us ++ ds) (vs ++ dvs) Q E hr I.env0 (hb s us I.kIn hl) r2 h) fun r s' hq=>?_)
  cases r with
  | error e=>exact hx pins σ H s e s' I hq
  | ok fl =>
    cases fl with
    | ret u=>exact I.after hq
    | next=>exact False.elim hq
    | brk=>exact False.elim hq
    | cont=>exact False.elim hq
theorem a1w (F:Cv X.prog X.w X.K X.mg X.base CX k f fd ps sp) (hr:Le k X.A) (hg:Gl X x) (hm:X.mg x = some (.ref f)) (hk:PySem.W.keepIn X.K (.ref f) = true) (hb:Binds X.K fd ps ds) (hd:Vals dvs ds) (hx:Passes CX X E)
    (ha:PA X (e :: es) t) (hdb:(x == ("__debug__" : Str)) = false:=by decide) (he:starEach (e :: es) X.env = (false,eval e X.env) :: starEach es X.env:=by rfl) (hpl:(backTo pos (starEach es X.env)).any (·.1) = false:=by rfl) :
    PE X (.Call (.Name x p) (e :: es) [] pos) (a6w sp dvs E t):=by
  intro pins s σ H Q I h
  refine wpAny_Call_Name_kw (a3l I hg hm ?_ hdb)
  refine PySem.W.callWith_K (h₀:=X.base) I.ok.mod.kin hk (thn (ha pos pins s σ H _ I h) fun us s1 ⟨vs,H1,I1,r,q⟩=>⟨I1.kIn,?_⟩) he hpl
  exact a6f F hr hb hd hx I1 r q
structure Mk (K:PySem.W.Frag) (C f:Addr):Prop where
  makes:PySem.W.makesIn K C = true
  init:PySem.W.findIn K (.ref C) "__init__" = some (some (.ref f))
  fn:PySem.W.isFn K (.ref f) = true
  kp:PySem.W.keepIn K (.ref C) = true
end
noncomputable section
variable {X:Cx} {CX:CXT} {k:Nat} {f C:Addr} {fd:FuncData} {ps ks:List Str} {sp:Sp} {E:XK} {x m:Str} {p pos apos kpos:Pos} {e o:Expr} {es:List Expr} {kws:List Keyword} {te ta:TE} {t tk:TA} {nm:Option Str}
structure a7y (K:PySem.W.Frag) (fd:FuncData) (ps ks:List Str) (g:List Value→List Value→List Value) (gV:List V→List V→List V):Prop where
  to:∀ (s:Shared) (us ws:List Value),K.In s.heap→(g us ws).length = ps.length→BindsTo s fd ⟨us,ks.zip ws⟩ (ps.zip (g us ws))
  rel:∀ {vs:List V} {us:List Value} {zs:List V} {ws:List Value},Vals vs us→Vals zs ws→Vals (gV vs zs) (g us ws)
variable {g:List Value→List Value→List Value} {gV:List V→List V→List V}
end
structure ou (N P:List Str) (sc:Scope):Prop where
  kind:sc.kind = .function
  co:sc.isCoroutine = false
  gen:sc.isGenerator = false
  nd:N.Nodup
  pre:N.take P.length = P
  par:∀ x∈P,sc.names.lookup x = some .local∨sc.names.lookup x = some .cell
  nofree:∀ y∈sc.names,y.2≠.free
theorem Ov {kindOf:Str→Option NameKind} {x:Str}:∀ {binds:List (Str × Value)} {m:Str→Option Value},(∀ v,(x,v)∉binds)→bindL kindOf binds m x = m x
  | [],_,_=>rfl
  | (n,v) :: r,m,h=>by
    unfold bindL
    rw [Ov fun w hw=>h w (List.mem_cons_of_mem _ hw)]
    split
    · have:x≠n:=by rintro rfl; exact h v List.mem_cons_self
      simp [this]
    · rfl
theorem Q5 {kindOf:Str→Option NameKind} {x:Str}:∀ {binds:List (Str × Value)} {m:Str→Option Value},(∀ v,(x,v)∉binds)→bindC kindOf binds m x = m x
  | [],_,_=>rfl
  | (n,v) :: r,m,h=>by
    unfold bindC
    rw [Q5 fun w hw=>h w (List.mem_cons_of_mem _ hw)]
    split
    · rfl
    · have:x≠n:=by rintro rfl; exact h v List.mem_cons_self
      simp [this]
theorem O2 {kindOf:Str→Option NameKind} {x:Str} {v:Value}:∀ {P:List Str} {vs:List Value} {i:Nat} {m:Str→Option Value},P.Nodup→P[i]? = some x→vs[i]? = some v→kindOf x = some .local →
    bindL kindOf (P.zip vs) m x = some v
  | [],_,_,_,_,h,_,_=>by simp at h
  | _ :: _,[],_,_,_,_,h,_=>by simp at h
  | p :: P,w :: vs,0,m,nd,h1,h2,hk=>by
    simp at h1 h2; subst h1; subst h2
    show bindL kindOf ((p,w) :: P.zip vs) m p = _
    unfold bindL
    rw [Ov fun v hv=>(List.nodup_cons.mp nd).1 (List.of_mem_zip hv).1,if_pos hk]
    simp
  | p :: P,w :: vs,i + 1,m,nd,h1,h2,hk=>by
    show bindL kindOf ((p,w) :: P.zip vs) m x = _
    unfold bindL
    exact O2 (i:=i) (List.nodup_cons.mp nd).2 (by simpa using h1) (by simpa using h2) hk
theorem Pz {kindOf:Str→Option NameKind} {x:Str} {v:Value}:∀ {P:List Str} {vs:List Value} {i:Nat} {m:Str→Option Value},P.Nodup→P[i]? = some x→vs[i]? = some v→kindOf x≠some .local →
    bindC kindOf (P.zip vs) m x = some v
  | [],_,_,_,_,h,_,_=>by simp at h
  | _ :: _,[],_,_,_,_,h,_=>by simp at h
  | p :: P,w :: vs,0,m,nd,h1,h2,hk=>by
    simp at h1 h2; subst h1; subst h2
    show bindC kindOf ((p,w) :: P.zip vs) m p = _
    unfold bindC
    rw [Q5 fun v hv=>(List.nodup_cons.mp nd).1 (List.of_mem_zip hv).1,if_neg hk]
    simp
  | p :: P,w :: vs,i + 1,m,nd,h1,h2,hk=>by
    show bindC kindOf ((p,w) :: P.zip vs) m x = _
    unfold bindC
    exact Pz (i:=i) (List.nodup_cons.mp nd).2 (by simpa using h1) (by simpa using h2) hk
noncomputable def start (N:List Str) (vs:List V):St:=vs.map some ++ List.replicate (N.length - vs.length) none
noncomputable def a2j (CX:CXT) (P:Program) (w:World) (K:PySem.W.Frag) (mg:Str→Option Value) (base:Heap) (N:List Str) (qual:Str) (scope:Scope) (f:Addr) (cd:Value) (A:Around) (outer:List Env) (s:Shared) (H:Hp) (E:XK):Cx where
  prog:=P
  w:=w
  K:=K
  mg:=mg
  base:=base
  A:=A.deeper (envOfC qual scope s.heap.objs.size f cd)
  N:=N
  s₀:=s
  H₀:=H
  env:=envOfC qual scope s.heap.objs.size f cd
  outer:=outer
  stack:=envOfC qual scope s.heap.objs.size f cd :: outer
  ex:=[]
  calm:=true
  fn:=fun _=>true
  pn:=[]
  xe:=fun e s'=>wpAny (model P w) (A.deeper (envOfC qual scope s.heap.objs.size f cd)) (leaving (envOfC qual scope s.heap.objs.size f cd) e) (fun _ s''=>CX outer H s E e s'') (fun e' s''=>CX outer H s E e' s'') s'
theorem Ss {sc:Scope} {n:Nat} {x:Str} (h:sc.names.lookup x = some .cell):∃ c,(cellsFrom n sc.names []).lookup x = some c:=by
  have q:=PySem.W.cellsFrom_some sc.names n [] (.inl h)
  exact Option.isSome_iff_exists.mp q
theorem Wt {CX:CXT} {P:Program} {w:World} {K:PySem.W.Frag} {mg:Str→Option Value} {base:Heap} {N ps:List Str} {qual:Str} {scope:Scope} {f:Addr} {cd:Value} {A:Around} {outer:List Env} {s s1:Shared} {H:Hp} {E:XK} {us:List Value} {vs:List V}
    (S:ou N ps scope) (hd:A.handled = none) (e0:a6h P w K mg base A outer s H) (hl:vs.length = ps.length) (r:Vals vs us)
    (x:InCallC s s.heap.objs.size (bindL (envOfC qual scope s.heap.objs.size f cd).kindOf (ps.zip us) fun _=>none) (cellsFrom (s.heap.objs.size + 1) scope.names []) (bindC (envOfC qual scope s.heap.objs.size f cd).kindOf (ps.zip us) fun _=>none) s1) :
    Inv (a2j CX P w K mg base N qual scope f cd A outer s H E) [] (start N vs) H s1:=by
  have hpl:ps.length≤N.length:=by have:=congrArg List.length S.pre; rw [List.length_take] at this; omega
  obtain ⟨h1,tk,rfl,hk⟩:=x.done
  have noA:∀ b:Addr,b∉(a2j CX P w K mg base N qual scope f cd A outer s H E).ex:=fun b z=>absurd (show b∈([]:List Addr) from z) (by simp)
  refine ⟨⟨e0.mod,S.kind,rfl,rfl,Nat.le_refl _,fun y z c h1 h2=>?_,fun y hy=>?_,fun y c _ h=>?_,fun _=>hd,Around.frames_deeper e0.frames,.inr ⟨rfl,rfl⟩,fun b z=>absurd z (noA b),e0.bs,e0.bsz,fun b _ _=>noA b,fun b z=>absurd z (noA b),e0.Vj,e0.frf⟩,
    rfl,e0.bare,Un.kept hk,⟨_,x.toInCall.ns,fun i y v h1 h2 h3=>?_⟩,fun y c h=>⟨_,x.cell y c h⟩,e0.hok.fresh (Nat.le_refl _),fun y c h=>?_,fun p hp=>absurd (show p∈([]:List (Addr × Obj)) from hp) (by simp),e0.hok.kept hk,?_⟩
  · exact name_of_addr x.apart (PySem.mem_of_lookup h1) (PySem.mem_of_lookup h2)
  · have hy:scope.names.lookup y = some .cell∨scope.names.lookup y = some .free:=hy
    rcases hy with hy | hy
    · exact Ss hy
    · exact absurd rfl (S.nofree _ (PySem.mem_of_lookup hy))
  · exact Nat.le_of_lt (x.above y c (PySem.mem_of_lookup h))
  · have hi:i < vs.length:=by
      unfold start at h2
      by_cases hi:i < vs.length
      · exact hi
      · rw [List.getElem?_append_right (by simpa using hi)] at h2
        rw [List.getElem?_replicate] at h2
        split at h2 <;> cases h2
    have ha:vs[i]? = some v:=by
      unfold start at h2
      rw [List.getElem?_append_left (by simpa using hi),List.getElem?_map] at h2
      cases e:vs[i]? with
      | none=>rw [e] at h2; cases h2
      | some a=>rw [e] at h2; cases h2; rfl
    obtain ⟨u,hu,rv⟩:=r.get ha
    have hp:ps[i]? = some y:=by
      rw [← S.pre,List.getElem?_take_of_lt (by omega)]; exact h1
    have ndP:ps.Nodup:=by rw [← S.pre]; exact S.nd.sublist (List.take_sublist _ _)
    refine ⟨u,rv,?_⟩
    rcases S.par y (List.mem_of_getElem? hp) with k | k
    · exact .inl ⟨k,O2 ndP hp hu k⟩
    · obtain ⟨c,e⟩:=Ss (n:=s.heap.objs.size + 1) k
      refine .inr ⟨.inl k,c,e,?_⟩
      have q:=x.cell y c e
      rw [Pz ndP hp hu (by show scope.names.lookup y≠_; rw [k]; decide)] at q
      exact q
  · exact e0.hok.fresh (Nat.le_of_lt (x.above y c (PySem.mem_of_lookup h)))
  · unfold start
    show _ = N.length
    rw [List.length_append,List.length_map,List.length_replicate]
    omega
theorem Yh {CX:CXT} {P:Program} {w:World} {K:PySem.W.Frag} {mg:Str→Option Value} {base:Heap} {k:Nat} {f:Addr} {name qual:Str} {params:Arguments} {body:List Stmt} {scope:Scope} {dV kV doc pm cdv ct oc:Value} {an od:Option Addr}
    {osl:Array (Option Value)} {N ps:List Str} {sp:Sp} (lk:K.lookup f = some ⟨oc,od,.func (PySem.W.fnOf name qual params body scope dV kV doc pm an cdv ct),osl⟩) (hcd:PySem.W.codeIn K cdv qual = true) (S:ou N ps scope)
    (len:∀ vs H Q E,sp vs H Q E→vs.length = ps.length)
    (hbody:∀ (A:Around) (outer:List Env) (s:Shared) (H:Hp) (vs:List V) (Q:VK) (E:XK),Le k (A.deeper (envOfC qual scope s.heap.objs.size f cdv))→sp vs H Q E →
      ∃ t,PSs (a2j CX P w K mg base N qual scope f cdv A outer s H E) body t∧t { nx:=fun _ H'=>Q .non H',rt:=Q } (start N vs) H) :
    Cv P w K mg base CX (k + 1) f (PySem.W.fnOf name qual params body scope dV kV doc pm an cdv ct) ps sp:=by
  refine ⟨len,fun A outer s H args us vs Q E hr e0 hb r hsp=>?_⟩
  have hl:=len _ _ _ _ hsp
  have KX:K.In s.heap:=e0.mod.kin.keeps fun b o e=>(e0.bs b o e).1
  have lim:s.heap.NoLimit:=e0.mod.nolimit.keeps fun b o e=>(e0.bs b o e).1
  have hkind:∀ y∈ps.zip us,scope.names.lookup y.1 = some .local∨(scope.names.lookup y.1 = some .cell∧((cellsFrom (s.heap.objs.size + 1) scope.names []).lookup y.1).isSome = true):=fun ⟨n,v⟩ hy=>by
    rcases S.par n (List.of_mem_zip hy).1 with q | q
    · exact .inl q
    · exact .inr ⟨q,PySem.W.cellsFrom_some _ _ _ (.inl q)⟩
  refine codeAny_call_function hr.depth (KX _ _ lk) rfl S.co S.gen rfl (PySem.W.codeRec_of KX hcd) (hb _ _ _ _ ?_)
  refine wpAny_newFunctionEnv_cells S.kind hkind fun env he s1 x=>?_
  subst he
  refine ⟨lim.keeps x.toInCall.keep,codeAny_func ?_⟩
  obtain ⟨t,ht,hq⟩:=hbody A outer s H vs Q E (hr.deeper _) hsp
  have I:Inv (a2j CX P w K mg base N qual scope f cdv A outer s H E) [] (start N vs) H s1:=Wt S hr.hd e0 hl r x
  refine wpAny_mono (ht [] s1 (start N vs) H _ I hq) (fun fl s' hs=>?_) fun e s' hs=>hs
  have fin:∀ {σ':St} {H':Hp} {v:V} {u:Value},Inv (a2j CX P w K mg base N qual scope f cdv A outer s H E) [] σ' H' s'→RelV v u→Q v H'→CE outer P w H s Q u s' :=
    fun {σ' H' v u} J rv q=>⟨v,H',J.os,J.bare,J.base,J.hok,rv,q⟩
  cases fl with
  | ret u =>
    obtain ⟨v,σ',H',J,rv,q⟩:=hs
    exact fin J rv q
  | next =>
    obtain ⟨σ',H',J,q⟩:=hs
    exact fin (v:=V.non) (u:=Value.none) J rfl q
  | brk =>
    obtain ⟨_,_,_,q⟩:=hs
    exact False.elim q
  | cont =>
    obtain ⟨_,_,_,q⟩:=hs
    exact False.elim q
end L2
namespace L2
open PySem PySem.Spec PyProof.Rows
noncomputable section
variable {X:Cx} {x:Str} {p pos:Pos} {e:Expr} {es:List Expr} {t:TA} {id T:String} {r:List V→Hp→VK→Prop}
noncomputable def tCB (r:List V→Hp→VK→Prop) (t:TA):TE:=fun σ H Q=>t σ H fun vs H1=>r vs H1 Q
theorem vo (hc:Ge X (.builtin id) r) (hg:Gl X x) (hm:X.mg x = none) (hv:bootBuiltins x = some (.builtin id)) (ha:PA X (e :: es) t) (hn:x ≠ "__name__" := by decide) (hdb:(x == ("__debug__" : Str)) = false:=by decide)
    (he:starEach (e :: es) X.env = (false,eval e X.env) :: starEach es X.env:=by rfl) (hpl:(backTo pos (starEach es X.env)).any (·.1) = false:=by rfl):PE X (.Call (.Name x p) (e :: es) [] pos) (tCB r t):=by
  intro pins s σ H Q I h
  refine wpAny_Call_Name_kw (Ke I hg hm hv ?_ hn hdb)
  exact PyProof.Rows.callWith_builtin1 (thn (ha pos pins s σ H _ I h) fun us s1 ⟨vs,H1,I1,r1,q1⟩=>hc pins s1 σ H1 vs us Q I1 r1 q1) he hpl
theorem qt (hc:Ge X (.type T) r) (hg:Gl X x) (hm:X.mg x = none) (hv:bootBuiltins x = some (.type T)) (ha:PA X (e :: es) t) (hn:x ≠ "__name__" := by decide) (hdb:(x == ("__debug__" : Str)) = false:=by decide)
    (he:starEach (e :: es) X.env = (false,eval e X.env) :: starEach es X.env:=by rfl) (hpl:(backTo pos (starEach es X.env)).any (·.1) = false:=by rfl):PE X (.Call (.Name x p) (e :: es) [] pos) (tCB r t):=by
  intro pins s σ H Q I h
  refine wpAny_Call_Name_kw (Ke I hg hm hv ?_ hn hdb)
  exact PyProof.Rows.callWith_type1 (thn (ha pos pins s σ H _ I h) fun us s1 ⟨vs,H1,I1,r1,q1⟩=>hc pins s1 σ H1 vs us Q I1 r1 q1) he hpl
end
end L2
end
noncomputable section
set_option linter.all false
set_option maxRecDepth 100000
namespace HT
open PySem PyProof.Rows
noncomputable section
open PySem.SeqAt
open PySem.AutoSeq1 (wpAny_loadPart')
open PySem.MeetsSeq PySem.MeetsSeq2 PySem.MeetsSeq3
end
noncomputable section
variable {prog:Program} {w:World} {A:Around} {E:Value→Shared→Prop} {s:Shared}
theorem a2q {t b:Addr} {vs ws:List Value} {Q:Value→Shared→Prop} (ht:IsTup s.heap t vs.toArray) (hb:IsTup s.heap b ws.toArray) (hv:vs≠[])
    (h1:ws = []→Q (.ref t) s) (h2:ws≠[]→Q (.ref s.heap.objs.size) { s with heap:=s.heap.push { cls:=.type "tuple",data:=.seq (vs ++ ws).toArray } })
    (hsz:vs.length + ws.length≤sizeLine):wpAny (model prog w) A (binaryOp .Add (.ref t) (.ref b)) Q E s:=by
  obtain ⟨⟨cls,dd,data,sl⟩,ho,hc,n,hd⟩:=id ht
  obtain ⟨⟨cls2,dd2,data2,sl2⟩,ho2,hc2,n2,hd2⟩:=id hb
  simp only at hc hd hc2 hd2
  subst hc hd hc2 hd2
  have e:vs.toArray ++ ws.toArray = (vs ++ ws).toArray:=by simp
  by_cases hw:ws = []
  · exact concat_meets ⟨_,ho,rfl⟩ ⟨_,ho2,rfl⟩ noFill_tuple_add seq_tuple_add PySem.F.slot_tuple_add PySem.F.entry_tuple_add (PySem.F.args_tuple_add_2 _ _)
      (tuple_addW1 t b vs.toArray ws.toArray n n2 dd dd2 sl sl2 (by simpa using hv) (by simp [hw])) ⟨ho,ho2,h1 hw⟩
  · refine concat_meets ⟨_,ho,rfl⟩ ⟨_,ho2,rfl⟩ noFill_tuple_add seq_tuple_add PySem.F.slot_tuple_add PySem.F.entry_tuple_add (PySem.F.args_tuple_add_2 _ _)
      (tuple_addW2 t b vs.toArray ws.toArray n n2 dd dd2 sl sl2 (by simpa using hv) (by simpa using hw) (by rw [List.size_toArray,List.size_toArray]; exact hsz)) ⟨ho,ho2,?_⟩
    rw [e]
    exact h2 hw
noncomputable def sIx (n d:Nat):Option Int→Nat
  | none=>d
  | some v=>if v < 0 then (v + (n:Int)).toNat else min v.toNat n
theorem a5b (n d:Nat) (hd:d≤n) (o:Option Int):sIx n d o≤n:=by
  cases o with
  | none=>exact hd
  | some v =>
    show (if v < 0 then (v + (n:Int)).toNat else min v.toNat n)≤n
    by_cases hv:v < 0
    · rw [if_pos hv]; omega
    · rw [if_neg hv]; exact Nat.min_le_right _ _
theorem Vy (v:Int) (n d:Nat):(if v < 0 then max (v + (n:Int)) 0 else min v (n:Int)) = ((sIx n d (some v):Nat):Int):=by
  show (if v < 0 then max (v + (n:Int)) 0 else min v (n:Int)) = (((if v < 0 then (v + (n:Int)).toNat else min v.toNat n):Nat):Int)
  by_cases hv:v < 0
  · simp only [if_pos hv]; omega
  · simp only [if_neg hv]; omega
theorem Ug (lo hi:Option Int) (n:Nat):Builtin.Slice.sliceAdjust lo hi 1 (n:Int) = (((sIx n 0 lo:Nat):Int),((sIx n n hi:Nat):Int)):=by
  have h1:¬ ((1:Int) < 0):=by omega
  unfold Builtin.Slice.sliceAdjust
  simp only [h1,if_false]
  refine Prod.ext ?_ ?_
  · cases lo with
    | none=>rfl
    | some v=>exact Vy v n 0
  · cases hi with
    | none=>rfl
    | some v=>exact Vy v n n
theorem Uv (i j:Nat):Builtin.Slice.slicePlaces (i:Int) (j:Int) 1 = j - i:=by
  unfold Builtin.Slice.slicePlaces
  have h1:(1:Int) > 0:=by omega
  simp only [h1,if_true,Int.ediv_one]
  split <;> omega
theorem M4 {v:Value} {o:Option Int} {Q:Option Int→Shared→Prop} (p:IsPart v o) (h:Q o s):wpAny (model prog w) A (Builtin.Slice.slicePartIndex v) Q E s:=by
  cases p with
  | none=>exact slicePart_none h
  | int i t=>exact slicePart_int h
theorem J1 {sl:Addr} {vl vu:Value} {lo hi:Option Int} {n:Nat} {Q:Int × Int × Nat→Shared→Prop} (hs:s.heap.IsSliceOf sl vl vu .none) (pl:IsPart vl lo) (pu:IsPart vu hi)
    (h:Q (((sIx n 0 lo:Nat):Int),1,sIx n n hi - sIx n 0 lo) s):wpAny (model prog w) A (Builtin.Slice.sliceApplied (.ref sl) (pure (n:Int))) Q E s:=by
  obtain ⟨os,hos,hcs,hds⟩:=id hs
  unfold Builtin.Slice.sliceApplied Builtin.Slice.sliceFields
  refine wpAny_bind (wpAny_bind (wpAny_field hos hds (x:=vl) rfl (wpAny_bind (wpAny_field hos hds (x:=vu) rfl (wpAny_bind (wpAny_field hos hds (x:=.none) rfl (wpAny_pure ?_)))))))
  refine wpAny_bind (slicePart_none ?_)
  show wpAny _ _ (if ((1:Int) == 0) = true then _ else _) _ _ s
  rw [if_neg (by decide)]
  refine wpAny_bind (M4 pl (wpAny_bind (M4 pu (wpAny_bind (wpAny_pure ?_)))))
  show wpAny _ _ (match Builtin.Slice.sliceAdjust lo hi 1 (n:Int) with | (lo,hi)=>pure (lo,(1:Int),Builtin.Slice.slicePlaces lo hi 1)) _ _ s
  rw [Ug lo hi n]
  show wpAny _ _ (pure (((sIx n 0 lo:Nat):Int),(1:Int),Builtin.Slice.slicePlaces ((sIx n 0 lo:Nat):Int) ((sIx n n hi:Nat):Int) 1)) _ _ s
  rw [Uv]
  exact wpAny_pure h
theorem Zv (xs:Array Value) (i k:Nat):((List.range k).filterMap fun (m:Nat)=>xs[((i:Int) + (m:Int) * 1).toNat]?).toArray = ((xs.toList.drop i).take k).toArray:=by
  have e:(fun (m:Nat)=>xs[((i:Int) + (m:Int) * 1).toNat]?) = fun m=>xs[i + m]?:=by
    funext m
    have:((i:Int) + (m:Int) * 1).toNat = i + m:=by omega
    rw [this]
  rw [e]
  have:=pick_run xs i k
  rw [List.filterMap_map] at this
  have e2:((fun x=>xs[x]?) ∘ fun x=>i + x) = fun m=>xs[i + m]?:=rfl
  rw [e2] at this
  rw [this]
theorem Hl {t sl:Addr} {items:Array Value} {vl vu:Value} {lo hi:Option Int} {Q:Value→Shared→Prop} (ht:IsTup s.heap t items) (hs:s.heap.IsSliceOf sl vl vu .none) (pl:IsPart vl lo) (pu:IsPart vu hi)
    (hw:¬ (sIx items.size 0 lo = 0∧sIx items.size items.size hi = items.size))
    (h:Q (.ref s.heap.objs.size) { s with heap:=s.heap.push { cls:=.type "tuple",data:=.seq ((items.toList.drop (sIx items.size 0 lo)).take (sIx items.size items.size hi - sIx items.size 0 lo)).toArray } })
    (hsz:items.size≤sizeLine):wpAny (model prog w) A (getItem (.ref t) (.ref sl)) Q E s:=by
  have htake:sizeOk (.seq ((items.toList.drop (sIx items.size 0 lo)).take (sIx items.size items.size hi - sIx items.size 0 lo)).toArray):=by
    show ((items.toList.drop (sIx items.size 0 lo)).take (sIx items.size items.size hi - sIx items.size 0 lo)).toArray.size≤sizeLine
    rw [List.size_toArray,List.length_take,List.length_drop,Array.length_toList]
    omega
  have hj:sIx items.size items.size hi≤items.size:=a5b _ _ (Nat.le_refl _) hi
  obtain ⟨os,hos,hcs,hds⟩:=id hs
  have hTs:s.TypeIs (.ref sl) "slice" := ⟨os,hos,hcs⟩
  unfold getItem
  try with_reducible refine wpAny_holding ?_
  first | refine wpAny_bind (wpAny_pure ?_) | skip
  refine wpAny_bind (wpAny_sequenceKey ht.typeIs (by decide) ?_)
  refine wpAny_bind (wpAny_callSpecial?_slot (name:=Str.ofString "__getitem__") ht.typeIs PyProof.Rows.slot_tuple_getitem
    (wpAny_call_entry PyProof.Rows.slot_tuple_getitem ht.typeIs entry_tuple_getitem ?_ (args_tuple_getitem _ _)))
  show wpAny _ _ (Builtin.Tuple.tupleItemsOf (.ref t) >>= _) _ _ s
  refine wpAny_bind (tupleItemsOf_ ht ?_)
  refine wpAny_bind (wpAny_typeOf hTs ?_)
  rw [if_pos (by decide)]
  refine wpAny_bind (J1 hs pl pu ?_)
  have hno:¬ ((((sIx items.size 0 lo:Nat):Int) == 0 && (1:Int) == 1 && (sIx items.size items.size hi - sIx items.size 0 lo) == items.size) = true):=by
    intro q
    rw [Bool.and_eq_true,Bool.and_eq_true] at q
    have q1:((sIx items.size 0 lo:Nat):Int) = 0:=eq_of_beq q.1.1
    have q2:sIx items.size items.size hi - sIx items.size 0 lo = items.size:=eq_of_beq q.2
    exact hw ⟨by omega,by omega⟩
  show wpAny _ _ (if (((sIx items.size 0 lo:Nat):Int) == 0 && (1:Int) == 1 && (sIx items.size items.size hi - sIx items.size 0 lo) == items.size) = true then _ else _) _ _ s
  rw [if_neg hno,Zv]
  first
    | exact wpAny_bind (m:=Builtin.Tuple.tupleExact _) (wpAny_newObj_type (wpAny_pure ⟨_,rfl,wpAny_pure h⟩) htake)
    | exact wpAny_bind (m:=Builtin.Tuple.tupleExact _) (wpAny_newObj_type (wpAny_bind (wpAny_pure (wpAny_pure ⟨_,rfl,wpAny_pure h⟩))) htake)
    | exact wpAny_bind (wpAny_bind (m:=Builtin.Tuple.tupleExact _) (wpAny_newObj_type (wpAny_pure (wpAny_pure ⟨_,rfl,wpAny_pure h⟩)) htake))
    | exact wpAny_bind (wpAny_bind (m:=Builtin.Tuple.tupleExact _) (wpAny_newObj_type (wpAny_pure ⟨_,rfl,wpAny_pure h⟩) htake))
end
end HT
namespace L2
open PySem PySem.Spec PyProof.Rows
noncomputable abbrev TO:=St→Hp→(Option Int→Hp→Prop)→Prop
noncomputable def PO (X:Cx) (e:Option Expr) (t:TO):Prop :=
  ∀ (pins:List (Addr × Obj)) (s:Shared) (σ:St) (H:Hp) (Q:Option Int→Hp→Prop),Inv X pins σ H s→t σ H Q →
    wpAny (model X.prog X.w) X.A (evalPart e X.env) (fun u s'=>∃ o H',Inv X pins σ H' s'∧IsPart u o∧Q o H') X.xe s
noncomputable def a70 (t:TE):TO:=fun σ H Q=>t σ H fun x H1=>∃ i,x = .int i∧Q (some i) H1
noncomputable section
variable {X:Cx} {e:Expr} {te:TE} {lo hi:Option Expr} {tl th:TO} {pos p2:Pos}
theorem a2p (h:PE X e te):PO X (some e) (a70 te):=by
  intro pins s σ H Q I hw
  rw [evalPart_some]
  refine thn (h pins s σ H _ I hw) fun u s1 z0=>?_
  obtain ⟨x,H1,I1,r1,q1⟩:=z0
  obtain ⟨i,rfl,q⟩:=q1
  obtain ⟨t,rfl⟩:=r1
  exact ⟨some i,H1,I1,.int i t,q⟩
noncomputable def SlR (X:Cx) (r:V→Option Int→Option Int→Hp→VK→Prop):Prop :=
  ∀ (pins:List (Addr × Obj)) (s:Shared) (σ:St) (H:Hp) (x:V) (v vl vu:Value) (lo hi:Option Int) (sl:Addr) (Q:VK),Inv X pins σ H s→RelV x v→s.heap.IsSliceOf sl vl vu .none→IsPart vl lo→IsPart vu hi→r x lo hi H Q →
    ∃ T id,typeLookup (.type T) "__getitem__" = pure (some (.builtin id))∧s.TypeIs v T∧wpAny (model X.prog X.w) X.A (getItem v (.ref sl)) (EP X pins σ Q) X.xe s
theorem SlR.or {r r':V→Option Int→Option Int→Hp→VK→Prop} (h:SlR X r) (h':SlR X r'):SlR X (fun x lo hi H Q=>r x lo hi H Q∨r' x lo hi H Q):=by
  intro pins s σ H x v vl vu lo hi sl Q I rx hs pl pu q
  rcases q with q | q
  · exact h pins s σ H x v vl vu lo hi sl Q I rx hs pl pu q
  · exact h' pins s σ H x v vl vu lo hi sl Q I rx hs pl pu q
noncomputable def tSl (r:V→Option Int→Option Int→Hp→VK→Prop) (te:TE) (tl th:TO):TE:=fun σ H Q=>te σ H fun x H1=>tl σ H1 fun l H2=>th σ H2 fun u H3=>r x l u H3 Q
theorem Zo {r:V→Option Int→Option Int→Hp→VK→Prop} (hr:SlR X r) (he:PE X e te) (hl:PO X lo tl) (hu:PO X hi th):PE X (.Subscript e (.Slice lo hi none p2) pos) (tSl r te tl th):=by
  intro pins s σ H Q I h
  refine Subscript_ (thn (he pins s σ H _ I h) fun v s1 z0=>?_)
  obtain ⟨x,H1,I1,r1,q1⟩:=z0
  refine wpAny_Slice (thn (hl pins s1 σ H1 _ I1 q1) fun vl s2 ⟨l,H2,I2,pl,q2⟩=>thn (hu pins s2 σ H2 _ I2 q2) fun vu s3 ⟨u,H3,I3,pu,q3⟩=>?_)
  rw [evalPart_none]
  refine wpAny_pure ?_
  have I4:Inv X pins σ H3 { s3 with heap:=s3.heap.push { cls:=.type "slice",data:=.fields #[vl,vu,.none] } }:=I3.kept (t':=s3.toks) fun b ob q=>Heap.get?_push_of_some _ q
  obtain ⟨T,id,hT,ht,hg⟩:=hr pins { s3 with heap:=s3.heap.push { cls:=.type "slice",data:=.fields #[vl,vu,.none] } } σ H3 x v vl vu l u s3.heap.objs.size Q I4 r1 (Heap.IsSliceOf.new ..) pl pu q3
  show wpAny (model X.prog X.w) X.A (subscriptTail e (.Slice lo hi none p2) v (.ref s3.heap.objs.size)) (EP X pins σ Q) X.xe { s3 with heap:=s3.heap.push { cls:=.type "slice",data:=.fields #[vl,vu,.none] } }
  exact tail_any (ops:=[.ref s3.heap.objs.size,v]) ht hT hg (by with_unfolding_all rfl)
noncomputable def Yd (xs:List V) (lo hi:Option Int):List V:=(xs.drop (HT.sIx xs.length 0 lo)).take (HT.sIx xs.length xs.length hi - HT.sIx xs.length 0 lo)
theorem Jo (xs:List V) (lo hi:Option Int):(Yd xs lo hi).length≤xs.length:=by
  unfold Yd
  rw [List.length_take,List.length_drop]
  omega
noncomputable def a8e (K:PySem.W.Frag):V→Option Int→Option Int→Hp→VK→Prop:=fun x lo hi H Q=>∃ a xs,x = .ref a∧SqT K H a xs ∧
  ¬ (HT.sIx xs.length 0 lo = 0∧HT.sIx xs.length xs.length hi = xs.length)∧∀ p,H p = none→Q (.ref p) (upd H p (.tup (Yd xs lo hi)))
theorem a4v:SlR X (a8e X.K):=by
  intro pins s σ H x v vl vu lo hi sl Q I rx hs pl pu h
  obtain ⟨a,xs,rfl,hx,hw,q⟩:=h
  cases rx
  obtain ⟨its,r,ht,hz⟩:=I.tuple hx
  have hlen:its.toArray.size = xs.length:=by rw [List.size_toArray]; exact r.length.symm
  refine ⟨"tuple",_,PyProof.Rows.slot_tuple_getitem.lookup,ht.typeIs,?_⟩
  refine HT.Hl ht hs pl pu (by rw [hlen]; exact hw) ?_ (by rw [hlen]; exact hz)
  rw [hlen]
  refine ⟨.ref s.heap.objs.size,_,I.laid (t':=s.toks) (o:=.tup (Yd xs lo hi)) (fun b ob q=>Heap.get?_push_of_some _ q) (Nat.le_refl _) ?_,rfl,q _ (I.hok.fresh (Nat.le_refl _))⟩
  exact ⟨Nat.le_trans (Jo xs lo hi) hz,_,(r.drop (HT.sIx xs.length 0 lo)).take (HT.sIx xs.length xs.length hi - HT.sIx xs.length 0 lo),Yp.new _ _⟩
noncomputable def a71 (K:PySem.W.Frag):R2:=fun x y H Q=>∃ a b xs ys,x = .ref a∧y = .ref b∧SqT K H a xs∧SqT K H b ys∧xs≠[]∧xs.length + ys.length≤sizeLine ∧
  (ys = []→Q (.ref a) H)∧(ys≠[]→∀ p,H p = none→Q (.ref p) (upd H p (.tup (xs ++ ys))))
theorem Vals.Rn {xs:List V} {us:List Value} (r:Vals xs us):us = []↔xs = []:=by
  cases r with
  | nil=>simp
  | cons _ _=>simp
theorem a1x:OpR X (binaryOp .Add) (a71 X.K):=by
  intro pins s σ H x y v u Q I rx ry h
  obtain ⟨a,b,xs,ys,rfl,rfl,ha,hb,hx,hz,q1,q2⟩:=h
  cases rx
  cases ry
  obtain ⟨its,r1,p1,_⟩:=I.tuple ha
  obtain ⟨its2,r2,p2,_⟩:=I.tuple hb
  refine HT.a2q p1 p2 (fun z=>hx (r1.Rn.mp z)) (fun z=>⟨.ref a,H,I,rfl,q1 (r2.Rn.mp z)⟩) (fun z=>?_) (by rw [← r1.length,← r2.length]; exact hz)
  refine ⟨.ref s.heap.objs.size,_,I.laid (t':=s.toks) (o:=.tup (xs ++ ys)) (fun b ob q=>Heap.get?_push_of_some _ q) (Nat.le_refl _) ?_,rfl,q2 (fun w=>z (r2.Rn.mpr w)) _ (I.hok.fresh (Nat.le_refl _))⟩
  exact ⟨by rw [List.length_append]; exact hz,_,r1.append r2,Yp.new _ _⟩
end
end L2
namespace L2
open PySem PySem.Spec PyProof.Rows
noncomputable def ixN (n:Nat) (i:Int):Option Nat:=if 0≤i then (if i < n then some i.toNat else none) else if -(n:Int)≤i then some (i + n).toNat else none
noncomputable def atI {α:Type} (xs:List α) (i:Int):Option α:=(ixN xs.length i).bind fun j=>xs[j]?
theorem W9 {n:Nat} {i:Int} {j:Nat} (h:ixN n i = some j):seqIndex? i n = some j∧j < n∧-(n:Int)≤i∧i < n:=by
  unfold ixN at h
  by_cases h0:0≤i
  · rw [if_pos h0] at h
    by_cases h1:i < n
    · rw [if_pos h1] at h
      have e:i.toNat = j:=Option.some.inj h
      exact ⟨by rw [seqIndex_of h0 h1,e],by omega,by omega,h1⟩
    · rw [if_neg h1] at h; cases h
  · rw [if_neg h0] at h
    by_cases h1:-(n:Int)≤i
    · rw [if_pos h1] at h
      have e:(i + n).toNat = j:=Option.some.inj h
      exact ⟨by rw [seqIndex_neg (by omega) h1,e],by omega,h1,by omega⟩
    · rw [if_neg h1] at h; cases h
theorem Ql {α:Type} {xs:List α} {i:Int} {v:α} (h:atI xs i = some v):∃ j,seqIndex? i xs.length = some j∧xs[j]? = some v∧j < xs.length∧-(xs.length:Int)≤i∧i < xs.length:=by
  unfold atI at h
  cases e:ixN xs.length i with
  | none=>rw [e] at h; cases h
  | some j =>
    rw [e] at h
    obtain ⟨h1,h2,h3,h4⟩:=W9 e
    exact ⟨j,h1,h,h2,h3,h4⟩
noncomputable def R9 (b:Expr):Prop:=∀ o i,subscripted b false o i = operate [o,i] (getItem o i)
noncomputable def IxR (X:Cx) (r:R2):Prop :=
  ∀ (value slice:Expr) (pins:List (Addr × Obj)) (s:Shared) (σ:St) (H:Hp) (x y:V) (v u:Value) (Q:VK),Inv X pins σ H s→RelV x v→RelV y u→r x y H Q →
    subscripted slice false v u = operate [v,u] (getItem v u)→wpAny (model X.prog X.w) X.A (subscriptTail value slice v u) (EP X pins σ Q) X.xe s
noncomputable def MtR (X:Cx) (id:String) (r:V→List V→Hp→VK→Prop):Prop :=
  ∀ (pins:List (Addr × Obj)) (s:Shared) (σ:St) (H:Hp) (x:V) (xs:List V) (v:Value) (us:List Value) (Q:VK),Inv X pins σ H s→RelV x v→Vals xs us→r x xs H Q →
    wpAny (model X.prog X.w) X.A (call (.builtin id) (v :: us)) (EP X pins σ Q) X.xe s
noncomputable section
variable {X:Cx} {a b:Expr} {ta tb:TE} {pos:Pos}
theorem IxR.or {r r':R2} (h:IxR X r) (h':IxR X r'):IxR X (fun x y H Q=>r x y H Q∨r' x y H Q):=by
  intro value slice pins s σ H x y v u Q I rx ry q hs
  rcases q with q | q
  · exact h value slice pins s σ H x y v u Q I rx ry q hs
  · exact h' value slice pins s σ H x y v u Q I rx ry q hs
theorem MtR.or {id:String} {r r':V→List V→Hp→VK→Prop} (h:MtR X id r) (h':MtR X id r'):MtR X id (fun x xs H Q=>r x xs H Q∨r' x xs H Q):=by
  intro pins s σ H x xs v us Q I rx rs q
  rcases q with q | q
  · exact h pins s σ H x xs v us Q I rx rs q
  · exact h' pins s σ H x xs v us Q I rx rs q
theorem a5a {r:R2} (hr:IxR X r) (ha:PE X a ta) (hb:PE X b tb) (hs:R9 b):PE X (.Subscript a b pos) (tOp r ta tb):=by
  intro pins s σ H Q I h
  exact Subscript_ (a7k ha hb I h fun v u s2 x y H2 I2 rx ry q=>hr a b pins s2 σ H2 x y v u Q I2 rx ry q (hs _ _))
noncomputable def a8c (K:PySem.W.Frag):R2:=fun x y H Q=>∃ p xs i v,x = .ref p∧y = .int i∧SqL K H p xs∧atI xs i = some v∧Q v H
noncomputable def a81 (K:PySem.W.Frag):R2:=fun x y H Q=>∃ p xs i v,x = .ref p∧y = .int i∧SqT K H p xs∧atI xs i = some v∧Q v H
noncomputable def a82:R2:=fun x y H Q=>∃ z i c,x = .str z∧y = .int i∧z.length≤sizeLine∧atI z.cps.toList i = some c∧Q (.str ⟨#[c]⟩) H
theorem Wo:IxR X (a8c X.K):=by
  intro value slice pins s σ H x y v u Q I rx ry h hs
  obtain ⟨p,xs,i,z,rfl,rfl,hq,he,q⟩:=h
  cases rx
  obtain ⟨t,rfl⟩:=ry
  obtain ⟨its,r,pl,hz⟩:=I.list hq
  obtain ⟨j,h1,h2,h3,h4,h5⟩:=Ql he
  obtain ⟨w,ew,rw'⟩:=r.get h2
  have hl:=r.length
  have hn:=Lr
  have fin:EP X pins σ Q w s:=⟨z,H,I,rw',q⟩
  by_cases h0:0≤i
  · have hj:i.toNat = j:=by
      rw [seqIndex_of h0 h5] at h1
      exact Option.some.inj h1
    exact item_listR pl.isList h0 (by omega) (by rw [hj]; simpa using ew) fin hs
  · have hj:(i + (its.toArray.size:Int)).toNat = j:=by
      rw [seqIndex_neg (by omega) h4] at h1
      rw [List.size_toArray,← hl]
      exact Option.some.inj h1
    exact subscriptTail_builtinR (x:=w) pl.isList.typeIs slot_list_getitem.lookup
      (wpAny_getItem_list_neg (Q:=fun r s'=>r = w∧EP X pins σ Q r s') pl.isList (by omega) (by rw [List.size_toArray] <;> omega) (by omega) (by rw [hj]; simpa using ew) ⟨rfl,fin⟩) hs
theorem a5l:IxR X (a81 X.K):=by
  intro value slice pins s σ H x y v u Q I rx ry h hs
  obtain ⟨p,xs,i,z,rfl,rfl,hq,he,q⟩:=h
  cases rx
  obtain ⟨t,rfl⟩:=ry
  obtain ⟨its,r,pl,hz⟩:=I.tuple hq
  obtain ⟨j,h1,h2,h3,h4,h5⟩:=Ql he
  obtain ⟨w,ew,rw'⟩:=r.get h2
  have hl:=r.length
  have hn:=Lr
  have fin:EP X pins σ Q w s:=⟨z,H,I,rw',q⟩
  exact subscriptTail_builtinR (x:=w) pl.typeIs slot_tuple_getitem.lookup
    (getItem_tuple (j:=j) (Q:=fun r s'=>r = w∧EP X pins σ Q r s') pl (by omega) (by omega) (by rw [List.size_toArray,← hl]; exact h1) (by simpa using ew) ⟨rfl,fin⟩) hs
theorem a5e:IxR X a82:=by
  intro value slice pins s σ H x y v u Q I rx ry h hs
  obtain ⟨z,i,c,rfl,rfl,hz,he,q⟩:=h
  obtain ⟨t,rfl⟩:=rx
  obtain ⟨t',rfl⟩:=ry
  obtain ⟨j,h1,h2,h3,h4,h5⟩:=Ql he
  have hl:z.cps.toList.length = z.length:=by simp [Str.length]
  rw [hl] at h1 h4 h5
  have hn:=Lr
  exact tail_any (typeIs_str s z t) slot_str_getitem.lookup (getItem_str (c:=c) (by
    have e1:decide (i < -(2 ^ 63:Int)) = false:=decide_eq_false (by omega)
    have e2:decide (i ≥ 2 ^ 63) = false:=decide_eq_false (by omega)
    rw [e1,e2,Bool.or_false]) (by rw [h1]; simpa using h2) ⟨.str ⟨#[c]⟩,H,I.tok _,⟨_,rfl⟩,q⟩) hs
theorem Ud (its:List Value) (n j:Nat) (u:Value):Obj.mapSeq (·.setIfInBounds j u) { cls:=.type "list",data:=.seq its.toArray n } = { cls:=.type "list",data:=.seq (its.set j u).toArray n }:=by
  simp [Obj.mapSeq]
theorem Inv.lst {pins:List (Addr × Obj)} {σ:St} {H:Hp} {s:Shared} {p:Addr} {xs:List V} (I:Inv X pins σ H s) (h:H p = some (.lst xs)) :
    ∃ (its:List Value) (n:Nat),Vals xs its∧s.heap.get? p = some { cls:=.type "list",data:=.seq its.toArray n }∧xs.length≤sizeLine:=by
  obtain ⟨z,its,n,r,e⟩:=I.hok p _ h
  exact ⟨its,n,r,e,z⟩
theorem Inv.a66 {pins:List (Addr × Obj)} {σ:St} {H:Hp} {s:Shared} {p:Addr} {xs ys:List V} {its its':List Value} {n n':Nat} {f:Obj→Obj} (I:Inv X pins σ H s) (h:H p = some (.lst xs))
    (ho:s.heap.get? p = some { cls:=.type "list",data:=.seq its.toArray n }) (hf:f { cls:=.type "list",data:=.seq its.toArray n } = { cls:=.type "list",data:=.seq its'.toArray n' }) (r:Vals ys its') (hz:ys.length≤sizeLine) (t:Nat) :
    Inv X pins σ (upd H p (.lst ys)) { s with heap:=s.heap.update p f,toks:=t }:=by
  have e:(s.heap.update p f).get? p = some { cls:=.type "list",data:=.seq its'.toArray n' }:=by
    rw [Heap.get?_update_self f ho (by rw [hf] <;> rfl),hf]
  refine I.write (x:=p) (e:=p) (by rw [h]; trivial) (.inl rfl) (fun b u hb q=>(Heap.get?_update_other _ _ (Ne.symm hb)).trans q) ⟨_,e⟩ ?_
  exact ⟨hz,its',n',r,e⟩
noncomputable def a4d:V→V→V→Hp→(Hp→Prop)→Prop:=fun o i v H Q=>∃ p xs k j,o = .ref p∧i = .int k∧H p = some (.lst xs)∧ixN xs.length k = some j∧Q (upd H p (.lst (xs.set j v)))
theorem set_list:a7v X a4d:=by
  intro pins s σ H o i v ov iv u Q I ro ri rv h
  obtain ⟨p,xs,k,j,rfl,rfl,hp,hj,q⟩:=h
  cases ro
  obtain ⟨t,rfl⟩:=ri
  obtain ⟨its,n,r,ho,hz⟩:=I.lst hp
  obtain ⟨h1,h2,h3,h4⟩:=W9 hj
  have hl:=r.length
  have hn:=Lr
  have I':Inv X pins σ (upd H p (.lst (xs.set j v))) { s with heap:=s.heap.update p (Obj.mapSeq (·.setIfInBounds j u)) } :=
    I.a66 hp ho (Ud its n j u) (r.set rv j) (by rw [List.length_set]; exact hz) s.toks
  by_cases h0:0≤k
  · have hk:k.toNat = j:=by
      rw [seqIndex_of h0 h4] at h1
      exact Option.some.inj h1
    exact PySem.W.ki_setAt ho h0 (by omega) (by rw [List.size_toArray,← hl]; exact h4) (by rw [hk]; exact ⟨_,I',q⟩)
  · have hk:(k + (its.toArray.size:Int)).toNat = j:=by
      rw [seqIndex_neg (by omega) h3] at h1
      rw [List.size_toArray,← hl]
      exact Option.some.inj h1
    exact PySem.W.ki_setBack ho (by omega) (by rw [List.size_toArray,← hl]; exact h3) (by omega) (by rw [hk]; exact ⟨_,I',q⟩)
theorem Ox (lo hi:Option Int) (n:Nat):(sliceBounds lo hi none n).1 = ((HT.sIx n 0 lo:Nat):Int)∧(sliceBounds lo hi none n).2.1 = ((HT.sIx n n hi:Nat):Int)∧(sliceBounds lo hi none n).2.2 = 1:=by
  refine ⟨?_,?_,rfl⟩
  · cases lo with
    | none=>simp [sliceBounds,HT.sIx]
    | some i =>
      simp only [sliceBounds,HT.sIx,Option.getD_none,show (1:Int) > 0 by decide,if_true]
      by_cases h:i < 0
      · simp only [h,if_true] <;> omega
      · simp only [h,if_false] <;> omega
  · cases hi with
    | none=>simp [sliceBounds,HT.sIx]
    | some i =>
      simp only [sliceBounds,HT.sIx,Option.getD_none,show (1:Int) > 0 by decide,if_true]
      by_cases h:i < 0
      · simp only [h,if_true] <;> omega
      · simp only [h,if_false] <;> omega
theorem Mg (its:List Value) (lo hi:Option Int):slicePick its.toArray lo hi none = ((its.drop (HT.sIx its.length 0 lo)).take (HT.sIx its.length its.length hi - HT.sIx its.length 0 lo)).toArray:=by
  obtain ⟨h1,h2,h3⟩:=Ox lo hi its.toArray.size
  unfold slicePick
  rw [h1,h2,h3]
  simp only [sliceRange_one,pick_run,List.size_toArray] <;> rfl
noncomputable def a88 (K:PySem.W.Frag):V→Option Int→Option Int→Hp→VK→Prop:=fun x lo hi H Q=>∃ a xs,x = .ref a∧SqL K H a xs∧∀ p,H p = none→Q (.ref p) (upd H p (.lst (Yd xs lo hi)))
theorem a1o:SlR X (a88 X.K):=by
  intro pins s σ H x v vl vu lo hi sl Q I rx hs pl pu h
  obtain ⟨a,xs,rfl,hx,q⟩:=h
  cases rx
  obtain ⟨its,r,ht,hz⟩:=I.list hx
  have hlen:=r.length
  refine ⟨"list",_,slot_list_getitem.lookup,ht.isList.typeIs,?_⟩
  refine wpAny_getItem_list_slice ht.isList hs pl pu .none (by simp) ?_ (by rw [List.size_toArray] <;> omega)
  rw [Mg,← hlen]
  refine ⟨.ref s.heap.objs.size,_,I.laid (t':=s.toks) (o:=.lst (Yd xs lo hi)) (fun b ob q=>Heap.get?_push_of_some _ q) (Nat.le_refl _) ?_,rfl,q _ (I.hok.fresh (Nat.le_refl _))⟩
  exact ⟨Nat.le_trans (Jo xs lo hi) hz,_,0,(r.drop (HT.sIx xs.length 0 lo)).take (HT.sIx xs.length xs.length hi - HT.sIx xs.length 0 lo),Heap.get?_push_size _ rfl⟩
theorem En:Ge X (.builtin "len") (fun xs H Q=>∃ p ys,xs = [.ref p]∧(SqL X.K H p ys∨SqT X.K H p ys)∧Q (.int ys.length) H):=by
  intro pins s σ H xs us Q I r h
  obtain ⟨p,ys,rfl,hq,q⟩:=h
  obtain ⟨u,rfl,rx⟩:=vals1 r
  cases rx
  have hn:=Lr
  rcases hq with hq | hq
  · obtain ⟨its,r',pl,hz⟩:=I.list hq
    have hlen:=r'.length
    exact Calls.call_len_list pl.isList (by simp only [List.size_toArray] <;> omega) ⟨.int ys.length,H,I.tok _,⟨s.toks + 1,by rw [List.size_toArray,hlen]⟩,q⟩
  · obtain ⟨its,r',pl,hz⟩:=I.tuple hq
    have hlen:=r'.length
    exact len_tuple pl (by simp only [List.size_toArray] <;> omega) ⟨.int ys.length,H,I.tok _,⟨s.toks + 1,by rw [List.size_toArray,hlen]⟩,q⟩
theorem Od:Ge X (.builtin "len") (fun xs H Q=>∃ z,xs = [.str z]∧z.length≤sizeLine∧Q (.int z.length) H):=by
  intro pins s σ H xs us Q I r h
  obtain ⟨z,rfl,hz,q⟩:=h
  obtain ⟨u,rfl,t,rfl⟩:=vals1 r
  have hn:=Lr
  exact len_str (by omega) ⟨.int z.length,H,I.tok _,⟨_,rfl⟩,q⟩
theorem Ge.or {f:Value} {r r':List V→Hp→VK→Prop} (h:Ge X f r) (h':Ge X f r'):Ge X f (fun xs H Q=>r xs H Q∨r' xs H Q):=by
  intro pins s σ H xs us Q I rs q
  rcases q with q | q
  · exact h pins s σ H xs us Q I rs q
  · exact h' pins s σ H xs us Q I rs q
theorem Ih:Ge X (.type "list") (fun xs H Q=>∃ p ys,xs = [.ref p]∧(SqL X.K H p ys∨SqT X.K H p ys)∧∀ l,H l = none→Q (.ref l) (upd H l (.lst ys))):=by
  intro pins s σ H xs us Q I r h
  obtain ⟨p,ys,rfl,hq,q⟩:=h
  obtain ⟨u,rfl,rx⟩:=vals1 r
  cases rx
  have fin:∀ (its:List Value),Vals ys its→ys.length≤sizeLine→∀ (h':Heap) (c':Nat),(∀ b o',s.heap.get? b = some o'→h'.get? b = some o') →
      h'.get? s.heap.objs.size = some { cls:=.type "list",dict:=none,data:=.seq its.toArray c',slots:=#[] }→EP X pins σ Q (.ref s.heap.objs.size) { s with heap:=h' }:=fun its r' hz h' c' kp e =>
    ⟨.ref s.heap.objs.size,_,I.laid (t':=s.toks) kp (Nat.le_refl _) (show zq X.prog X.w _ h' _ (.lst ys) from ⟨hz,its,c',r',e⟩),rfl,q _ (I.hok.fresh (Nat.le_refl _))⟩
  rcases hq with hq | hq
  · obtain ⟨its,r',pl,hz⟩:=I.list hq
    have hlen:=r'.length
    obtain ⟨o,ho,hc,n,hd⟩:=pl.isList
    exact call_list_seq p (.inl rfl) ho hc hd (fun h' c' kp e=>fin its r' hz h' c' kp e) (by simp only [List.size_toArray] <;> omega)
  · obtain ⟨its,r',pl,hz⟩:=I.tuple hq
    have hlen:=r'.length
    obtain ⟨o,ho,hc,n,hd⟩:=pl
    exact call_list_seq p (.inr rfl) ho hc hd (fun h' c' kp e=>fin its r' hz h' c' kp e) (by simp only [List.size_toArray] <;> omega)
theorem Hf:Ge X (.type "tuple") (fun xs H Q=>∃ p ys,xs = [.ref p]∧((SqL X.K H p ys∧∀ l,H l = none→Q (.ref l) (upd H l (.tup ys)))∨(SqT X.K H p ys∧Q (.ref p) H))):=by
  intro pins s σ H xs us Q I r h
  obtain ⟨p,ys,rfl,h⟩:=h
  obtain ⟨u,rfl,rx⟩:=vals1 r
  cases rx
  rcases h with ⟨hq,q⟩ | ⟨hq,q⟩
  · obtain ⟨its,r',pl,hz⟩:=I.list hq
    have hlen:=r'.length
    refine call_tuple_list pl.isList (fun h' kp=>?_) (by simp only [List.size_toArray] <;> omega)
    have I1:Inv X pins σ H { s with heap:=h' }:=I.kept (t':=s.toks) kp
    have I2:Inv X pins σ (upd H h'.objs.size (.tup ys)) { s with heap:=h'.push { cls:=.type "tuple",data:=.seq its.toArray } } :=
      I1.laid (t':=s.toks) (fun b o e=>Heap.get?_push_of_some _ e) (Nat.le_refl _) (show zq X.prog X.w _ _ _ (.tup ys) from ⟨hz,its,r',Yp.new _ _⟩)
    exact ⟨.ref h'.objs.size,_,I2,rfl,q _ (I1.hok.fresh (Nat.le_refl _))⟩
  · obtain ⟨its,r',pl,hz⟩:=I.tuple hq
    exact call_tuple_same pl ⟨.ref p,H,I,rfl,q⟩
noncomputable def tyV (K:PySem.W.Frag) (T:String) (x:V) (H:Hp):Prop:=match x with
  | .str _=>T = "str"
  | .int _=>T = "int"
  | .ref p=>(T = "list" ∧ ∃ xs,SqL K H p xs)∨(T = "tuple" ∧ ∃ o,K.lookup p = some o∧o.cls = .type "tuple" ∧ o.dict = none) ∨
      (T = "dict" ∧ ((∃ kvs,H p = some (.dK kvs))∨∃ kvs,H p = some (.dT kvs)))∨(T = "set" ∧ ∃ S n,H p = some (.set S n))
  | _=>False
theorem a4q {pins:List (Addr × Obj)} {σ:St} {H:Hp} {s:Shared} {T:String} {x:V} {v:Value} (I:Inv X pins σ H s) (r:RelV x v) (ty:tyV X.K T x H) :
    s.TypeIs v T∧∀ a,v = .ref a→∃ ob,s.heap.get? a = some ob∧ob.dict = none:=by
  cases x with
  | str z =>
    obtain ⟨t,rfl⟩:=r
    cases (show T = "str" from ty)
    exact ⟨typeIs_str s z t,fun _ e=>nomatch e⟩
  | int i =>
    obtain ⟨t,rfl⟩:=r
    cases (show T = "int" from ty)
    exact ⟨typeIs_int s i t,fun _ e=>nomatch e⟩
  | ref p =>
    cases r
    rcases ty with ⟨rfl,xs,hq⟩ | ⟨rfl,o,hk,hc,hd⟩ | ⟨rfl,hk⟩ | ⟨rfl,S,n,hk⟩
    · obtain ⟨its,_,pl,_⟩:=I.list hq
      refine ⟨pl.isList.typeIs,fun a e=>?_⟩
      cases e
      obtain ⟨o,n,e,c,hd,_⟩:=pl
      exact ⟨o,e,hd⟩
    · refine ⟨⟨o,I.kIn p o hk,hc⟩,fun a e=>?_⟩
      cases e
      exact ⟨o,I.kIn _ o hk,hd⟩
    · have z:∃ o,s.heap.get? p = some o∧o.ExactDict:=by
        rcases hk with ⟨kvs,hk⟩ | ⟨kvs,hk⟩
        · obtain ⟨_,_,_,_,o,_,_,e,ex,_⟩:=I.hok p _ hk
          exact ⟨o,e,ex⟩
        · obtain ⟨_,_,_,_,o,_,_,e,ex,_⟩:=I.hok p _ hk
          exact ⟨o,e,ex⟩
      obtain ⟨o,e,ex⟩:=z
      refine ⟨⟨o,e,ex.1⟩,fun a e2=>?_⟩
      cases e2
      exact ⟨o,e,ex.2.1⟩
    · obtain ⟨o,_,_,_,e,ex,_⟩:=I.hok p _ hk
      refine ⟨⟨o,e,ex.1⟩,fun a e2=>?_⟩
      cases e2
      exact ⟨o,e,ex.2.1⟩
  | _=>exact False.elim ty
noncomputable def tBM (K:PySem.W.Frag) (T:String) (r:V→List V→Hp→VK→Prop) (to:TE) (t:TA):TE:=fun σ H Q=>to σ H fun x H1=>tyV K T x H1∧t σ H1 fun xs H2=>r x xs H2 Q
variable {o e:Expr} {es:List Expr} {to:TE} {t:TA} {name:Str} {apos cpos:Pos} {T id:String} {r:V→List V→Hp→VK→Prop}
theorem Pq (pa:PlainAttrs T) (slot:Slot T name id) (hty:typeOf (.builtin id) = pure (.type "method_descriptor")) (hm:MtR X id r) (ho:PE X o to) (ha:PA X (e :: es) t)
    (hbase:attributeBase o name X.env (eval o X.env) = eval o X.env:=by rfl)
    (hfew:((backTo cpos (starEach (e :: es) X.env)).all (fun x=>!x.1) && (backToKw cpos (keywordEach [] X.env)).all (fun x=>x.1.isSome)
      && decide ((e :: es).length + ([]:List Keyword).length + (if ([]:List Keyword).isEmpty then 0 else 1) < 30)) = true:=by rfl)
    (hline:(apos.endLine == cpos.line) = true:=by rfl) (hs:starEach (e :: es) X.env = (false,eval e X.env) :: starEach es X.env:=by rfl) (hplain:(backTo cpos (starEach es X.env)).any (·.1) = false:=by rfl) :
    PE X (.Call (.Attribute o name apos) (e :: es) [] cpos) (tBM X.K T r to t):=by
  intro pins s σ H Q I h
  refine wpAny_Call_method_late hbase hfew hline rfl (thn (ho pins s σ H _ I h) fun v s1 z0=>?_)
  obtain ⟨x,H1,I1,r1,ty,q1⟩:=z0
  obtain ⟨h1,h2⟩:=a4q I1 r1 ty
  refine ⟨T,id,pa,slot,hty,h1,h2,?_⟩
  have hA:=ha cpos pins s1 σ H1 _ I1 q1
  rw [hs] at hA ⊢
  refine Calls.callWith_builtin (by show (false || (backTo cpos (starEach es X.env)).any (·.1)) = false; rw [hplain] <;> rfl) (Calls.evalArgs_plain ?_)
  exact thn hA fun us s2 ⟨vs,H2,I2,r2,q2⟩=>hm pins s2 σ H2 x vs v us Q I2 r1 r2 q2
end
end L2
namespace L2
open PySem PySem.Spec PyProof.Rows
noncomputable def MtM (X:Cx) (id:String) (r:V→List V→Hp→VK→Prop):Prop :=
  ∀ (pins:List (Addr × Obj)) (s:Shared) (σ:St) (H:Hp) (x:V) (xs:List V) (v:Value) (us:List Value) (Q:VK),Inv X pins σ H s→RelV x v→Vals xs us→r x xs H Q →
    wpAny (model X.prog X.w) X.A (call (.builtin id) (v :: us)) (EP X pins σ Q) X.xe s
theorem Vals.one:∀ {x:V} {us:List Value},Vals [x] us→∃ u,us = [u]∧RelV x u
  | _,_,.cons r .nil=>⟨_,rfl,r⟩
theorem Vals.two:∀ {x y:V} {us:List Value},Vals [x,y] us→∃ u v,us = [u,v]∧RelV x u∧RelV y v
  | _,_,_,.cons r (.cons q .nil)=>⟨_,_,rfl,r,q⟩
theorem Vals.zero:∀ {us:List Value},Vals [] us→us = []
  | _,.nil=>rfl
theorem Vals.rep {xs:List V} {us:List Value} (h:Vals xs us):∀ k:Nat,Vals (List.replicate k xs).flatten (List.replicate k us).flatten
  | 0=>.nil
  | k + 1=>by
    rw [List.replicate_succ,List.replicate_succ,List.flatten_cons,List.flatten_cons]
    exact Vals.append h (Vals.rep h k)
theorem foldl_rep (its:List Value):∀ (k:Nat) (acc:List Value),
    List.foldl (fun x1 x2=>x1 ++ x2) acc.toArray (List.replicate k its.toArray) = (acc ++ (List.replicate k its).flatten).toArray
  | 0,acc=>by simp
  | k + 1,acc=>by
    have e:acc.toArray ++ its.toArray = (acc ++ its).toArray:=by simp
    have e2:(acc ++ its) ++ (List.replicate k its).flatten = acc ++ (List.replicate (k + 1) its).flatten:=by
      rw [List.replicate_succ,List.flatten_cons,List.append_assoc]
    rw [← e2,← foldl_rep its k (acc ++ its),← e,List.replicate_succ,List.foldl_cons]
noncomputable section
variable {X:Cx} {pins:List (Addr × Obj)} {σ:St} {H:Hp} {s:Shared} {l b:Addr} {xs ys zs:List V}
theorem Inv.a89 {its its':List Value} {n:Nat} {f:Array Value→Array Value} {t':Nat} (I:Inv X pins σ H s) (hH:H l = some (.lst xs))
    (e:s.heap.get? l = some { cls:=.type "list",data:=.seq its.toArray n }) (hf:f its.toArray = its'.toArray) (hv:Vals ys its') (hz:ys.length≤sizeLine) :
    Inv X pins σ (upd H l (.lst ys)) { s with heap:=s.heap.update l (Obj.mapSeq f),toks:=t' }:=by
  have q:=PySem.IsL.update e f
  rw [hf] at q
  refine I.write (x:=l) (e:=l) (by rw [hH]; exact trivial) (.inl rfl) (fun b' u hb hu=>(Heap.get?_update_other s.heap (Obj.mapSeq f) (Ne.symm hb)).trans hu) ⟨_,q⟩ ?_
  exact ⟨hz,its',_,hv,q⟩
theorem Inv.a7t {its:List Value} {t':Nat} (I:Inv X pins σ H s) (hv:Vals ys its) (hz:ys.length≤sizeLine) :
    Inv X pins σ (upd H s.heap.objs.size (.lst ys)) { s with heap:=s.heap.push { cls:=.type "list",data:=.seq its.toArray },toks:=t' } :=
  I.laid (fun _ _ q=>Heap.get?_push_of_some _ q) (Nat.le_refl _) ⟨hz,its,0,hv,Heap.get?_push_size _ rfl⟩
theorem Inv.fresh (I:Inv X pins σ H s):H s.heap.objs.size = none:=I.hok.fresh (Nat.le_refl _)
theorem Inv.a7p (I:Inv X pins σ H s) (hH:H l = some (.lst xs)):xs.length≤sizeLine∧∃ (its:List Value) (n:Nat),Vals xs its∧xs.length = its.length∧s.heap.get? l = some { cls:=.type "list",data:=.seq its.toArray n }:=by
  obtain ⟨z,its,n,r,e⟩:=I.hok l _ hH
  exact ⟨z,its,n,r,r.length,e⟩
theorem a07 {n:Nat} (h:n≤sizeLine):Builtin.List.listTooLong n = false:=by
  unfold Builtin.List.listTooLong
  exact decide_eq_false (by omega)
end
noncomputable section
variable {X:Cx}
noncomputable def Qz:V→List V→Hp→VK→Prop:=fun x vs H Q=>∃ l xs y,x = .ref l∧vs = [y]∧H l = some (.lst xs)∧xs.length < sizeLine∧Q .non (upd H l (.lst (xs ++ [y])))
theorem Bf:MtM X "list.append" Qz:=by
  intro pins s σ H x vs v us Q I rx rv h
  obtain ⟨l,xs,y,rfl,rfl,hH,hz,q⟩:=h
  cases rx
  obtain ⟨u,rfl,ru⟩:=rv.one
  obtain ⟨z,its,n,r,hl,e⟩:=I.a7p hH
  refine call_meets F.slot_list_append ⟨_,e,rfl⟩ F.entry_list_append (F.args_list_append_2 _ _) (PySem.list_append l its.toArray n u (by rw [List.size_toArray]; omega)) ⟨e,?_⟩
  refine ⟨.non,_,I.a89 (its':=its ++ [u]) hH e (by simp) (r.append (.cons ru .nil)) ?_,rfl,q⟩
  rw [List.length_append,List.length_singleton]
  omega
noncomputable def a85:R2:=fun x y H Q=>∃ l k xs,x = .ref l∧y = .int k∧H l = some (.lst xs)∧-(2 ^ 63)≤k∧k < 2 ^ 63∧xs.length * k.toNat≤sizeLine ∧
  ∀ p,H p = none→Q (.ref p) (upd H p (.lst (List.replicate k.toNat xs).flatten))
theorem len_rep {α:Type} (xs:List α) (k:Nat):(List.replicate k xs).flatten.length = k * xs.length:=by
  induction k with
  | zero=>simp
  | succ k ih=>rw [List.replicate_succ,List.flatten_cons,List.length_append,ih,Nat.succ_mul,Nat.add_comm]
theorem a4m:OpR X (binaryOp .Mult) a85:=by
  intro pins s σ H x y v u Q I rx ry h
  obtain ⟨l,k,xs,rfl,rfl,hH,h1,h2,hz,q⟩:=h
  cases rx
  obtain ⟨t,rfl⟩:=ry
  obtain ⟨z,its,n,r,hl,e⟩:=I.a7p hH
  have hlen:its.toArray.size * k.toNat≤sizeLine:=by rw [List.size_toArray,← hl]; exact hz
  have hcap:¬ its.toArray.size * k.toNat > (2 ^ 63 - 1) / 8:=by
    have:(sizeLine:Nat)≤(2 ^ 63 - 1) / 8:=by decide
    omega
  have hfit:¬ (!Builtin.List.listFitsIndex k) = true:=by
    rw [fitsIndex_both h1 h2]
    exact Bool.false_ne_true
  have hlong:¬ Builtin.List.listTooLong (its.toArray.size * k.toNat) = true:=by
    rw [a07 hlen]
    exact Bool.false_ne_true
  have hnew:List.foldl (fun x1 x2=>x1 ++ x2) #[] (List.replicate (if its.toArray.isEmpty = true then 0 else k.toNat) its.toArray) = (List.replicate k.toNat its).flatten.toArray:=by
    have f0:∀ m:Nat,List.foldl (fun x1 x2=>x1 ++ x2) #[] (List.replicate m its.toArray) = (List.replicate m its).flatten.toArray:=fun m=>by
      have:=foldl_rep its m []
      rw [List.nil_append] at this
      exact this
    rw [f0]
    cases its with
    | nil=>simp
    | cons a r'=>rw [if_neg (by simp)]
  refine wpAny_binaryOp_repeat_ref (T := "list") (U := "int") (by decide) ⟨_,e,rfl⟩ (fun s'=>typeIs_int s' k t) noFill_list_mul F.fills_int_mul F.slot_int_rmul repeat_list F.slot_int_index.lookup
    (call_meets F.slot_int_rmul (typeIs_int s k t) F.entry_int_rmul (F.args_int_rmul_2 _ _) (int___rmul___int_list k t l its.toArray n)
      ⟨e,rfl,⟨_,e,rfl⟩,call_meets F.slot_list_mul ⟨_,e,rfl⟩ F.entry_list_mul (F.args_list_mul_2 _ _) (AutoListH.list___mul___list_int_3 l its.toArray n k t hfit hcap hlong) ⟨e,?_⟩⟩)
  rw [hnew]
  exact ⟨.ref _,_,I.a7t (t':=s.toks) (r.rep k.toNat) (by rw [len_rep,Nat.mul_comm]; exact hz),rfl,q _ I.fresh⟩
end
noncomputable section
variable {prog:Program} {w:World} {A:Around} {E:Value→Shared→Prop} {s:Shared}
end
noncomputable section
variable {X:Cx}
end
end L2
end
noncomputable section
set_option linter.all false
set_option maxRecDepth 100000
namespace L2
open PySem PySem.Spec PyProof.Rows
noncomputable section
variable {κ:Type} [DecidableEq κ]
noncomputable def Q8 (kvs:List (κ × V)) (k:κ):Option V:=(kvs.find? fun kv=>decide (kv.1 = k)).map (·.2)
noncomputable def putK (kvs:List (κ × V)) (k:κ) (v:V):List (κ × V) :=
  if (kvs.any fun kv=>decide (kv.1 = k)) = true then kvs.map (fun kv=>if kv.1 = k then (kv.1,v) else kv) else kvs ++ [(k,v)]
noncomputable def a3z (kvs:List (κ × V)) (k:κ):List (κ × V):=kvs.filter fun kv=>decide (kv.1≠k)
theorem Jd {p:κ × V} {r:List (κ × V)} {k:κ} (e:p.1 = k):Q8 (p :: r) k = some p.2:=by simp [Q8,List.find?_cons,e]
theorem J8 {p:κ × V} {r:List (κ × V)} {k:κ} (e:¬ p.1 = k):Q8 (p :: r) k = Q8 r k:=by simp [Q8,List.find?_cons,e]
theorem Sw (k:κ):∀ kvs:List (κ × V),(kvs.any fun kv=>decide (kv.1 = k)) = (Q8 kvs k).isSome
  | []=>rfl
  | p :: r=>by
    rw [List.any_cons]
    by_cases e:p.1 = k
    · simp only [Jd e,decide_eq_true e,Bool.true_or,Option.isSome_some]
    · rw [J8 e,decide_eq_false e,Bool.false_or]; exact Sw k r
theorem Kp (kvs:List (κ × V)) (k:κ) (v:V):(putK kvs k v).length≤kvs.length + 1:=by
  unfold putK
  split
  · rw [List.length_map]; omega
  · rw [List.length_append,List.length_cons,List.length_nil]; omega
theorem Q6.Ek {o:Option V} {u:Option Value} (r:Q6 o u):o.isSome = u.isSome:=by
  cases o with
  | none=>cases u with
    | none=>rfl
    | some _=>exact (show False from r).elim
  | some _=>cases u with
    | none=>exact (show False from r).elim
    | some _=>rfl
theorem Q6.getD {o:Option V} {u:Option Value} {d:V} {d':Value} (r:Q6 o u) (rd:RelV d d'):RelV (o.getD d) (u.getD d'):=by
  cases o with
  | none=>cases u with
    | none=>exact rd
    | some _=>exact (show False from r).elim
  | some _=>cases u with
    | none=>exact (show False from r).elim
    | some _=>exact r
theorem KV.val {kvs:List (κ × V)} {vs:List (κ × Value)} (r:KV kvs vs) (k:κ):Q6 (Q8 kvs k) (valueAt vs k):=by
  unfold KV at r
  induction r with
  | nil=>exact True.intro
  | @cons p q ps qs h t ih =>
    obtain ⟨h1,h2⟩:=h
    by_cases e:p.1 = k
    · have e':q.1 = k:=h1.symm.trans e
      have b:valueAt (q :: qs) k = some q.2:=by simp [valueAt,List.find?_cons,e']
      rw [Jd e,b]; exact h2
    · have e':¬ q.1 = k:=fun z=>e (h1.trans z)
      have b:valueAt (q :: qs) k = valueAt qs k:=by simp [valueAt,List.find?_cons,e']
      rw [J8 e,b]; exact ih
theorem KV.any {kvs:List (κ × V)} {vs:List (κ × Value)} (r:KV kvs vs) (k:κ):(kvs.any fun kv=>decide (kv.1 = k)) = vs.any fun kv=>decide (kv.1 = k):=by
  unfold KV at r
  induction r with
  | nil=>rfl
  | cons h t ih=>rw [List.any_cons,List.any_cons,ih,h.1]
theorem KV.repl {kvs:List (κ × V)} {vs:List (κ × Value)} (r:KV kvs vs) (k:κ) {y:V} {u:Value} (ry:RelV y u) :
    KV (kvs.map fun kv=>if kv.1 = k then (kv.1,y) else kv) (vs.map fun kv=>if kv.1 = k then (kv.1,u) else kv):=by
  unfold KV at r ⊢
  induction r with
  | nil=>exact .nil
  | @cons p q ps qs h t ih =>
    rw [List.map_cons,List.map_cons]
    refine .cons ?_ ih
    obtain ⟨h1,h2⟩:=h
    by_cases e:p.1 = k
    · rw [if_pos e,if_pos (h1.symm.trans e)]; exact ⟨h1,ry⟩
    · rw [if_neg e,if_neg (fun z=>e (h1.trans z))]; exact ⟨h1,h2⟩
theorem KV.put {kvs:List (κ × V)} {vs:List (κ × Value)} (r:KV kvs vs) (k:κ) {y:V} {u:Value} (ry:RelV y u):KV (putK kvs k y) (stored vs k u):=by
  unfold putK stored
  rw [r.any k]
  by_cases e:(vs.any fun kv=>decide (kv.1 = k)) = true
  · rw [if_pos e,if_pos e]; exact r.repl k ry
  · rw [if_neg e,if_neg e]; exact Paired.snoc r ⟨rfl,ry⟩
theorem KV.drop {kvs:List (κ × V)} {vs:List (κ × Value)} (r:KV kvs vs) (k:κ):KV (a3z kvs k) (without vs k):=by
  unfold KV at r ⊢
  unfold a3z without
  induction r with
  | nil=>exact .nil
  | @cons p q ps qs h t ih =>
    obtain ⟨h1,h2⟩:=h
    rw [List.filter_cons,List.filter_cons]
    by_cases e:p.1 = k
    · have a:¬ decide (p.1≠k) = true:=by simp [e]
      have b:¬ decide (q.1≠k) = true:=by simp [h1.symm.trans e]
      rw [if_neg a,if_neg b]; exact ih
    · have e':¬ q.1 = k:=fun z=>e (h1.trans z)
      have a:decide (p.1≠k) = true:=by simp [e]
      have b:decide (q.1≠k) = true:=by simp [e']
      rw [if_pos a,if_pos b]; exact .cons ⟨h1,h2⟩ ih
theorem KV.keys {kvs:List (κ × V)} {vs:List (κ × Value)} (r:KV kvs vs):kvs.map (·.1) = vs.map (·.1):=by
  unfold KV at r
  induction r with
  | nil=>rfl
  | cons h t ih=>rw [List.map_cons,List.map_cons,ih,h.1]
theorem KV.length {kvs:List (κ × V)} {vs:List (κ × Value)} (r:KV kvs vs):kvs.length = vs.length:=Paired.length r
end
theorem Rp {P:Program} {w:World} {k:Key} {u:Value} (r:RelV (kV k) u):(u6 P w).is k u = true:=by
  cases k with
  | inl i=>obtain ⟨t,e⟩:=(show ∃ t,u = Value.int i t from r); subst e; exact Qc P w i t
  | inr x=>obtain ⟨t,e⟩:=(show ∃ t,u = Value.str x t from r); subst e; exact Qq P w x t
theorem O1 {P:Program} {w:World}:∀ {ks:List Key} {us:List Value},Vals (ks.map kV) us→ItemsAre (u6 P w) ks us
  | [],_,r=>by rw [List.map_nil] at r; cases r; exact .nil
  | k :: ks,_,r=>by
    rw [List.map_cons] at r
    cases r with
    | cons h t=>exact .cons (Rp h) (O1 t)
noncomputable abbrev KT (H:Hp):List (List Key × V)→List (List Key × Addr × Value)→Prop:=Paired fun p q=>p.1 = q.1∧H q.2.1 = some (.tup (p.1.map kV))∧RelV p.2 q.2.2
theorem KT.val {H:Hp} {kvs:List (List Key × V)} {xs:List (List Key × Addr × Value)} (r:KT H kvs xs) (k:List Key):Q6 (Q8 kvs k) ((atKey xs k).map (·.2)):=by
  induction r with
  | nil=>exact True.intro
  | @cons p q ps qs h t ih =>
    obtain ⟨h1,_,h2⟩:=h
    by_cases e:p.1 = k
    · have e':q.1 = k:=h1.symm.trans e
      have b:atKey (q :: qs) k = some q.2:=by simp [atKey,List.find?_cons,e']
      rw [Jd e,b]; exact h2
    · have e':¬ q.1 = k:=fun z=>e (h1.trans z)
      have b:atKey (q :: qs) k = atKey qs k:=by simp [atKey,List.find?_cons,e']
      rw [J8 e,b]; exact ih
theorem KT.repl {H:Hp} {kvs:List (List Key × V)} {xs:List (List Key × Addr × Value)} (r:KT H kvs xs) (k:List Key) {y:V} {u:Value} (ry:RelV y u) :
    KT H (kvs.map fun kv=>if kv.1 = k then (kv.1,y) else kv) (xs.map (putAt k u)):=by
  induction r with
  | nil=>exact .nil
  | @cons p q ps qs h t ih =>
    rw [List.map_cons,List.map_cons]
    refine .cons ?_ ih
    obtain ⟨h1,h2,h3⟩:=h
    unfold putAt
    by_cases e:p.1 = k
    · rw [if_pos e,if_pos (h1.symm.trans e)]; exact ⟨h1,h2,ry⟩
    · rw [if_neg e,if_neg (fun z=>e (h1.trans z))]; exact ⟨h1,h2,h3⟩
theorem KT.put {H:Hp} {kvs:List (List Key × V)} {xs:List (List Key × Addr × Value)} (r:KT H kvs xs) (k:List Key) {b:Addr} {y:V} {u:Value} (hb:H b = some (.tup (k.map kV))) (ry:RelV y u) :
    KT H (putK kvs k y) (storedH xs k b u):=by
  have e:(kvs.any fun kv=>decide (kv.1 = k)) = (atKey xs k).isSome:=by
    rw [Sw,(r.val k).Ek,Option.isSome_map]
  unfold putK storedH
  rw [e]
  by_cases q:(atKey xs k).isSome = true
  · rw [if_pos q,if_pos q]; exact r.repl k ry
  · rw [if_neg q,if_neg q]; exact Paired.snoc r ⟨rfl,hb,ry⟩
theorem KT.keeps {H H':Hp} {kvs:List (List Key × V)} {xs:List (List Key × Addr × Value)} (r:KT H kvs xs) (ht:∀ b ys,H b = some (.tup ys)→H' b = some (.tup ys)):KT H' kvs xs :=
  Paired.a6u r fun _ _ z=>⟨z.1,ht _ _ z.2.1,z.2.2⟩
noncomputable section
variable {P:Program} {w:World} {H:Hp} {h:Heap} {a:Addr}
theorem a5r {u:HO} (ok:HOk P w H h) (e:Rd H a u):zq P w H h a u:=e.ok ok
theorem Kr {kvs:List (Key × V)} (ok:HOk P w H h) (e:Rd H a (.dK kvs)):kvs.length≤sizeLine∧(a == sysModules) = false∧∃ vs,KV kvs vs∧h.DictOf (u6 P w) a vs :=
  show zq P w H h a (.dK kvs) from a5r ok e
theorem a7d {kvs:List (Key × V)} (ok:HOk P w H h) (e:H a = some (.dK kvs)):kvs.length≤sizeLine∧(a == sysModules) = false∧∃ vs,KV kvs vs∧h.DictOf (u6 P w) a vs:=Kr ok (.inl e)
theorem Pg {ks:List Key} (ok:HOk P w H h) (e:H a = some (.tup (ks.map kV))):(tupleKind (u6 P w)).is h ks a:=by
  obtain ⟨_,its,r,o,h1,h2,_,n,h3⟩:=(show zq P w H h a (.tup (ks.map kV)) from ok a _ e)
  exact ⟨o,its.toArray,n,h1,h2,h3,by simpa using O1 r⟩
theorem Xv {kvs:List (List Key × V)} (ok:HOk P w H h) (e:Rd H a (.dT kvs)):kvs.length≤sizeLine∧(a == sysModules) = false ∧
    ∃ xs,KT H kvs xs∧h.DictOfH (tupleKind (u6 P w)) a xs:=by
  obtain ⟨z,y,xs,r,o,es,ep,h1,h2,h3,h4,h5⟩:=(show zq P w H h a (.dT kvs) from a5r ok e)
  refine ⟨z,y,xs,r,o,es,ep,h1,h2,h3,h4,fun x hx=>?_,h5⟩
  have all:∀ {l:List (List Key × V)} {m:List (List Key × Addr × Value)},KT H l m→∀ x∈m,(tupleKind (u6 P w)).is h x.1 x.2.1:=by
    intro l m q
    induction q with
    | nil=>intro x hx; exact nomatch hx
    | @cons p q ps qs hq t ih =>
      intro x hx
      rcases List.mem_cons.mp hx with e | hx
      · subst e
        exact Pg ok (by rw [← hq.1]; exact hq.2.1)
      · exact ih x hx
  exact all r x hx
theorem a6p {kvs:List (List Key × V)} (ok:HOk P w H h) (e:H a = some (.dT kvs)):kvs.length≤sizeLine∧(a == sysModules) = false ∧
    ∃ xs,KT H kvs xs∧h.DictOfH (tupleKind (u6 P w)) a xs:=Xv ok (.inl e)
end
noncomputable def W5 (H:Hp) (a:Addr) (y:V) (r:Option V):Prop :=
  (∃ kvs k,Rd H a (.dK kvs)∧y = kV k∧r = Q8 kvs k)∨∃ kvs k b,Rd H a (.dT kvs)∧y = .ref b∧H b = some (.tup (k.map kV))∧r = Q8 kvs k
noncomputable def a3o (H:Hp) (a:Addr) (y v:V) (H':Hp):Prop :=
  (∃ kvs k,H a = some (.dK kvs)∧y = kV k∧kvs.length < sizeLine∧H' = upd H a (.dK (putK kvs k v))) ∨
  ∃ kvs k b,H a = some (.dT kvs)∧y = .ref b∧H b = some (.tup (k.map kV))∧kvs.length < sizeLine∧H' = upd H a (.dT (putK kvs k v))
theorem W5.k {H:Hp} {a:Addr} {kvs:List (Key × V)} {k:Key} (e:H a = some (.dK kvs)):W5 H a (kV k) (Q8 kvs k):=.inl ⟨kvs,k,.inl e,rfl,rfl⟩
theorem W5.t {H:Hp} {a b:Addr} {kvs:List (List Key × V)} {k:List Key} (e:H a = some (.dT kvs)) (eb:H b = some (.tup (k.map kV))):W5 H a (.ref b) (Q8 kvs k):=.inr ⟨kvs,k,b,.inl e,rfl,eb,rfl⟩
theorem a3o.k {H:Hp} {a:Addr} {kvs:List (Key × V)} {k:Key} {v:V} (e:H a = some (.dK kvs)) (hl:kvs.length < sizeLine):a3o H a (kV k) v (upd H a (.dK (putK kvs k v))):=.inl ⟨kvs,k,e,rfl,hl,rfl⟩
theorem a3o.t {H:Hp} {a b:Addr} {kvs:List (List Key × V)} {k:List Key} {v:V} (e:H a = some (.dT kvs)) (eb:H b = some (.tup (k.map kV))) (hl:kvs.length < sizeLine) :
    a3o H a (.ref b) v (upd H a (.dT (putK kvs k v))):=.inr ⟨kvs,k,b,e,rfl,eb,hl,rfl⟩
noncomputable section
variable {X:Cx} {pins:List (Addr × Obj)} {σ:St} {H:Hp} {s:Shared} {a:Addr} {y v:V} {u r:Value} {o:Option V} {A:Around} {E:Value→Shared→Prop}
theorem Inv.big (I:Inv X pins σ H s):sysModules < s.heap.objs.size:=by
  have h:mainGlobals < s.heap.objs.size:=(I.mod.glob.keeps I.bk).lt
  exact Nat.lt_trans (by decide) h
theorem Oj {Q:Value→Shared→Prop} (hu:A.units + 1 < cLine) (I:Inv X pins σ H s) (g:W5 H a y (some v)) (ry:RelV y u) (h:∀ w' s',Inv X pins σ H s'→RelV v w'→Q w' s') :
    wpAny (model X.prog X.w) A (getItem (.ref a) u) Q E s:=by
  rcases g with ⟨kvs,k,e,ey,l⟩ | ⟨kvs,k,b,e,ey,eb,l⟩
  · subst ey
    obtain ⟨z,hd,vs,rel,dd⟩:=Kr I.hok e
    obtain ⟨w',hw,rw'⟩:=Q6.some_of (v:=v) (o:=valueAt vs k) (by rw [l]; exact rel.val k)
    exact wpAny_getItem_of (Rp ry) dd.mapOf hw (h w' _ (I.tok _) rw')
  · subst ey
    cases (show u = Value.ref b from ry)
    obtain ⟨z,hd,xs,rel,dd⟩:=Xv I.hok e
    obtain ⟨w',hw,rw'⟩:=Q6.some_of (v:=v) (o:=(atKey xs k).map (·.2)) (by rw [l]; exact rel.val k)
    obtain ⟨p,hp,hp2⟩:=Option.map_eq_some_iff.mp hw
    refine wpAny_getItem_heap (tupleKind_room_in1 hu) (Pg I.hok eb) dd hp ?_
    rw [hp2]
    exact h w' _ (I.tok _) rw'
theorem a8k {Q:Value→Shared→Prop} (hu:A.units + 1 < cLine) (I:Inv X pins σ H s) (g:W5 H a y o) (ry:RelV y u) (h:∀ s',Inv X pins σ H s'→Q (.bool o.isSome) s') :
    wpAny (model X.prog X.w) A (compareOp .In u (.ref a)) Q E s:=by
  rcases g with ⟨kvs,k,e,ey,l⟩ | ⟨kvs,k,b,e,ey,eb,l⟩
  · subst ey
    obtain ⟨z,hd,vs,rel,dd⟩:=Kr I.hok e
    refine wpAny_in_of (Rp ry) hd dd.mapOf ?_
    rw [← (rel.val k).Ek,← l]
    exact h _ (I.tok _)
  · subst ey
    cases (show u = Value.ref b from ry)
    obtain ⟨z,hd,xs,rel,dd⟩:=Xv I.hok e
    refine wpAny_in_heap (tupleKind_room_in1 hu) (Pg I.hok eb) hd dd ?_
    have q:=(rel.val k).Ek
    rw [Option.isSome_map] at q
    rw [← q,← l]
    exact h _ (I.tok _)
theorem a2z {Q:Value→Shared→Prop} (hu:A.units + 1 < cLine) (I:Inv X pins σ H s) (g:W5 H a y o) (ry:RelV y u) (h:∀ s',Inv X pins σ H s'→Q (.bool (!o.isSome)) s') :
    wpAny (model X.prog X.w) A (compareOp .NotIn u (.ref a)) Q E s:=by
  rcases g with ⟨kvs,k,e,ey,l⟩ | ⟨kvs,k,b,e,ey,eb,l⟩
  · subst ey
    obtain ⟨z,hd,vs,rel,dd⟩:=Kr I.hok e
    refine wpAny_notIn_of (Rp ry) hd dd.mapOf ?_
    rw [← (rel.val k).Ek,← l]
    exact h _ (I.tok _)
  · subst ey
    cases (show u = Value.ref b from ry)
    obtain ⟨z,hd,xs,rel,dd⟩:=Xv I.hok e
    refine wpAny_notIn_heap (tupleKind_room_in1 hu) (Pg I.hok eb) hd dd ?_
    have q:=(rel.val k).Ek
    rw [Option.isSome_map] at q
    rw [← q,← l]
    exact h _ (I.tok _)
theorem Vu {h':Heap} {t':Nat} {ob:HO} (I:Inv X pins σ H s) (mu:Mut (H a)) (hs:Heap.SameBut a s.heap h') (he:∃ q,h'.get? a = some q) (new:zq X.prog X.w (upd H a ob) h' a ob) :
    Inv X pins σ (upd H a ob) { s with heap:=h',toks:=t' } :=
  I.write (x:=a) (e:=a) mu (.inl rfl) (fun b q hb z=>(hs.2 b hb).trans z) he new
theorem Nm {P:Program} {w:World} {H':Hp} {h':Heap} {kvs:List (Key × V)} {vs:List (Key × Value)} (z:kvs.length≤sizeLine) (hd:(a == sysModules) = false) (rel:KV kvs vs) (dd:h'.DictOf (u6 P w) a vs) :
    zq P w H' h' a (.dK kvs):=⟨z,hd,vs,rel,dd⟩
theorem Wa {H':Hp} {Q:Unit→Shared→Prop} (hu:A.units + 1 < cLine) (I:Inv X pins σ H s) (g:a3o H a y v H') (ry:RelV y u) (rv:RelV v r) (h:∀ s',Inv X pins σ H' s'→Q () s') :
    wpAny (model X.prog X.w) A (setItem (.ref a) u r) Q E s:=by
  rcases g with ⟨kvs,k,e,ey,l,eH⟩ | ⟨kvs,k,b,e,ey,eb,l,eH⟩
  · subst ey eH
    obtain ⟨z,hd,vs,rel,dd⟩:=a7d I.hok e
    have hz:vs.length≤sizeLine:=by rw [← rel.length]; exact z
    have hl:(putK kvs k v).length≤sizeLine:=by have:=Kp kvs k v; omega
    refine wpAny_setItem_pairs (hsz:=hz) (Rp ry) dd fun h' dd' hs=>h _ ?_
    have he:∃ q,h'.get? a = some q:=let ⟨q,_,_,hq,_⟩:=dd'; ⟨q,hq⟩
    exact Vu I (by rw [e]; exact True.intro) hs he (Nm hl hd (rel.put k rv) dd')
  · subst ey eH
    cases (show u = Value.ref b from ry)
    obtain ⟨z,hd,xs,rel,dd⟩:=a6p I.hok e
    have hz:xs.length≤sizeLine:=by rw [← Paired.length rel]; exact z
    have hl:(putK kvs k v).length≤sizeLine:=by have:=Kp kvs k v; omega
    refine wpAny_setItem_heap (hsz:=hz) (tupleKind_room_in1 hu) (Pg I.hok eb) dd fun h' dd' hs=>h _ ?_
    obtain ⟨q,es,ep,hq,h2,h3,h4,_,h5⟩:=dd'
    refine Vu I (by rw [e]; exact True.intro) hs ⟨q,hq⟩ ⟨hl,hd,_,(rel.put k eb rv).keeps fun c ys ec=>?_,q,es,ep,hq,h2,h3,h4,h5⟩
    rw [jg (a6n ec e (fun z=>nomatch z))]
    exact ec
end
noncomputable section
variable {X:Cx} {pins:List (Addr × Obj)} {σ:St} {H:Hp} {s:Shared} {a:Addr} {kvs:List (Key × V)} {k:Key} {u:Value} {A:Around} {E:Value→Shared→Prop}
theorem a7j {Q:Value→Shared→Prop} (I:Inv X pins σ H s) (e:Rd H a (.dK kvs)) (h:∀ t s',Inv X pins σ H s'→Q (.int kvs.length t) s'):wpAny (model X.prog X.w) A (call (.builtin "len") [.ref a]) Q E s:=by
  obtain ⟨z,hd,vs,rel,dd⟩:=Kr I.hok e
  refine call_len_dict hd dd (by rw [← rel.length]; rw [sizeLine_eq] at z; omega) ?_
  rw [← rel.length]
  exact h _ _ (I.tok _)
end
noncomputable def a78 (i:Expr):Prop:=∀ ov iv,subscripted i false ov iv = operate [ov,iv] (getItem ov iv)
theorem a3f {prog:Program} {w:World} {A:Around} {E:Value→Shared→Prop} {s:Shared} {env:Env} {value slice:Expr} {pos:Pos} {T id:String} {Q:Value→Shared→Prop}
    (hl:typeLookup (.type T) "__getitem__" = pure (some (.builtin id))) (hs:a78 slice)
    (h:wpAny (model prog w) A (eval value env) (fun o s₁=>wpAny (model prog w) A (eval slice env) (fun i s₂=>s₂.TypeIs o T∧wpAny (model prog w) A (getItem o i) Q E s₂) E s₁) E s) :
    wpAny (model prog w) A (eval (.Subscript value slice pos) env) Q E s:=by
  refine Subscript_ (wpAny_mono h (fun o s₁ h₁=>wpAny_mono h₁ (fun i s₂ h₂=>?_) fun _ _ x=>x) fun _ _ x=>x)
  obtain ⟨hT,h₂⟩:=h₂
  unfold subscriptTail
  refine wpAny_bind ?_
  rw [getitemInPython_of_ne hT.not_modules]
  refine wpAny_bind (wpAny_specialOf hT hl ?_)
  have fin:wpAny (model prog w) A (subscripted slice false o i) (fun r s₃=>wpAny (model prog w) A (letTemporaryGo value o r >>= fun _=>pure r) Q E s₃) E s₂:=by
    rw [hs o i]
    exact wpAny_operating (wpAny_mono h₂ (fun r s₃ h₃=>wpAny_bind (wpAny_letTemporaryGo (wpAny_pure h₃))) fun _ _ x=>x)
  first
    | exact wpAny_pure (wpAny_bind fin)
    | exact wpAny_bind (wpAny_pure (wpAny_bind fin))
    | exact wpAny_bind fin
theorem Jx {X:Cx} {pins:List (Addr × Obj)} {σ:St} {H:Hp} {s:Shared} {a:Addr} {y:V} {o:Option V} (I:Inv X pins σ H s) (g:W5 H a y o):s.TypeIs (.ref a) "dict" := by
  rcases g with ⟨kvs,k,e,_,_⟩ | ⟨kvs,k,b,e,_,_,_⟩
  · obtain ⟨_,_,vs,_,dd⟩:=Kr I.hok e
    exact dd.typeIs
  · obtain ⟨_,_,xs,_,dd⟩:=Xv I.hok e
    exact dd.typeIs
noncomputable def a6x (td ty:TE):TE:=fun σ H Q=>td σ H fun x H1=>ty σ H1 fun y H2=>∃ a v,x = .ref a∧W5 H2 a y (some v)∧Q v H2
noncomputable def a6v (td ty tv:TE):TS:=fun D σ H=>tv σ H fun v H1=>td σ H1 fun x H2=>ty σ H2 fun y H3=>∃ a H4,x = .ref a∧a3o H3 a y v H4∧D.nx σ H4
noncomputable section
variable {X:Cx} {o i e value:Expr} {pos pos' tpos:Pos} {td ty tv:TE}
theorem a1e (hu:X.A.units + 1 < cLine) (ho:PE X o td) (hi:PE X i ty) (hs:a78 i):PE X (.Subscript o i pos) (a6x td ty):=by
  intro pins s σ H Q I h
  refine a3f PySem.F.slot_dict_getitem.lookup hs (thn (ho pins s σ H _ I h) fun u s1 ⟨x,H1,I1,rx,q1⟩=>thn (hi pins s1 σ H1 _ I1 q1) fun iv s2 ⟨y,H2,I2,ry,a,v,ex,g,q2⟩=>?_)
  subst ex
  obtain rfl:u = Value.ref a:=rx
  exact ⟨Jx I2 g,Oj hu I2 g ry fun w' s3 I3 rw'=>⟨v,H2,I3,rw',q2⟩⟩
theorem a1s (hu:X.A.units + 1 < cLine) (ho:PE X o td) (hi:PE X i ty) (hv:PE X value tv) (hs:swapsWith value (some (.Subscript o i pos')) pos.line X.env = pure false) :
    PS X (.Assign [.Subscript o i pos'] value pos) (a6v td ty tv):=by
  intro pins s σ H D I h
  refine wpAny_Assign_Subscript (thn (hv pins s σ H _ I h) fun r s1 ⟨v,H1,I1,rv,q1⟩=>thn (ho pins s1 σ H1 _ I1 q1) fun u s2 ⟨x,H2,I2,rx,q2⟩=>thn (hi pins s2 σ H2 _ I2 q2) fun iv s3 ⟨y,H3,I3,ry,a,H4,ex,g,q3⟩=>?_) hs
  subst ex
  obtain rfl:u = Value.ref a:=rx
  exact Wa hu I3 g ry rv fun s4 I4=>⟨σ,H4,I4,q3⟩
end
noncomputable section
variable {X:Cx} {pos:Pos}
end
structure M1 (X:Cx) (o:Expr) (m:Str) (apos:Pos) (e:Expr) (cpos:Pos):Prop where
  base:attributeBase o m X.env (eval o X.env) = eval o X.env
  few:((backTo cpos (starEach [e] X.env)).all (fun x=>!x.1) && (backToKw cpos (keywordEach [] X.env)).all (fun x=>x.1.isSome)
    && decide (([e]:List Expr).length + ([]:List Keyword).length + (if ([]:List Keyword).isEmpty then 0 else 1) < 30)) = true
  line:(apos.endLine == cpos.line) = true
  trees:backTo cpos (starEach [e] X.env) = [(false,eval e X.env)]
structure M2 (X:Cx) (o:Expr) (m:Str) (apos:Pos) (e f:Expr) (cpos:Pos):Prop where
  base:attributeBase o m X.env (eval o X.env) = eval o X.env
  few:((backTo cpos (starEach [e,f] X.env)).all (fun x=>!x.1) && (backToKw cpos (keywordEach [] X.env)).all (fun x=>x.1.isSome)
    && decide (([e,f]:List Expr).length + ([]:List Keyword).length + (if ([]:List Keyword).isEmpty then 0 else 1) < 30)) = true
  line:(apos.endLine == cpos.line) = true
  trees:backTo cpos (starEach [e,f] X.env) = [(false,eval e X.env),(false,eval f X.env)]
noncomputable section
variable {X:Cx} {pins:List (Addr × Obj)} {σ:St} {H:Hp} {s:Shared} {a:Addr} {y d:V} {u r:Value} {o:Option V} {A:Around} {E:Value→Shared→Prop}
end
noncomputable section
variable {X:Cx} {o e f:Expr} {apos cpos:Pos} {td ty tx:TE}
end
noncomputable section
variable {X:Cx} {pins:List (Addr × Obj)} {σ:St} {H:Hp} {s:Shared} {a:Addr} {kvs:List (Key × V)} {A:Around} {E:Value→Shared→Prop}
theorem Tz {Q:Value→Shared→Prop} (I:Inv X pins σ H s) (e:Rd H a (.dK kvs)) (h:∀ p s',H p = none→Inv X pins σ (upd H p (.dK kvs)) s'→Q (.ref p) s'):wpAny (model X.prog X.w) A (call (.type "dict") [.ref a]) Q E s:=by
  obtain ⟨z,hd,vs,rel,dd⟩:=Kr I.hok e
  refine kt_call_dict hd dd (by rw [← rel.length]; exact z) fun h' dd' hs=>?_
  refine h _ _ (I.hok.fresh (Nat.le_refl _)) (I.laid (a:=s.heap.objs.size) (o:=.dK kvs) (t':=s.toks) (fun b q hq=>?_) (Nat.le_refl _) (Nm z (beq_eq_false_iff_ne.mpr (Ne.symm (Nat.ne_of_lt I.big))) rel dd'))
  exact (hs.2 b (Nat.ne_of_lt (Heap.lt_size hq))).trans (Heap.get?_push_of_some _ hq)
end
noncomputable section
variable {X:Cx} {pins:List (Addr × Obj)} {σ:St} {H:Hp} {s:Shared} {a:Addr} {y:V} {u:Value} {A:Around} {E:Value→Shared→Prop}
end
end L2
end
noncomputable section
set_option linter.all false
set_option maxRecDepth 100000
namespace Att
open PySem PySem.W PySem.Calls PyProof.Rows
theorem Kf {P:Params} {h:Heap}:∀ (ns:List Int) (vs:List Value),WellAll P h vs (ns.map WData.int)→IntsAre vs ns:=by
  intro ns
  induction ns with
  | nil =>
    intro vs w
    rw [List.map_nil] at w
    cases w
    exact .nil
  | cons n ns ih =>
    intro vs w
    rw [List.map_cons] at w
    cases w with
    | cons a b =>
      cases a
      exact .cons _ _ (ih _ b)
theorem Y4 {l:OpenLaw} {n:Nat} (hn:l.most = some n) {P:Params} {h:Heap} {args:List WData} {vals:List Value}
    (hpre:l.row.toRowW.claim.pre args = true) (hwl:WellAll P h vals args) :
    ∃ a vs ns,vals = [Value.ref a]∧args = [WData.list (ns.map WData.int)]∧h.get? a = some { cls:=.type "list",data:=.seq vs.toArray }∧IntsAre vs ns∧ns.length≤n:=by
  have hsh:WShape.hasAll [] args [.list .int] = true:=(pre_splitW hpre).1
  have hc:l.pre.holds [] { args:=args } = true:=(pre_splitW hpre).2
  obtain ⟨d,r,rfl,h1,h2⟩:=hasAllW_cons hsh
  obtain rfl:=hasAllW_nil h2
  obtain ⟨xs,rfl,h3⟩:=hasW_list h1
  obtain ⟨ns,rfl⟩:=items_int h3
  have hlen:ns.length≤n:=by
    unfold OpenLaw.pre at hc
    have h4:(WTm.not (.lt (.lit (.int (n:Int))) (.len (.arg 0)))).holds [] { args:=[.list (ns.map .int)] } = true:=by
      have h4:=(holds_andW hc).1
      rw [hn] at h4
      exact h4
    have h5:=condW_of h4 (w_not (w_lt w_lit (w_len_list (w_arg rfl))))
    rw [List.length_map] at h5
    refine Nat.le_of_not_lt fun q=>?_
    have q':(n:Int) < ((ns.length:Nat):Int):=by omega
    first
      | (rw [decide_eq_true q'] at h5; exact absurd h5 (by decide))
      | (simp at h5; omega)
  cases hwl with
  | cons w1 w2 =>
    cases w2
    cases w1 with
    | list ho hall=>exact ⟨_,_,ns,rfl,rfl,ho,Kf ns _ hall,hlen⟩
theorem X5 (l:OpenLaw) (args:List WData):l.row.toRowW.claim.post args (.bool true) args = true :=
  postW_of (r:=l.row.toRowW) (X:=(true == true))
    (show WShape.has [] (.bool true) .bool = true by first | rfl | decide | simp [WShape.has,WShape.arms,WShape.armsAll])
    (show (WTm.eq .res (.lit (.bool true))).value [] { args:=args,res:=some (.bool true),after:=args } = some (.bool (true == true)) from w_eq_bool (w_res rfl) w_lit) rfl
theorem Qu {l:OpenLaw} {n:Nat} {q:Program} {loose:List Str} {XP:(Str→Option Value)→Heap→Prop} {YP:World→Heap→Prop} {d:DefRec}
    (hn:l.most = some n) (hdf:d.params.defaults = [])
    (call:∀ (w:World) (s₀ s₁:Shared) (mg mb:Str→Option Value) (fa:Addr) (o:Obj) (pm cd doc:Value) (a:Addr) (vs:List Value) (ns:List Int),
      Ground q loose [] XP w s₀ mg mb s₁.heap→YP w s₁.heap →
      s₁.heap.get? fa = some o→o.data = .func (docDef d.name d.params d.body d.scope pm cd doc)→s₁.heap.CodeRec cd d.name→mg d.name = some (.ref fa) →
      s₁.heap.get? a = some { cls:=.type "list",data:=.seq vs.toArray }→IntsAre vs ns→ns.length≤n→s₁.gens = #[] →
      codeAny (model l.prog w) callerA (.call (.ref fa) ⟨[.ref a],[]⟩) (fun r s'=>r = .ok (.ret (.bool true))∧OldK s₁.heap s'.heap∧s'.os = s₁.os∧AllBare s'.gens) s₁) :
    WalkO q loose XP YP l.row.toRowW d [] (fun f vs=>PySem.call f vs):=by
  intro w s₀ s₁ mg mb G Y fa o pm cd doc dV kV ho hd hcd hD hmg hg args vals as hpre hlay hrd hwl hlo
  obtain rfl:dV = .none:=Dflts.none hD hdf
  obtain rfl:kV = .none:=Dflts.noKw hD
  obtain ⟨a,vs,ns,rfl,rfl,hobj,hints,hlen⟩:=Y4 hn hpre hwl
  refine enter_call (codeAny_mono (call w s₀ s₁ mg mb fa o pm cd doc a vs ns G Y ho (fd_plain hd) hcd hmg hobj hints hlen hg) fun r s' hq=>?_)
  obtain ⟨rfl,h2,h3,h4⟩:=hq
  exact ⟨.inl ⟨.bool true,.bool true,[],rfl,fun _=>rfl,.bool true,X5 l _,fun _=>⟨List.Pairwise.nil,fun _ hm=>(nomatch hm)⟩⟩,h2,h3,h4⟩
noncomputable section
variable {prog:Program} {w:World} {A:Around} {E:Value→Shared→Prop} {s:Shared} {K:Frag}
noncomputable def Hz (h:Heap):Heap:={ h with objs:=#[] }
end
end Att
namespace L2
open PySem PySem.Spec PyProof.Rows
theorem Ng:∀ {vs:List Value} {ns:List Int},IntsAre vs ns→Vals (ns.map V.int) vs
  | _,_,.nil=>.nil
  | _,_,.cons n t h=>.cons ⟨t,rfl⟩ (Ng h)
noncomputable def Only (H:Hp):Prop:=∀ b,H b = none∨∃ o xs,H b = some (.frz o (.lst xs))
theorem Zt {P:Program} {w:World} {K:PySem.W.Frag} {mg mb:Str→Option Value} {CX:CXT} {k:Nat} {fa a:Addr} {fd:FuncData} {x:Str} {sp:Sp} {s₁:Shared} {vs:List Value} {ns:List Int}
    (KX:K.In s₁.heap) (hns:s₁.heap.Ns mainGlobals mg) (hb:s₁.heap.Ns builtinsNs mb) (hbb:∀ x:Str,x ≠ "__name__" → mb x = bootBuiltins x) (hlim:s₁.heap.NoLimit) (hg:s₁.gens = #[])
    (ha:s₁.heap.get? a = some { cls:=.type "list",data:=.seq vs.toArray }) (hi:IntsAre vs ns) (hl:ns.length≤sizeLine) (hr:Le k callerA)
    (F:∀ base:Heap,K.In base→base.Ns mainGlobals mg→Cv P w K mg base CX k fa fd [x] sp) (hbind:∀ (s:Shared) (u:Value),BindsTo s fd ⟨[u],[]⟩ [(x,u)])
    (hsp:∀ H:Hp,Only H→SqL K H a (ns.map V.int)→sp [.ref a] H (fun v _=>v = .bl true) fun _ _ _=>False)
    (hCX:∀ H e s',CX [] H s₁ (fun _ _ _=>False) e s'→False) :
    codeAny (model P w) callerA (.call (.ref fa) ⟨[.ref a],[]⟩) (fun r s'=>r = .ok (.ret (.bool true))∧OldK s₁.heap s'.heap∧s'.os = s₁.os∧AllBare s'.gens) s₁:=by
  have rv:=Ng hi
  have lenV:=hi.length
  have core:∀ H:Hp,Only H→SqL K H a (ns.map V.int)→HOk P w H s₁.heap→(∀ b,H b≠none→b = a)→(H a≠none→K.lookup a = none) →
      codeAny (model P w) callerA (.call (.ref fa) ⟨[.ref a],[]⟩) (fun r s'=>r = .ok (.ret (.bool true))∧OldK s₁.heap s'.heap∧s'.os = s₁.os∧AllBare s'.gens) s₁:=by
    intro H hO hS hok hA hK
    have base_of:∀ {b:Addr} {o:Obj},s₁.heap.get? b = some o→H b = none→(Zm s₁.heap H).get? b = some o:=fun e n=>Zk e n
    have noA:∀ {b:Addr} {o:Obj} {es:Array DictEntry} {ep:Nat},s₁.heap.get? b = some o→o.data = .dict es ep→H b = none:=fun {b o es ep} e d=>by
      cases q:H b with
      | none=>rfl
      | some u =>
        have e':b = a:=hA b (by rw [q]; simp)
        subst e'
        rw [ha] at e; cases e
        have d':Data.seq vs.toArray _ = Data.dict es ep:=d
        cases d'
    have nsK:∀ {b:Addr} {m:Str→Option Value},s₁.heap.Ns b m→(Zm s₁.heap H).Ns b m:=fun {b m} ⟨o,es,ep,e,d,r⟩=>⟨o,es,ep,base_of e (noA e d),d,r⟩
    have hKb:K.In (Zm s₁.heap H):=fun b o e=>base_of (KX b o e) (by
      cases q:H b with
      | none=>rfl
      | some u =>
        have e':b = a:=hA b (by rw [q]; simp)
        subst e'
        rw [hK (by rw [q]; simp)] at e; cases e)
    have hM:Mod K mg (Zm s₁.heap H):=⟨hKb,nsK hns,⟨mb,nsK hb,hbb⟩,let ⟨mc,h1,h2⟩:=hlim; ⟨mc,nsK h1,h2⟩⟩
    have e0:a6h P w K mg (Zm s₁.heap H) callerA [] s₁ H:=⟨rfl,hM,fun b o e=>a3p e,Nat.le_of_eq (Vn _ _),trivial,fun b hb=>absurd (show b∈([]:List Addr) from hb) (by simp),hok,.of_eq hg⟩
    refine codeAny_mono ((F _ hKb (nsK hns)).run callerA [] s₁ H ⟨[.ref a],[]⟩ [.ref a] [.ref a] _ _ hr e0 (hbind s₁ (.ref a)) (.cons rfl .nil) (hsp H hO hS)) fun r s' h=>?_
    cases r with
    | error e=>exact (hCX H e s' h).elim
    | ok fl =>
      cases fl with
      | next=>exact False.elim h
      | brk=>exact False.elim h
      | cont=>exact False.elim h
      | ret u =>
        obtain ⟨v,H',os,bare,un,hok',r',q⟩:=h
        have q':v = .bl true:=q
        subst q'
        obtain rfl:u = Value.bool true:=r'
        refine ⟨rfl,OldK.of_keep fun b o e=>?_,os,bare⟩
        cases q:H b with
        | none=>exact un.keep b o e q (by intro z; exact absurd (show b∈([]:List Addr) from z) (by simp)) (by simp)
        | some u =>
          rcases hO b with z | ⟨ob,xs,z⟩
          · rw [q] at z; cases z
          · have z2:=un.frzs b ob _ z
            obtain ⟨e1,_⟩:=hok b _ z
            obtain ⟨e2,_⟩:=hok' b _ z2
            rw [e] at e1; cases e1
            exact e2
  cases hk:K.lookup a with
  | some o =>
    have e:=KX a o hk
    rw [ha] at e
    cases e
    refine core (fun _=>none) (fun _=>.inl rfl) (.inr ⟨_,vs.toArray,_,hk,rfl,rfl,rfl,by rw [List.size_toArray,lenV]; exact hl,by simpa using rv⟩) (fun b u z=>by have z':(none:Option HO) = some u:=z; cases z') (fun b z=>absurd rfl z) fun z=>absurd rfl z
  | none =>
    refine core (fun b=>if b = a then some (.frz { cls:=.type "list",data:=.seq vs.toArray } (.lst (ns.map V.int))) else none) (fun b=>?_) (.inl (.inr ⟨{ cls:=.type "list",data:=.seq vs.toArray },if_pos rfl⟩)) (fun b u z=>?_) (fun b z=>?_) fun _=>hk
    · by_cases hb:b = a
      · exact .inr ⟨_,_,if_pos hb⟩
      · exact .inl (if_neg hb)
    · by_cases hb:b = a
      · have z':=(if_pos hb).symm.trans z
        cases z'
        subst hb
        exact ⟨ha,by rw [List.length_map]; exact hl,vs,_,rv,ha⟩
      · have z':=(if_neg hb).symm.trans z
        cases z'
    · by_cases hb:b = a
      · exact hb
      · exact absurd (if_neg hb) z
end L2
namespace L2
open PySem PySem.Spec PyProof.Rows
theorem a3h {l:PySem.W.OpenLaw} {n k:Nat} {q:Program} {loose:List Str} {XP:(Str→Option Value)→Heap→Prop} {YP:World→Heap→Prop} {d:DefRec} {K:Params→PySem.W.Frag} {CX:World→CXT} {sp:World→Sp} {x:Str}
    (hn:l.most = some n) (hn2:n≤sizeLine) (hdf:d.params.defaults = []) (hr:Le k callerA)
    (hY:∀ (w:World) (h:Heap),YP w h→(K w.params).In h)
    (F:∀ (w:World) (mg:Str→Option Value) (fa:Addr) (h:Heap),(K w.params).In h→h.Ns mainGlobals mg→mg d.name = some (.ref fa) →
      ∃ fd:FuncData,(∀ (s:Shared) (u:Value),BindsTo s fd ⟨[u],[]⟩ [(x,u)]) ∧
        ∀ base:Heap,(K w.params).In base→base.Ns mainGlobals mg→Cv l.prog w (K w.params) mg base (CX w) k fa fd [x] (sp w))
    (hsp:∀ (w:World) (H:Hp) (a:Addr) (ns:List Int),ns.length≤n→Only H→SqL (K w.params) H a (ns.map V.int)→sp w [.ref a] H (fun v _=>v = .bl true) fun _ _ _=>False)
    (hCX:∀ (w:World) (H:Hp) (s:Shared) (e:Value) (s':Shared),CX w [] H s (fun _ _ _=>False) e s'→False) :
    PySem.W.WalkO q loose XP YP l.row.toRowW d [] (fun f vs=>PySem.call f vs):=by
  refine Att.Qu hn hdf fun w s₀ s₁ mg mb fa o pm cd doc a vs ns G Y ho hd hcd hmg hobj hints hlen hg=>?_
  have KX:=hY w _ Y
  obtain ⟨fd,hb,hF⟩:=F w mg fa _ KX G.T.g hmg
  exact Zt KX G.T.g G.T.b G.T.builtins G.T.nolimit hg hobj hints (Nat.le_trans hlen hn2) hr hF hb (fun H hO hS=>hsp w H a ns hlen hO hS) fun H e s'=>hCX w H s₁ e s'
end L2
namespace L2
open PySem PySem.Spec PyProof.Rows
noncomputable def oh (s:Stmt):Arguments:=match s with
  | .FunctionDef _ a _ _ _ _ _ _ _ _=>a
  | _=>{ posonlyargs:=[],args:=[],vararg:=none,kwonlyargs:=[],kw_defaults:=[],kwarg:=none,defaults:=[] }
noncomputable def mz (s:Stmt):List Stmt:=match s with
  | .FunctionDef _ _ b _ _ _ _ _ _ _=>b
  | _=>[]
noncomputable def iw (s:Stmt):Scope:=match s with
  | .FunctionDef _ _ _ _ _ _ sc _ _ _=>sc
  | _=>{ kind:=.function,names:=[],isGenerator:=false,isCoroutine:=false }
noncomputable abbrev CX0:CXT:=fun _ _ _ _ _ _=>False
noncomputable abbrev E0:XK:=fun _ _ _=>False
theorem a7a {X:Cx}:Passes CX0 X E0:=fun _ _ _ _ _ _ _ h=>h.elim
structure Fun (K:PySem.W.Frag) (x qual:Str) (st:Stmt) (f:Addr) (fd:FuncData):Prop where
  ex:∃ (oc:Value) (od:Option Addr) (kV doc pm:Value) (an:Option Addr) (cdv ct:Value) (osl:Array (Option Value)),
    fd = PySem.W.fnOf x qual (oh st) (mz st) (iw st) .none kV doc pm an cdv ct∧K.lookup f = some ⟨oc,od,.func fd,osl⟩∧PySem.W.codeIn K cdv qual = true
  kp:PySem.W.keepIn K (.ref f) = true
noncomputable section
variable {P:Program} {w:World} {K:PySem.W.Frag} {mg:Str→Option Value} {base:Heap}
theorem Fun.ok {x qual:Str} {st:Stmt} {f:Addr} {fd:FuncData} {N ps:List Str} {k:Nat} {sp:Sp} (F:Fun K x qual st f fd) (S:ou N ps (iw st)) (len:∀ vs H Q E,sp vs H Q E→vs.length = ps.length)
    (hbody:∀ (cdv:Value) (A:Around) (outer:List Env) (s:Shared) (H:Hp) (vs:List V) (Q:VK) (E:XK),Le k (A.deeper (envOfC qual (iw st) s.heap.objs.size f cdv))→sp vs H Q E →
      ∃ t,PSs (a2j CX0 P w K mg base N qual (iw st) f cdv A outer s H E).nox (mz st) t∧t { nx:=fun _ H'=>Q .non H',rt:=Q } (start N vs) H):Cv P w K mg base CX0 (k + 1) f fd ps sp:=by
  obtain ⟨oc,od,kV,doc,pm,an,cdv,ct,osl,rfl,lk,hcd⟩:=F.ex
  refine Yh lk hcd S len fun A outer s H vs Q E hr hsp=>?_
  obtain ⟨t,h,q⟩:=hbody cdv A outer s H vs Q E hr hsp
  exact ⟨t,h.nox,q⟩
theorem Fun.binds {x qual:Str} {st:Stmt} {f:Addr} {fd:FuncData} {ps:List Str} (F:Fun K x qual st f fd)
    (h:∀ (kV doc pm:Value) (an:Option Addr) (cdv ct:Value) (us:List Value),us.length = ps.length→bindArgs (PySem.W.fnOf x qual (oh st) (mz st) (iw st) .none kV doc pm an cdv ct) ⟨us,[]⟩ = pure (ps.zip us)):Binds K fd ps []:=by
  obtain ⟨oc,od,kV,doc,pm,an,cdv,ct,osl,rfl,lk,hcd⟩:=F.ex
  exact .all (h kV doc pm an cdv ct)
theorem bd1 {fd:FuncData} {ps:List Str} (h:∀ a,bindArgs fd ⟨[a],[]⟩ = pure (ps.zip [a])):∀ us:List Value,us.length = 1→bindArgs fd ⟨us,[]⟩ = pure (ps.zip us)
  | [a],_=>h a
theorem bd2 {fd:FuncData} {ps:List Str} (h:∀ a b,bindArgs fd ⟨[a,b],[]⟩ = pure (ps.zip [a,b])):∀ us:List Value,us.length = 2→bindArgs fd ⟨us,[]⟩ = pure (ps.zip us)
  | [a,b],_=>h a b
theorem bd3 {fd:FuncData} {ps:List Str} (h:∀ a b c,bindArgs fd ⟨[a,b,c],[]⟩ = pure (ps.zip [a,b,c])):∀ us:List Value,us.length = 3→bindArgs fd ⟨us,[]⟩ = pure (ps.zip us)
  | [a,b,c],_=>h a b c
theorem bd4 {fd:FuncData} {ps:List Str} (h:∀ a b c d,bindArgs fd ⟨[a,b,c,d],[]⟩ = pure (ps.zip [a,b,c,d])):∀ us:List Value,us.length = 4→bindArgs fd ⟨us,[]⟩ = pure (ps.zip us)
  | [a,b,c,d],_=>h a b c d
theorem xr {x qual:Str} {st:Stmt} {f:Addr} {oc:Value} {od an:Option Addr} {osl:Array (Option Value)} {kV doc pm cdv ct:Value} (l:K.lookup f = some ⟨oc,od,.func (PySem.W.fnOf x qual (oh st) (mz st) (iw st) .none kV doc pm an cdv ct),osl⟩)
    (c:PySem.W.codeIn K cdv qual = true) (k:PySem.W.keepIn K (.ref f) = true):Fun K x qual st f (PySem.W.fnOf x qual (oh st) (mz st) (iw st) .none kV doc pm an cdv ct):=⟨⟨oc,od,kV,doc,pm,an,cdv,ct,osl,rfl,l,c⟩,k⟩
end
theorem Bq {A:Around} {k:Nat} (hr:Le k A):A.units + 1 < cLine:=Nat.lt_of_le_of_lt (Nat.add_le_add_left (by decide:1≤64) _) hr.units
theorem Eu {n:Nat} (h:n≤1000):n < sizeLine:=Nat.lt_of_le_of_lt h (by decide)
noncomputable section
variable {X:Cx}
theorem pv (i:Nat) {x:Str} {pos:Pos} (hN:X.N[i]? = some x:=by rfl) (hv:Vis X.env.scope x:=by first | exact Or.inl rfl | exact Or.inr (Or.inl rfl) | exact Or.inr (Or.inr rfl)) (hd:(x == ("__debug__" : Str)) = false:=by decide)
    (hcd:(x == ("__classdict__" : Str)) = false:=by decide):PE X (.Name x pos) (a0a i):=a4x hN hv hd hcd
end
theorem a4o {A B:Prop} (h:B):if false = true then A else B:=by
  rw [if_neg Bool.false_ne_true]
  exact h
theorem a5n {A B:Prop} (h:A):if true = true then A else B:=by
  rw [if_pos rfl]
  exact h
noncomputable def Same (H H':Hp):Prop:=∀ b o,H b = some o→H' b = some o
theorem Same.refl (H:Hp):Same H H:=fun _ _ h=>h
theorem Same.trans {H H1 H2:Hp} (a:Same H H1) (b:Same H1 H2):Same H H2:=fun c o h=>b c o (a c o h)
theorem Same.free {H H':Hp} (e:Same H H') {l:Addr} (h:H' l = Option.none):H l = Option.none:=by
  cases q:H l with
  | none=>rfl
  | some o =>
    rw [e l o q] at h
    cases h
theorem Same.seq {K:PySem.W.Frag} {H H':Hp} {a:Addr} {xs:List V} (e:Same H H') (h:SqL K H a xs):SqL K H' a xs:=by
  rcases h with (h | ⟨o,h⟩) | h
  · exact .inl (.inl (e _ _ h))
  · exact .inl (.inr ⟨o,e _ _ h⟩)
  · exact .inr h
end L2
end
noncomputable section
set_option linter.all false
set_option maxRecDepth 100000
namespace L2
open PySem PySem.Spec PyProof.Rows
noncomputable section
variable {X:Cx}
end
noncomputable section
variable {κ:Type} [DecidableEq κ]
end
end L2
end
noncomputable section
namespace C
open PySem
noncomputable abbrev Key:=Sum Int Str
inductive T where
  | non | bl (b:Bool) | int (i:Int) | str (x:Str)
  | tup (xs:List T) | lst (xs:List T) | dic (kvs:List (Key × T)) | obj (n:Nat)
instance:Inhabited T:=⟨.non⟩
inductive SO where
  | dic (kvs:List (Key × T)) | lst (xs:List T) | ins (c:Str) (fs:List (Str × T))
noncomputable abbrev Slot:=Option (T × Bool)
structure Sta where
  env:List Slot
  sto:List SO
noncomputable abbrev M (α:Type):=Sta→Option (α × Sta)
noncomputable def Eh (k:Key):List (Key × T)→Option T
  | []=>none
  | (q,t) :: r=>if q = k then some t else Eh k r
noncomputable def Ku (k:Key) (t:T) (kvs:List (Key × T)):List (Key × T) :=
  if kvs.any fun p=>decide (p.1 = k) then kvs.map fun p=>if p.1 = k then (p.1,t) else p else kvs ++ [(k,t)]
noncomputable def keyOf:T→Option Key
  | .int i=>some (.inl i)
  | .str x=>some (.inr x)
  | _=>none
noncomputable def V1:Key→T
  | .inl i=>.int i
  | .inr x=>.str x
mutual
noncomputable def dat:T→Option PyData
  | .non=>some .none
  | .bl b=>some (.bool b)
  | .int i=>some (.int i)
  | .str x=>if PyData.canLay0 (.str x) then some (.str x) else none
  | .tup xs=>(Ks xs).map .tuple
  | .lst xs=>(Ks xs).map .list
  | .dic _=>none
  | .obj _=>none
noncomputable def Ks:List T→Option (List PyData)
  | []=>some []
  | x :: r=>match dat x with
    | some a=>(Ks r).map (a :: ·)
    | none=>none
end
noncomputable def eqD (a b:T):Option Bool:=match dat a with
  | some x=>match dat b with
    | some y=>if x.depth≤40 then some (PyData.eqv x y) else none
    | none=>none
  | none=>none
noncomputable def a3u:List (Key × T)→List (Key × T)→Option Bool
  | [],_=>some true
  | (k,x) :: r,ys=>match Eh k ys with
    | none=>some false
    | some y=>match eqD x y with
      | some e=>(a3u r ys).map (e && ·)
      | none=>none
noncomputable def eqT:T→T→Option Bool
  | .dic a,.dic b=>if a.length = b.length then a3u a b else some false
  | x,y=>eqD x y
noncomputable def aq (t:T):M T:=fun s=>some (t,s)
noncomputable def cg (i:Nat):M T:=fun s=>match s.env[i]? with
  | some (some (t,false))=>some (t,s)
  | some (some (t,true))=>some (t,{ s with env:=s.env.set i (some (t,false)) })
  | _=>none
noncomputable def gq:M (List T):=fun s=>some ([],s)
noncomputable def ak (a:M T) (r:M (List T)):M (List T):=fun s=>match a s with
  | some (t,s1)=>match r s1 with
    | some (ts,s2)=>some (t :: ts,s2)
    | none=>none
  | none=>none
noncomputable def j6:List Str→M (List T)
  | []=>gq
  | x :: r=>ak (aq (.str x)) (j6 r)
noncomputable def j8 (f:List T→Option T) (a:M (List T)):M T:=fun s=>match a s with
  | some (ts,s1)=>match f ts with
    | some t=>some (t,s1)
    | none=>none
  | none=>none
noncomputable def mUn (f:T→Option T) (a:M T):M T:=fun s=>match a s with
  | some (t,s1)=>match f t with
    | some u=>some (u,s1)
    | none=>none
  | none=>none
noncomputable def mOp (f:T→T→Option T) (a b:M T):M T:=fun s=>match a s with
  | some (t,s1)=>match b s1 with
    | some (u,s2)=>match f t u with
      | some v=>some (v,s2)
      | none=>none
    | none=>none
  | none=>none
noncomputable abbrev Fn:=List T→List SO→Option (T × List SO)
noncomputable def dj (F:Fn) (a:M (List T)):M T:=fun s=>match a s with
  | some (ts,s1)=>match F ts s1.sto with
    | some (t,sto)=>some (t,{ s1 with sto:=sto })
    | none=>none
  | none=>none
noncomputable def fj (a:M T):M Bool:=fun s=>match a s with
  | some (.bl b,s1)=>some (b,s1)
  | _=>none
noncomputable def jz (a:M Bool):M Bool:=fun s=>match a s with
  | some (b,s1)=>some (!b,s1)
  | none=>none
noncomputable def m5 (a b:M Bool):M Bool:=fun s=>match a s with
  | some (true,s1)=>b s1
  | some (false,s1)=>some (false,s1)
  | none=>none
noncomputable def mOr (a b:M Bool):M Bool:=fun s=>match a s with
  | some (true,s1)=>some (true,s1)
  | some (false,s1)=>b s1
  | none=>none
noncomputable def j5 (a:M Bool):M T:=fun s=>match a s with
  | some (b,s1)=>some (.bl b,s1)
  | none=>none
noncomputable def mIf (c:M Bool) (a b:M T):M T:=fun s=>match c s with
  | some (true,s1)=>a s1
  | some (false,s1)=>b s1
  | none=>none
noncomputable abbrev lim:Nat:=1000000
noncomputable def Kz (i:Int):Bool:=decide (-(2 ^ 64) < i∧i < 2 ^ 64)
noncomputable def jr:T→T→Option T
  | .int i,.int j=>some (.int (i + j))
  | .str x,.str y=>if x.length + y.length < lim then some (.str (x ++ y)) else none
  | .tup x,.tup y=>if x.length + y.length < lim then some (.tup (x ++ y)) else none
  | .lst x,.lst y=>if x.length + y.length < lim then some (.lst (x ++ y)) else none
  | _,_=>none
noncomputable def jw:T→T→Option T
  | .int i,.int j=>some (.int (i - j))
  | _,_=>none
noncomputable def Jj:T→T→Option T
  | .int i,.int j=>if Kz i || Kz j then some (.int (i * j)) else none
  | .str x,.int j=>if 0≤j∧j≤1000∧x.length≤100 then some (.str ⟨((List.replicate j.toNat x.cps.toList).flatten).toArray⟩) else none
  | _,_=>none
noncomputable def jy:T→T→Option T
  | .int i,.int j=>if 0 < j then some (.int (i % j)) else none
  | _,_=>none
noncomputable def fdl:Nat:=2 ^ 200
noncomputable def iy:T→T→Option T
  | .int i,.int j=>if 0 < j∧(j < 1073741824∨j.natAbs < fdl) then some (.int (i / j)) else none
  | _,_=>none
noncomputable def Tc:T→T→Option T
  | .int i,.int j=>if 0≤j∧j≤1000∧i.natAbs < 1000 then some (.int (i ^ j.toNat)) else none
  | _,_=>none
noncomputable def m6:T→Option T
  | .int i=>some (.int (-i))
  | _=>none
noncomputable def ltT:T→T→Option T
  | .int i,.int j=>some (.bl (decide (i < j)))
  | _,_=>none
noncomputable def leT:T→T→Option T
  | .int i,.int j=>some (.bl (decide (i≤j)))
  | _,_=>none
noncomputable def gtT:T→T→Option T
  | .int i,.int j=>some (.bl (decide (j < i)))
  | _,_=>none
noncomputable def eqO (x y:T):Option T:=match eqT x y with
  | some b=>some (.bl b)
  | none=>none
noncomputable def neO (x y:T):Option T:=match eqT x y with
  | some b=>some (.bl (!b))
  | none=>none
noncomputable def ixI (n:Nat) (i:Int):Option Nat:=if 0≤i then (if i < n then some i.toNat else none) else if -(n:Int)≤i then some (i + n).toNat else none
noncomputable def gb:T→T→Option T
  | .tup xs,.int i=>(ixI xs.length i).bind (xs[·]?)
  | .lst xs,.int i=>(ixI xs.length i).bind (xs[·]?)
  | .str x,.int i=>if x.length < lim then (ixI x.cps.toList.length i).bind fun j=>(x.cps.toList[j]?).map fun c=>.str ⟨#[c]⟩ else none
  | .dic kvs,k=>(keyOf k).bind (Eh · kvs)
  | _,_=>none
noncomputable def ju:List T→Option T
  | [.tup xs]=>some (.int xs.length)
  | [.lst xs]=>some (.int xs.length)
  | [.str x]=>if x.length < lim then some (.int x.length) else none
  | [.dic kvs]=>some (.int kvs.length)
  | _=>none
noncomputable def inL (x:T):List T→Option Bool
  | []=>some false
  | y :: r=>match eqD y x with
    | some e=>(inL x r).map (e || ·)
    | none=>none
noncomputable def inT (x y:T):Option T:=match y with
  | .dic kvs=>(keyOf x).map fun q=>.bl (Eh q kvs).isSome
  | _=>if (dat x).isSome then (match y with
    | .tup ys=>(inL x ys).map .bl
    | .lst ys=>(inL x ys).map .bl
    | _=>none) else none
noncomputable def Rr (x y:T):Option T:=match inT x y with
  | some (.bl b)=>some (.bl (!b))
  | _=>none
noncomputable def wz:List T→Option T
  | [.lst xs]=>some (.tup xs)
  | [.tup xs]=>some (.tup xs)
  | _=>none
noncomputable def Gd:List T→Option T
  | [.lst xs]=>some (.lst xs)
  | [.tup xs]=>some (.lst xs)
  | _=>none
noncomputable def Bg:List T→Option (List (Key × T))
  | []=>some []
  | .tup [k,v] :: r=>match keyOf k,Bg r with
    | some q,some l=>some ((q,v) :: l)
    | _,_=>none
  | _=>none
noncomputable def Dh:List T→Option T
  | [.lst xs]=>if xs.length < lim then (Bg xs).map fun l=>.dic (l.foldl (fun d p=>Ku p.1 p.2 d) []) else none
  | [.tup xs]=>if xs.length < lim then (Bg xs).map fun l=>.dic (l.foldl (fun d p=>Ku p.1 p.2 d) []) else none
  | [.dic kvs]=>some (.dic kvs)
  | _=>none
noncomputable def Ux:List T→Option (List Int)
  | []=>some []
  | .int i :: r=>(Ux r).map (i :: ·)
  | _=>none
noncomputable def Ys:List T→Option T
  | [.lst xs]=>(Ux xs).map fun l=>.int l.sum
  | _=>none
noncomputable def J3:List T→Option (List Str)
  | []=>some []
  | .str x :: r=>(J3 r).map (x :: ·)
  | _=>none
noncomputable def N6 (x:Str):List Str→List Str
  | []=>[x]
  | y :: r=>if decide (x.cps.toList < y.cps.toList) then x :: y :: r else y :: N6 x r
noncomputable def Cg (l:List Str):List Str:=l.foldl (fun acc x=>N6 x acc) []
noncomputable def Dd:List T→Option T
  | [.lst xs]=>if xs.length < 64 then (J3 xs).map fun l=>.lst ((Cg l).map .str) else none
  | [.dic kvs]=>if kvs.length < 64 then (J3 (kvs.map fun p=>V1 p.1)).map fun l=>.lst ((Cg l).map .str) else none
  | _=>none
noncomputable def isTup:List T→Option T
  | [.tup _]=>some (.bl true)
  | [.obj _]=>none
  | [_]=>some (.bl false)
  | _=>none
noncomputable def Y7:List T→Option T
  | [.lst _]=>some (.bl true)
  | [.obj _]=>none
  | [_]=>some (.bl false)
  | _=>none
noncomputable def isInt:List T→Option T
  | [.int _]=>some (.bl true)
  | [.bl _]=>some (.bl true)
  | [.obj _]=>none
  | [_]=>some (.bl false)
  | _=>none
noncomputable def a5z:List T→Option T
  | [.bl _]=>some (.bl true)
  | [.obj _]=>none
  | [_]=>some (.bl false)
  | _=>none
noncomputable def Z4:T→Bool
  | .non=>true
  | _=>false
noncomputable def Gq (x y:T):Option T:=if Z4 y then some (.bl (!Z4 x)) else none
noncomputable def m8:List T→Option T
  | [.int i]=>some (.int (if i < 0 then -i else i))
  | _=>none
noncomputable def Gm (i:Nat) (s:Sta):Bool:=match s.env[i]? with
  | some (some (.dic _,_))=>true
  | _=>false
noncomputable def j4 (i:Nat) (s:Sta):Bool:=match s.env[i]? with
  | some (some (.lst _,_))=>true
  | _=>false
noncomputable def yc (i:Nat) (k:M T):M T:=fun s=>if Gm i s then (match k s with
  | some (kt,s1)=>match s1.env[i]? with
    | some (some (.dic kvs,_))=>match (keyOf kt).bind (Eh · kvs) with
      | some t=>some (t,s1)
      | none=>none
    | _=>none
  | none=>none) else none
noncomputable def Ca (o k:M T):M T:=fun s=>match o s with
  | some (.obj n,s1)=>match k s1 with
    | some (.int i,s2)=>match s2.sto[n]? with
      | some (.lst xs)=>match (ixI xs.length i).bind (xs[·]?) with
        | some t=>some (t,s2)
        | none=>none
      | _=>none
    | _=>none
  | _=>none
noncomputable def Ey (o:M T):M T:=fun s=>match o s with
  | some (.obj n,s1)=>match s1.sto[n]? with
    | some (.lst xs)=>some (.int xs.length,s1)
    | _=>none
  | _=>none
noncomputable def Fe (a:M (List T)):M T:=fun s=>match a s with
  | some (ts,s1)=>some (.obj s1.sto.length,{ s1 with sto:=s1.sto ++ [.lst ts] })
  | none=>none
inductive Flow where
  | next | ret (t:T) | brk | cont
noncomputable abbrev S:=Sta→Option (Flow × Sta)
noncomputable def jk:S:=fun s=>some (.next,s)
noncomputable def j7 (a b:S):S:=fun s=>match a s with
  | some (.next,s1)=>b s1
  | r=>r
noncomputable def je (e:M T):S:=fun s=>match e s with
  | some (t,s1)=>some (.ret t,s1)
  | none=>none
noncomputable def sIf (c:M Bool) (a b:S):S:=fun s=>match c s with
  | some (true,s1)=>a s1
  | some (false,s1)=>b s1
  | none=>none
noncomputable def bh (i:Nat) (t:T) (own:Bool) (s:Sta):Sta:={ s with env:=s.env.set i (some (t,own)) }
noncomputable def ji (i:Nat) (e:M T):S:=fun s=>match e s with
  | some (t,s1)=>some (.next,bh i t false s1)
  | none=>none
noncomputable def sNew (i:Nat) (e:M T):S:=fun s=>match e s with
  | some (t,s1)=>some (.next,bh i t true s1)
  | none=>none
noncomputable def cj (i:Nat) (e:M T):S:=fun s=>if j4 i s then (match e s with
  | some (t,s1)=>match s1.env[i]? with
    | some (some (.lst xs,true))=>if xs.length < lim then some (.next,bh i (.lst (xs ++ [t])) true s1) else none
    | _=>none
  | none=>none) else none
noncomputable def iz:T→Option (List T)
  | .lst xs=>some xs
  | .tup xs=>some xs
  | _=>none
noncomputable def dh (i:Nat) (e:M T):S:=fun s=>if j4 i s then (match e s with
  | some (t,s1)=>match iz t,s1.env[i]? with
    | some ys,some (some (.lst xs,true))=>if xs.length + ys.length < lim then some (.next,bh i (.lst (xs ++ ys)) true s1) else none
    | _,_=>none
  | none=>none) else none
noncomputable def Es (i:Nat) (k v:M T):S:=fun s=>match v s with
  | some (t,s1)=>if Gm i s1 then (match k s1 with
    | some (kt,s2)=>match s2.env[i]?,keyOf kt with
      | some (some (.dic kvs,true)),some q=>if kvs.length < lim then some (.next,bh i (.dic (Ku q t kvs)) true s2) else none
      | _,_=>none
    | none=>none) else none
  | none=>none
noncomputable def a6j:S:=fun s=>some (.brk,s)
noncomputable def bf (i:Nat):S:=fun s=>match s.env[i]? with
  | some (some (.lst xs,true))=>some (.next,bh i (.lst xs.reverse) true s)
  | _=>none
noncomputable def sNx (u:S):S:=fun s=>match u s with
  | some (.next,s1)=>some (.next,s1)
  | _=>none
noncomputable def dg (i:Nat):S:=fun s=>match s.env[i]? with
  | some (some (t,true))=>some (.ret t,s)
  | _=>none
noncomputable def Fv (o k v:M T):S:=fun s=>match v s with
  | some (t,s1)=>match o s1 with
    | some (.obj n,s2)=>match k s2 with
      | some (.int i,s3)=>match s3.sto[n]? with
        | some (.lst xs)=>match ixI xs.length i with
          | some j=>some (.next,{ s3 with sto:=s3.sto.set n (.lst (xs.set j t)) })
          | none=>none
        | _=>none
      | _=>none
    | _=>none
  | none=>none
noncomputable def Ka (i:Nat) (v:M T):S:=fun s=>match s.env[i]? with
  | some (some (.obj n,false))=>match s.sto[n]? with
    | some (.lst _)=>match v s with
      | some (t,s1)=>match s1.sto[n]? with
        | some (.lst xs)=>if xs.length < lim then some (.next,{ s1 with sto:=s1.sto.set n (.lst (xs ++ [t])) }) else none
        | _=>none
      | none=>none
    | _=>none
  | _=>none
noncomputable abbrev G:=T→Sta→Option Sta
noncomputable def hName (i:Nat):G:=fun t s=>some (bh i t false s)
noncomputable def jt (is:List Nat):G:=fun t s=>match t with
  | .tup xs=>if xs.length = is.length then some ((is.zip xs).foldl (fun s p=>bh p.1 p.2 false s) s) else none
  | _=>none
noncomputable def sGo (g:G) (m:M T):S:=fun s=>match m s with
  | some (t,s1)=>match g t s1 with
    | some s2=>some (.next,s2)
    | none=>none
  | none=>none
noncomputable def forL (g:G) (b:S):List T→S
  | []=>fun s=>some (.next,s)
  | t :: r=>fun s=>match g t s with
    | some s1=>match b s1 with
      | some (.next,s2)=>forL g b r s2
      | some (.cont,s2)=>forL g b r s2
      | some (.brk,s2)=>some (.next,s2)
      | some (.ret v,s2)=>some (.ret v,s2)
      | none=>none
    | none=>none
noncomputable def jo (g:G) (it:M (List T)) (b:S):S:=fun s=>match it s with
  | some (ts,s1)=>forL g b ts s1
  | none=>none
noncomputable def rangeT (n:Nat):List T:=(List.range n).map fun (k:Nat)=>.int (k:Int)
noncomputable def fu (a:M T):M (List T):=fun s=>match a s with
  | some (.int n,s1)=>if n.natAbs < lim then some (rangeT n.toNat,s1) else none
  | _=>none
noncomputable def jl (a:M T):M (List T):=fun s=>match a s with
  | some (.lst xs,s1)=>if xs.length < lim then some (xs,s1) else none
  | some (.tup xs,s1)=>if xs.length < lim then some (xs,s1) else none
  | _=>none
noncomputable def lend (is:List Nat) (env:List Slot):List Slot:=env.mapIdx fun j x=>match x with
  | some (t,f)=>if f then (if j∈is then some (t,false) else none) else some (t,false)
  | none=>none
noncomputable def kh (s:Slot):Slot:=match s with
  | some (t,_)=>some (t,false)
  | none=>none
noncomputable def su (s:Sta):Sta:={ s with env:=s.env.map kh }
noncomputable def Dm (g:G) (c:M Bool) (e:M T):List T→Sta→List T→Option (List T × Sta)
  | [],s,acc=>some (acc,s)
  | t :: r,s,acc=>match g t s with
    | some s1=>match c s1 with
      | some (true,s2)=>match e s2 with
        | some (u,s3)=>if acc.length < lim then Dm g c e r (su s3) (acc ++ [u]) else none
        | none=>none
      | some (false,s2)=>Dm g c e r (su s2) acc
      | none=>none
    | none=>none
noncomputable def iu:M Bool:=fun s=>some (true,s)
noncomputable def au (is:List Nat) (env:List Slot):List Slot:=is.foldl (fun e i=>match e[i]? with
  | some (some (t,_))=>e.set i (some (t,false))
  | _=>e) env
noncomputable def yq (nv:Nat) (cap:List Nat) (g:G) (it:M (List T)) (c:M Bool) (e:M T):M T:=fun s=>match it s with
  | some (ts,s1) =>
    let env:=au cap s1.env
    match Dm g c e ts ⟨List.replicate nv none ++ cap.map (fun i=>(env[i]?).getD none),s1.sto⟩ [] with
    | some (us,s2)=>some (.lst us,⟨env,s2.sto⟩)
    | none=>none
  | none=>none
noncomputable def gw (n:Nat) (b:S):Fn:=fun ts sto=>match b ⟨ts.map (fun t=>some (t,false)) ++ List.replicate (n - ts.length) none,sto⟩ with
  | some (.ret t,s)=>some (t,s.sto)
  | some (.next,s)=>some (.non,s.sto)
  | _=>none
noncomputable section
variable {s s':Sta} {t v:T} {a b:M T}
theorem Km {f:T→T→Option T} (h:mOp f a b s = some (v,s')):∃ t s1 u,a s = some (t,s1)∧b s1 = some (u,s')∧f t u = some v:=by
  unfold mOp at h
  cases ha:a s with
  | none=>rw [ha] at h; cases h
  | some p =>
    obtain ⟨t,s1⟩:=p; rw [ha] at h; dsimp only at h
    cases hb:b s1 with
    | none=>rw [hb] at h; cases h -- here
    | some p =>
      obtain ⟨u,s2⟩:=p; rw [hb] at h; dsimp only at h
      cases hf:f t u with
      | none=>rw [hf] at h; cases h
      | some w=>rw [hf] at h; cases h; exact ⟨t,s1,u,rfl,hb,hf⟩
theorem a2e {f:T→Option T} (h:mUn f a s = some (v,s')):∃ t,a s = some (t,s')∧f t = some v:=by
  unfold mUn at h
  cases ha:a s with
  | none=>rw [ha] at h; cases h
  | some p =>
    obtain ⟨t,s1⟩:=p; rw [ha] at h; dsimp only at h
    cases hf:f t with
    | none=>rw [hf] at h; cases h
    | some w=>rw [hf] at h; cases h; exact ⟨t,rfl,hf⟩
theorem Dp {f:List T→Option T} {a:M (List T)} (h:j8 f a s = some (v,s')):∃ ts,a s = some (ts,s')∧f ts = some v:=by
  unfold j8 at h
  cases ha:a s with
  | none=>rw [ha] at h; cases h
  | some p =>
    obtain ⟨t,s1⟩:=p; rw [ha] at h; dsimp only at h
    cases hf:f t with
    | none=>rw [hf] at h; cases h
    | some w=>rw [hf] at h; cases h; exact ⟨t,rfl,hf⟩
theorem Et {r:M (List T)} {ts:List T} (h:ak a r s = some (ts,s')):∃ t s1 us,a s = some (t,s1)∧r s1 = some (us,s')∧ts = t :: us:=by
  unfold ak at h
  cases ha:a s with
  | none=>rw [ha] at h; cases h
  | some p =>
    obtain ⟨t,s1⟩:=p; rw [ha] at h; dsimp only at h
    cases hb:r s1 with
    | none=>rw [hb] at h; cases h -- here
    | some p=>obtain ⟨u,s2⟩:=p; rw [hb] at h; cases h; exact ⟨t,s1,u,rfl,hb,rfl⟩
theorem Xn {F:Fn} {a:M (List T)} (h:dj F a s = some (v,s')):∃ ts s1 sto,a s = some (ts,s1)∧F ts s1.sto = some (v,sto)∧s' = { s1 with sto:=sto }:=by
  unfold dj at h
  cases ha:a s with
  | none=>rw [ha] at h; cases h
  | some p =>
    obtain ⟨t,s1⟩:=p; rw [ha] at h; dsimp only at h
    cases hf:F t s1.sto with
    | none=>rw [hf] at h; cases h
    | some w=>obtain ⟨w,sto⟩:=w; rw [hf] at h; cases h; exact ⟨t,s1,sto,rfl,hf,rfl⟩
theorem Om {b:Bool} (h:fj a s = some (b,s')):a s = some (.bl b,s'):=by
  unfold fj at h
  cases ha:a s with
  | none=>rw [ha] at h; cases h
  | some p =>
    obtain ⟨t,s1⟩:=p; rw [ha] at h
    cases t <;> first | (cases h; rfl) | (cases h)
theorem Vm {c:M Bool} (h:j5 c s = some (v,s')):∃ b,c s = some (b,s')∧v = .bl b:=by
  unfold j5 at h
  cases ha:c s with
  | none=>rw [ha] at h; cases h
  | some p=>obtain ⟨t,s1⟩:=p; rw [ha] at h; cases h; exact ⟨t,rfl,rfl⟩
theorem Ru {c:M Bool} {b:Bool} (h:jz c s = some (b,s')):∃ k,c s = some (k,s')∧b = !k:=by
  unfold jz at h
  cases ha:c s with
  | none=>rw [ha] at h; cases h
  | some p=>obtain ⟨t,s1⟩:=p; rw [ha] at h; cases h; exact ⟨t,rfl,rfl⟩
theorem a00 {c d:M Bool} {b:Bool} (h:m5 c d s = some (b,s')):(∃ s1,c s = some (true,s1)∧d s1 = some (b,s'))∨(c s = some (false,s')∧b = false):=by
  unfold m5 at h
  cases ha:c s with
  | none=>rw [ha] at h; cases h
  | some p =>
    obtain ⟨k,s1⟩:=p; rw [ha] at h
    cases k with
    | true=>exact .inl ⟨s1,rfl,h⟩
    | false=>cases h; exact .inr ⟨rfl,rfl⟩
theorem a2f {c d:M Bool} {b:Bool} (h:mOr c d s = some (b,s')):(∃ s1,c s = some (false,s1)∧d s1 = some (b,s'))∨(c s = some (true,s')∧b = true):=by
  unfold mOr at h
  cases ha:c s with
  | none=>rw [ha] at h; cases h
  | some p =>
    obtain ⟨k,s1⟩:=p; rw [ha] at h
    cases k with
    | false=>exact .inl ⟨s1,rfl,h⟩
    | true=>cases h; exact .inr ⟨rfl,rfl⟩
theorem a3b {c:M Bool} (h:mIf c a b s = some (v,s')):(∃ s1,c s = some (true,s1)∧a s1 = some (v,s'))∨(∃ s1,c s = some (false,s1)∧b s1 = some (v,s')):=by
  unfold mIf at h
  cases ha:c s with
  | none=>rw [ha] at h; cases h
  | some p =>
    obtain ⟨k,s1⟩:=p; rw [ha] at h
    cases k with
    | true=>exact .inl ⟨s1,rfl,h⟩
    | false=>exact .inr ⟨s1,rfl,h⟩
theorem Rz {i:Nat} (h:cg i s = some (v,s')):(s.env[i]? = some (some (v,false))∧s' = s)∨(s.env[i]? = some (some (v,true))∧s' = { s with env:=s.env.set i (some (v,false)) }):=by
  unfold cg at h
  split at h
  · rename_i t e; cases h; exact .inl ⟨e,rfl⟩
  · rename_i t e; cases h; exact .inr ⟨e,rfl⟩
  · cases h
end
end C
end
noncomputable section
set_option linter.all false
set_option maxRecDepth 100000
set_option maxHeartbeats 4000002
namespace L2
open PySem PySem.Spec PyProof.Rows
noncomputable section
variable {pr:Program} {wd:World} {Ar:Around} {Rs:Result→Shared→Prop} {s:Shared}
theorem Q7 {el tgt itr:Expr} {cs:List Expr} {scp:Scope} {ps:Pos} {itv accv:Value} {en:Env} (J:Nat→Shared→Prop)
    (turn:∀ n z,J n z→wpAny (model pr wd) Ar (pyNext itv) (fun nx z1=>match nx with
      | none=>Rs (.ok .next) z1
      | some v=>wpAny (model pr wd) Ar (letOwnedTupleGo tgt itv v) (fun _ z2=>wpAny (model pr wd) Ar (assign tgt en v) (fun _ z3 =>
          wpAny (model pr wd) Ar (forIn cs true fun c go=>if go = true then do let ok ← isTrue c en (eval c en); pure (ForInStep.yield ok) else pure (ForInStep.yield go)) (fun ok z4 =>
            if ok = true then wpAny (model pr wd) Ar (eval el en) (fun x z5 =>
              wpAny (model pr wd) Ar (call (.builtin "list.append") [accv,x]) (fun _ z6=>∃ m,m < n∧J m z6) (fun _ _=>False) z5) (fun _ _=>False) z4
            else ∃ m,m < n∧J m z4) (fun _ _=>False) z3) (fun _ _=>False) z2) (fun _ _=>False) z1) (fun _ _=>False) z)
    (n:Nat) (h:J n s) :
    codeAny (model pr wd) Ar (.compLoop (.ListComp el [⟨tgt,itr,cs,0⟩] scp ps) 0 itv accv en) Rs s:=by
  refine codeAny_loop rfl J (fun k z hz=>?_) n h
  show wpAny _ Ar ((compTurn (.ListComp el [⟨tgt,itr,cs,0⟩] scp ps) 0 itv accv en).onRaise (fun ex=>do noteFrame ex en; theTreesLotGoes ex)) _ _ z
  refine wpAny_noted ?_
  rw [compTurn_list]
  refine wpAny_bind (wpAny_standAt (wpAny_bind (wpAny_mono (turn k z hz) (fun nx z1 g1=>?_) fun _ _ no=>no.elim)))
  cases nx with
  | none=>exact wpAny_pure g1
  | some v =>
    refine wpAny_bind (wpAny_mono g1 (fun _ z2 g2=>?_) fun _ _ no=>no.elim)
    refine wpAny_bind (wpAny_mono g2 (fun _ z3 g3=>wpAny_bind (wpAny_mono g3 (fun ok z4 g4=>?_) fun _ _ no=>no.elim)) fun _ _ no=>no.elim)
    cases ok with
    | false=>exact wpAny_pure (And.intro rfl g4)
    | true =>
      exact wpAny_bind (wpAny_bind (wpAny_mono g4 (fun x z5 g5=>wpAny_bind (wpAny_mono g5 (fun _ z6 g6=>wpAny_pure (wpAny_pure (And.intro rfl g6))) fun _ _ no=>no.elim)) fun _ _ no=>no.elim))
end
noncomputable def Um (env:Env):List (Str × NameKind)→List (Str × Addr)→List (Str × Addr)
  | [],cs=>cs
  | (n,k) :: r,cs=>Um env r (if (k == NameKind.free) = true then (match env.cells.lookup n with | some c=>(n,c) :: cs | none=>cs) else cs)
noncomputable def Fi (env:Env) (names:List (Str × NameKind)):Bool:=names.all fun y=>!(y.2 == NameKind.free) || (env.cells.lookup y.1).isSome
theorem Gi {scope:Scope} {env:Env} (h:Fi env scope.names = true):closureFor scope env = pure (Um env scope.names []):=by
  have key:∀ (l:List (Str × NameKind)) (cs:List (Str × Addr)),Fi env l = true →
      (forIn (m:=Sem) l cs fun x r=>(do
        if (x.2 == NameKind.free) = true then
          let c ← cellOf env x.1
          pure (ForInStep.yield ((x.1,c) :: r))
        else pure (ForInStep.yield r))) = pure (Um env l cs):=by
    intro l
    induction l with
    | nil=>intro cs _; rfl
    | cons x r ih =>
      intro cs h
      obtain ⟨n,k⟩:=x
      unfold Fi at h
      rw [List.all_cons,Bool.and_eq_true] at h -- here
      obtain ⟨h1,h2⟩:=h
      rw [List.forIn_cons]
      by_cases hk:(k == NameKind.free) = true
      · have h1':(env.cells.lookup n).isSome = true:=by simpa [hk] using h1
        obtain ⟨c,hc⟩:=Option.isSome_iff_exists.mp h1'
        have e:cellOf env n = pure c:=by unfold cellOf; rw [hc]
        simp only [hk,if_true,e,pure_bind]
        rw [ih _ h2]
        simp only [Um,hk,if_true,hc]
      · simp only [hk,if_false,pure_bind,Bool.false_eq_true]
        rw [ih _ h2]
        simp only [Um,hk,if_false,Bool.false_eq_true]
  have:=key scope.names [] h
  unfold closureFor
  simpa using this
noncomputable def xu (X:Cx) (scope:Scope) (N:List Str) (C:Addr) (s₀:Shared) (H₀:Hp) (ex:List Addr) (pn:List (Addr × Obj)):Cx :=
  { X with N:=N,s₀:=s₀,H₀:=H₀,env:=compEnvC scope (Um X.env scope.names []) C X.env,outer:=X.stack,ex:=ex,fn:=fun _=>false,pn:=pn,xe:=fun _ _=>False }
structure Hw (X:Cx) (scope:Scope) (N:List Str):Prop where
  has:Fi X.env scope.names = true
  kind:scope.kind = .function
  nocell:∀ y∈scope.names,y.2≠.cell
  names:∀ y∈scope.names,y.2 = .local→scope.names.lookup y.1 = some .local
noncomputable def a6g (X:Cx) (scope:Scope) (x:Str):Prop :=
  (X.env.kindOf x = some .cell∨X.env.kindOf x = some .free)∧Vis X.env.scope x∧((relabel scope X.env).names.lookup x = some .cell∨(relabel scope X.env).names.lookup x = some .free)
theorem Kg {env:Env}:∀ (l:List (Str × NameKind)) (cs:List (Str × Addr)),(∀ x c,cs.lookup x = some c→env.cells.lookup x = some c) →
    ∀ x c,(Um env l cs).lookup x = some c→env.cells.lookup x = some c
  | [],cs,h,x,c,e=>h x c e
  | (n,k) :: r,cs,h,x,c,e=>by
    rw [Um] at e
    refine Kg r _ (fun y d q=>?_) x c e
    split at q
    · split at q
      · rename_i c' hc'
        rw [List.lookup_cons] at q
        split at q
        · rename_i hb
          cases q
          have hyn:=eq_of_beq hb
          rw [hyn]; exact hc'
        · exact h y d q
      · exact h y d q
    · exact h y d q
theorem Vq {env:Env}:∀ (l:List (Str × NameKind)) (cs:List (Str × Addr)) (x:Str),(∃ c,cs.lookup x = some c)→∃ c,(Um env l cs).lookup x = some c
  | [],cs,x,h=>h
  | (n,k) :: r,cs,x,h=>by
    rw [Um]
    refine Vq r _ x ?_
    split
    · split
      · rename_i c' hc'
        rw [List.lookup_cons]
        split
        · exact ⟨_,rfl⟩
        · exact h
      · exact h
    · exact h
theorem X7 {env:Env}:∀ (l:List (Str × NameKind)) (cs:List (Str × Addr)) (x:Str),Fi env l = true→(x,NameKind.free)∈l→∃ c,(Um env l cs).lookup x = some c
  | [],cs,x,_,h=>by simp at h
  | (n,k) :: r,cs,x,hh,h=>by
    unfold Fi at hh
    rw [List.all_cons,Bool.and_eq_true] at hh
    rw [Um]
    rcases List.mem_cons.mp h with e | h'
    · injection e with e1 e2
      subst e1; subst e2
      have h1:(env.cells.lookup x).isSome = true:=by simpa using hh.1
      obtain ⟨c,hc⟩:=Option.isSome_iff_exists.mp h1
      refine Vq r _ x ?_
      simp [hc]
    · exact X7 r _ x hh.2 h'
theorem mem_of_lookup {α:Type}:∀ {l:List (Str × α)} {x:Str} {k:α},l.lookup x = some k→(x,k)∈l
  | [],_,_,h=>by simp at h
  | (n,k') :: r,x,k,h=>by
    rw [List.lookup_cons] at h
    split at h
    · rename_i hb
      cases h
      have hyn:=eq_of_beq hb
      rw [hyn]; exact List.mem_cons_self
    · exact List.mem_cons_of_mem _ (mem_of_lookup h)
theorem Tt {scope:Scope} {env:Env} (nc:∀ y∈scope.names,y.2≠.cell) {x:Str} (h:(relabel scope env).names.lookup x = some .cell∨(relabel scope env).names.lookup x = some .free):(x,NameKind.free)∈scope.names:=by
  have:∃ k,(x,k)∈(relabel scope env).names∧(k = .cell∨k = .free):=by
    rcases h with h | h
    · exact ⟨_,mem_of_lookup h,.inl rfl⟩
    · exact ⟨_,mem_of_lookup h,.inr rfl⟩
  obtain ⟨k,hm,hk⟩:=this
  obtain ⟨⟨n,k'⟩,hm',e⟩:=List.mem_map.mp hm
  dsimp only at e
  split at e
  · rename_i hc
    cases e
    simp only [Bool.and_eq_true,beq_iff_eq] at hc
    obtain ⟨⟨h1,_⟩,_⟩:=hc
    subst h1; exact hm'
  · cases e
    rcases hk with rfl | rfl
    · exact absurd rfl (nc _ hm')
    · exact hm'
noncomputable def PTs (X:Cx) (ifs:List Expr) (t:TT):Prop:=∀ (pins:List (Addr × Obj)) (s:Shared) (σ:St) (H:Hp) (Q:Bool→Hp→Prop),Inv X pins σ H s→t σ H Q →
  wpAny (model X.prog X.w) X.A (forIn ifs true fun c r=>if r = true then do let ok ← isTrue c X.env (eval c X.env); pure (ForInStep.yield ok) else pure (ForInStep.yield r)) (TP X pins σ Q) X.xe s
theorem a2c {X:Cx}:PTs X [] (fun _ H Q=>Q true H):=fun pins s σ H Q I h=>wpAny_tests_nil ⟨H,I,h⟩
theorem a1i {X:Cx} {c:Expr} {t:TT} (h:PT X c t):PTs X [c] t:=fun pins s σ H Q I q=>wpAny_tests_one (h pins s σ H Q I q)
noncomputable def Qd (X:Cx) (scope:Scope) (N:List Str) (g:TG) (tc:TT) (te:TE) (σ:St) (J:It) (H1:Hp) (Q:VK):Prop:=∀ D,H1 D = none→∃ σ0:St,σ0.length = N.length ∧
  (∀ (i:Nat) (v:V) (x:Str),σ0[i]? = some (some v)→N[i]? = some x→Vis (relabel scope X.env) x→∃ k:Nat,X.N[k]? = some x∧σ[k]? = some (some v)∧a6g X scope x) ∧
  ∃ W:Nat→Nat→St→Hp→Prop,(∃ m,W 0 m σ0 (upd H1 D (.lst [])))∧∀ i m σ' H',W i m σ' H' →
    (J.stop i H'∧Q (.ref D) H')∨(J.go i H'∧∀ x H2,J.yld i H' x H2→g x σ' H2 fun σ2 H3=>tc σ2 H3 fun b H4=>if b = true then te σ2 H4 fun y H5=>∃ l,H5 D = some (.lst l)∧l.length < sizeLine∧∃ m',m' < m∧W (i + 1) m' σ2 (upd H5 D (.lst (l ++ [y]))) else ∃ m',m' < m∧W (i + 1) m' σ2 H4)
noncomputable def a0f (X:Cx) (scope:Scope) (N:List Str) (wi:TI) (g:TG) (tc:TT) (te:TE):TE:=fun σ H Q=>wi σ H fun J H1=>Qd X scope N g tc te σ J H1 Q
noncomputable section
variable {X:Cx} {scope:Scope} {N:List Str}
theorem Xb (sc:Hw X scope N) {pins:List (Addr × Obj)} {σ:St} {H:Hp} {s:Shared} {fp:List Addr} (I:Inv X pins σ H s) (hf:∀ b∈fp,Q9 X pins H b) (hfl:∀ b∈fp,b < s.heap.objs.size) :
    (xu X scope N s.heap.objs.size s H fp (X.pn ++ pins)).Ok where
  mod:=I.ok.mod
  kind:=sc.kind
  glob:=I.ok.glob
  blt:=I.ok.blt
  above:=Nat.le_refl _
  inj:=fun x y c h1 h2=>I.ok.inj x y c (Kg _ [] (fun _ _ z=>by simp at z) x c h1) (Kg _ [] (fun _ _ z=>by simp at z) y c h2)
  has:=fun x h=>X7 _ [] x sc.has (Tt sc.nocell h)
  cab:=fun x c h=>by cases h
  hd:=I.ok.hd
  frames:=I.ok.frames
  stk:=.inl rfl
  exf:=fun b hb=>⟨Nat.ne_of_lt (hfl b hb),fun x c h=>(hf b hb).2.2.2.2.1 x c (Kg _ [] (fun _ _ z=>by simp at z) x c h)⟩
  bs:=I.bs
  bsz:=Nat.le_trans I.ok.bsz I.sz
  noex:=fun b o e hb=>by
    rcases (hf b hb).2.2.2.1 with z | z
    · exact I.ok.noex b o e z
    · exact absurd (Nat.lt_of_lt_of_le (Heap.lt_size e) (Nat.le_trans I.ok.bsz z)) (Nat.lt_irrefl _)
  exfs:=fun b hb z=>by
    rcases List.mem_cons.mp (I.Tw b z) with e | e
    · exact (hf b hb).2.1 e
    · exact (hf b hb).2.2.1 e
  Vj:=I.stack
  frf:=I.Vo
theorem V7 (sc:Hw X scope N) {pins:List (Addr × Obj)} {σ σ0:St} {H:Hp} {s:Shared} {fp:List Addr} {h':Heap} {m:Str→Option Value} {tk:Nat} (I:Inv X pins σ H s) (hf:∀ b∈fp,Q9 X pins H b) (hfl:∀ b∈fp,b < s.heap.objs.size)
    (hl:σ0.length = N.length) (h0:∀ (i:Nat) (v:V) (x:Str),σ0[i]? = some (some v)→N[i]? = some x→Vis (relabel scope X.env) x→∃ k:Nat,X.N[k]? = some x∧σ[k]? = some (some v)∧a6g X scope x)
    (hn:h'.Ns s.heap.objs.size m) (hk:∀ b o,s.heap.get? b = some o→h'.get? b = some o) :
    Inv (xu X scope N s.heap.objs.size s H fp (X.pn ++ pins)) [] σ0 H { s with heap:=h',toks:=tk } where
  ok:=Xb sc I hf hfl
  os:=rfl
  bare:=I.bare
  base:=Un.kept hk
  loc:=⟨m,hn,fun i x v e1 e2 e3=>by
    obtain ⟨k,n2,n3,ck,cv,cr⟩:=h0 i v x e2 e1 e3
    obtain ⟨m0,_,hl0⟩:=I.loc
    obtain ⟨u,r,l⟩:=hl0 k x v n2 n3 cv
    refine ⟨u,r,.inr ⟨cr,?_⟩⟩
    rcases l with ⟨l1,_⟩ | ⟨_,c,hc,z⟩
    · rcases ck with q | q <;> (rw [l1] at q; cases q)
    · obtain ⟨c',hc'⟩:=X7 (env:=X.env) scope.names [] x sc.has (Tt sc.nocell cr)
      have q:=Kg scope.names [] (fun _ _ z=>by simp at z) x c' hc'
      rw [hc] at q; cases q
      obtain ⟨o,ho,hd⟩:=z
      exact ⟨c,hc',o,hk _ _ ho,hd⟩⟩
  cell:=fun x c e=>by
    obtain ⟨v,o,ho,hd⟩:=I.cell x c (Kg scope.names [] (fun _ _ z=>by simp at z) x c e)
    exact ⟨v,o,hk _ _ ho,hd⟩
  free:=I.hok.fresh (Nat.le_refl _)
  freeC:=fun x c e=>I.freeC x c (Kg scope.names [] (fun _ _ z=>by simp at z) x c e)
  pin:=fun p hp=>by
    have hp':p∈X.pn ++ pins:=by simpa [xu] using hp
    obtain ⟨a,b,c,d,e⟩:=I.pin p hp'
    refine ⟨hk _ _ a,b,Nat.ne_of_lt (Heap.lt_size a),fun z=>?_,e⟩
    rcases List.mem_cons.mp (I.Tw p.1 z) with q | q
    · exact c q
    · exact d q
  hok:=I.hok.kept hk
  len:=hl
theorem Rx {pins:List (Addr × Obj)} {σ σ':St} {H H':Hp} {s s':Shared} {fp:List Addr} {h':Heap} (I:Inv X pins σ H s) (hf:∀ b∈fp,Q9 X pins H b)
    (J:Inv (xu X scope N s.heap.objs.size s H fp (X.pn ++ pins)) [] σ' H' s') (hs:Heap.SameBut s.heap.objs.size s'.heap h'):Inv X pins σ H' { s' with heap:=h' }:=by
  have kb:∀ b o,b≠s.heap.objs.size→s'.heap.get? b = some o→h'.get? b = some o:=fun b o n e=>hs.extBut b o n e
  have ne:∀ b o,s.heap.get? b = some o→b≠s.heap.objs.size:=fun b o e=>Nat.ne_of_lt (Heap.lt_size e)
  have fr:H' s.heap.objs.size = none:=J.free
  have u0:Un (frs X.stack) fp H H' s.heap s'.heap:=J.base
  have u:Un (frs X.stack) fp H H' s.heap h':=⟨fun b o e n h1 h2=>kb b o (ne b o e) (u0.keep b o e n h1 h2),fun b o e n h1 h2=>by
      obtain ⟨sl,q⟩:=u0.slot b o e n h1 h2
      exact ⟨sl,kb b _ (ne b o e) q⟩,u0.free,fun b o e h=>by
      obtain ⟨o',q⟩:=u0.there b o e h
      exact ⟨o',kb b _ (ne b o e) q⟩,u0.tups,u0.frzs,u0.tbls⟩
  have hok:HOk X.prog X.w H' h':=fun b o e=>by
    refine (J.hok b o e).stay (fun c v hc q=>kb c v ?_ q) (fun _ q=>q) fun _ _ q=>q
    rcases hc with z | z
    · rw [z]; intro y; rw [y] at e; rw [fr] at e; cases e
    · intro y; rw [y] at z; rw [fr] at z; cases z
  have hos:s'.os = s.os:=J.os
  obtain ⟨hh,g,d,t,os'⟩:=s'
  obtain rfl:os' = s.os:=hos
  exact Inv.call (X:=X) (s:=s) (H:=H) (h':=h') (g':=g) (d':=d) (t':=t) (ch:=fp) I u hok J.bare fun b hb=>⟨(hf b hb).2.2.2.1,(hf b hb).2.1,(hf b hb).2.2.2.2.1,(hf b hb).2.2.2.2.2⟩
variable {tg iter elt:Expr} {ifs:List Expr} {pos:Pos} {g:TG} {tc:TT} {te:TE}
theorem Ls (sc:Hw X scope N) (calm:X.calm = true)
    (hg:∀ C s₀ H₀ ex pn,PG (xu X scope N C s₀ H₀ ex pn) tg g) (hc:∀ C s₀ H₀ ex pn,PTs (xu X scope N C s₀ H₀ ex pn) ifs tc) (he:∀ C s₀ H₀ ex pn,PE (xu X scope N C s₀ H₀ ex pn) elt te)
    {pins:List (Addr × Obj)} {σ:St} {H1:Hp} {s₂:Shared} {it:Addr} {fp:List Addr} {tn:Nat→Heap→Prop} {J:It} {Q:VK} {E:Value→Shared→Prop} {RR:Value→Addr→Result→Shared→Prop}
    (I:Inv X pins σ H1 s₂) (T:Turn X.prog X.w X.K tg J fp it tn) (st2:tn 0 s₂.heap) (f2:∀ b∈fp,Q9 X pins H1 b) (q:Qd X scope N g tc te σ J H1 Q)
    (hRR:∀ D s₃ H3 σ' H' s',Inv X pins σ H3 s₃→(∀ b∈fp,Q9 X pins H3 b)→Inv (xu X scope N s₃.heap.objs.size s₃ H3 fp (X.pn ++ pins)) [] σ' H' s'→Q (.ref D) H'→RR (.ref D) s₃.heap.objs.size (.ok .next) s') :
    wpAny (model X.prog X.w) X.A (newList []) (fun acc s₃=>wpAny (model X.prog X.w) X.A (newFunctionEnv scope X.env.globals (Um X.env scope.names []) [] X.env.qual none .none (some X.env)) (fun cenv s₄ =>
      codeAny (model X.prog X.w) X.A (.compStart (.ListComp elt [⟨tg,iter,ifs,0⟩] scope pos) 0 (.ref it) acc { cenv with scope:=relabel scope X.env }) (RR acc cenv.locals) s₄) E s₃) E s₂:=by
  refine wpAny_newObj_type (wpAny_newFunctionEnv sc.nocell (by intro y hy; simp at hy) (fun h₁ hns₁ hsb₁=>?_) sc.kind)
  dsimp only at hns₁ hsb₁ ⊢
  have I3:Inv X pins σ (upd H1 s₂.heap.objs.size (.lst [])) { s₂ with heap:=s₂.heap.push { cls:=.type "list",dict:=none,data:=.seq ([]:List Value).toArray } } :=
    I.laid (t':=s₂.toks) (fun b ob q=>Heap.get?_push_of_some _ q) (Nat.le_refl _) ⟨Nat.zero_le _,[],_,.nil,Heap.get?_push_size _ rfl⟩
  generalize hs3:({ s₂ with heap:=s₂.heap.push { cls:=.type "list",dict:=none,data:=.seq ([]:List Value).toArray } }:Shared) = s₃ at I3
  have hheap:s₂.heap.push { cls:=.type "list",dict:=none,data:=.seq ([]:List Value).toArray } = s₃.heap:=by rw [← hs3]
  have hstate:∀ (h:Heap) (t:Nat),({ s₂ with heap:=h,toks:=t }:Shared) = { s₃ with heap:=h,toks:=t }:=fun h t=>by rw [← hs3]
  rw [hheap] at hns₁ hsb₁ ⊢
  have lt2:∀ b∈fp,b < s₂.heap.objs.size:=fun b hb=>by
    obtain ⟨o,ho,_⟩:=T.obj _ _ st2 b hb
    exact Heap.lt_size ho
  have sz3:s₃.heap.objs.size = s₂.heap.objs.size + 1:=by rw [← hheap,Heap.size_push]
  have k23:∀ b o,s₂.heap.get? b = some o→s₃.heap.get? b = some o:=fun b o e=>by rw [← hheap]; exact Heap.get?_push_of_some _ e
  have f3:∀ b∈fp,Q9 X pins (upd H1 s₂.heap.objs.size (.lst [])) b:=fun b hb=>⟨by rw [jg (Nat.ne_of_lt (lt2 b hb))]; exact (f2 b hb).1,(f2 b hb).2⟩
  have lt3:∀ b∈fp,b < s₃.heap.objs.size:=fun b hb=>by rw [sz3]; exact Nat.lt_succ_of_lt (lt2 b hb)
  obtain ⟨σ0,hl,h0,W,⟨m0,w0⟩,turn⟩:=q s₂.heap.objs.size (I.hok.fresh (Nat.le_refl _))
  have k34:∀ b o,s₃.heap.get? b = some o→h₁.get? b = some o:=fun b o e=>hsb₁.extBut b o (Nat.ne_of_lt (Heap.lt_size e)) (Heap.get?_push_of_some _ e)
  rw [hstate]
  have J0:=V7 (tk:=s₂.toks + ([]:List (Str × Value)).length) sc I3 f3 lt3 hl h0 hns₁ k34
  have st4:tn 0 h₁:=T.keep _ _ _ st2 fun b _ o e=>k34 b o (k23 b o e)
  have key:∀ s₄:Shared,s₄ = { s₃ with heap:=h₁,toks:=s₂.toks + ([]:List (Str × Value)).length }→codeAny (model X.prog X.w) X.A (.compLoop (.ListComp elt [⟨tg,iter,ifs,0⟩] scope pos) 0 (.ref it) (.ref s₂.heap.objs.size)
      (xu X scope N s₃.heap.objs.size s₃ (upd H1 s₂.heap.objs.size (.lst [])) fp (X.pn ++ pins)).env) (RR (.ref s₂.heap.objs.size) s₃.heap.objs.size) s₄:=by
    rintro s₄ rfl
    generalize hX:xu X scope N s₃.heap.objs.size s₃ (upd H1 s₂.heap.objs.size (.lst [])) fp (X.pn ++ pins) = X' at J0
    have hP:X'.prog = X.prog:=by rw [← hX]; rfl
    have hW:X'.w = X.w:=by rw [← hX]; rfl
    have hA:X'.A = X.A:=by rw [← hX]; rfl
    have hxe:X'.xe = fun _ _=>False:=by rw [← hX]; rfl
    have hK:X'.K = X.K:=by rw [← hX]; rfl
    have hcal:X'.calm = true:=by rw [← hX]; exact calm
    have stat:∀ {H':Hp},(∀ b∈fp,H' b = none)→∀ b∈fp,Q9 X' [] H' b:=fun hn b hb=>by
      have z:=Xb sc I3 f3 lt3
      rw [hX] at z
      refine ⟨hn b hb,(z.exf b (by rw [← hX]; exact hb)).1,z.exfs b (by rw [← hX]; exact hb),.inl (by rw [← hX]; exact hb),(z.exf b (by rw [← hX]; exact hb)).2,fun p hp=>?_⟩
      have hp':p∈X.pn ++ pins:=by rw [← hX] at hp; simpa [xu] using hp
      exact (f3 b hb).2.2.2.2.2 p hp'
    have hg':PG X' tg g:=by rw [← hX]; exact hg _ _ _ _ _
    have hc':PTs X' ifs tc:=by rw [← hX]; exact hc _ _ _ _ _
    have he':PE X' elt te:=by rw [← hX]; exact he _ _ _ _ _
    have fin:∀ σ' H' s',Inv X' [] σ' H' s'→Q (.ref s₂.heap.objs.size) H'→RR (.ref s₂.heap.objs.size) s₃.heap.objs.size (.ok .next) s':=fun σ' H' s' I' q'=>hRR _ s₃ _ σ' H' s' I3 f3 (by rw [hX]; exact I') q'
    have T':Turn X'.prog X'.w X'.K tg J fp it tn:=by rw [hP,hW,hK]; exact T
    rw [← hP,← hW,← hA]
    refine Q7 (J:=fun n s'=>∃ i σ' H',Inv X' [] σ' H' s'∧tn i s'.heap∧(∀ b∈fp,H' b = none)∧W i n σ' H') ?_ m0 ⟨0,σ0,_,J0,st4,fun b hb=>(f3 b hb).1,w0⟩
    rintro n s5 ⟨i,σ5,H5,I5,st5,fr5,w5⟩
    rcases turn i n σ5 H5 w5 with ⟨stop,qn⟩ | ⟨go,step⟩
    · refine thn (T'.done X' rfl rfl rfl hcal i [] s5 σ5 H5 _ I5 (stat fr5) st5 stop) fun r s6 z0=>?_
      obtain ⟨hr,I6⟩:=z0
      subst hr
      exact fin _ _ _ I6 qn
    · refine thn (T'.item X' rfl rfl rfl hcal i [] s5 σ5 H5 _ I5 (stat fr5) st5 go) fun r s6 z0=>?_
      obtain ⟨u,hr,h6⟩:=z0
      subst hr
      refine thn h6 fun _ s7 z0=>?_
      obtain ⟨x,H7,I7,r7,y7,st7,fr7⟩:=z0
      have I7':=I7.pinned (stat fr7) (T'.obj _ _ st7)
      have a1:=hg' _ s7 σ5 H7 x u _ I7' r7 (step x H7 y7)
      rw [hxe] at a1
      refine thn a1 fun _ s8 z0=>?_
      obtain ⟨σ8,H8,I8,q8⟩:=z0
      have a2:=hc' _ s8 σ8 H8 _ I8 q8
      rw [hxe] at a2
      refine thn a2 fun ok s9 z0=>?_
      obtain ⟨H9,I9,q9⟩:=z0
      have again:∀ {σ7:St} {H7:Hp} {s':Shared} {m':Nat},Inv X' ([] ++ Pn fp s7.heap) σ7 H7 s'→m' < n→W (i + 1) m' σ7 H7→∃ m,m < n∧∃ i σ' H',Inv X' [] σ' H' s'∧tn i s'.heap∧(∀ b∈fp,H' b = none)∧W i m σ' H':=fun {σ7 H7 s' m'} I7 hm w7=>by
        refine ⟨m',hm,i + 1,σ7,H7,I7.Gx,T'.keep _ _ _ st7 fun b hb o e=>(I7.pin (b,o) (List.mem_append_right _ (List.mem_append_right _ (Dj hb e)))).1,fun b hb=>?_,w7⟩
        obtain ⟨o,e,d⟩:=T'.obj _ _ st7 b hb
        exact (I7.pin (b,o) (List.mem_append_right _ (List.mem_append_right _ (Dj hb e)))).2.1
      cases ok with
      | false =>
        rw [if_neg Bool.false_ne_true] at q9 ⊢
        obtain ⟨m',hm,w9⟩:=q9
        exact again I9 hm w9
      | true =>
        rw [if_pos rfl] at q9 ⊢
        have a3:=he' _ s9 σ8 H9 _ I9 q9
        rw [hxe] at a3
        refine thn a3 fun xv s10 z0=>?_
        obtain ⟨y,H10,I10,r10,l,hl10,hz10,m',hm,w10⟩:=z0
        have a4:=Bf (X:=X') _ s10 σ8 H10 (.ref s₂.heap.objs.size) [y] (.ref s₂.heap.objs.size) [xv] (fun _ H'=>H' = upd H10 s₂.heap.objs.size (.lst (l ++ [y]))) I10 rfl (.cons r10 .nil) ⟨_,l,y,rfl,rfl,hl10,hz10,rfl⟩
        rw [hxe] at a4
        refine thn a4 fun _ s11 z0=>?_
        obtain ⟨v,H11,I11,_,e11⟩:=z0
        subst e11
        exact again I11 hm w10
  exact codeAny_compStart_list (key _ rfl) (T.self _ 0 _ _ _ st4 (key _ rfl))
theorem Ws {wi:TI} (sc:Hw X scope N) (calm:X.calm = true) (hi:PI X tg iter wi)
    (hg:∀ C s₀ H₀ ex pn,PG (xu X scope N C s₀ H₀ ex pn) tg g) (hc:∀ C s₀ H₀ ex pn,PTs (xu X scope N C s₀ H₀ ex pn) ifs tc) (he:∀ C s₀ H₀ ex pn,PE (xu X scope N C s₀ H₀ ex pn) elt te)
    (hs:∀ x,foldedSetIterable iter X.env x = pure x:=by intro _; rfl):PE X (.ListComp elt [⟨tg,iter,ifs,0⟩] scope pos) (a0f X scope N wi g tc te):=by
  intro pins s σ H Q I h
  rw [eval_ListComp]
  refine wpAny_comprehension_free (use:=none) rfl hs (Gi sc.has) sc.kind sc.names ?_
  refine wpAny_mono (hi pins s σ H _ I h) (fun x s₁ h₁=>wpAny_mono h₁ (fun itv s₂ h₂=>?_) fun _ _ e=>e) fun _ _ e=>e
  obtain ⟨it,fp,tn,J,H1,rfl,I2,T,st2,f2,q⟩:=h₂
  refine Ls (RR:=fun acc C=>compPost (model X.prog X.w) X.A X.xe none (EP X pins σ Q) acc C) sc calm hg hc he I2 T st2 f2 q ?_
  intro D s₃ H3 σ' H' s' I3 f3 I' qn
  obtain ⟨m,hn,_⟩:=I'.loc
  exact ⟨m,hn,fun h' hs'=>⟨.ref D,H',Rx I3 f3 I' hs',rfl,qn⟩⟩
theorem W2 {wi:TI} {y:Str} {py spos:Pos} {i:Nat} (sc:Hw X scope N) (calm:X.calm = true) (hi:PI X tg iter wi)
    (hg:∀ C s₀ H₀ ex pn,PG (xu X scope N C s₀ H₀ ex pn) tg g) (hc:∀ C s₀ H₀ ex pn,PTs (xu X scope N C s₀ H₀ ex pn) ifs tc) (he:∀ C s₀ H₀ ex pn,PE (xu X scope N C s₀ H₀ ex pn) elt te)
    (hgN:PG X (.Name y py) (Nj i)) (hsw:swapsWith (.ListComp elt [⟨tg,iter,ifs,0⟩] scope pos) (some (.Name y py)) spos.line X.env = pure true)
    (hs:∀ x,foldedSetIterable iter X.env x = pure x:=by intro _; rfl):PS X (.Assign [.Name y py] (.ListComp elt [⟨tg,iter,ifs,0⟩] scope pos) spos) (a1v (a0f X scope N wi g tc te) (Nj i)):=by
  intro pins s σ H D I h
  rw [exec_Assign_Name_used _ _ _ _ hsw] -- here
  refine wpAny_bind (wpAny_standAt (wpAny_bind ?_)) -- here
  show wpAny _ X.A (do let _ ← comprehension (.ListComp elt [⟨tg,iter,ifs,0⟩] scope pos) scope X.env _ (newList []) false (eval iter X.env) (some (assign (.Name y py) X.env))) _ _ s
  refine wpAny_bind (wpAny_mono (wpAny_comprehension_free (use:=some (assign (.Name y py) X.env)) (Q:=fun _ s'=>SP X pins D .next s') rfl hs (Gi sc.has) sc.kind sc.names ?_) (fun _ s' hq=>wpAny_pure (wpAny_pure hq)) fun _ _ e=>e)
  refine wpAny_mono (hi pins s σ H _ I h) (fun x s₁ h₁=>wpAny_mono h₁ (fun itv s₂ h₂=>?_) fun _ _ e=>e) fun _ _ e=>e
  obtain ⟨it,fp,tn,J,H1,rfl,I2,T,st2,f2,q⟩:=h₂
  refine Ls (RR:=fun acc C=>compPost (model X.prog X.w) X.A X.xe (some (assign (.Name y py) X.env)) (fun _ s'=>SP X pins D .next s') acc C) sc calm hg hc he I2 T st2 f2 q ?_
  intro D' s₃ H3 σ' H' s' I3 f3 I' qn
  obtain ⟨m,hn,_⟩:=I'.loc
  obtain ⟨oC,es,ep,hoC,hdC,hrest⟩:=id hn
  have IX:Inv X pins σ H' s':=Rx I3 f3 I' (.refl ..)
  have fC:Q9 X pins H' s₃.heap.objs.size:=I3.a3s (Nat.le_refl _) I'.free
  have IXp:=IX.pinned (fp:=[s₃.heap.objs.size]) (fun b hb=>by rw [List.mem_singleton.mp hb]; exact fC) (fun b hb=>by
    rw [List.mem_singleton.mp hb]
    exact ⟨oC,hoC,fun v z=>by rw [hdC] at z; cases z⟩)
  show wpAny _ X.A (assign (.Name y py) X.env (.ref D')) _ _ _
  refine thn (hgN _ s' σ H' (.ref D') (.ref D') _ IXp rfl qn) fun _ s'' z0=>?_
  obtain ⟨σ'',H'',I'',q''⟩:=z0
  have pC:=I''.pin (s₃.heap.objs.size,oC) (List.mem_append_right _ (List.mem_append_right _ (Dj (by simp) hoC)))
  refine ⟨m,⟨oC,es,ep,pC.1,hdC,hrest⟩,fun h' hs'=>⟨σ'',H'',?_,q''⟩⟩
  exact I''.Gx.turned (h':=h') (t':=s''.toks) (it:=s₃.heap.objs.size) (fun b o ne e=>hs'.extBut b o ne e) pC.2.1 fC.2.1 fC.2.2.2.1 fC.2.2.2.2.1 fC.2.2.2.2.2
end
end L2
end
noncomputable section
set_option linter.all false
set_option maxHeartbeats 4000002
set_option autoImplicit false
namespace C
open PySem PySem.Spec PyProof.Rows L2
mutual
inductive Rep (K:PySem.W.Frag) (S:Hp) (as:List Addr):V→T→Prop where
  | non:Rep K S as .non .non
  | bl (b:Bool):Rep K S as (.bl b) (.bl b)
  | int (i:Int):Rep K S as (.int i) (.int i)
  | str (x:Str):Rep K S as (.str x) (.str x)
  | tup {a:Addr} {vs:List V} {ts:List T}:SqT K S a vs→uq K S as vs ts→Rep K S as (.ref a) (.tup ts)
  | lst {a:Addr} {vs:List V} {ts:List T}:SqL K S a vs→uq K S as vs ts→Rep K S as (.ref a) (.lst ts)
  | dic {a:Addr} {kvs:List (L2.Key × V)} {ts:List (L2.Key × T)}:Rd S a (.dK kvs)→Cr K S as kvs ts→Rep K S as (.ref a) (.dic ts)
  | obj {n:Nat} {a:Addr}:as[n]? = some a→Rep K S as (.ref a) (.obj n)
inductive uq (K:PySem.W.Frag) (S:Hp) (as:List Addr):List V→List T→Prop where
  | nil:uq K S as [] []
  | cons {v:V} {t:T} {vs:List V} {ts:List T}:Rep K S as v t→uq K S as vs ts→uq K S as (v :: vs) (t :: ts)
inductive Cr (K:PySem.W.Frag) (S:Hp) (as:List Addr):List (L2.Key × V)→List (L2.Key × T)→Prop where
  | nil:Cr K S as [] []
  | cons {k:L2.Key} {v:V} {t:T} {vs:List (L2.Key × V)} {ts:List (L2.Key × T)}:Rep K S as v t→Cr K S as vs ts→Cr K S as ((k,v) :: vs) ((k,t) :: ts)
end
theorem Bl {S S':Hp} {a:Addr} {u:HO} (e:Same S S') (h:Rd S a u):Rd S' a u:=by
  rcases h with h | ⟨o,h⟩
  · exact .inl (e _ _ h)
  · exact .inr ⟨o,e _ _ h⟩
theorem sy {K:PySem.W.Frag} {S S':Hp} {a:Addr} {xs:List V} (e:Same S S') (h:SqT K S a xs):SqT K S' a xs:=by
  rcases h with h | h
  · exact .inl (Bl e h)
  · exact .inr h
theorem qg {K:PySem.W.Frag} {S S':Hp} {a:Addr} {xs:List V} (e:Same S S') (h:SqL K S a xs):SqL K S' a xs:=by
  rcases h with h | h
  · exact .inl (Bl e h)
  · exact .inr h
noncomputable section
variable {K:PySem.W.Frag} {S S':Hp} {as as':List Addr}
theorem X3 {α:Type} {l r:List α} {n:Nat} {a:α} (h:l[n]? = some a):(l ++ r)[n]? = some a:=by
  have:=(List.getElem?_eq_some_iff.mp h).1
  rw [List.getElem?_append_left this]; exact h
mutual
theorem Rep.mono (e:Same S S') (x:∃ l,as' = as ++ l):∀ {v:V} {t:T},Rep K S as v t→Rep K S' as' v t
  | _,_,.non=>.non
  | _,_,.bl b=>.bl b
  | _,_,.int i=>.int i
  | _,_,.str y=>.str y
  | _,_,.tup h r=>.tup (sy e h) (uq.mono e x r)
  | _,_,.lst h r=>.lst (qg e h) (uq.mono e x r)
  | _,_,.dic h r=>.dic (Bl e h) (Cr.mono e x r)
  | _,_,.obj h=>.obj (by obtain ⟨l,rfl⟩:=x; exact X3 h)
theorem uq.mono (e:Same S S') (x:∃ l,as' = as ++ l):∀ {v:List V} {t:List T},uq K S as v t→uq K S' as' v t
  | _,_,.nil=>.nil
  | _,_,.cons h r=>.cons (Rep.mono e x h) (uq.mono e x r)
theorem Cr.mono (e:Same S S') (x:∃ l,as' = as ++ l):∀ {v:List (L2.Key × V)} {t:List (L2.Key × T)},Cr K S as v t→Cr K S' as' v t
  | _,_,.nil=>.nil
  | _,_,.cons h r=>.cons (Rep.mono e x h) (Cr.mono e x r)
end
theorem uq.length:∀ {vs:List V} {ts:List T},uq K S as vs ts→vs.length = ts.length
  | _,_,.nil=>rfl
  | _,_,.cons _ r=>congrArg (· + 1) r.length
theorem Cr.length:∀ {vs:List (L2.Key × V)} {ts:List (L2.Key × T)},Cr K S as vs ts→vs.length = ts.length
  | _,_,.nil=>rfl
  | _,_,.cons _ r=>congrArg (· + 1) r.length
theorem uq.get:∀ {vs:List V} {ts:List T} {i:Nat} {t:T},uq K S as vs ts→ts[i]? = some t→∃ v,vs[i]? = some v∧Rep K S as v t
  | _,_,_,_,.nil,e=>by simp at e
  | _,_,0,_,.cons r _,e=>by simp at e; subst e; exact ⟨_,rfl,r⟩
  | _,_,i + 1,t,.cons _ r,e=>by
    obtain ⟨v,h1,h2⟩:=uq.get (i:=i) (t:=t) r (by simpa using e)
    exact ⟨v,by simpa using h1,h2⟩
theorem uq.append:∀ {vs:List V} {ts:List T} {ws:List V} {us:List T},uq K S as vs ts→uq K S as ws us→uq K S as (vs ++ ws) (ts ++ us)
  | _,_,_,_,.nil,q=>q
  | _,_,_,_,.cons h r,q=>.cons h (uq.append r q)
theorem uq.drop:∀ (n:Nat) {vs:List V} {ts:List T},uq K S as vs ts→uq K S as (vs.drop n) (ts.drop n)
  | 0,_,_,r=>r
  | _ + 1,_,_,.nil=>.nil
  | n + 1,_,_,.cons _ r=>uq.drop n r
theorem Cr.get (k:L2.Key):∀ {vs:List (L2.Key × V)} {ts:List (L2.Key × T)},Cr K S as vs ts→(∃ v t,Q8 vs k = some v∧Eh k ts = some t∧Rep K S as v t)∨(Q8 vs k = none∧Eh k ts = none)
  | _,_,.nil=>.inr ⟨rfl,rfl⟩
  | _,_,.cons (k:=q) (v:=v) (t:=t) (vs:=vs) (ts:=ts) h r=>by
    by_cases e:q = k
    · exact .inl ⟨v,t,Jd (p:=(q,v)) e,by rw [Eh,if_pos e],h⟩
    · rw [J8 (p:=(q,v)) e,Eh,if_neg e]
      exact Cr.get k r
end
structure Bas where
  S:Hp
  as:List Addr
  H:Hp
structure Vf (B:Bas) (S:Hp) (as:List Addr) (H:Hp):Prop where
  same:Same B.S S
  more:∃ l,as = B.as ++ l
  keep:∀ p o,B.H p = some o→B.S p = none→p∉B.as→H p = some o∧S p = none∧p∉as
structure Ext (S H S' H':Hp):Prop where
  s:Same S S'
  h:Same H H'
  sub:Same S' H'
  new:∀ p,S' p≠none→S p≠none∨H p = none
theorem Ext.refl {S H:Hp} (h:Same S H):Ext S H S H:=⟨Same.refl _,Same.refl _,h,fun _ q=>.inl q⟩
theorem Same.upd {H:Hp} {p:Addr} (h:H p = none) (o:HO):Same H (upd H p o):=fun b u q=>by rw [jg (xg q h)]; exact q
theorem Ext.laid {S H:Hp} (h:Same S H) {p:Addr} (n:H p = none) (o:HO):Ext S H (upd S p o) (upd H p o) where
  s:=Same.upd (h.free n) o
  h:=Same.upd n o
  sub:=fun b u q=>by
    by_cases e:b = p
    · subst e; rw [jd] at q ⊢; exact q
    · rw [jg e] at q ⊢; exact h _ _ q
  new:=fun b q=>by
    by_cases e:b = p
    · subst e; exact .inr n
    · rw [jg e] at q; exact .inl q
theorem Ext.trans {S H S1 H1 S2 H2:Hp} (a:Ext S H S1 H1) (b:Ext S1 H1 S2 H2):Ext S H S2 H2 where
  s:=a.s.trans b.s
  h:=a.h.trans b.h
  sub:=b.sub
  new:=fun p q=>by
    rcases b.new p q with z | z
    · exact a.new p z
    · exact .inr (a.h.free z)
noncomputable def Own (K:PySem.W.Frag) (S:Hp) (as:List Addr) (H:Hp) (p:Addr):T→Prop
  | .lst ts=>∃ vs,H p = some (.lst vs)∧uq K S as vs ts
  | .dic ts=>∃ kvs,H p = some (.dK kvs)∧Cr K S as kvs ts
  | _=>False
structure Lb (K:PySem.W.Frag) (B:Bas) (S:Hp) (as:List Addr) (H:Hp) (p:Addr) (t:T):Prop where
  own:Own K S as H p t
  out:S p = none
  nas:p∉as
  new:B.H p = none
noncomputable def Wu (K:PySem.W.Frag) (S:Hp) (as:List Addr) (H:Hp) (a:Addr):SO→Prop
  | .dic ts=>∃ kvs,H a = some (.dK kvs)∧Cr K S as kvs ts
  | .lst ts=>∃ vs,H a = some (.lst vs)∧uq K S as vs ts
  | .ins _ _=>False
structure Im (K:PySem.W.Frag) (S:Hp) (as:List Addr) (H:Hp) (sto:List SO):Prop where
  len:as.length = sto.length
  nd:as.Nodup
  at':∀ (n:Nat) so,sto[n]? = some so→∃ a,as[n]? = some a∧S a = none∧Wu K S as H a so
structure Rel (K:PySem.W.Frag) (B:Bas) (st:Sta) (σ:L2.St) (H:Hp) (ps:List (V × T)) (S:Hp) (as:List Addr):Prop where
  sub:Same S H
  grow:Vf B S as H
  slots:∀ (i:Nat) t f,st.env[i]? = some (some (t,f))→∃ v,σ[i]? = some (some v)∧(f = false→Rep K S as v t)∧(f = true→∃ p,v = .ref p∧Lb K B S as H p t)
  apart:∀ (i j:Nat) t u p,st.env[i]? = some (some (t,true))→st.env[j]? = some (some (u,true))→σ[i]? = some (some (.ref p))→σ[j]? = some (some (.ref p))→i = j
  sto:Im K S as H st.sto
  pend:∀ p∈ps,Rep K S as p.1 p.2
  len:σ.length = st.env.length
noncomputable section
variable {K:PySem.W.Frag} {B:Bas} {st:Sta} {σ:L2.St} {H H' S S':Hp} {ps:List (V × T)} {as:List Addr}
theorem nol {as:List Addr}:∃ l:List Addr,as = as ++ l:=⟨[],(List.append_nil _).symm⟩
theorem Own.mono {p:Addr} {t:T} (hs:Same S S') (hh:H p = H' p) (o:Own K S as H p t):Own K S' as H' p t:=by
  cases t with
  | lst ts=>obtain ⟨vs,h,r⟩:=o; exact ⟨vs,hh ▸ h,r.mono hs nol⟩
  | dic ts=>obtain ⟨vs,h,r⟩:=o; exact ⟨vs,hh ▸ h,r.mono hs nol⟩
  | _=>exact o.elim
theorem Own.there {p:Addr} {t:T} (o:Own K S as H p t):∃ ob,H p = some ob:=by
  cases t with
  | lst ts=>obtain ⟨vs,h,r⟩:=o; exact ⟨_,h⟩
  | dic ts=>obtain ⟨vs,h,r⟩:=o; exact ⟨_,h⟩
  | _=>exact o.elim
theorem Wu.mono {a:Addr} {so:SO} (hs:Same S S') (hh:H a = H' a) (o:Wu K S as H a so):Wu K S' as H' a so:=by
  cases so with
  | dic ts=>obtain ⟨vs,h,r⟩:=o; exact ⟨vs,hh ▸ h,r.mono hs nol⟩
  | lst ts=>obtain ⟨vs,h,r⟩:=o; exact ⟨vs,hh ▸ h,r.mono hs nol⟩
  | ins c f=>exact o.elim
theorem Wu.there {a:Addr} {so:SO} (o:Wu K S as H a so):∃ ob,H a = some ob:=by
  cases so with
  | dic ts=>obtain ⟨vs,h,r⟩:=o; exact ⟨_,h⟩
  | lst ts=>obtain ⟨vs,h,r⟩:=o; exact ⟨_,h⟩
  | ins c f=>exact o.elim
theorem Ext.outs (x:Ext S H S' H') {p:Addr} {o:HO} (h:H p = some o) (n:S p = none):S' p = none:=by
  cases q:S' p with
  | none=>rfl
  | some u =>
    rcases x.new p (by rw [q]; exact Option.some_ne_none _) with z | z
    · exact absurd n z
    · rw [h] at z; cases z
theorem Im.ext {sto:List SO} (r:Im K S as H sto) (x:Ext S H S' H'):Im K S' as H' sto where
  len:=r.len
  nd:=r.nd
  at':=fun n so e=>by
    obtain ⟨a,h1,h2,h3⟩:=r.at' n so e
    obtain ⟨ob,ho⟩:=h3.there
    exact ⟨a,h1,x.outs ho h2,h3.mono x.s (by rw [ho,x.h _ _ ho])⟩
theorem Rel.ext (r:Rel K B st σ H ps S as) (x:Ext S H S' H'):Rel K B st σ H' ps S' as where
  sub:=x.sub
  grow:=⟨r.grow.same.trans x.s,r.grow.more,fun p o h1 h2 h3=>by
    obtain ⟨a,b,c⟩:=r.grow.keep p o h1 h2 h3
    exact ⟨x.h _ _ a,x.outs a b,c⟩⟩
  slots:=fun i t f e=>by
    obtain ⟨v,h1,h2,h3⟩:=r.slots i t f e
    refine ⟨v,h1,fun q=>(h2 q).mono x.s nol,fun q=>?_⟩
    obtain ⟨p,e,o⟩:=h3 q
    obtain ⟨ob,ho⟩:=o.own.there
    exact ⟨p,e,o.own.mono x.s (by rw [ho,x.h _ _ ho]),x.outs ho o.out,o.nas,o.new⟩
  apart:=r.apart
  sto:=r.sto.ext x
  pend:=fun p hp=>(r.pend p hp).mono x.s nol
  len:=r.len
theorem Rel.push (r:Rel K B st σ H ps S as) {v:V} {t:T} (h:Rep K S as v t):Rel K B st σ H ((v,t) :: ps) S as :=
  ⟨r.sub,r.grow,r.slots,r.apart,r.sto,fun p hp=>by
    rcases List.mem_cons.mp hp with rfl | z
    · exact h
    · exact r.pend p z,r.len⟩
theorem Rel.drop {p:V × T} (r:Rel K B st σ H (p :: ps) S as):Rel K B st σ H ps S as :=
  ⟨r.sub,r.grow,r.slots,r.apart,r.sto,fun q hq=>r.pend q (List.mem_cons_of_mem _ hq),r.len⟩
theorem Rel.top {v:V} {t:T} (r:Rel K B st σ H ((v,t) :: ps) S as):Rep K S as v t:=r.pend (v,t) List.mem_cons_self
theorem Rel.top2 {v:V} {t:T} {q:V × T} (r:Rel K B st σ H (q :: (v,t) :: ps) S as):Rep K S as v t:=r.pend (v,t) (List.mem_cons_of_mem _ List.mem_cons_self)
end
noncomputable def tOf (K:PySem.W.Frag) (B:Bas) (m:M T):TE:=fun σ H Q=>∃ st ps S as,Rel K B st σ H ps S as∧∃ t st',m st = some (t,st') ∧
  ∀ v H' S' as',Rel K B st' σ H' ((v,t) :: ps) S' as'→Q v H'
noncomputable def cOf (K:PySem.W.Frag) (B:Bas) (m:M Bool):TT:=fun σ H Q=>∃ st ps S as,Rel K B st σ H ps S as∧∃ b st',m st = some (b,st') ∧
  ∀ H' S' as',Rel K B st' σ H' ps S' as'→Q b H'
noncomputable def aOf (K:PySem.W.Frag) (B:Bas) (m:M (List T)):TA:=fun σ H Q=>∃ st ps S as,Rel K B st σ H ps S as∧∃ ts st',m st = some (ts,st') ∧
  ∀ vs H' S' as',Rel K B st' σ H' ps S' as'→uq K S' as' vs ts→Q vs H'
theorem _root_.L2.PE.imp {X:Cx} {e:Expr} {t t':TE} (h:PE X e t) (i:∀ σ H Q,t' σ H Q→t σ H Q):PE X e t':=fun pins s σ H Q I q=>h pins s σ H Q I (i σ H Q q)
theorem _root_.L2.PT.imp {X:Cx} {e:Expr} {t t':TT} (h:PT X e t) (i:∀ σ H Q,t' σ H Q→t σ H Q):PT X e t':=fun pins s σ H Q I q=>h pins s σ H Q I (i σ H Q q)
theorem _root_.L2.PA.imp {X:Cx} {e:List Expr} {t t':TA} (h:PA X e t) (i:∀ σ H Q,t' σ H Q→t σ H Q):PA X e t':=fun pos pins s σ H Q I q=>h pos pins s σ H Q I (i σ H Q q)
theorem _root_.L2.PS.imp {X:Cx} {e:Stmt} {t t':TS} (h:PS X e t) (i:∀ D σ H,t' D σ H→t D σ H):PS X e t':=fun pins s σ H D I q=>h pins s σ H D I (i D σ H q)
theorem _root_.L2.PSs.imp {X:Cx} {e:List Stmt} {t t':TS} (h:PSs X e t) (i:∀ D σ H,t' D σ H→t D σ H):PSs X e t':=fun pins s σ H D I q=>h pins s σ H D I (i D σ H q)
noncomputable def r2 (K:PySem.W.Frag) (f:T→T→Option T):R2:=fun x y H Q=>∃ S as t u w,Same S H∧Rep K S as x t∧Rep K S as y u∧f t u = some w∧∀ v H' S',Ext S H S' H'→Rep K S' as v w→Q v H'
noncomputable def r1 (K:PySem.W.Frag) (f:T→Option T):V→Hp→VK→Prop:=fun x H Q=>∃ S as t w,Same S H∧Rep K S as x t∧f t = some w∧∀ v H' S',Ext S H S' H'→Rep K S' as v w→Q v H'
noncomputable def rL (K:PySem.W.Frag) (f:List T→Option T):List V→Hp→VK→Prop:=fun xs H Q=>∃ S as ts w,Same S H∧uq K S as xs ts∧f ts = some w∧∀ v H' S',Ext S H S' H'→Rep K S' as v w→Q v H'
noncomputable abbrev OpT (X:Cx) (f:Value→Value→Sem Value) (g:T→T→Option T):Prop:=OpR X f (r2 X.K g)
noncomputable abbrev UnT (X:Cx) (f:Value→Sem Value) (g:T→Option T):Prop:=UnR X f (r1 X.K g)
noncomputable abbrev Vb (X:Cx) (f:Value) (g:List T→Option T):Prop:=Ge X f (rL X.K g)
noncomputable section
variable {X:Cx} {B:Bas} {a b c:Expr} {m m1 m2:M T} {pos:Pos}
theorem Ja {v:V} {t:T} {e:Expr} (h:PE X e (tC v)) (r:∀ S as,Rep X.K S as v t):PE X e (tOf X.K B (aq t)):=h.imp fun σ H Q z9=>by
  obtain ⟨st,ps,S,as,R,t',st',e,q⟩:=z9
  cases e
  exact q v H S as (R.push (r S as))
theorem cu {i:Int} {j:Nat}:PE X (.Constant (.int i) j pos) (tOf X.K B (aq (.int i))):=Ja a68 fun _ _=>.int i
theorem Gw {i:Bool} {j:Nat}:PE X (.Constant (.bool i) j pos) (tOf X.K B (aq (.bl i))):=Ja a7b fun _ _=>.bl i
theorem ur {i:Str} {j:Nat}:PE X (.Constant (.str i) j pos) (tOf X.K B (aq (.str i))):=Ja a5d fun _ _=>.str i
theorem O4 {j:Nat}:PE X (.Constant .none j pos) (tOf X.K B (aq .non)):=Ja a5o fun _ _=>.non
theorem nq {op:Operator} {f:T→T→Option T} (ho:OpT X (binaryOp op) f) (ha:PE X a (tOf X.K B m1)) (hb:PE X b (tOf X.K B m2)):PE X (.BinOp a op b pos) (tOf X.K B (mOp f m1 m2)) :=
  (a3x ho ha hb).imp fun σ H Q z9=>by
    obtain ⟨st,ps,S,as,R,t,st',e,q⟩:=z9
    obtain ⟨t1,s1,t2,e1,e2,e3⟩:=Km e
    refine ⟨st,ps,S,as,R,t1,s1,e1,fun v H1 S1 as1 R1=>⟨s1,_,S1,as1,R1,t2,st',e2,fun u H2 S2 as2 R2=>?_⟩⟩
    exact ⟨S2,as2,t1,t2,t,R2.sub,R2.top2,R2.top,e3,fun w H3 S3 x r=>q w H3 S3 as2 ((R2.drop.drop.ext x).push r)⟩
end
end C
end
noncomputable section
set_option linter.all false
set_option maxRecDepth 100000
set_option maxHeartbeats 4000002
set_option autoImplicit false
namespace C
open PySem PySem.Spec PyProof.Rows L2
noncomputable section
variable {K:PySem.W.Frag} {B:Bas} {st:Sta} {σ:L2.St} {H H' S S':Hp} {ps:List (V × T)} {as:List Addr}
theorem Rel.freeze (r:Rel K B st σ H ps S as) {i:Nat} {t:T} (e:st.env[i]? = some (some (t,true))) :
    ∃ v S',σ[i]? = some (some v)∧Rel K B { st with env:=st.env.set i (some (t,false)) } σ H ((v,t) :: ps) S' as:=by
  obtain ⟨v,h1,_,h3⟩:=r.slots i t true e
  obtain ⟨p,rfl,o⟩:=h3 rfl
  obtain ⟨ob,ho⟩:=o.own.there
  have hi:i < st.env.length:=(List.getElem?_eq_some_iff.mp e).1
  have sS:Same S (upd S p ob):=Same.upd o.out ob
  have rep:Rep K (upd S p ob) as (.ref p) t:=by
    have w:=o.own
    cases t with
    | lst ts=>obtain ⟨vs,h,q⟩:=w; rw [ho] at h; cases h; exact .lst (SqL.of jd) (q.mono sS nol)
    | dic ts=>obtain ⟨vs,h,q⟩:=w; rw [ho] at h; cases h; exact .dic (.inl jd) (q.mono sS nol)
    | _=>exact w.elim
  have outs:∀ q,S q = none→q≠p→upd S p ob q = none:=fun q h n=>by rw [jg n]; exact h
  refine ⟨.ref p,upd S p ob,h1,?_⟩
  refine Rel.push (v:=.ref p) (t:=t) ⟨?_,?_,?_,?_,?_,?_,?_⟩ rep
  · intro b u q
    by_cases z:b = p
    · subst z; rw [jd] at q; cases q; exact ho
    · rw [jg z] at q; exact r.sub _ _ q
  · refine ⟨r.grow.same.trans sS,r.grow.more,fun q w a b c=>?_⟩
    obtain ⟨x,y,z⟩:=r.grow.keep q w a b c
    refine ⟨x,outs q y fun n=>?_,z⟩
    subst n; rw [o.new] at a; cases a
  · intro j u f ej
    by_cases hij:i = j
    · subst hij
      rw [List.getElem?_set_self hi] at ej
      cases ej
      exact ⟨.ref p,h1,fun _=>rep,fun z=>by cases z⟩
    · rw [List.getElem?_set_ne hij] at ej
      obtain ⟨v',a1,a2,a3⟩:=r.slots j u f ej
      refine ⟨v',a1,fun z=>(a2 z).mono sS nol,fun z=>?_⟩
      subst z
      obtain ⟨p',rfl,o'⟩:=a3 rfl
      refine ⟨p',rfl,o'.own.mono sS rfl,outs p' o'.out fun n=>?_,o'.nas,o'.new⟩
      subst n
      exact hij (r.apart i j t u p' e ej h1 a1)
  · intro j k u w q ej ek
    have hj:st.env[j]? = some (some (u,true)):=by
      by_cases hij:i = j
      · subst hij; rw [List.getElem?_set_self hi] at ej; cases ej
      · rwa [List.getElem?_set_ne hij] at ej
    have hk:st.env[k]? = some (some (w,true)):=by
      by_cases hij:i = k
      · subst hij; rw [List.getElem?_set_self hi] at ek; cases ek
      · rwa [List.getElem?_set_ne hij] at ek
    exact r.apart j k u w q hj hk
  · refine ⟨r.sto.len,r.sto.nd,fun n so en=>?_⟩
    obtain ⟨a,a1,a2,a3⟩:=r.sto.at' n so en
    refine ⟨a,a1,outs a a2 fun z=>?_,a3.mono sS rfl⟩
    subst z
    exact o.nas (List.mem_of_getElem? a1)
  · exact fun q hq=>(r.pend q hq).mono sS nol
  · show σ.length = (st.env.set i _).length
    rw [List.length_set]; exact r.len
end
noncomputable section
variable {X:Cx} {B:Bas} {a b c:Expr} {m m1 m2:M T} {pos:Pos}
theorem ao (i:Nat) {e:Expr} (h:PE X e (a0a i)):PE X e (tOf X.K B (cg i)):=h.imp fun σ H Q z9=>by
  obtain ⟨st,ps,S,as,R,t,st',e,q⟩:=z9
  rcases Rz e with ⟨e1,rfl⟩ | ⟨e1,rfl⟩
  · obtain ⟨v,h1,h2,_⟩:=R.slots i t false e1
    exact ⟨v,h1,q v H S as (R.push (h2 rfl))⟩
  · obtain ⟨v,S',h1,R'⟩:=R.freeze e1
    exact ⟨v,h1,q v H S' as R'⟩
theorem dz:PA X [] (aOf X.K B gq):=Cm.imp fun σ H Q z9=>by
  obtain ⟨st,ps,S,as,R,ts,st',e,q⟩:=z9
  cases e
  exact q [] H S as R .nil
theorem aj {es:List Expr} {ms:M (List T)} (ha:PE X a (tOf X.K B m)) (hr:PA X es (aOf X.K B ms)) (hs:starEach (a :: es) X.env = (false,eval a X.env) :: starEach es X.env:=by rfl):PA X (a :: es) (aOf X.K B (ak m ms)) :=
  (Ab ha hr hs).imp fun σ H Q z9=>by
    obtain ⟨st,ps,S,as,R,ts,st',e,q⟩:=z9
    obtain ⟨t,s1,us,e1,e2,rfl⟩:=Et e
    refine ⟨st,ps,S,as,R,t,s1,e1,fun v H1 S1 as1 R1=>⟨s1,_,S1,as1,R1,us,st',e2,fun vs H2 S2 as2 R2 rs=>?_⟩⟩
    exact q (v :: vs) H2 S2 as2 R2.drop (.cons R2.top rs)
theorem qu {es:List Expr} {ms:M (List T)} {k:Nat} (h:PA X es (aOf X.K B ms)) (hm:∀ st ts st',ms st = some (ts,st')→ts.length≤1000):PE X (.Tuple es k pos) (tOf X.K B (j8 (fun l=>some (.tup l)) ms)) :=
  (a4h h).imp fun σ H Q z9=>by
    obtain ⟨st,ps,S,as,R,t,st',e,q⟩:=z9
    obtain ⟨ts,e1,e2⟩:=Dp e
    cases e2
    refine ⟨st,ps,S,as,R,ts,st',e1,fun vs H1 S1 as1 R1 rs=>⟨?_,fun p hp=>?_⟩⟩
    · rw [rs.length]; exact Nat.le_of_lt (Eu (hm _ _ _ e1))
    · have x:=Ext.laid R1.sub hp (.tup vs)
      exact q _ _ _ _ ((R1.ext x).push (.tup (SqT.of jd) (rs.mono x.s nol)))
theorem Fz {es:List Expr} {ms:M (List T)} (h:PA X es (aOf X.K B ms)) (hm:∀ st ts st',ms st = some (ts,st')→ts.length≤1000):PE X (.List es pos) (tOf X.K B (j8 (fun l=>some (.lst l)) ms)) :=
  (Tr h).imp fun σ H Q z9=>by
    obtain ⟨st,ps,S,as,R,t,st',e,q⟩:=z9
    obtain ⟨ts,e1,e2⟩:=Dp e
    cases e2
    refine ⟨st,ps,S,as,R,ts,st',e1,fun vs H1 S1 as1 R1 rs=>⟨?_,fun p hp=>?_⟩⟩
    · rw [rs.length]; exact Nat.le_of_lt (Eu (hm _ _ _ e1))
    · have x:=Ext.laid R1.sub hp (.lst vs)
      exact q _ _ _ _ ((R1.ext x).push (.lst (SqL.of jd) (rs.mono x.s nol)))
theorem jf:∀ st ts st',gq st = some (ts,st')→ts.length≤0:=fun st ts st' e=>by cases e; exact Nat.le_refl _
theorem dw {r:M (List T)} {n:Nat} (h:∀ st ts st',r st = some (ts,st')→ts.length≤n):∀ st ts st',ak m r st = some (ts,st')→ts.length≤n + 1:=fun st ts st' e=>by
  obtain ⟨t,s1,us,e1,e2,rfl⟩:=Et e
  exact Nat.succ_le_succ (h _ _ _ e2)
theorem lq {ms:M (List T)} {f:List T→Option T} {e:Expr} (h:PE X e (tCB (rL X.K f) (aOf X.K B ms))):PE X e (tOf X.K B (j8 f ms)) :=
  h.imp fun σ H Q z9=>by
    obtain ⟨st,ps,S,as,R,t,st',e,q⟩:=z9
    obtain ⟨ts,e1,e2⟩:=Dp e
    refine ⟨st,ps,S,as,R,ts,st',e1,fun vs H1 S1 as1 R1 rs=>⟨S1,as1,ts,t,R1.sub,rs,e2,fun v H2 S2 x r=>?_⟩⟩
    exact q v H2 S2 as1 ((R1.ext x).push r)
theorem T4 {f:T→T→Option T} {e:Expr} (h:PE X e (tOp (r2 X.K f) (tOf X.K B m1) (tOf X.K B m2))):PE X e (tOf X.K B (mOp f m1 m2)) :=
  h.imp fun σ H Q z9=>by
    obtain ⟨st,ps,S,as,R,t,st',e,q⟩:=z9
    obtain ⟨t1,s1,t2,e1,e2,e3⟩:=Km e
    refine ⟨st,ps,S,as,R,t1,s1,e1,fun v H1 S1 as1 R1=>⟨s1,_,S1,as1,R1,t2,st',e2,fun u H2 S2 as2 R2=>?_⟩⟩
    exact ⟨S2,as2,t1,t2,t,R2.sub,R2.top2,R2.top,e3,fun w H3 S3 x r=>q w H3 S3 as2 ((R2.drop.drop.ext x).push r)⟩
theorem Zy {f:T→Option T} {e:Expr} (h:PE X e (tUn (r1 X.K f) (tOf X.K B m))):PE X e (tOf X.K B (mUn f m)) :=
  h.imp fun σ H Q z9=>by
    obtain ⟨st,ps,S,as,R,t,st',e,q⟩:=z9
    obtain ⟨t1,e1,e3⟩:=a2e e
    refine ⟨st,ps,S,as,R,t1,st',e1,fun v H1 S1 as1 R1=>⟨S1,as1,t1,t,R1.sub,R1.top,e3,fun w H3 S3 x r=>q w H3 S3 as1 ((R1.drop.ext x).push r)⟩⟩
theorem Hg {op:CmpOp} {f:T→T→Option T} (ho:OpT X (compareOp op) f) (ha:PE X a (tOf X.K B m1)) (hb:PE X b (tOf X.K B m2)) (hm:behindInMarks op b = false):PE X (.Compare a [op] [b] pos) (tOf X.K B (mOp f m1 m2)):=T4 (a2y ho ha hb hm)
theorem a6a {op:UnaryOp} {f:T→Option T} (ho:UnT X (unaryOp op) f) (ha:PE X a (tOf X.K B m)):PE X (.UnaryOp op a pos) (tOf X.K B (mUn f m)):=Zy (a7g ho ha)
theorem Ly {e:Expr} (h:PT X e (a5c (tOf X.K B m))):PT X e (cOf X.K B (fj m)):=h.imp fun σ H Q z9=>by
  obtain ⟨st,ps,S,as,R,t,st',e,q⟩:=z9
  refine ⟨st,ps,S,as,R,.bl t,st',Om e,fun v H1 S1 as1 R1=>?_⟩
  cases R1.top
  exact ⟨t,rfl,q H1 S1 as1 R1.drop⟩
theorem m7 {op:CmpOp} {f:T→T→Option T} (ho:OpT X (compareOp op) f) (ha:PE X a (tOf X.K B m1)) (hb:PE X b (tOf X.K B m2)) (hm:behindInMarks op b = false):PT X (.Compare a [op] [b] pos) (cOf X.K B (fj (mOp f m1 m2))) :=
  Ly ((a1z ho ha hb hm).imp fun σ H Q z9=>by
    obtain ⟨st,ps,S,as,R,t,st',e,q⟩:=z9
    obtain ⟨t1,s1,t2,e1,e2,e3⟩:=Km e
    refine ⟨st,ps,S,as,R,t1,s1,e1,fun v H1 S1 as1 R1=>⟨s1,_,S1,as1,R1,t2,st',e2,fun u H2 S2 as2 R2=>?_⟩⟩
    exact ⟨S2,as2,t1,t2,t,R2.sub,R2.top2,R2.top,e3,fun w H3 S3 x r=>q w H3 S3 as2 ((R2.drop.drop.ext x).push r)⟩)
theorem G4 {e:Expr} (h:PE X e (tOf X.K B m)) (he:∀ whole,isTrue e X.env whole = (do let v ← whole; standAt e.pos; holding [v] (truthy v)):=by intro _; rfl):PT X e (cOf X.K B (fj m)) :=
  Ly ((a5s h he).imp fun σ H Q h=>h)
theorem Hy {c1:M Bool} (ha:PT X a (cOf X.K B c1)):PT X (.UnaryOp .Not a pos) (cOf X.K B (jz c1)):=(a4i ha).imp fun σ H Q z9=>by
  obtain ⟨st,ps,S,as,R,t,st',e,q⟩:=z9
  obtain ⟨k,e1,rfl⟩:=Ru e
  exact ⟨st,ps,S,as,R,k,st',e1,q⟩
theorem Qh {c1:M Bool} (ha:PT X a (cOf X.K B c1)):PW X (.BoolOp .And [a] pos) (cOf X.K B c1):=pw_and1 ha
theorem Fy {c1:M Bool} (ha:PT X a (cOf X.K B c1)):PW X (.BoolOp .Or [a] pos) (cOf X.K B c1):=pw_or1 ha
theorem a5k {e:Expr} {t t':TT} (h:PW X e t) (i:∀ σ H Q,t' σ H Q→t σ H Q):PW X e t':=fun whole pins s σ H Q I q=>h whole pins s σ H Q I (i σ H Q q)
theorem Y8 {c1 c2:M Bool} {rest:List Expr} (ha:PT X a (cOf X.K B c1)) (hb:PW X (.BoolOp .And (b :: rest) pos) (cOf X.K B c2)):PW X (.BoolOp .And (a :: b :: rest) pos) (cOf X.K B (m5 c1 c2)) :=
  a5k (pw_and ha hb) fun σ H Q z9=>by
    obtain ⟨st,ps,S,as,R,t,st',e,q⟩:=z9
    rcases a00 e with ⟨s1,e1,e2⟩ | ⟨e1,rfl⟩
    · exact ⟨st,ps,S,as,R,true,s1,e1,fun H1 S1 as1 R1=>a5n (⟨s1,ps,S1,as1,R1,t,st',e2,q⟩)⟩
    · exact ⟨st,ps,S,as,R,false,st',e1,fun H1 S1 as1 R1=>a4o (q H1 S1 as1 R1)⟩
theorem Kd {c1 c2:M Bool} {rest:List Expr} (ha:PT X a (cOf X.K B c1)) (hb:PW X (.BoolOp .Or (b :: rest) pos) (cOf X.K B c2)):PW X (.BoolOp .Or (a :: b :: rest) pos) (cOf X.K B (mOr c1 c2)) :=
  a5k (pw_or ha hb) fun σ H Q z9=>by
    obtain ⟨st,ps,S,as,R,t,st',e,q⟩:=z9
    rcases a2f e with ⟨s1,e1,e2⟩ | ⟨e1,rfl⟩
    · exact ⟨st,ps,S,as,R,false,s1,e1,fun H1 S1 as1 R1=>a4o (⟨s1,ps,S1,as1,R1,t,st',e2,q⟩)⟩
    · exact ⟨st,ps,S,as,R,true,st',e1,fun H1 S1 as1 R1=>a5n (q H1 S1 as1 R1)⟩
theorem Mj {c1:M Bool} (hc:PT X c (cOf X.K B c1)) (ha:PE X a (tOf X.K B m1)) (hb:PE X b (tOf X.K B m2)):PE X (.IfExp c a b pos) (tOf X.K B (mIf c1 m1 m2)) :=
  (Zi hc ha hb).imp fun σ H Q z9=>by
    obtain ⟨st,ps,S,as,R,t,st',e,q⟩:=z9
    rcases a3b e with ⟨s1,e1,e2⟩ | ⟨s1,e1,e2⟩
    · exact ⟨st,ps,S,as,R,true,s1,e1,fun H1 S1 as1 R1=>a5n (⟨s1,ps,S1,as1,R1,t,st',e2,q⟩)⟩
    · exact ⟨st,ps,S,as,R,false,s1,e1,fun H1 S1 as1 R1=>a4o (⟨s1,ps,S1,as1,R1,t,st',e2,q⟩)⟩
theorem Vw (ha:PE X a (tOf X.K B m)):PE X (.UnaryOp .Not a pos) (tOf X.K B (j5 (jz (fj m)))):=(a5x ha).imp fun σ H Q z9=>by
  obtain ⟨st,ps,S,as,R,t,st',e,q⟩:=z9
  obtain ⟨b,e1,rfl⟩:=Vm e
  obtain ⟨k,e2,rfl⟩:=Ru e1
  refine ⟨st,ps,S,as,R,.bl k,st',Om e2,fun v H1 S1 as1 R1=>?_⟩
  cases R1.top
  exact ⟨k,rfl,q _ H1 S1 as1 (R1.drop.push (.bl _))⟩
end
end C
end
noncomputable section
set_option linter.all false
set_option maxRecDepth 100000
set_option maxHeartbeats 4000002
set_option autoImplicit false
namespace C
open PySem PySem.Spec PyProof.Rows L2
theorem a09 {a b:S} {s s':Sta} {fl:Flow} (h:j7 a b s = some (fl,s')):(∃ s1,a s = some (.next,s1)∧b s1 = some (fl,s'))∨(a s = some (fl,s')∧fl≠.next):=by
  unfold j7 at h
  split at h
  · rename_i s1 e; exact .inl ⟨s1,e,h⟩
  · rename_i r hr; exact .inr ⟨h,fun z=>by subst z; exact hr _ h⟩
theorem Yg {e:M T} {s s':Sta} {fl:Flow} (h:je e s = some (fl,s')):∃ t,e s = some (t,s')∧fl = .ret t:=by
  unfold je at h
  split at h
  · rename_i t s1 e; cases h; exact ⟨t,e,rfl⟩
  · cases h
theorem a1n {c:M Bool} {a b:S} {s s':Sta} {fl:Flow} (h:sIf c a b s = some (fl,s')):(∃ s1,c s = some (true,s1)∧a s1 = some (fl,s'))∨(∃ s1,c s = some (false,s1)∧b s1 = some (fl,s')):=by
  unfold sIf at h
  split at h
  · rename_i s1 e; exact .inl ⟨s1,e,h⟩
  · rename_i s1 e; exact .inr ⟨s1,e,h⟩
  · cases h
theorem Zz {i:Nat} {e:M T} {s s':Sta} {fl:Flow} (h:ji i e s = some (fl,s')):∃ t s1,e s = some (t,s1)∧fl = .next∧s' = bh i t false s1:=by
  unfold ji at h
  split at h
  · rename_i t s1 e; cases h; exact ⟨t,s1,e,rfl,rfl⟩
  · cases h
theorem Zq {i:Nat} {e:M T} {s s':Sta} {fl:Flow} (h:sNew i e s = some (fl,s')):∃ t s1,e s = some (t,s1)∧fl = .next∧s' = bh i t true s1:=by
  unfold sNew at h
  split at h
  · rename_i t s1 e; cases h; exact ⟨t,s1,e,rfl,rfl⟩
  · cases h
theorem Ze {g:G} {it:M (List T)} {b:S} {s s':Sta} {fl:Flow} (h:jo g it b s = some (fl,s')):∃ ts s1,it s = some (ts,s1)∧forL g b ts s1 = some (fl,s'):=by
  unfold jo at h
  split at h
  · rename_i ts s1 e; exact ⟨ts,s1,e,h⟩
  · cases h
theorem Qw {i:Nat} {e:M T} {s s':Sta} {fl:Flow} (h:cj i e s = some (fl,s')) :
    j4 i s = true∧∃ t s1 xs,e s = some (t,s1)∧s1.env[i]? = some (some (.lst xs,true))∧xs.length < lim∧fl = .next∧s' = bh i (.lst (xs ++ [t])) true s1:=by
  unfold cj at h
  split at h
  · rename_i hd
    refine ⟨hd,?_⟩
    split at h
    · rename_i t s1 e
      split at h
      · rename_i xs ex
        split at h
        · rename_i hl; cases h; exact ⟨t,s1,xs,e,ex,hl,rfl,rfl⟩
        · cases h
      · cases h
    · cases h
  · cases h
theorem Rb {i:Nat} {k v:M T} {s s':Sta} {fl:Flow} (h:Es i k v s = some (fl,s')) :
    ∃ t s1 kt s2 kvs q,v s = some (t,s1)∧Gm i s1 = true∧k s1 = some (kt,s2)∧s2.env[i]? = some (some (.dic kvs,true))∧keyOf kt = some q∧kvs.length < lim∧fl = .next∧s' = bh i (.dic (Ku q t kvs)) true s2:=by
  unfold Es at h
  split at h
  · rename_i t s1 e
    split at h
    · rename_i hd
      split at h
      · rename_i kt s2 ek
        split at h
        · rename_i kvs q ex eq
          split at h
          · rename_i hl; cases h; exact ⟨t,s1,kt,s2,_,_,e,hd,ek,ex,eq,hl,rfl,rfl⟩
          · cases h
        · cases h
      · cases h
    · cases h
  · cases h
noncomputable section
variable {K:PySem.W.Frag} {B:Bas} {st:Sta} {σ:L2.St} {H H' S S':Hp} {ps ps2:List (V × T)} {as as':List Addr}
theorem Rel.pick (r:Rel K B st σ H ps S as) (h:∀ p∈ps2,p∈ps):Rel K B st σ H ps2 S as :=
  ⟨r.sub,r.grow,r.slots,r.apart,r.sto,fun p hp=>r.pend p (h p hp),r.len⟩
theorem Mx {α:Type} {l:List α} {i:Nat} {x:α} (h:l.length≤i):l.set i x = l:=List.set_eq_of_length_le h
theorem Rel.put (r:Rel K B st σ H ps S as) {i:Nat} {v:V} {t:T} (h:Rep K S as v t):Rel K B (bh i t false st) (σ.set i (some v)) H ps S as:=by
  by_cases hi:i < st.env.length
  · have hs:i < σ.length:=by rw [r.len]; exact hi
    refine ⟨r.sub,r.grow,fun j u f e=>?_,fun j k u w p ej ek sj sk=>?_,r.sto,r.pend,by show _ = (st.env.set i _).length; rw [List.length_set,List.length_set]; exact r.len⟩
    · have e:(st.env.set i (some (t,false)))[j]? = some (some (u,f)):=e
      by_cases hij:i = j
      · subst hij
        rw [List.getElem?_set_self hi] at e; cases e
        exact ⟨v,List.getElem?_set_self hs,fun _=>h,fun z=>by cases z⟩
      · rw [List.getElem?_set_ne hij] at e ⊢
        exact r.slots j u f e
    · have ej:(st.env.set i (some (t,false)))[j]? = some (some (u,true)):=ej
      have ek:(st.env.set i (some (t,false)))[k]? = some (some (w,true)):=ek
      have hij:i≠j:=fun z=>by subst z; rw [List.getElem?_set_self hi] at ej; cases ej
      have hik:i≠k:=fun z=>by subst z; rw [List.getElem?_set_self hi] at ek; cases ek
      rw [List.getElem?_set_ne hij] at ej sj
      rw [List.getElem?_set_ne hik] at ek sk
      exact r.apart j k u w p ej ek sj sk
  · have e1:bh i t false st = st:=by unfold bh; rw [Mx (Nat.le_of_not_lt hi)]
    have e2:σ.set i (some v) = σ:=Mx (by rw [r.len]; exact Nat.le_of_not_lt hi)
    rw [e1,e2]; exact r
noncomputable def Jg (st:Sta) (σ:L2.St) (p:Addr):Prop:=∀ (j:Nat) u,st.env[j]? = some (some (u,true))→σ[j]? = some (some (.ref p))→False
theorem Rel.a69 (r:Rel K B st σ H ps S as) {i:Nat} {p:Addr} {t:T} (h:Lb K B S as H p t) (hn:Jg st σ p):Rel K B (bh i t true st) (σ.set i (some (.ref p))) H ps S as:=by
  by_cases hi:i < st.env.length
  · have hs:i < σ.length:=by rw [r.len]; exact hi
    refine ⟨r.sub,r.grow,fun j u f e=>?_,fun j k u w q ej ek sj sk=>?_,r.sto,r.pend,by show _ = (st.env.set i _).length; rw [List.length_set,List.length_set]; exact r.len⟩
    · have e:(st.env.set i (some (t,true)))[j]? = some (some (u,f)):=e
      by_cases hij:i = j
      · subst hij
        rw [List.getElem?_set_self hi] at e; cases e
        exact ⟨.ref p,List.getElem?_set_self hs,(fun z=>by cases z),fun _=>⟨p,rfl,h⟩⟩
      · rw [List.getElem?_set_ne hij] at e ⊢
        exact r.slots j u f e
    · have ej:(st.env.set i (some (t,true)))[j]? = some (some (u,true)):=ej
      have ek:(st.env.set i (some (t,true)))[k]? = some (some (w,true)):=ek
      by_cases hij:i = j
      · by_cases hik:i = k
        · rw [← hij,← hik]
        · subst hij
          rw [List.getElem?_set_self hs] at sj; cases sj
          rw [List.getElem?_set_ne hik] at ek sk
          exact (hn k w ek sk).elim
      · rw [List.getElem?_set_ne hij] at ej sj
        by_cases hik:i = k
        · subst hik
          rw [List.getElem?_set_self hs] at sk; cases sk
          exact (hn j u ej sj).elim
        · rw [List.getElem?_set_ne hik] at ek sk
          exact r.apart j k u w q ej ek sj sk
  · have e1:bh i t true st = st:=by unfold bh; rw [Mx (Nat.le_of_not_lt hi)]
    have e2:σ.set i (some (.ref p)) = σ:=Mx (by rw [r.len]; exact Nat.le_of_not_lt hi)
    rw [e1,e2]; exact r
theorem Rel.turn (r:Rel K B st σ H ps S as) {i:Nat} {t t':T} {p:Addr} {ob:HO} (e:st.env[i]? = some (some (t,true))) (hp:σ[i]? = some (some (.ref p))) (h:Own K S as (upd H p ob) p t') :
    Rel K B (bh i t' true st) σ (upd H p ob) ps S as:=by
  obtain ⟨v,h1,_,h3⟩:=r.slots i t true e
  rw [hp] at h1; cases h1
  obtain ⟨p',ep,o⟩:=h3 rfl
  cases ep
  have hi:i < st.env.length:=(List.getElem?_eq_some_iff.mp e).1
  have other:∀ q,q≠p→H q = upd H p ob q:=fun q n=>(jg n).symm
  refine ⟨fun b u q=>?_,⟨r.grow.same,r.grow.more,fun q w a b c=>?_⟩,fun j u f ej=>?_,fun j k u w q ej ek sj sk=>?_,⟨r.sto.len,r.sto.nd,fun n so en=>?_⟩,r.pend,by show _ = (st.env.set i _).length; rw [List.length_set]; exact r.len⟩
  · have n:b≠p:=fun z=>by subst z; rw [o.out] at q; cases q
    rw [jg n]; exact r.sub _ _ q
  · obtain ⟨x,y,z⟩:=r.grow.keep q w a b c
    have n:q≠p:=fun z=>by subst z; rw [o.new] at a; cases a
    exact ⟨by rw [jg n]; exact x,y,z⟩
  · have ej:(st.env.set i (some (t',true)))[j]? = some (some (u,f)):=ej
    by_cases hij:i = j
    · subst hij
      rw [List.getElem?_set_self hi] at ej; cases ej
      exact ⟨.ref p,hp,(fun z=>by cases z),fun _=>⟨p,rfl,h,o.out,o.nas,o.new⟩⟩
    · rw [List.getElem?_set_ne hij] at ej
      obtain ⟨v',a1,a2,a3⟩:=r.slots j u f ej
      refine ⟨v',a1,a2,fun z=>?_⟩
      subst z
      obtain ⟨p',rfl,o'⟩:=a3 rfl
      have n:p'≠p:=fun z=>by subst z; exact hij (r.apart i j t u p' e ej hp a1)
      exact ⟨p',rfl,o'.own.mono (Same.refl _) (other p' n),o'.out,o'.nas,o'.new⟩
  · have back:∀ (j:Nat) u,(st.env.set i (some (t',true)))[j]? = some (some (u,true))→∃ u',st.env[j]? = some (some (u',true)):=fun j u ej=>by
      by_cases hij:i = j
      · subst hij; exact ⟨t,e⟩
      · rw [List.getElem?_set_ne hij] at ej; exact ⟨u,ej⟩
    obtain ⟨u',ej'⟩:=back j u ej
    obtain ⟨w',ek'⟩:=back k w ek
    exact r.apart j k u' w' q ej' ek' sj sk
  · obtain ⟨a,a1,a2,a3⟩:=r.sto.at' n so en
    have n:a≠p:=fun z=>by subst z; exact o.nas (List.mem_of_getElem? a1)
    exact ⟨a,a1,a2,a3.mono (Same.refl _) (other a n)⟩
theorem Rel.a0m (r:Rel K B st σ H ps S as) {n:Nat} {so so':SO} {a:Addr} {ob:HO} (e:st.sto[n]? = some so) (ha:as[n]? = some a) (h:Wu K S as (upd H a ob) a so') :
    Rel K B { st with sto:=st.sto.set n so' } σ (upd H a ob) ps S as:=by
  have ma:a∈as:=List.mem_of_getElem? ha
  have hn:n < st.sto.length:=(List.getElem?_eq_some_iff.mp e).1
  have sa:S a = none:=by
    obtain ⟨a',a1,a2,_⟩:=r.sto.at' n so e
    rw [ha] at a1; cases a1; exact a2
  have other:∀ q,q≠a→H q = upd H a ob q:=fun q n=>(jg n).symm
  refine ⟨fun b u q=>?_,⟨r.grow.same,r.grow.more,fun q w x y z=>?_⟩,fun j u f ej=>?_,r.apart,⟨by rw [List.length_set]; exact r.sto.len,r.sto.nd,fun k so2 en=>?_⟩,r.pend,r.len⟩
  · have n:b≠a:=fun z=>by subst z; rw [sa] at q; cases q
    rw [jg n]; exact r.sub _ _ q
  · obtain ⟨x1,y1,z1⟩:=r.grow.keep q w x y z
    have n:q≠a:=fun z=>by subst z; exact z1 ma
    exact ⟨by rw [jg n]; exact x1,y1,z1⟩
  · obtain ⟨v',a1,a2,a3⟩:=r.slots j u f ej
    refine ⟨v',a1,a2,fun z=>?_⟩
    obtain ⟨p',rfl,o'⟩:=a3 z
    have n:p'≠a:=fun z=>by subst z; exact o'.nas ma
    exact ⟨p',rfl,o'.own.mono (Same.refl _) (other p' n),o'.out,o'.nas,o'.new⟩
  · by_cases hk:n = k
    · subst hk
      rw [List.getElem?_set_self hn] at en; cases en
      exact ⟨a,ha,sa,h⟩
    · rw [List.getElem?_set_ne hk] at en
      obtain ⟨b,b1,b2,b3⟩:=r.sto.at' k so2 en
      have n:b≠a:=fun z=>by
        subst z
        have l1:=(List.getElem?_eq_some_iff.mp b1).1
        have l2:=(List.getElem?_eq_some_iff.mp ha).1
        exact hk ((List.getElem?_inj (i:=n) (j:=k) l2 r.sto.nd).mp (by rw [ha,b1]))
      exact ⟨b,b1,b2,b3.mono (Same.refl _) (other b n)⟩
end
noncomputable def Fin (K:PySem.W.Frag) (B:Bas) (D:Ends) (ps:List (V × T)):Flow→Sta→Prop
  | .next,st'=>∀ σ' H' S' as',Rel K B st' σ' H' ps S' as'→D.nx σ' H'
  | .ret t,st'=>∀ v σ' H' S' as',Rel K B st' σ' H' ((v,t) :: ps) S' as'→D.rt v H'
  | .brk,st'=>∀ σ' H' S' as',Rel K B st' σ' H' ps S' as'→D.bk σ' H'
  | .cont,st'=>∀ σ' H' S' as',Rel K B st' σ' H' ps S' as'→D.ct σ' H'
noncomputable def sOf (K:PySem.W.Frag) (B:Bas) (s:S):TS:=fun D σ H=>∃ st ps S as,Rel K B st σ H ps S as∧∃ fl st',s st = some (fl,st')∧Fin K B D ps fl st'
noncomputable def gOf (K:PySem.W.Frag) (B:Bas) (g:G):TG:=fun v σ H Q=>∃ st ps S as t,Rel K B st σ H ((v,t) :: ps) S as∧∃ st',g t st = some st'∧∀ σ' H' S' as',Rel K B st' σ' H' ps S' as'→Q σ' H'
noncomputable def fOf (K:PySem.W.Frag) (B:Bas) (m:M T):TE:=fun σ H Q=>∃ st ps S as,Rel K B st σ H ps S as∧∃ t st',m st = some (t,st') ∧
  ∀ p H' S' as',Rel K B st' σ H' ps S' as'→Lb K B S' as' H' p t→Jg st' σ p→Q (.ref p) H'
noncomputable section
variable {X:Cx} {B:Bas} {a b c e:Expr} {m m1 m2:M T} {pos:Pos} {u v:S}
theorem pq:PSs X [] (sOf X.K B jk):=a1t.imp fun D σ H z9=>by
  obtain ⟨st,ps,S,as,R,fl,st',e,q⟩:=z9
  cases e; exact q σ H S as R
theorem gj {st:Stmt} {rest:List Stmt} (h1:PS X st (sOf X.K B u)) (h2:PSs X rest (sOf X.K B v)):PSs X (st :: rest) (sOf X.K B (j7 u v)):=(Yl h1 h2).imp fun D σ H z9=>by
  obtain ⟨st,ps,S,as,R,fl,st',e,q⟩:=z9
  rcases a09 e with ⟨s1,e1,e2⟩ | ⟨e1,hn⟩
  · exact ⟨st,ps,S,as,R,.next,s1,e1,fun σ' H' S' as' R'=>⟨s1,ps,S',as',R',fl,st',e2,q⟩⟩
  · refine ⟨st,ps,S,as,R,fl,st',e1,?_⟩
    cases fl with
    | next=>exact absurd rfl hn
    | ret t=>exact q
    | brk=>exact q
    | cont=>exact q
theorem j9 {st:Stmt} (h1:PS X st (sOf X.K B u)):PSs X [st] (sOf X.K B u):=a1r h1
theorem jm (he:PE X e (tOf X.K B m)):PS X (.Return (some e) pos) (sOf X.K B (je m)):=(a4l he).imp fun D σ H z9=>by
  obtain ⟨st,ps,S,as,R,fl,st',e,q⟩:=z9
  obtain ⟨t,e1,rfl⟩:=Yg e
  exact ⟨st,ps,S,as,R,t,st',e1,fun v H' S' as' R'=>q v σ H' S' as' R'⟩
theorem wj {c1:M Bool} {sa sb:List Stmt} (hc:PT X c (cOf X.K B c1)) (ha:PSs X sa (sOf X.K B u)) (hb:PSs X sb (sOf X.K B v)):PS X (.If c sa sb pos) (sOf X.K B (sIf c1 u v)):=(a7l hc ha hb).imp fun D σ H z9=>by
  obtain ⟨st,ps,S,as,R,fl,st',e,q⟩:=z9
  rcases a1n e with ⟨s1,e1,e2⟩ | ⟨s1,e1,e2⟩
  · exact ⟨st,ps,S,as,R,true,s1,e1,fun H1 S1 as1 R1=>a5n ⟨s1,ps,S1,as1,R1,fl,st',e2,q⟩⟩
  · exact ⟨st,ps,S,as,R,false,s1,e1,fun H1 S1 as1 R1=>a4o ⟨s1,ps,S1,as1,R1,fl,st',e2,q⟩⟩
theorem ud (i:Nat) {tg:Expr} (h:PG X tg (Nj i)):PG X tg (gOf X.K B (hName i)):=fun pins s σ H x u Q I r ⟨st,ps,S,as,t,R,st',e,q⟩=>h pins s σ H x u Q I r (by
  cases e
  exact q _ H S as (R.drop.put R.top))
theorem nj (i:Nat) {te:TE} {s:Stmt} (h:PS X s (a1v te (Nj i))) (hm:∀ σ H Q,tOf X.K B m σ H Q→te σ H Q):PS X s (sOf X.K B (ji i m)):=h.imp fun D σ H z9=>by
  obtain ⟨st,ps,S,as,R,fl,st',e,q⟩:=z9
  obtain ⟨t,s1,e1,rfl,rfl⟩:=Zz e
  exact hm σ H _ ⟨st,ps,S,as,R,t,s1,e1,fun v H' S' as' R'=>q _ H' S' as' (R'.drop.put R'.top)⟩
theorem Ie (i:Nat) {te:TE} {s:Stmt} (h:PS X s (a1v te (Nj i))) (hm:∀ σ H Q,fOf X.K B m σ H Q→te σ H Q):PS X s (sOf X.K B (sNew i m)):=h.imp fun D σ H z9=>by
  obtain ⟨st,ps,S,as,R,fl,st',e,q⟩:=z9
  obtain ⟨t,s1,e1,rfl,rfl⟩:=Zq e
  exact hm σ H _ ⟨st,ps,S,as,R,t,s1,e1,fun p H' S' as' R' o n=>q _ H' S' as' (R'.a69 o n)⟩
end
end C
end
noncomputable section
set_option linter.all false
set_option maxRecDepth 100000
set_option maxHeartbeats 4000002
set_option autoImplicit false
namespace C
open PySem PySem.Spec PyProof.Rows L2
noncomputable section
variable {K:PySem.W.Frag} {B:Bas} {st:Sta} {σ:L2.St} {H H' S S':Hp} {ps ps2:List (V × T)} {as as':List Addr}
theorem Own.more {p:Addr} {t:T} (hs:Same S S') (x:∃ l,as' = as ++ l) (hh:H p = H' p) (o:Own K S as H p t):Own K S' as' H' p t:=by
  cases t with
  | lst ts=>obtain ⟨vs,h,r⟩:=o; exact ⟨vs,hh ▸ h,r.mono hs x⟩
  | dic ts=>obtain ⟨vs,h,r⟩:=o; exact ⟨vs,hh ▸ h,r.mono hs x⟩
  | _=>exact o.elim
theorem Rel.call {sto':List SO} (r:Rel K B st σ H ps S as) (g:Vf ⟨S,as,H⟩ S' as' H') (sub:Same S' H') (so:Im K S' as' H' sto'):Rel K B { st with sto:=sto' } σ H' ps S' as' where
  sub:=sub
  grow:=by
    refine ⟨r.grow.same.trans g.same,?_,fun p o a b c=>?_⟩
    · obtain ⟨l,e⟩:=r.grow.more
      obtain ⟨l',e'⟩:=g.more
      exact ⟨l ++ l',by rw [e',e,List.append_assoc]⟩
    · obtain ⟨x,y,z⟩:=r.grow.keep p o a b c
      exact g.keep p o x y z
  slots:=fun i t f e=>by
    obtain ⟨v,h1,h2,h3⟩:=r.slots i t f e
    refine ⟨v,h1,fun q=>(h2 q).mono g.same g.more,fun q=>?_⟩
    obtain ⟨p,rfl,o⟩:=h3 q
    obtain ⟨ob,ho⟩:=o.own.there
    obtain ⟨x,y,z⟩:=g.keep p ob ho o.out o.nas
    exact ⟨p,rfl,o.own.more g.same g.more (by rw [ho,x]),y,z,o.new⟩
  apart:=r.apart
  sto:=so
  pend:=fun p hp=>(r.pend p hp).mono g.same g.more
  len:=r.len
end
noncomputable def spF (K:PySem.W.Frag) (ar:Nat) (F:Fn):Sp:=fun vs H Q _=>∃ S as sto ts t sto',Same S H∧Im K S as H sto∧uq K S as vs ts∧ts.length = ar∧F ts sto = some (t,sto') ∧
  ∀ v H' S' as',Vf ⟨S,as,H⟩ S' as' H'→Same S' H'→Im K S' as' H' sto'→Rep K S' as' v t→Q v H'
noncomputable section
variable {X:Cx} {B:Bas} {a b c e:Expr} {m m1 m2:M T} {pos p:Pos} {u v:S} {es:List Expr} {ms:M (List T)} {k:Nat} {f:Addr} {fd:FuncData} {pn:List Str} {F:Fn} {x:Str}
theorem a3m (G:Cv X.prog X.w X.K X.mg X.base CX0 k f fd pn (spF X.K pn.length F)) (hr:Le k X.A) (hg:Gl X x) (hm:X.mg x = some (.ref f)) (hk:PySem.W.keepIn X.K (.ref f) = true) (hb:Binds X.K fd pn [])
    (ha:PA X (e :: es) (aOf X.K B ms)) (hl:∀ st ts st',ms st = some (ts,st')→ts.length = pn.length) (hdb:(x == ("__debug__" : Str)) = false:=by decide)
    (he:starEach (e :: es) X.env = (false,eval e X.env) :: starEach es X.env:=by rfl) (hpl:(backTo pos (starEach es X.env)).any (·.1) = false:=by rfl) :
    PE X (.Call (.Name x p) (e :: es) [] pos) (tOf X.K B (dj F ms)) :=
  (a1w G hr hg hm hk hb .nil a7a ha hdb he hpl).imp fun σ H Q z9=>by
    obtain ⟨st,ps,S,as,R,t,st',e,q⟩:=z9
    obtain ⟨ts,s1,sto,e1,e2,rfl⟩:=Xn e
    refine ⟨st,ps,S,as,R,ts,s1,e1,fun vs H1 S1 as1 R1 rs=>?_⟩
    show spF X.K pn.length F (vs ++ []) H1 Q E0
    rw [List.append_nil]
    exact ⟨S1,as1,s1.sto,ts,t,sto,R1.sub,R1.sto,rs,hl _ _ _ e1,e2,fun v H2 S2 as2 g sub so r=>q v H2 S2 as2 ((R1.call g sub so).push r)⟩
theorem eq_nil:∀ st ts st',gq st = some (ts,st')→ts.length = 0:=fun st ts st' e=>by cases e; rfl
theorem bw {r:M (List T)} {n:Nat} (h:∀ st ts st',r st = some (ts,st')→ts.length = n):∀ st ts st',ak m r st = some (ts,st')→ts.length = n + 1:=fun st ts st' e=>by
  obtain ⟨t,s1,us,e1,e2,rfl⟩:=Et e
  exact congrArg (· + 1) (h _ _ _ e2)
end
noncomputable section
variable {P:Program} {w:World} {K:PySem.W.Frag} {mg:Str→Option Value} {base:Heap}
theorem Y6 {N:List Str} {vs:List V} {i:Nat} {v:V} (h:vs[i]? = some v):(L2.start N vs)[i]? = some (some v):=by
  unfold L2.start
  have hi:=(List.getElem?_eq_some_iff.mp h).1
  rw [List.getElem?_append_left (by rw [List.length_map]; exact hi),List.getElem?_map,h]; rfl
theorem Xu {S H:Hp} {as:List Addr} {sto:List SO} {vs:List V} {ts:List T} {N:List Str} (h1:Same S H) (h2:Im K S as H sto) (h3:uq K S as vs ts) (hN:ts.length≤N.length) :
    Rel K ⟨S,as,H⟩ ⟨ts.map (fun t=>some (t,false)) ++ List.replicate (N.length - ts.length) none,sto⟩ (L2.start N vs) H [] S as:=by
  have key:∀ (i:Nat) t fl,(ts.map (fun t=>some (t,false)) ++ List.replicate (N.length - ts.length) (none:Slot))[i]? = some (some (t,fl))→fl = false∧ts[i]? = some t:=fun i t fl e=>by
    by_cases hi:i < ts.length
    · rw [List.getElem?_append_left (by rw [List.length_map]; exact hi),List.getElem?_map] at e
      cases z:ts[i]? with
      | none=>rw [z] at e; cases e
      | some t'=>rw [z] at e; cases e; exact ⟨rfl,rfl⟩
    · rw [List.getElem?_append_right (by rw [List.length_map]; exact Nat.le_of_not_lt hi)] at e
      have:=List.eq_of_mem_replicate (List.mem_of_getElem? e)
      cases this
  refine ⟨h1,⟨Same.refl _,nol,fun p o a b c=>⟨a,b,c⟩⟩,fun i t fl e=>?_,fun i j t u p ei ej=>?_,h2,(fun p hp=>by cases hp),?_⟩
  · obtain ⟨rfl,e'⟩:=key i t fl e
    obtain ⟨v,hv,r⟩:=h3.get e'
    exact ⟨v,Y6 hv,fun _=>r,fun z=>by cases z⟩
  · obtain ⟨z,_⟩:=key i t true ei; cases z
  · unfold L2.start
    rw [List.length_append,List.length_append,List.length_map,List.length_map,List.length_replicate,List.length_replicate,h3.length]
theorem qj {x qual:Str} {st:Stmt} {f:Addr} {fd:FuncData} {N ps:List Str} {k:Nat} {b:S} (F:Fun K x qual st f fd) (Sc:ou N ps (iw st)) (hN:ps.length≤N.length)
    (hb:∀ (cdv:Value) (A:Around) (outer:List Env) (s:Shared) (H:Hp) (E:XK) (B:Bas),Le k (A.deeper (envOfC qual (iw st) s.heap.objs.size f cdv)) →
      PSs (a2j CX0 P w K mg base N qual (iw st) f cdv A outer s H E).nox (mz st) (sOf K B b)):Cv P w K mg base CX0 (k + 1) f fd ps (spF K ps.length (gw N.length b)):=by
  refine F.ok Sc (fun vs H Q E h=>?_) fun cdv A outer s H vs Q E hr h=>?_
  · obtain ⟨S,as,sto,ts,t,sto',h1,h2,h3,h4,_⟩:=h
    rw [h3.length,h4]
  · obtain ⟨S,as,sto,ts,t,sto',h1,h2,h3,h4,h5,q⟩:=h
    refine ⟨_,hb cdv A outer s H E ⟨S,as,H⟩ hr,?_⟩
    have lv:vs.length = ps.length:=by rw [h3.length,h4]
    have R:Rel K ⟨S,as,H⟩ ⟨ts.map (fun t=>some (t,false)) ++ List.replicate (N.length - ts.length) none,sto⟩ (L2.start N vs) H [] S as:=Xu h1 h2 h3 (by rw [h4]; exact hN)
    unfold gw at h5
    split at h5
    · rename_i t' s' e
      cases h5
      exact ⟨_,[],S,as,R,.ret t,s',e,fun v σ' H' S' as' R'=>q v H' S' as' R'.grow R'.sub R'.sto R'.top⟩
    · rename_i s' e
      cases h5
      exact ⟨_,[],S,as,R,.next,s',e,fun σ' H' S' as' R'=>q .non H' S' as' R'.grow R'.sub R'.sto .non⟩
    · cases h5
end
end C
end
noncomputable section
set_option linter.all false
set_option maxRecDepth 100000
set_option maxHeartbeats 4000002
set_option autoImplicit false
namespace C
open PySem PySem.Spec PyProof.Rows L2
theorem Yx {g:G} {b:S} {t:T} {r:List T} {s s':Sta} {fl:Flow} (h:forL g b (t :: r) s = some (fl,s')):∃ s1 fb s2,g t s = some s1∧b s1 = some (fb,s2) ∧
    (match fb with | .next=>forL g b r s2 = some (fl,s') | .cont=>forL g b r s2 = some (fl,s') | .brk=>fl = .next∧s' = s2 | .ret v=>fl = .ret v∧s' = s2):=by
  rw [forL] at h
  dsimp only at h
  split at h
  · rename_i s1 e1
    split at h
    · rename_i s2 e2; exact ⟨s1,.next,s2,e1,e2,h⟩
    · rename_i s2 e2; exact ⟨s1,.cont,s2,e1,e2,h⟩
    · rename_i s2 e2; cases h; exact ⟨s1,.brk,_,e1,e2,rfl,rfl⟩
    · rename_i v s2 e2; cases h; exact ⟨s1,.ret v,_,e1,e2,rfl,rfl⟩
    · cases h
  · cases h
structure Ju (K:PySem.W.Frag) (S:Hp) (as:List Addr) (H:Hp) (J:It) (ts:List T):Prop where
  go:∀ (i:Nat) t,ts[i]? = some t→J.go i H∧∀ x H',J.yld i H x H'→∃ S',Ext S H S' H'∧Rep K S' as x t
  stop:∀ i,ts.length≤i→J.stop i H
noncomputable def iOf (K:PySem.W.Frag) (B:Bas) (m:M (List T)):TI:=fun σ H R=>∃ st ps S as,Rel K B st σ H ps S as∧∃ ts st',m st = some (ts,st')∧ts.length≤sizeLine ∧
  ∀ J H' S' as' ps',Rel K B st' σ H' (ps' ++ ps) S' as'→(∀ S as H,(∀ p∈ps',Rep K S as p.1 p.2)→Same S H→Ju K S as H J ts)→R J H'
noncomputable section
variable {X:Cx} {tg l:Expr} {tl:TE}
noncomputable def iSq (K:PySem.W.Frag) (tl:TE):TI:=fun σ H R=>tl σ H fun x H1=>∃ a,x = .ref a∧(((∃ xs,SqL K H1 a xs)∧R (Itl K a) H1)∨((∃ xs,SqT K H1 a xs)∧R (Itt K a) H1))
theorem a6t (hl:PE X l tl):PI X tg l (iSq X.K tl):=by
  intro pins s σ H R I h
  refine thn (hl pins s σ H _ I h) fun v s1 z0=>?_
  obtain ⟨x,H1,I1,r1,q1⟩:=z0
  obtain ⟨a,e,q⟩:=q1
  subst e
  cases r1
  rcases q with ⟨⟨xs,hq⟩,q⟩ | ⟨⟨xs,hq⟩,q⟩
  · obtain ⟨its,rv,p,hz⟩:=I1.list hq
    refine wpAny_pyIter_list p.isList ?_
    refine ⟨s1.heap.objs.size,[s1.heap.objs.size],_,_,H1,rfl,I1.kept (t':=s1.toks) fun b o e=>Heap.get?_push_of_some _ e,Wy a _,⟨_,Heap.get?_push_size _ rfl,rfl,rfl⟩,fun b hb=>?_,q⟩
    have e:b = s1.heap.objs.size:=by simpa using hb
    subst e
    exact I1.a3s (Nat.le_refl _) (I1.hok.fresh (Nat.le_refl _))
  · obtain ⟨its,rv,p,hz⟩:=I1.tuple hq
    refine wpAny_pyIter_tuple (show s1.heap.IsTuple a its.toArray from p) ?_
    refine ⟨s1.heap.objs.size,[s1.heap.objs.size],_,_,H1,rfl,I1.kept (t':=s1.toks) fun b o e=>Heap.get?_push_of_some _ e,V4 a _,⟨_,Heap.get?_push_size _ rfl,rfl,rfl⟩,fun b hb=>?_,q⟩
    have e:b = s1.heap.objs.size:=by simpa using hb
    subst e
    exact I1.a3s (Nat.le_refl _) (I1.hok.fresh (Nat.le_refl _))
end
noncomputable section
variable {X:Cx} {B:Bas} {a b c e tg iter:Expr} {m m1 m2:M T} {pos p:Pos} {u v:S} {g:G} {it:M (List T)} {body:List Stmt}
theorem itL {K:PySem.W.Frag} {S:Hp} {as:List Addr} {H:Hp} {p:Addr} {vs:List V} {ts:List T} (sub:Same S H) (h:SqL K H p vs) (r:uq K S as vs ts):Ju K S as H (Itl K p) ts where
  go:=fun i t e=>by
    obtain ⟨v,hv,rv⟩:=r.get e
    exact ⟨⟨vs,v,h,hv⟩,fun x H' y=>⟨S,by rw [y.1]; exact Ext.refl sub,by have:=y.2 vs h; rw [hv] at this; cases this; exact rv⟩⟩
  stop:=fun i hi=>⟨vs,h,by rw [r.length]; exact hi⟩
theorem itT {K:PySem.W.Frag} {S:Hp} {as:List Addr} {H:Hp} {p:Addr} {vs:List V} {ts:List T} (sub:Same S H) (h:SqT K H p vs) (r:uq K S as vs ts):Ju K S as H (Itt K p) ts where
  go:=fun i t e=>by
    obtain ⟨v,hv,rv⟩:=r.get e
    exact ⟨⟨vs,v,h,hv⟩,fun x H' y=>⟨S,by rw [y.1]; exact Ext.refl sub,by have:=y.2 vs h; rw [hv] at this; cases this; exact rv⟩⟩
  stop:=fun i hi=>⟨vs,h,by rw [r.length]; exact hi⟩
theorem u9:lim≤sizeLine:=by rw [sizeLine_eq]; decide
theorem zp (h:PE X iter (tOf X.K B m)):PI X tg iter (iOf X.K B (jl m)):=by
  intro pins s σ H R I hw
  refine a6t h pins s σ H R I ?_
  obtain ⟨st,ps,S,as,Rl,ts,st',e,hz,q⟩:=hw
  unfold jl at e
  split at e
  · rename_i xs s1 e1
    split at e
    · rename_i hl
      cases e
      refine ⟨st,ps,S,as,Rl,_,_,e1,fun v H1 S1 as1 R1=>?_⟩
      have top:=R1.top
      cases top with
      | @lst a vs _ hs hr =>
        refine ⟨a,rfl,.inl ⟨⟨vs,qg R1.sub hs⟩,q _ H1 S1 as1 [(.ref a,.lst _)] R1 fun S2 as2 H2 hp hh=>?_⟩⟩
        have:=hp _ List.mem_cons_self
        cases this with
        | @lst _ vs2 _ hs2 hr2=>exact itL hh (qg hh hs2) hr2
    · cases e
  · rename_i xs s1 e1
    split at e
    · rename_i hl
      cases e
      refine ⟨st,ps,S,as,Rl,_,_,e1,fun v H1 S1 as1 R1=>?_⟩
      have top:=R1.top
      cases top with
      | @tup a vs _ hs hr =>
        refine ⟨a,rfl,.inr ⟨⟨vs,sy R1.sub hs⟩,q _ H1 S1 as1 [(.ref a,.tup _)] R1 fun S2 as2 H2 hp hh=>?_⟩⟩
        have:=hp _ List.mem_cons_self
        cases this with
        | @tup _ vs2 _ hs2 hr2=>exact itT hh (sy hh hs2) hr2
    · cases e
  · cases e
theorem M6 {a:M T} {ts:List T} {s s':Sta} (h:fu a s = some (ts,s')):∃ n:Int,a s = some (.int n,s')∧(-1000000 < n∧n < 1000000)∧ts = rangeT n.toNat:=by
  unfold fu at h
  split at h
  · rename_i n s1 e
    split at h
    · rename_i hl; cases h; exact ⟨n,e,by have:n.natAbs < 1000000:=hl; omega,rfl⟩
    · cases h
  · cases h
theorem Uh {n i:Nat} {t:T} (h:(rangeT n)[i]? = some t):i < n∧t = .int (i:Int):=by
  unfold rangeT at h
  rw [List.getElem?_map] at h
  cases z:(List.range n)[i]? with
  | none=>rw [z] at h; cases h
  | some k =>
    rw [z] at h; cases h
    obtain ⟨hi,e⟩:=List.getElem?_eq_some_iff.mp z
    rw [List.getElem_range] at e; subst e
    rw [List.length_range] at hi
    exact ⟨hi,rfl⟩
theorem Jc (hg:Gl X "range") (hm:X.mg "range" = none) (h:PE X a (tOf X.K B m)) (hs:starEach [a] X.env = [(false,eval a X.env)]:=by rfl):PI X tg (.Call (.Name "range" p) [a] [] pos) (iOf X.K B (fu m)):=by
  intro pins s σ H R I hw
  refine Y5 (ta:=Wb (tOf X.K B m) a4t) hg hm (Ab h Cm hs) hs pins s σ H R I ?_
  obtain ⟨st,ps,S,as,Rl,ts,st',e,hz,q⟩:=hw
  obtain ⟨n,e1,hl,rfl⟩:=M6 e
  refine ⟨st,ps,S,as,Rl,_,_,e1,fun v H1 S1 as1 R1=>?_⟩
  cases R1.top
  refine ⟨n,rfl,by omega,by omega,q _ H1 S1 as1 [] R1.drop fun S2 as2 H2 _ hh=>⟨fun i t e=>?_,fun i hi=>?_⟩⟩
  · obtain ⟨hi,rfl⟩:=Uh e
    refine ⟨hi,fun x H' y=>⟨S2,by rw [y.1]; exact Ext.refl hh,?_⟩⟩
    have:=y.2; subst this
    rw [Int.zero_add]; exact .int _
  · show n.toNat≤i
    unfold rangeT at hi
    rwa [List.length_map,List.length_range] at hi
theorem Dy (hp:PassesOwn (model X.prog X.w) X.A X.env X.xe) (hc:X.calm = true) (hi:PI X tg iter (iOf X.K B it)) (hg:PG X tg (gOf X.K B g)) (hb:PSs X body (sOf X.K B u)) (hsz:∀ st ts st',it st = some (ts,st')→ts.length≤sizeLine)
    (hs:∀ x,foldedSetIterable iter X.env x = pure x:=by intro _; rfl):PS X (.For tg iter body [] pos) (sOf X.K B (jo g it u)):=(a5g hp hc hi hg hb hs).imp fun D σ H z9=>by
  obtain ⟨st,ps,S,as,R,fl,st',e,q⟩:=z9
  obtain ⟨ts,s1,e1,e2⟩:=Ze e
  refine ⟨st,ps,S,as,R,ts,s1,e1,hsz _ _ _ e1,fun J H1 S1 as1 ps' R1 facts=>?_⟩
  refine ⟨fun i m σ H=>m = ts.length - i∧i≤ts.length∧∃ sti Si asi,Rel X.K B sti σ H (ps' ++ ps) Si asi∧forL g u (ts.drop i) sti = some (fl,st'),⟨ts.length,by simp,Nat.zero_le _,s1,S1,as1,R1,by simpa using e2⟩,?_⟩
  rintro i m σ2 H2 ⟨rfl,hi,sti,Si,asi,Ri,ei⟩
  have F:=facts Si asi H2 (fun p hp=>Ri.pend p (List.mem_append_left _ hp)) Ri.sub
  have sub:∀ p∈ps,p∈ps' ++ ps:=fun p hp=>List.mem_append_right _ hp
  by_cases hlt:i < ts.length
  · rw [List.drop_eq_getElem_cons hlt] at ei
    obtain ⟨s2,fb,s3,eg,eb,er⟩:=Yx ei
    have ht:ts[i]? = some ts[i]:=List.getElem?_eq_getElem hlt
    refine .inr ⟨(F.go i _ ht).1,fun σ' H'=>∃ sti Si asi,Rel X.K B sti σ' H' (ps' ++ ps) Si asi∧forL g u (ts.drop (i + 1)) sti = some (fl,st'),fun σ' H' h=>⟨ts.length - (i + 1),by omega,rfl,hlt,h⟩,fun x H' y=>?_⟩
    obtain ⟨S',ex,rx⟩:=(F.go i _ ht).2 x H' y
    refine ⟨sti,ps' ++ ps,S',asi,_,(Ri.ext ex).push rx,s2,eg,fun σ3 H3 S3 as3 R3=>⟨s2,ps' ++ ps,S3,as3,R3,fb,s3,eb,?_⟩⟩
    cases fb with
    | next=>exact fun σ' H' S' as' R'=>⟨s3,S',as',R',er⟩
    | cont=>exact fun σ' H' S' as' R'=>⟨s3,S',as',R',er⟩
    | brk =>
      obtain ⟨rfl,rfl⟩:=er
      exact fun σ' H' S' as' R'=>q σ' H' S' as' (R'.pick sub)
    | ret v =>
      obtain ⟨rfl,rfl⟩:=er
      exact fun v σ' H' S' as' R'=>q v σ' H' S' as' (R'.pick fun p hp=>by
        rcases List.mem_cons.mp hp with rfl | z
        · exact List.mem_cons_self
        · exact List.mem_cons_of_mem _ (sub p z))
  · have hie:i = ts.length:=by omega
    subst hie
    rw [List.drop_length] at ei
    cases ei
    exact .inl ⟨F.stop _ (Nat.le_refl _),q σ2 H2 Si asi (Ri.pick sub)⟩
end
end C
end
noncomputable section
set_option linter.all false
set_option maxRecDepth 100000
set_option maxHeartbeats 4000002
set_option autoImplicit false
namespace C
open PySem PySem.Spec PyProof.Rows L2
noncomputable section
variable {K:PySem.W.Frag} {B:Bas} {st:Sta} {σ:L2.St} {H H' S S':Hp} {ps ps2:List (V × T)} {as as':List Addr}
theorem Rel.Qy (r:Rel K B st σ H ps S as) {i:Nat} {t:T} (e:st.env[i]? = some (some (t,true))):∃ S',Rel K B { st with env:=st.env.set i (some (t,false)) } σ H ps S' as:=by
  obtain ⟨v,S',_,R⟩:=r.freeze e
  exact ⟨S',R.drop⟩
theorem Rel.au:∀ (cap:List Nat) {st:Sta} {S:Hp},Rel K B st σ H ps S as→∃ S',Rel K B { st with env:=au cap st.env } σ H ps S' as
  | [],st,S,r=>⟨S,r⟩
  | i :: l,st,S,r=>by
    unfold C.au
    rw [List.foldl_cons]
    split
    · rename_i t f e
      cases f with
      | true =>
        obtain ⟨S1,R1⟩:=r.Qy e
        exact Rel.au l R1
      | false =>
        have e2:st.env.set i (some (t,false)) = st.env:=by
          apply List.ext_getElem?
          intro j
          by_cases hij:i = j
          · subst hij
            rw [List.getElem?_set_self (List.getElem?_eq_some_iff.mp e).1,e]
          · rw [List.getElem?_set_ne hij]
        rw [e2]
        exact Rel.au l r
    · exact Rel.au l r
noncomputable def Fq (env:List Slot):Nat→List Slot
  | 0=>env
  | n + 1=>match (Fq env n)[n]? with
    | some (some (t,_))=>(Fq env n).set n (some (t,false))
    | _=>Fq env n
theorem K3 (env:List Slot):∀ n,(Fq env n).length = env.length
  | 0=>rfl
  | n + 1=>by
    rw [Fq]
    split
    · rw [List.length_set]; exact K3 env n
    · exact K3 env n
theorem Jh (env:List Slot):∀ (n j:Nat),(Fq env n)[j]? = if j < n then (env[j]?).map kh else env[j]?
  | 0,j=>by rw [if_neg (Nat.not_lt_zero _)]; rfl
  | n + 1,j=>by
    have ihn:=Jh env n n
    rw [if_neg (Nat.lt_irrefl _)] at ihn
    have ihj:=Jh env n j
    rw [Fq,ihn]
    by_cases hj:j = n
    · subst hj
      rw [if_pos (Nat.lt_succ_self _)]
      cases z:env[j]? with
      | none=>simp only [z,Option.map_none]; rw [ihn,z]
      | some s =>
        have hl:j < (Fq env j).length:=by rw [K3]; exact (List.getElem?_eq_some_iff.mp z).1
        cases s with
        | none=>simp only [Option.map_some]; rw [ihn,z]; rfl
        | some p=>obtain ⟨t,f⟩:=p; simp only [Option.map_some]; rw [List.getElem?_set_self hl]; rfl
    · have e1:(if j < n + 1 then (env[j]?).map kh else env[j]?) = (if j < n then (env[j]?).map kh else env[j]?):=by
        by_cases hlt:j < n
        · rw [if_pos hlt,if_pos (Nat.lt_succ_of_lt hlt)]
        · rw [if_neg hlt,if_neg (by omega)]
      rw [e1,← ihj]
      split
      · rw [List.getElem?_set_ne (Ne.symm hj)]
      · rfl
theorem W0 (env:List Slot):Fq env env.length = env.map kh:=by
  apply List.ext_getElem?
  intro j
  rw [Jh,List.getElem?_map]
  by_cases hj:j < env.length
  · rw [if_pos hj]
  · rw [if_neg hj,List.getElem?_eq_none (Nat.le_of_not_lt hj)]; rfl
theorem Rel.Fq (r:Rel K B st σ H ps S as):∀ n,∃ S',Rel K B { st with env:=C.Fq st.env n } σ H ps S' as
  | 0=>⟨S,r⟩
  | n + 1=>by
    obtain ⟨S1,R1⟩:=Rel.Fq r n
    rw [C.Fq]
    split
    · rename_i t f e
      cases f with
      | true=>exact R1.Qy e
      | false =>
        have e2:(C.Fq st.env n).set n (some (t,false)) = C.Fq st.env n:=by
          apply List.ext_getElem?
          intro j
          by_cases hij:n = j
          · subst hij
            rw [List.getElem?_set_self (List.getElem?_eq_some_iff.mp e).1,e]
          · rw [List.getElem?_set_ne hij]
        rw [e2]
        exact ⟨S1,R1⟩
    · exact ⟨S1,R1⟩
theorem Rel.su (r:Rel K B st σ H ps S as):∃ S',Rel K B (su st) σ H ps S' as:=by
  obtain ⟨S',R⟩:=r.Fq st.env.length
  rw [W0] at R
  exact ⟨S',R⟩
noncomputable def a0g (st:Sta):Prop:=∀ (i:Nat) t,st.env[i]?≠some (some (t,true))
theorem Dc (st:Sta):a0g (C.su st):=fun i t e=>by
  unfold C.su at e
  rw [List.getElem?_map] at e
  cases z:st.env[i]? with
  | none=>rw [z] at e; cases e
  | some s =>
    rw [z] at e
    cases s with
    | none=>cases e
    | some p=>obtain ⟨t,f⟩:=p; cases e
theorem Rel.rebase (r:Rel K B st σ H ps S as) (n:a0g st):Rel K ⟨S,as,H⟩ st σ H ps S as :=
  ⟨r.sub,⟨Same.refl _,nol,fun p o a b c=>⟨a,b,c⟩⟩,fun i t f e=>by
    obtain ⟨v,h1,h2,_⟩:=r.slots i t f e
    exact ⟨v,h1,h2,fun z=>by subst z; exact absurd e (n i t)⟩,r.apart,r.sto,r.pend,r.len⟩
end
theorem W7 {g:G} {c:M Bool} {e:M T} {t:T} {r acc us:List T} {s s':Sta} (h:Dm g c e (t :: r) s acc = some (us,s')):∃ s1 b s2,g t s = some s1∧c s1 = some (b,s2) ∧
    ((b = true∧∃ u s3,e s2 = some (u,s3)∧acc.length < lim∧Dm g c e r (su s3) (acc ++ [u]) = some (us,s'))∨(b = false∧Dm g c e r (su s2) acc = some (us,s'))):=by
  rw [Dm] at h
  split at h
  · rename_i s1 e1
    split at h
    · rename_i s2 e2
      split at h
      · rename_i u s3 e3
        split at h
        · rename_i hl; exact ⟨s1,true,s2,e1,e2,.inl ⟨rfl,u,s3,e3,hl,h⟩⟩
        · cases h
      · cases h
    · rename_i s2 e2; exact ⟨s1,false,s2,e1,e2,.inr ⟨rfl,h⟩⟩
    · cases h
  · cases h
theorem Oc {nv:Nat} {cap:List Nat} {g:G} {it:M (List T)} {c:M Bool} {e:M T} {s s':Sta} {v:T} (h:yq nv cap g it c e s = some (v,s')):∃ ts s1 us s2,it s = some (ts,s1) ∧
    Dm g c e ts ⟨List.replicate nv none ++ cap.map (fun i=>((au cap s1.env)[i]?).getD none),s1.sto⟩ [] = some (us,s2)∧v = .lst us∧s' = ⟨au cap s1.env,s2.sto⟩:=by
  unfold yq at h
  split at h
  · rename_i ts s1 e1
    dsimp only at h
    split at h
    · rename_i us s2 e2; cases h; exact ⟨ts,s1,us,s2,e1,e2,rfl,rfl⟩
    · cases h
  · cases h
noncomputable section
variable {K:PySem.W.Frag} {B:Bas} {st:Sta} {σ:L2.St} {H H' S S':Hp} {ps ps2:List (V × T)} {as as':List Addr} {D:Addr} {ob:HO}
theorem Im.mem {sto:List SO} (r:Im K S as H sto) {a:Addr} (h:a∈as):∃ o,H a = some o:=by
  obtain ⟨n,hn⟩:=List.getElem?_of_mem h
  have hl:=(List.getElem?_eq_some_iff.mp hn).1
  rw [r.len] at hl
  obtain ⟨a',h1,h2,h3⟩:=r.at' n _ (List.getElem?_eq_getElem hl)
  rw [hn] at h1; cases h1
  exact h3.there
theorem Rel.fresh (r:Rel K B st σ H ps S as) (h:H D = none):B.H D = none∧S D = none∧D∉as∧Jg st σ D:=by
  have sD:S D = none:=r.sub.free h
  have nD:D∉as:=fun z=>by obtain ⟨o,e⟩:=r.sto.mem z; rw [h] at e; cases e
  refine ⟨?_,sD,nD,fun j u e1 e2=>?_⟩
  · cases q:B.H D with
    | none=>rfl
    | some o =>
      have b1:B.S D = none:=by
        cases z:B.S D with
        | none=>rfl
        | some u=>have:=r.grow.same _ _ z; rw [sD] at this; cases this
      have b2:D∉B.as:=fun z=>by obtain ⟨l,e⟩:=r.grow.more; exact nD (by rw [e]; exact List.mem_append_left _ z)
      have:=(r.grow.keep D o q b1 b2).1
      rw [h] at this; cases this
  · obtain ⟨v,h1,_,h3⟩:=r.slots j u true e1
    rw [e2] at h1; cases h1
    obtain ⟨p,ep,o⟩:=h3 rfl
    cases ep
    obtain ⟨ob,ho⟩:=o.own.there
    rw [h] at ho; cases ho
theorem Rel.a6b (r:Rel K B st σ H ps S as) (bD:B.H D = none) (sD:S D = none) (nD:D∉as) (no:Jg st σ D):Rel K B st σ (upd H D ob) ps S as:=by
  have ne:∀ b u,S b = some u→b≠D:=fun b u e z=>by subst z; rw [sD] at e; cases e
  refine ⟨fun b u e=>by rw [jg (ne b u e)]; exact r.sub _ _ e,⟨r.grow.same,r.grow.more,fun p o x y z=>?_⟩,fun i t f e=>?_,r.apart,⟨r.sto.len,r.sto.nd,fun n so e=>?_⟩,r.pend,r.len⟩
  · obtain ⟨a,b,c⟩:=r.grow.keep p o x y z
    exact ⟨by rw [jg (fun w=>by subst w; rw [bD] at x; cases x)]; exact a,b,c⟩
  · obtain ⟨v,h1,h2,h3⟩:=r.slots i t f e
    refine ⟨v,h1,h2,fun z=>?_⟩
    obtain ⟨p,rfl,o⟩:=h3 z
    have n:p≠D:=fun w=>by subst w; subst z; exact no i t e h1
    exact ⟨p,rfl,o.own.mono (Same.refl _) (jg n).symm,o.out,o.nas,o.new⟩
  · obtain ⟨a,h1,h2,h3⟩:=r.sto.at' n so e
    exact ⟨a,h1,h2,h3.mono (Same.refl _) (jg (fun w=>by subst w; exact nD (List.mem_of_getElem? h1))).symm⟩
theorem Rel.a5u (r:Rel K B st σ H ps S as) (no:a0g st) (sD:S D = none) (nD:D∉as):Rel K ⟨S,as,upd H D ob⟩ st σ (upd H D ob) ps S as:=by
  have ne:∀ b u,S b = some u→b≠D:=fun b u e z=>by subst z; rw [sD] at e; cases e
  refine ⟨fun b u e=>by rw [jg (ne b u e)]; exact r.sub _ _ e,⟨Same.refl _,nol,fun p o x y z=>⟨x,y,z⟩⟩,fun i t f e=>?_,r.apart,⟨r.sto.len,r.sto.nd,fun n so e=>?_⟩,r.pend,r.len⟩
  · obtain ⟨v,h1,h2,_⟩:=r.slots i t f e
    exact ⟨v,h1,h2,fun z=>by subst z; exact absurd e (no i t)⟩
  · obtain ⟨a,h1,h2,h3⟩:=r.sto.at' n so e
    exact ⟨a,h1,h2,h3.mono (Same.refl _) (jg (fun w=>by subst w; exact nD (List.mem_of_getElem? h1))).symm⟩
end
theorem Gh:∀ (cap:List Nat) (env:List Slot) (k:Nat),(∀ t,env[k]?≠some (some (t,true)))→∀ t,(au cap env)[k]?≠some (some (t,true))
  | [],env,k,h=>h
  | i :: l,env,k,h=>by
    have e:au (i :: l) env = au l (match env[i]? with | some (some (t,_))=>env.set i (some (t,false)) | _=>env):=rfl
    rw [e]
    refine Gh l _ k fun t=>?_
    split
    · rename_i t' f e'
      by_cases hk:i = k
      · subst hk
        rw [List.getElem?_set_self (List.getElem?_eq_some_iff.mp e').1]
        intro z; cases z
      · rw [List.getElem?_set_ne hk]; exact h t
    · exact h t
theorem Ga:∀ (cap:List Nat) (env:List Slot) (k:Nat),k∈cap→∀ t,(au cap env)[k]?≠some (some (t,true))
  | [],env,k,h=>by simp at h
  | i :: l,env,k,h=>by
    have e:au (i :: l) env = au l (match env[i]? with | some (some (t,_))=>env.set i (some (t,false)) | _=>env):=rfl
    rw [e]
    rcases List.mem_cons.mp h with rfl | h' -- here
    · refine Gh l _ k fun t=>?_
      split
      · rename_i t' f e'
        rw [List.getElem?_set_self (List.getElem?_eq_some_iff.mp e').1]
        intro z; cases z
      · rename_i hx
        intro z
        exact hx _ _ z
    · exact Ga l _ k h'
noncomputable def gE (K:PySem.W.Frag) (g:G):TG:=fun v σ H Q=>∃ B,gOf K B g v σ H Q
noncomputable def cE (K:PySem.W.Frag) (c:M Bool):TT:=fun σ H Q=>∃ B,cOf K B c σ H Q
noncomputable def eE (K:PySem.W.Frag) (e:M T):TE:=fun σ H Q=>∃ B,tOf K B e σ H Q
theorem pgE {X:Cx} {tg:Expr} {g:G} (h:∀ B,PG X tg (gOf X.K B g)):PG X tg (gE X.K g):=fun pins s σ H x u Q I r ⟨B,q⟩=>h B pins s σ H x u Q I r q
theorem ptE {X:Cx} {e:Expr} {c:M Bool} (h:∀ B,PT X e (cOf X.K B c)):PT X e (cE X.K c):=fun pins s σ H Q I ⟨B,q⟩=>h B pins s σ H Q I q
theorem peE {X:Cx} {e:Expr} {m:M T} (h:∀ B,PE X e (tOf X.K B m)):PE X e (eE X.K m):=fun pins s σ H Q I ⟨B,q⟩=>h B pins s σ H Q I q
theorem vg {X:Cx}:PTs X [] (cE X.K iu):=fun pins s σ H Q I z9=>by
  obtain ⟨B,st,ps,S,as,R,b,st',e,q⟩:=z9
  cases e
  exact a2c pins s σ H Q I (q H S as R)
theorem Zb {X:Cx} {e:Expr} {c:M Bool} (h:∀ B,PT X e (cOf X.K B c)):PTs X [e] (cE X.K c):=a1i (ptE h)
noncomputable section
variable {X:Cx} {scope:Scope} {N:List Str}
theorem Nu {B:Bas} {nv:Nat} {cap:List Nat} {g:G} {c:M Bool} {e:M T} {ts us:List T} {env:List Slot} {sto1:List SO} {s2:Sta} {σ:L2.St} {H1 S1:Hp} {as1:List Addr} {ps ps':List (V × T)} {J:It} {Q:VK}
    (hN:N.length = nv + cap.length) (hv:∀ i x,i < nv→N[i]? = some x→True)
    (hcap:∀ (j k:Nat),cap[j]? = some k→∃ x,N[nv + j]? = some x∧X.N[k]? = some x∧a6g X scope x)
    (R1:Rel X.K B ⟨env,sto1⟩ σ H1 (ps' ++ ps) S1 as1) (hno:∀ k∈cap,∀ t,env[k]?≠some (some (t,true)))
    (facts:∀ S as H,Same B.S S→(∃ l,as = B.as ++ l)→(∀ p∈ps',Rep X.K S as p.1 p.2)→Same S H→Ju X.K S as H J ts)
    (hc:Dm g c e ts ⟨List.replicate nv none ++ cap.map (fun i=>(env[i]?).getD none),sto1⟩ [] = some (us,s2))
    (fin:∀ D H' S' as',Rel X.K B ⟨env,s2.sto⟩ σ H' (ps' ++ ps) S' as'→Lb X.K B S' as' H' D (.lst us)→Jg ⟨env,s2.sto⟩ σ D→Q (.ref D) H') :
    Qd X scope N (gE X.K g) (cE X.K c) (eE X.K e) σ J H1 Q:=by
  intro D hD
  obtain ⟨bD,sD1,nD1,noD⟩:=R1.fresh hD
  have capg:∀ (i:Nat) s,(List.replicate nv (none:Slot) ++ cap.map (fun i=>(env[i]?).getD none))[i]? = some (some s)→∃ j k,i = nv + j∧cap[j]? = some k∧env[k]? = some (some s):=fun i s h=>by
    by_cases hi:i < nv
    · rw [List.getElem?_append_left (by rw [List.length_replicate]; exact hi)] at h
      have:=List.eq_of_mem_replicate (List.mem_of_getElem? h); cases this
    · rw [List.getElem?_append_right (by rw [List.length_replicate]; exact Nat.le_of_not_lt hi),List.length_replicate,List.getElem?_map] at h
      cases z:cap[i - nv]? with
      | none=>rw [z] at h; cases h
      | some k =>
        rw [z] at h
        refine ⟨i - nv,k,by omega,z,?_⟩
        cases w:env[k]? with
        | none=>simp [w] at h
        | some s'=>simp [w] at h; rw [h]
  have sig:∀ (j k:Nat) v,cap[j]? = some k→σ[k]? = some (some v)→(List.replicate nv (none:Option V) ++ cap.map (fun i=>(σ[i]?).getD none))[nv + j]? = some (some v):=fun j k v h1 h2=>by
    rw [List.getElem?_append_right (by rw [List.length_replicate]; omega),List.length_replicate,Nat.add_sub_cancel_left,List.getElem?_map,h1]
    simp [h2]
  refine ⟨List.replicate nv none ++ cap.map (fun i=>(σ[i]?).getD none),by rw [List.length_append,List.length_replicate,List.length_map,hN],fun i v x h1 h2 _=>?_,?_⟩
  · by_cases hi:i < nv
    · rw [List.getElem?_append_left (by rw [List.length_replicate]; exact hi)] at h1
      have:=List.eq_of_mem_replicate (List.mem_of_getElem? h1); cases this
    · rw [List.getElem?_append_right (by rw [List.length_replicate]; exact Nat.le_of_not_lt hi),List.length_replicate,List.getElem?_map] at h1
      cases z:cap[i - nv]? with
      | none=>rw [z] at h1; cases h1
      | some k =>
        rw [z] at h1
        obtain ⟨y,n1,n2,ck⟩:=hcap _ _ z
        have e:nv + (i - nv) = i:=by omega
        rw [e,h2] at n1; cases n1
        refine ⟨k,n2,?_,ck⟩
        cases w:σ[k]? with
        | none=>simp [w] at h1
        | some s'=>simp [w] at h1; rw [h1]
  refine ⟨fun i m σ' H'=>m = ts.length - i∧i≤ts.length∧∃ sti Si asi acc accv,Rel X.K ⟨Si,asi,H'⟩ sti σ' H' [] Si asi∧a0g sti∧Rel X.K B ⟨env,sti.sto⟩ σ H' (ps' ++ ps) Si asi∧H' D = some (.lst accv)∧Si D = none∧D∉asi ∧
    uq X.K Si asi accv acc∧Dm g c e (ts.drop i) sti acc = some (us,s2),⟨ts.length,by simp,Nat.zero_le _,_,S1,as1,[],[],?_,?_,?_,jd,sD1,nD1,.nil,hc⟩,?_⟩
  · refine Rel.a5u (B:=B) (H:=H1) ⟨R1.sub,R1.grow,fun i t f h=>?_,fun i j t u p hi hj=>?_,R1.sto,(fun p hp=>by cases hp),?_⟩ (fun i t h=>?_) sD1 nD1
    · obtain ⟨j,k,rfl,hk,ek⟩:=capg i _ h
      obtain ⟨v,h1,h2,h3⟩:=R1.slots k t f ek
      exact ⟨v,sig j k v hk h1,h2,h3⟩
    · obtain ⟨j,k,rfl,hk,ek⟩:=capg i _ hi
      exact absurd ek (hno k (List.mem_of_getElem? hk) t)
    · show (List.replicate nv (none:Option V) ++ cap.map _).length = (List.replicate nv (none:Slot) ++ cap.map _).length
      rw [List.length_append,List.length_append,List.length_replicate,List.length_replicate,List.length_map,List.length_map]
    · obtain ⟨j,k,rfl,hk,ek⟩:=capg i _ h
      exact absurd ek (hno k (List.mem_of_getElem? hk) t)
  · intro i t h
    obtain ⟨j,k,rfl,hk,ek⟩:=capg i _ h
    exact absurd ek (hno k (List.mem_of_getElem? hk) t)
  · exact R1.a6b bD sD1 nD1 noD
  rintro i m σ' H' ⟨rfl,hi,sti,Si,asi,acc,accv,Ri,no,Ro,hD',sD,nD,rA,ei⟩
  have F:=facts Si asi H' Ro.grow.same Ro.grow.more (fun p hp=>Ro.pend p (List.mem_append_left _ hp)) Ri.sub
  by_cases hlt:i < ts.length
  · rw [List.drop_eq_getElem_cons hlt] at ei
    obtain ⟨s3,b,s4,eg,ec,er⟩:=W7 ei
    have ht:ts[i]? = some ts[i]:=List.getElem?_eq_getElem hlt
    refine .inr ⟨(F.go i _ ht).1,fun x H2 y=>?_⟩
    obtain ⟨S2,ex,rx⟩:=(F.go i _ ht).2 x H2 y
    refine ⟨⟨Si,asi,H'⟩,sti,[],S2,asi,_,(Ri.ext ex).push rx,s3,eg,fun σ3 H3 S3 as3 R3=>⟨⟨Si,asi,H'⟩,s3,[],S3,as3,R3,b,s4,ec,fun H4 S4 as4 R4=>?_⟩⟩
    rcases er with ⟨rfl,w,s5,ee,hlen,erest⟩ | ⟨rfl,erest⟩
    · refine a5n ⟨⟨Si,asi,H'⟩,s4,[],S4,as4,R4,w,s5,ee,fun y H5 S5 as5 R5=>?_⟩
      obtain ⟨S6,R6⟩:=R5.su
      obtain ⟨k1,k2,k3⟩:=R6.grow.keep D _ hD' sD nD
      have Ro2:=Ro.call R6.grow R6.sub R6.sto
      refine ⟨accv,k1,?_,ts.length - (i + 1),by omega,rfl,hlt,su s5,S6,as5,acc ++ [w],accv ++ [y],R6.drop.a5u (Dc _) k2 k3,Dc _,Ro2.a6b bD k2 k3 noD,jd,k2,k3,(rA.mono R6.grow.same R6.grow.more).append (.cons R6.top .nil),erest⟩
      rw [rA.length]; exact Nat.lt_of_lt_of_le hlen u9
    · refine a4o ?_
      obtain ⟨S6,R6⟩:=R4.su
      obtain ⟨k1,k2,k3⟩:=R6.grow.keep D _ hD' sD nD
      have Ro2:=Ro.call R6.grow R6.sub R6.sto
      exact ⟨ts.length - (i + 1),by omega,rfl,hlt,su s4,S6,as4,acc,accv,R6.rebase (Dc _),Dc _,Ro2,k1,k2,k3,rA.mono R6.grow.same R6.grow.more,erest⟩
  · have hie:i = ts.length:=by omega
    subst hie
    rw [List.drop_length] at ei
    cases ei
    exact .inl ⟨F.stop _ (Nat.le_refl _),fin D H' Si asi Ro ⟨⟨accv,hD',rA⟩,sD,nD,bD⟩ noD⟩
theorem Rel.give {K:PySem.W.Frag} {B:Bas} {st:Sta} {σ:L2.St} {H S:Hp} {ps:List (V × T)} {as:List Addr} {p:Addr} {t:T} (r:Rel K B st σ H ps S as) (o:Lb K B S as H p t) (no:Jg st σ p):∃ S',Rel K B st σ H ((.ref p,t) :: ps) S' as:=by
  obtain ⟨ob,ho⟩:=o.own.there
  have sS:Same S (upd S p ob):=Same.upd o.out ob
  have rep:Rep K (upd S p ob) as (.ref p) t:=by
    have w:=o.own
    cases t with
    | lst ts=>obtain ⟨vs,h,q⟩:=w; rw [ho] at h; cases h; exact .lst (SqL.of jd) (q.mono sS nol)
    | dic ts=>obtain ⟨vs,h,q⟩:=w; rw [ho] at h; cases h; exact .dic (.inl jd) (q.mono sS nol)
    | _=>exact w.elim
  have outs:∀ q,S q = none→q≠p→upd S p ob q = none:=fun q h n=>by rw [jg n]; exact h
  refine ⟨upd S p ob,Rel.push (v:=.ref p) (t:=t) ⟨?_,?_,?_,r.apart,?_,fun q hq=>(r.pend q hq).mono sS nol,r.len⟩ rep⟩
  · intro b u q
    by_cases z:b = p
    · subst z; rw [jd] at q; cases q; exact ho
    · rw [jg z] at q; exact r.sub _ _ q
  · refine ⟨r.grow.same.trans sS,r.grow.more,fun q w a b c=>?_⟩
    obtain ⟨x,y,z⟩:=r.grow.keep q w a b c
    refine ⟨x,outs q y fun n=>?_,z⟩
    subst n; rw [o.new] at a; cases a
  · intro j u f ej
    obtain ⟨v',a1,a2,a3⟩:=r.slots j u f ej
    refine ⟨v',a1,fun z=>(a2 z).mono sS nol,fun z=>?_⟩
    subst z
    obtain ⟨p',rfl,o'⟩:=a3 rfl
    refine ⟨p',rfl,o'.own.mono sS rfl,outs p' o'.out fun n=>?_,o'.nas,o'.new⟩
    subst n
    exact no j u ej a1
  · refine ⟨r.sto.len,r.sto.nd,fun n so en=>?_⟩
    obtain ⟨a,a1,a2,a3⟩:=r.sto.at' n so en
    refine ⟨a,a1,outs a a2 fun z=>?_,a3.mono sS rfl⟩
    subst z
    exact o.nas (List.mem_of_getElem? a1)
theorem Ww {K:PySem.W.Frag} {B:Bas} {m:M T} {σ:L2.St} {H:Hp} {Q:VK} (h:tOf K B m σ H Q):fOf K B m σ H Q:=by
  obtain ⟨st,ps,S,as,R,t,st',e,q⟩:=h
  refine ⟨st,ps,S,as,R,t,st',e,fun p H' S' as' R' o n=>?_⟩
  obtain ⟨S2,R2⟩:=R'.give o n
  exact q _ H' S2 as' R2
theorem vh {e:Expr} {B:Bas} {m:M T} (h:PE X e (fOf X.K B m)):PE X e (tOf X.K B m):=h.imp fun σ H Q=>Ww
variable {B:Bas} {nv:Nat} {cap:List Nat} {g:G} {it:M (List T)} {c:M Bool} {e:M T} {tg iter elt:Expr} {ifs:List Expr} {pos:Pos}
structure Xr (X:Cx) (scope:Scope) (N:List Str) (nv:Nat) (cap:List Nat):Prop where
  len:N.length = nv + cap.length
  at':∀ (j k:Nat),cap[j]? = some k→∃ x,N[nv + j]? = some x∧X.N[k]? = some x∧a6g X scope x
theorem W3 (co:Xr X scope N nv cap) (hsz:∀ st ts st',it st = some (ts,st')→ts.length≤sizeLine) {σ:L2.St} {H:Hp} {Q:VK} (h:fOf X.K B (yq nv cap g it c e) σ H Q) :
    a0f X scope N (iOf X.K B it) (gE X.K g) (cE X.K c) (eE X.K e) σ H Q:=by
  obtain ⟨st,ps,S,as,R,t,st',e,q⟩:=h
  obtain ⟨ts,s1,us,s2,e1,e2,rfl,rfl⟩:=Oc e
  refine ⟨st,ps,S,as,R,ts,s1,e1,hsz _ _ _ e1,fun J H1 S1 as1 ps' R1 facts=>?_⟩
  obtain ⟨S2,R2⟩:=R1.au cap
  exact Nu co.len (fun _ _ _ _=>trivial) co.at' R2 (fun k hk=>Ga cap s1.env k hk) (fun S as H _ _=>facts S as H) e2 fun D H' S' as' R' o n=>q D H' S' as' (R'.pick fun p hp=>List.mem_append_right _ hp) o n
theorem Ax (co:Xr X scope N nv cap) (sc:Hw X scope N) (calm:X.calm = true) (hi:PI X tg iter (iOf X.K B it)) (hsz:∀ st ts st',it st = some (ts,st')→ts.length≤sizeLine)
    (hg:∀ C s₀ H₀ ex pn,PG (xu X scope N C s₀ H₀ ex pn) tg (gE X.K g)) (hc:∀ C s₀ H₀ ex pn,PTs (xu X scope N C s₀ H₀ ex pn) ifs (cE X.K c)) (he:∀ C s₀ H₀ ex pn,PE (xu X scope N C s₀ H₀ ex pn) elt (eE X.K e))
    (hs:∀ x,foldedSetIterable iter X.env x = pure x:=by intro _; rfl):PE X (.ListComp elt [⟨tg,iter,ifs,0⟩] scope pos) (fOf X.K B (yq nv cap g it c e)) :=
  (Ws sc calm hi hg hc he hs).imp fun σ H Q h=>W3 co hsz h
end
end C
end
noncomputable section
set_option linter.all false
set_option maxRecDepth 100000
set_option maxHeartbeats 4000002
set_option autoImplicit false
namespace C
open PySem PySem.Spec PyProof.Rows L2
noncomputable section
variable {X:Cx}
theorem Rj {f:Value→Value→Sem Value} {g:T→T→Option T} {r:R2} (h:OpR X f r)
    (k:∀ S as x y t u w,Rep X.K S as x t→Rep X.K S as y u→g t u = some w→∀ (H:Hp) (Q:VK),Same S H→(∀ v H' S',Ext S H S' H'→Rep X.K S' as v w→Q v H')→r x y H Q):OpT X f g:=by
  intro pins s σ H x y v u Q I rx ry ⟨S,as,t,w,z,sub,ht,hu,hf,q⟩
  exact h pins s σ H x y v u Q I rx ry (k S as x y t w z ht hu hf H Q sub q)
theorem Dr {K:PySem.W.Frag} {S:Hp} {as:List Addr} {x y:V} {t u w:T} {g:T→T→Option T} {P:Prop} (ht:Rep K S as x t) (hu:Rep K S as y u) (hf:g t u = some w)
    (n1:∀ t u,(∀ i,t≠.int i)→g t u = none) (n2:∀ i u,(∀ j,u≠.int j)→g (.int i) u = none) (k:∀ i j,x = .int i→y = .int j→g (.int i) (.int j) = some w→P):P:=by
  by_cases h1:∃ i,t = .int i
  · obtain ⟨i,rfl⟩:=h1
    by_cases h2:∃ j,u = .int j
    · obtain ⟨j,rfl⟩:=h2
      cases ht; cases hu
      exact k i j rfl rfl hf
    · rw [n2 i u fun j e=>h2 ⟨j,e⟩] at hf; cases hf
  · rw [n1 t u fun i e=>h1 ⟨i,e⟩] at hf; cases hf
theorem Bm:OpT X (binaryOp .Sub) jw:=Rj a4c fun S as x y t u w ht hu hf H Q sub q =>
  Dr (g:=jw) ht hu hf (fun t u h=>by cases t <;> first | rfl | exact absurd rfl (h _)) (fun i u h=>by cases u <;> first | rfl | exact absurd rfl (h _)) fun i j ex ey hf=>by
  subst ex ey; cases hf
  exact ⟨_,_,rfl,rfl,q _ H S (Ext.refl sub) (.int _)⟩
theorem Aw:OpT X (binaryOp .Mod) jy:=Rj a4g fun S as x y t u w ht hu hf H Q sub q =>
  Dr (g:=jy) ht hu hf (fun t u h=>by cases t <;> first | rfl | exact absurd rfl (h _)) (fun i u h=>by cases u <;> first | rfl | exact absurd rfl (h _)) fun i j ex ey hf=>by
  subst ex ey
  simp only [jy] at hf
  split at hf
  · cases hf; exact ⟨_,_,rfl,rfl,by assumption,q _ H S (Ext.refl sub) (.int _)⟩
  · cases hf
noncomputable def a6m (i j:Int):Prop:=0 < j∧(j < 1073741824∨j.natAbs < fdl)
theorem a06:OpR X (binaryOp .FloorDiv) (rI a6m fun i j=>.int (i / j)):=opI fun i j _ _ _ _ _ hc q=>by
  have h1:(0:Int) < j:=hc.1
  have h2:j.natAbs < 2 ^ 200:=by
    rcases hc.2 with h | h
    · exact Nat.lt_trans (show j.natAbs < 1073741824 by omega) (by decide)
    · exact h
  exact floordiv_int (by omega) (by rw [Int.fdiv_eq_ediv_of_nonneg i (by omega)]; exact q) (.inl (PyProof.noPylong_of_log2 (Nat.lt_trans ((Nat.log2_lt (by omega)).mpr h2) (by decide))))
theorem Fo:OpT X (binaryOp .FloorDiv) iy:=Rj a06 fun S as x y t u w ht hu hf H Q sub q =>
  Dr (g:=iy) ht hu hf (fun t u h=>by cases t <;> first | rfl | exact absurd rfl (h _)) (fun i u h=>by cases u <;> first | rfl | exact absurd rfl (h _)) fun i j ex ey hf=>by
  subst ex ey
  simp only [iy] at hf
  split at hf
  · rename_i hc; cases hf; exact ⟨_,_,rfl,rfl,hc,q _ H S (Ext.refl sub) (.int _)⟩
  · cases hf
theorem Mr:OpT X (binaryOp .Pow) Tc:=Rj a5t fun S as x y t u w ht hu hf H Q sub q =>
  Dr (g:=Tc) ht hu hf (fun t u h=>by cases t <;> first | rfl | exact absurd rfl (h _)) (fun i u h=>by cases u <;> first | rfl | exact absurd rfl (h _)) fun i j ex ey hf=>by
  subst ex ey
  simp only [Tc] at hf
  split at hf
  · rename_i h; cases hf; exact ⟨_,_,rfl,rfl,⟨h.1,by omega,by omega⟩,q _ H S (Ext.refl sub) (.int _)⟩
  · cases hf
theorem Lx:OpT X (compareOp .Lt) ltT:=Rj a7i fun S as x y t u w ht hu hf H Q sub q =>
  Dr (g:=ltT) ht hu hf (fun t u h=>by cases t <;> first | rfl | exact absurd rfl (h _)) (fun i u h=>by cases u <;> first | rfl | exact absurd rfl (h _)) fun i j ex ey hf=>by
  subst ex ey; cases hf
  exact ⟨_,_,rfl,rfl,q _ H S (Ext.refl sub) (.bl _)⟩
theorem a0j:OpT X (compareOp .LtE) leT:=Rj a6l fun S as x y t u w ht hu hf H Q sub q =>
  Dr (g:=leT) ht hu hf (fun t u h=>by cases t <;> first | rfl | exact absurd rfl (h _)) (fun i u h=>by cases u <;> first | rfl | exact absurd rfl (h _)) fun i j ex ey hf=>by
  subst ex ey; cases hf
  exact ⟨_,_,rfl,rfl,q _ H S (Ext.refl sub) (.bl _)⟩
theorem a0z:OpT X (compareOp .Gt) gtT:=Rj a74 fun S as x y t u w ht hu hf H Q sub q =>
  Dr (g:=gtT) ht hu hf (fun t u h=>by cases t <;> first | rfl | exact absurd rfl (h _)) (fun i u h=>by cases u <;> first | rfl | exact absurd rfl (h _)) fun i j ex ey hf=>by
  subst ex ey; cases hf
  exact ⟨_,_,rfl,rfl,q _ H S (Ext.refl sub) (.bl _)⟩
theorem Xx:UnT X (unaryOp .USub) m6:=by
  intro pins s σ H x v Q I rx ⟨S,as,t,w,sub,ht,hf,q⟩
  cases ht <;> simp only [m6,reduceCtorEq] at hf
  cases hf
  exact a4u pins s σ H _ v Q I rx ⟨_,rfl,q _ H S (Ext.refl sub) (.int _)⟩
noncomputable def a7n (K:PySem.W.Frag):R2:=fun x y H Q=>∃ l b xs zs,x = .ref l∧y = .ref b∧SqL K H l xs∧SqL K H b zs∧xs.length + zs.length≤sizeLine∧∀ p,H p = none→Q (.ref p) (upd H p (.lst (xs ++ zs)))
theorem a1g:OpR X (binaryOp .Add) (a7n X.K):=by
  intro pins s σ H x y v u Q I rx ry h
  obtain ⟨l,b,xs,zs,rfl,rfl,hH,hB,hz,q⟩:=h
  cases rx
  cases ry
  obtain ⟨its,r,p1,hl⟩:=I.list hH
  obtain ⟨its2,r2,p2,hl2⟩:=I.list hB
  obtain ⟨⟨cls,dd,data,sl⟩,n,ho,hc,hd0,hd⟩:=id p1
  obtain ⟨⟨cls2,dd2,data2,sl2⟩,n2,ho2,hc2,hd02,hd2⟩:=id p2
  simp only at hc hd hc2 hd2
  subst hc hd hc2 hd2
  refine concat_meets ⟨_,ho,rfl⟩ ⟨_,ho2,rfl⟩ noFill_list_add seq_list_add PySem.F.slot_list_add PySem.F.entry_list_add (PySem.F.args_list_add_2 _ _)
      (list_addW l b its.toArray its2.toArray n n2 dd dd2 sl sl2 (by rw [List.size_toArray,List.size_toArray,← r.length,← r2.length]; exact hz)) ⟨ho,ho2,?_⟩
  have ea:its.toArray ++ its2.toArray = (its ++ its2).toArray:=by simp
  rw [ea]
  exact ⟨.ref _,_,I.a7t (t':=s.toks) (r.append r2) (by rw [List.length_append]; exact hz),rfl,q _ I.fresh⟩
noncomputable def a5i (K:PySem.W.Frag):R2:=fun x y H Q=>∃ a b ys,x = .ref a∧y = .ref b∧SqT K H a []∧SqT K H b ys∧Q (.ref b) H
theorem a01:OpR X (binaryOp .Add) (a5i X.K):=by
  intro pins s σ H x y v u Q I rx ry h
  obtain ⟨a,b,ys,rfl,rfl,ha,hb,q⟩:=h
  cases rx
  cases ry
  obtain ⟨its,r1,p1,_⟩:=I.tuple ha
  obtain ⟨its2,r2,p2,_⟩:=I.tuple hb
  cases r1
  obtain ⟨⟨cls,dd,data,sl⟩,ho,hc,n,hd⟩:=id p1
  obtain ⟨⟨cls2,dd2,data2,sl2⟩,ho2,hc2,n2,hd2⟩:=id p2
  simp only at hc hd hc2 hd2
  subst hc hd hc2 hd2
  exact concat_meets ⟨_,ho,rfl⟩ ⟨_,ho2,rfl⟩ noFill_tuple_add seq_tuple_add PySem.F.slot_tuple_add PySem.F.entry_tuple_add (PySem.F.args_tuple_add_2 _ _)
      (tuple_addW0 a b _ its2.toArray n n2 dd dd2 sl sl2 (by rfl)) ⟨ho,ho2,⟨.ref b,H,I,rfl,q⟩⟩
theorem wu:OpT X (binaryOp .Add) jr:=by
  intro pins s σ H x y v u Q I rx ry ⟨S,as,t,t2,w,sub,ht,hu,hf,q⟩
  cases ht <;> first | exact nomatch (show none = some w from hf) | cases hu <;> first | exact nomatch (show none = some w from hf) | simp only [jr] at hf
  · cases hf
    exact a5f pins s σ H _ _ v u Q I rx ry ⟨_,_,rfl,rfl,q _ H S (Ext.refl sub) (.int _)⟩
  · split at hf
    · rename_i hl; cases hf
      exact Ue pins s σ H _ _ v u Q I rx ry ⟨_,_,rfl,rfl,Nat.le_trans (Nat.le_of_lt hl) u9,q _ H S (Ext.refl sub) (.str _)⟩
    · cases hf
  · rename_i a vs ts hs hr b ws us hs2 hr2
    split at hf
    · rename_i hl; cases hf
      have hz:vs.length + ws.length≤sizeLine:=by rw [hr.length,hr2.length]; exact Nat.le_trans (Nat.le_of_lt hl) u9
      cases hr with
      | nil=>exact a01 pins s σ H _ _ v u Q I rx ry ⟨_,_,_,rfl,rfl,sy sub hs,sy sub hs2,q _ H S (Ext.refl sub) (.tup hs2 hr2)⟩
      | @cons v0 t0 vs0 ts0 h1 h2 =>
        refine a1x pins s σ H _ _ v u Q I rx ry ⟨_,_,_,_,rfl,rfl,sy sub hs,sy sub hs2,by simp,hz,fun z=>?_,fun z p hp=>?_⟩
        · subst z
          cases hr2
          rw [List.append_nil] at q
          exact q _ H S (Ext.refl sub) (.tup hs (.cons h1 h2))
        · have x:=Ext.laid sub hp (.tup ((v0 :: vs0) ++ ws))
          exact q _ _ _ x (.tup (SqT.of jd) (((uq.cons h1 h2).append hr2).mono x.s nol))
    · cases hf
  · rename_i a vs ts hs hr b ws us hs2 hr2
    split at hf
    · rename_i hl; cases hf
      have hz:vs.length + ws.length≤sizeLine:=by rw [hr.length,hr2.length]; exact Nat.le_trans (Nat.le_of_lt hl) u9
      refine a1g pins s σ H _ _ v u Q I rx ry ⟨_,_,_,_,rfl,rfl,qg sub hs,qg sub hs2,hz,fun p hp=>?_⟩
      have x:=Ext.laid sub hp (.lst (vs ++ ws))
      exact q _ _ _ x (.lst (SqL.of jd) ((hr.append hr2).mono x.s nol))
    · cases hf
theorem a3j (x:Str) (n:Int) (h:0≤n):Txt.mul x n = ⟨((List.replicate n.toNat x.cps.toList).flatten).toArray⟩:=by
  have key:∀ (k:Nat) (acc:Array Nat),(List.replicate k x.cps).foldl (· ++ ·) acc = acc ++ ((List.replicate k x.cps.toList).flatten).toArray:=by
    intro k
    induction k with
    | zero=>intro acc; simp
    | succ k ih =>
      intro acc
      rw [List.replicate_succ,List.foldl_cons,ih,List.replicate_succ,List.flatten_cons]
      apply Array.ext'
      simp
  unfold Txt.mul
  by_cases h1:n < 1
  · have:n = 0:=by omega
    subst this
    rw [if_pos h1]; rfl
  · rw [if_neg h1]
    by_cases h2:(n == 1 || x.length == 0) = true
    · rw [if_pos h2]
      rw [Bool.or_eq_true] at h2
      rcases h2 with h2 | h2
      · have:n = 1:=by simpa using h2
        subst this
        cases x; simp
      · have h3:x.cps.size = 0:=by simpa [Str.length] using h2
        obtain ⟨c⟩:=x
        have h4:c = #[]:=Array.eq_empty_of_size_eq_zero h3
        subst h4
        congr 1
        apply Array.ext'
        simp
    · rw [if_neg h2,key]
      congr 1
      apply Array.ext'
      simp
theorem Dq:OpT X (binaryOp .Mult) Jj:=by
  intro pins s σ H x y v u Q I rx ry ⟨S,as,t,t2,w,sub,ht,hu,hf,q⟩
  cases ht <;> first | exact nomatch (show none = some w from hf) | cases hu <;> first | exact nomatch (show none = some w from hf) | simp only [Jj] at hf
  · split at hf
    · rename_i hb; cases hf
      refine a4b pins s σ H _ _ v u Q I rx ry ⟨_,_,rfl,rfl,?_,q _ H S (Ext.refl sub) (.int _)⟩
      rw [Bool.or_eq_true] at hb
      rcases hb with h | h
      · exact .inl (of_decide_eq_true h)
      · exact .inr (of_decide_eq_true h)
    · cases hf
  · rename_i z j
    split at hf
    · rename_i hb; cases hf
      obtain ⟨t',rfl⟩:=rx
      obtain ⟨t2',rfl⟩:=ry
      refine SB.mul ⟨?_,fun _ _=>?_,fun _ _=>?_⟩ fun t3 k=>⟨.str (Txt.mul z j),H,I.tok _,⟨_,rfl⟩,?_⟩
      · have h1:¬ j < -(2 ^ 63:Int):=by omega
        have h2:¬ j ≥ 2 ^ 63:=by omega
        rw [decide_eq_false h1,decide_eq_false h2]; rfl
      · have h1:(z.length:Int)≤100:=by omega
        have h2:(100:Int)≤(2 ^ 63 - 1) / j:=by
          have hj:0 < j:=by
            rcases Int.lt_or_le 0 j with h | h
            · exact h
            · exfalso
              have:j = 0:=by omega
              subst this
              rename_i a _; exact a (by decide)
          exact (Int.le_ediv_iff_mul_le hj).mpr (by omega)
        omega
      · have h3:z.length * j.toNat≤100 * 1000:=Nat.mul_le_mul hb.2.2 (by omega)
        unfold Builtin.Str.tooLong
        rw [sizeLine_eq]
        exact decide_eq_false (by omega)
      · rw [a3j z j hb.1]; exact q _ H S (Ext.refl sub) (.str _)
    · cases hf
end
end C
end
noncomputable section
set_option linter.all false
set_option maxRecDepth 100000
set_option maxHeartbeats 4000002
set_option autoImplicit false
namespace C
open PySem PySem.Spec PyProof.Rows L2
noncomputable section
variable {X:Cx} {B:Bas} {a b c e o:Expr} {m m1 m2:M T} {pos p:Pos}
theorem Nr (n:Nat) (i:Int):ixI n i = ixN n i:=rfl
theorem U9 {K:PySem.W.Frag} {S:Hp} {as:List Addr} {y:V} {t:T} {q:L2.Key} (r:Rep K S as y t) (h:keyOf t = some q):y = kV q:=by
  cases r <;> simp only [keyOf,reduceCtorEq] at h <;> (cases h; rfl)
noncomputable def a76:R2:=fun x y H Q=>∃ a v,x = .ref a∧W5 H a y (some v)∧Q v H
theorem a2u (hu:X.A.units + 1 < cLine):IxR X a76:=by
  intro value slice pins s σ H x y v u Q I rx ry ⟨a,w,ex,g,q⟩ hs
  subst ex
  cases rx
  refine tail_any (Jx I g) slot_dict_getitem.lookup (Oj hu I g ry fun w' s' I' r'=>⟨w,H,I',r',q⟩) hs
theorem Ye (hu:X.A.units + 1 < cLine):IxR X (r2 X.K gb):=by
  intro value slice pins s σ H x y v u Q I rx ry ⟨S,as,t,t2,w,sub,ht,hu2,hf,q⟩ hs
  cases ht with
  | @tup a vs ts h1 h2 =>
    cases hu2 <;> simp only [gb,reduceCtorEq] at hf
    rename_i i
    obtain ⟨j,e1,e2⟩:=Option.bind_eq_some_iff.mp hf
    obtain ⟨z,hz,rz⟩:=h2.get e2
    refine a5l value slice pins s σ H _ _ v u Q I rx ry ⟨a,vs,i,z,rfl,rfl,sy sub h1,?_,q z H S (Ext.refl sub) rz⟩ hs
    rw [Nr,← h2.length] at e1
    unfold atI; rw [e1]; exact hz
  | @lst a vs ts h1 h2 =>
    cases hu2 <;> simp only [gb,reduceCtorEq] at hf
    rename_i i
    obtain ⟨j,e1,e2⟩:=Option.bind_eq_some_iff.mp hf
    obtain ⟨z,hz,rz⟩:=h2.get e2
    refine Wo value slice pins s σ H _ _ v u Q I rx ry ⟨a,vs,i,z,rfl,rfl,qg sub h1,?_,q z H S (Ext.refl sub) rz⟩ hs
    rw [Nr,← h2.length] at e1
    unfold atI; rw [e1]; exact hz
  | str z =>
    cases hu2 <;> simp only [gb,reduceCtorEq] at hf
    rename_i i
    split at hf
    · rename_i hl
      obtain ⟨j,e1,e2⟩:=Option.bind_eq_some_iff.mp hf
      obtain ⟨cc,e3,e4⟩:=Option.map_eq_some_iff.mp e2
      subst e4
      refine a5e value slice pins s σ H _ _ v u Q I rx ry ⟨z,i,cc,rfl,rfl,Nat.le_trans (Nat.le_of_lt hl) u9,?_,q _ H S (Ext.refl sub) (.str _)⟩ hs
      rw [Nr] at e1
      unfold atI; rw [e1]; exact e3
    · cases hf
  | @dic a kvs ts h1 h2 =>
    simp only [gb] at hf
    obtain ⟨k,e1,e2⟩:=Option.bind_eq_some_iff.mp hf
    have ey:=U9 hu2 e1
    subst ey
    rcases h2.get k with ⟨z,t',a1,a2,a3⟩ | ⟨_,a2⟩
    · rw [e2] at a2; cases a2
      exact a2u hu value slice pins s σ H _ _ v u Q I rx ry ⟨a,z,rfl,.inl ⟨kvs,k,Bl sub h1,rfl,a1.symm⟩,q z H S (Ext.refl sub) a3⟩ hs
    · rw [e2] at a2; cases a2
  | _=>simp only [gb,reduceCtorEq] at hf
theorem jj (hu:X.A.units + 1 < cLine) (ha:PE X a (tOf X.K B m1)) (hb:PE X b (tOf X.K B m2)) (hs:R9 b):PE X (.Subscript a b pos) (tOf X.K B (mOp gb m1 m2)):=T4 (a5a (Ye hu) ha hb hs)
theorem zu:Vb X (.builtin "len") ju:=by
  intro pins s σ H xs us Q I rs ⟨S,as,ts,w,sub,hr,hf,q⟩
  cases hr with
  | nil=>simp only [ju,reduceCtorEq] at hf
  | @cons x t xs' ts' h1 h2 =>
    cases h2 with
    | cons h3 h4=>simp only [ju,reduceCtorEq] at hf
    | nil =>
      cases h1 with
      | tup g1 g2=>simp only [ju] at hf; cases hf; exact En pins s σ H _ us Q I rs ⟨_,_,rfl,.inr (sy sub g1),by rw [g2.length]; exact q _ H S (Ext.refl sub) (.int _)⟩
      | lst g1 g2=>simp only [ju] at hf; cases hf; exact En pins s σ H _ us Q I rs ⟨_,_,rfl,.inl (qg sub g1),by rw [g2.length]; exact q _ H S (Ext.refl sub) (.int _)⟩
      | str z =>
        simp only [ju] at hf
        split at hf
        · rename_i hl; cases hf; exact Od pins s σ H _ us Q I rs ⟨_,rfl,Nat.le_trans (Nat.le_of_lt hl) u9,q _ H S (Ext.refl sub) (.int _)⟩
        · cases hf
      | @dic a kvs ts g1 g2 =>
        simp only [ju] at hf; cases hf
        obtain ⟨u,rfl,ru⟩:=rs.one
        cases ru
        exact a7j I (Bl sub g1) fun t s' I'=>⟨.int kvs.length,H,I',⟨t,rfl⟩,by rw [g2.length]; exact q _ H S (Ext.refl sub) (.int _)⟩
      | _=>simp only [ju,reduceCtorEq] at hf
theorem uo:Vb X (.type "tuple") wz:=by
  intro pins s σ H xs us Q I rs ⟨S,as,ts,w,sub,hr,hf,q⟩
  cases hr with
  | nil=>simp only [wz,reduceCtorEq] at hf
  | @cons x t xs' ts' h1 h2 =>
    cases h2 with
    | cons h3 h4=>simp only [wz,reduceCtorEq] at hf
    | nil =>
      cases h1 with
      | @tup a vs ts g1 g2=>simp only [wz] at hf; cases hf; exact Hf pins s σ H _ us Q I rs ⟨_,_,rfl,.inr ⟨sy sub g1,q _ H S (Ext.refl sub) (.tup g1 g2)⟩⟩
      | @lst a vs ts g1 g2 =>
        simp only [wz] at hf; cases hf
        refine Hf pins s σ H _ us Q I rs ⟨_,_,rfl,.inl ⟨qg sub g1,fun p hp=>?_⟩⟩
        have x:=Ext.laid sub hp (.tup vs)
        exact q _ _ _ x (.tup (SqT.of jd) (g2.mono x.s nol))
      | _=>simp only [wz,reduceCtorEq] at hf
theorem Fl:Vb X (.type "list") Gd:=by
  intro pins s σ H xs us Q I rs ⟨S,as,ts,w,sub,hr,hf,q⟩
  cases hr with
  | nil=>simp only [Gd,reduceCtorEq] at hf
  | @cons x t xs' ts' h1 h2 =>
    cases h2 with
    | cons h3 h4=>simp only [Gd,reduceCtorEq] at hf
    | nil =>
      cases h1 with
      | @tup a vs ts g1 g2 =>
        simp only [Gd] at hf; cases hf
        refine Ih pins s σ H _ us Q I rs ⟨_,_,rfl,.inr (sy sub g1),fun p hp=>?_⟩
        have x:=Ext.laid sub hp (.lst vs)
        exact q _ _ _ x (.lst (SqL.of jd) (g2.mono x.s nol))
      | @lst a vs ts g1 g2 =>
        simp only [Gd] at hf; cases hf
        refine Ih pins s σ H _ us Q I rs ⟨_,_,rfl,.inl (qg sub g1),fun p hp=>?_⟩
        have x:=Ext.laid sub hp (.lst vs)
        exact q _ _ _ x (.lst (SqL.of jd) (g2.mono x.s nol))
      | _=>simp only [Gd,reduceCtorEq] at hf
theorem Cr.put {K:PySem.W.Frag} {S:Hp} {as:List Addr} {k:L2.Key} {v:V} {t:T} (r:Rep K S as v t):∀ {vs:List (L2.Key × V)} {ts:List (L2.Key × T)},Cr K S as vs ts→Cr K S as (putK vs k v) (Ku k t ts):=by
  intro vs ts h
  have any:∀ {vs:List (L2.Key × V)} {ts:List (L2.Key × T)},Cr K S as vs ts→(vs.any fun kv=>decide (kv.1 = k)) = (ts.any fun p=>decide (p.1 = k)):=by
    intro vs ts h
    induction vs generalizing ts with
    | nil=>cases h; rfl
    | cons p r ih=>cases h with | cons h1 h2=>rw [List.any_cons,List.any_cons,ih h2]
  have mp:∀ {vs:List (L2.Key × V)} {ts:List (L2.Key × T)},Cr K S as vs ts→Cr K S as (vs.map fun kv=>if kv.1 = k then (kv.1,v) else kv) (ts.map fun p=>if p.1 = k then (p.1,t) else p):=by
    intro vs ts h
    induction vs generalizing ts with
    | nil=>cases h; exact .nil
    | cons p rr ih =>
      cases h with
      | @cons q v0 t0 _ _ h1 h2 =>
        rw [List.map_cons,List.map_cons]
        by_cases e:q = k
        · rw [if_pos e,if_pos e]; exact .cons r (ih h2)
        · rw [if_neg e,if_neg e]; exact .cons h1 (ih h2)
  have ap:∀ {vs:List (L2.Key × V)} {ts:List (L2.Key × T)},Cr K S as vs ts→Cr K S as (vs ++ [(k,v)]) (ts ++ [(k,t)]):=by
    intro vs ts h
    induction vs generalizing ts with
    | nil=>cases h; exact .cons r .nil
    | cons p rr ih=>cases h with | cons h1 h2=>exact .cons h1 (ih h2)
  unfold putK Ku
  rw [any h]
  split
  · exact mp h
  · exact ap h
end
end C
end
noncomputable section
set_option linter.all false
set_option maxRecDepth 100000
set_option maxHeartbeats 4000002
set_option autoImplicit false
namespace C
open PySem PySem.Spec PyProof.Rows L2
theorem Ob {i:Nat} {k:M T} {s s':Sta} {t:T} (h:yc i k s = some (t,s')):Gm i s = true∧∃ kt kvs f q,k s = some (kt,s')∧s'.env[i]? = some (some (.dic kvs,f))∧keyOf kt = some q∧Eh q kvs = some t:=by
  unfold yc at h
  split at h
  · rename_i hd
    refine ⟨hd,?_⟩
    split at h
    · rename_i kt s2 e2
      split at h
      · rename_i kvs f e3
        split at h
        · rename_i t' e4
          cases h
          obtain ⟨q,e5,e6⟩:=Option.bind_eq_some_iff.mp e4
          exact ⟨kt,kvs,f,q,e2,e3,e5,e6⟩
        · cases h
      · cases h
    · cases h
  · cases h
noncomputable section
variable {K:PySem.W.Frag} {B:Bas} {st:Sta} {σ:L2.St} {H S:Hp} {ps:List (V × T)} {as:List Addr}
theorem Rel.dictAt (r:Rel K B st σ H ps S as) {i:Nat} {kvs:List (L2.Key × T)} {f:Bool} (e:st.env[i]? = some (some (.dic kvs,f))):∃ p vs,σ[i]? = some (some (.ref p))∧Rd H p (.dK vs)∧Cr K S as vs kvs:=by
  obtain ⟨v,h1,h2,h3⟩:=r.slots i _ f e
  cases f with
  | false =>
    have h:=h2 rfl
    cases h with
    | dic a b=>exact ⟨_,_,h1,Bl r.sub a,b⟩
  | true =>
    obtain ⟨p,rfl,o⟩:=h3 rfl
    obtain ⟨vs,h,q⟩:=o.own
    exact ⟨p,vs,h1,.inl h,q⟩
end
noncomputable section
variable {X:Cx} {B:Bas} {a b c e o k d:Expr} {m mo mk md mv:M T} {pos p:Pos}
theorem O6 {i:Nat} {s:Sta} (h:Gm i s = true):∃ kvs f,s.env[i]? = some (some (.dic kvs,f)):=by
  unfold Gm at h
  split at h
  · rename_i kvs f e; exact ⟨kvs,f,e⟩
  · cases h
theorem Xy {i:Nat} {s:Sta} (h:j4 i s = true):∃ kvs f,s.env[i]? = some (some (.lst kvs,f)):=by
  unfold j4 at h
  split at h
  · rename_i kvs f e; exact ⟨kvs,f,e⟩
  · cases h
theorem Hr (i:Nat) (hu:X.A.units + 1 < cLine) (ho:PE X o (a0a i)) (hk:PE X k (tOf X.K B mk)) (hs:a78 k):PE X (.Subscript o k pos) (tOf X.K B (yc i mk)):=(a1e hu ho hk hs).imp fun σ H Q z9=>by
  obtain ⟨st,ps,S,as,R,t,st',e,q⟩:=z9
  obtain ⟨hd,kt,kvs,f,qk,e2,e3,e4,e5⟩:=Ob e
  obtain ⟨kvs0,f0,e0⟩:=O6 hd
  obtain ⟨p0,vs0,s0,_⟩:=R.dictAt e0
  refine ⟨_,s0,st,ps,S,as,R,kt,st',e2,fun u H2 S2 as2 R2=>?_⟩
  obtain ⟨p1,vs1,s1,rd1,h4⟩:=R2.dictAt e3
  rw [s0] at s1; cases s1
  have ey:=U9 R2.top e4
  subst ey
  rcases h4.get qk with ⟨z,t',a1,a2,a3⟩ | ⟨_,a2⟩
  · rw [e5] at a2; cases a2
    exact ⟨p0,z,rfl,.inl ⟨vs1,qk,rd1,rfl,a1.symm⟩,q z H2 S2 as2 (R2.drop.push a3)⟩
  · rw [e5] at a2; cases a2
theorem Pb (i:Nat) {pos':Pos} (hu:X.A.units + 1 < cLine) (ho:PE X o (a0a i)) (hk:PE X k (tOf X.K B mk)) (hv:PE X e (tOf X.K B mv)) (hs:swapsWith e (some (.Subscript o k pos')) pos.line X.env = pure false) :
    PS X (.Assign [.Subscript o k pos'] e pos) (sOf X.K B (Es i mk mv)):=(a1s hu ho hk hv hs).imp fun D σ H z9=>by
  obtain ⟨st,ps,S,as,R,fl,st',e,q⟩:=z9
  obtain ⟨t,s1,kt,s2,kvs,qk,e1,hd,e3,e4,e5,hl,rfl,rfl⟩:=Rb e
  obtain ⟨kvs0,f0,e0⟩:=O6 hd
  refine ⟨st,ps,S,as,R,t,s1,e1,fun v H1 S1 as1 R1=>?_⟩
  obtain ⟨p0,vs0,s0,rd0,_⟩:=R1.dictAt e0
  refine ⟨_,s0,s1,_,S1,as1,R1,kt,s2,e3,fun y H3 S3 as3 R3=>?_⟩
  obtain ⟨w,h1,_,h3⟩:=R3.slots i _ true e4
  rw [s0] at h1; cases h1
  obtain ⟨p',ep,ow⟩:=h3 rfl
  cases ep
  obtain ⟨vs,hH,h4⟩:=ow.own
  have ey:=U9 R3.top e5
  subst ey
  exact ⟨p0,_,rfl,a3o.k hH (by rw [h4.length]; exact Nat.lt_of_lt_of_le hl u9),q _ _ S3 as3 (R3.drop.drop.turn e4 s0 ⟨_,jd,h4.put R3.top2⟩)⟩
end
end C
end
noncomputable section
set_option linter.all false
set_option maxRecDepth 100000
set_option maxHeartbeats 4000002
set_option autoImplicit false
namespace C
open PySem PySem.Spec PyProof.Rows L2
theorem kj {ms:M (List T)} {n:Nat} (h:∀ st ts st',ms st = some (ts,st')→ts.length≤n) (hn:n≤1000):∀ st ts st',ms st = some (ts,st')→ts.length≤1000:=fun st ts st' e=>Nat.le_trans (h st ts st' e) hn
theorem zm {m:M T}:∀ st ts st',jl m st = some (ts,st')→ts.length≤sizeLine:=fun st ts st' e=>by
  unfold jl at e
  split at e
  · split at e
    · rename_i h; cases e; exact Nat.le_trans (Nat.le_of_lt h) u9
    · cases e
  · split at e
    · rename_i h; cases e; exact Nat.le_trans (Nat.le_of_lt h) u9
    · cases e
  · cases e
theorem J6 {m:M T}:∀ st ts st',fu m st = some (ts,st')→ts.length≤sizeLine:=fun st ts st' e=>by
  obtain ⟨n,_,h,rfl⟩:=M6 e
  unfold rangeT
  rw [List.length_map,List.length_range]
  refine Nat.le_trans ?_ u9
  show n.toNat≤1000000
  omega
noncomputable def jc (P:Program) (w:World) (K:PySem.W.Frag) (mg:Str→Option Value) (base:Heap) (x:Str) (k:Nat) (ps:List Str) (F:Fn):Prop :=
  ∃ f fd,Cv P w K mg base CX0 k f fd ps (spF K ps.length F)∧Binds K fd ps []∧PySem.W.keepIn K (.ref f) = true∧mg x = some (.ref f)
theorem jc.mono {P:Program} {w:World} {K:PySem.W.Frag} {mg:Str→Option Value} {base:Heap} {x:Str} {j k:Nat} {ps:List Str} {F:Fn} (d:jc P w K mg base x j ps F) (h:j≤k):jc P w K mg base x k ps F:=by
  obtain ⟨f,fd,h1,h2⟩:=d
  exact ⟨f,fd,h1.mono h,h2⟩
noncomputable section
variable {X:Cx} {B:Bas} {a b c e o k:Expr} {m m1 m2:M T} {pos p:Pos} {es:List Expr} {ms:M (List T)} {F:Fn} {x:Str} {n:Nat} {pn:List Str}
theorem gn (D:jc X.prog X.w X.K X.mg X.base x n pn F) (hr:Le n X.A) (hg:Gl X x)
    (ha:PA X (e :: es) (aOf X.K B ms)) (hl:∀ st ts st',ms st = some (ts,st')→ts.length = pn.length) (hdb:(x == ("__debug__" : Str)) = false:=by decide)
    (he:starEach (e :: es) X.env = (false,eval e X.env) :: starEach es X.env:=by rfl) (hpl:(backTo pos (starEach es X.env)).any (·.1) = false:=by rfl) :
    PE X (.Call (.Name x p) (e :: es) [] pos) (tOf X.K B (dj F ms)):=by
  obtain ⟨f,fd,h1,h2,h3,h4⟩:=D
  exact a3m h1 hr hg h4 h3 h2 ha hl hdb he hpl
theorem M5 (h:PA X es (aOf X.K B ms)) (hm:∀ st ts st',ms st = some (ts,st')→ts.length≤1000):PE X (.List es pos) (fOf X.K B (j8 (fun l=>some (.lst l)) ms)) :=
  (Tr h).imp fun σ H Q z9=>by
    obtain ⟨st,ps,S,as,R,t,st',e,q⟩:=z9
    obtain ⟨ts,e1,e2⟩:=Dp e
    cases e2
    refine ⟨st,ps,S,as,R,ts,st',e1,fun vs H1 S1 as1 R1 rs=>⟨?_,fun p hp=>?_⟩⟩
    · rw [rs.length]; exact Nat.le_of_lt (Eu (hm _ _ _ e1))
    · obtain ⟨bD,sD,nD,no⟩:=R1.fresh hp
      exact q p _ S1 as1 (R1.a6b bD sD nD no) ⟨⟨vs,jd,rs⟩,sD,nD,bD⟩ no
theorem Rel.listAt {K:PySem.W.Frag} {B:Bas} {st:Sta} {σ:L2.St} {H S:Hp} {ps:List (V × T)} {as:List Addr} (r:Rel K B st σ H ps S as) {i:Nat} {xs:List T} {f:Bool} (e:st.env[i]? = some (some (.lst xs,f))):∃ p vs,σ[i]? = some (some (.ref p))∧SqL K H p vs∧uq K S as vs xs:=by
  obtain ⟨v,h1,h2,h3⟩:=r.slots i _ f e
  cases f with
  | false =>
    have h:=h2 rfl
    cases h with
    | lst a b=>exact ⟨_,_,h1,qg r.sub a,b⟩
  | true =>
    obtain ⟨p,rfl,o⟩:=h3 rfl
    obtain ⟨vs,h,q⟩:=o.own
    exact ⟨p,vs,h1,SqL.of h,q⟩
theorem Ck (i:Nat) {st:Stmt} (h:PS X st (a2m (tBM X.K "list" Qz (a0a i) (Wb (tOf X.K B m) a4t)))):PS X st (sOf X.K B (cj i m)):=h.imp fun D σ H z9=>by
  obtain ⟨st,ps,S,as,R,fl,st',e,q⟩:=z9
  obtain ⟨hd,t,s1,xs,e1,e2,hl,rfl,rfl⟩:=Qw e
  obtain ⟨xs0,f0,e0⟩:=Xy hd
  obtain ⟨p0,vs0,s0,q0,_⟩:=R.listAt e0
  refine ⟨_,s0,.inl ⟨rfl,_,q0⟩,st,ps,S,as,R,t,s1,e1,fun v H1 S1 as1 R1=>?_⟩
  obtain ⟨w,h1,_,h3⟩:=R1.slots i _ true e2
  rw [s0] at h1; cases h1
  obtain ⟨p',ep,ow⟩:=h3 rfl
  cases ep
  obtain ⟨vs,hH,h4⟩:=ow.own
  exact ⟨p0,vs,v,rfl,rfl,hH,by rw [h4.length]; exact Nat.lt_of_lt_of_le hl u9,q _ _ S1 as1 (R1.drop.turn e2 s0 ⟨_,jd,h4.append (.cons R1.top .nil)⟩)⟩
end
end C
end
noncomputable section
set_option linter.all false
set_option maxRecDepth 100000
set_option maxHeartbeats 4000002
set_option autoImplicit false
namespace C
open PySem PySem.Spec PyProof.Rows L2
noncomputable section
variable {X:Cx} {B:Bas} {a b c e o k:Expr} {m m1 m2:M T} {pos p:Pos}
theorem Ph {K:PySem.W.Frag} {S:Hp} {as:List Addr}:∀ {vs:List V} {ts:List T} {l:List Int},uq K S as vs ts→Ux ts = some l→vs = l.map V.int
  | _,_,l,.nil,h=>by cases h; rfl
  | _,_,l,.cons (t:=t) h1 h2,h=>by
    cases h1 <;> simp only [Ux,reduceCtorEq] at h
    obtain ⟨l',e1,e2⟩:=Option.map_eq_some_iff.mp h
    subst e2
    rw [Ph h2 e1]; rfl
theorem Ow {K:PySem.W.Frag} {S:Hp} {as:List Addr}:∀ {vs:List V} {ts:List T} {l:List Str},uq K S as vs ts→J3 ts = some l→vs = l.map V.str
  | _,_,l,.nil,h=>by cases h; rfl
  | _,_,l,.cons (t:=t) h1 h2,h=>by
    cases h1 <;> simp only [J3,reduceCtorEq] at h
    obtain ⟨l',e1,e2⟩:=Option.map_eq_some_iff.mp h
    subst e2
    rw [Ow h2 e1]; rfl
theorem Zh {l:List Int} {us:List Value} (r:Vals (l.map V.int) us) {i:Nat} {v:Value} (h:us.toArray[i]? = some v):∃ t,v = .int (l.getD i 0) t:=by
  rw [List.getElem?_toArray] at h
  have hi:i < (l.map V.int).length:=by rw [r.length]; exact (List.getElem?_eq_some_iff.mp h).1
  rw [List.length_map] at hi
  have e:(l.map V.int)[i]? = some (.int l[i]):=by rw [List.getElem?_map,List.getElem?_eq_getElem hi]; rfl
  obtain ⟨u,h1,t,h2⟩:=r.get e
  rw [h] at h1; cases h1
  exact ⟨t,by rw [h2,List.getD_eq_getElem?_getD,List.getElem?_eq_getElem hi]; rfl⟩
theorem Inv.j4 {pins:List (Addr × Obj)} {σ:L2.St} {H:Hp} {s:Shared} {a:Addr} {xs:List V} (I:L2.Inv X pins σ H s) (h:SqL X.K H a xs):a < s.heap.objs.size:=by
  obtain ⟨its,_,⟨o,n,h1,_⟩,_⟩:=I.list h
  exact Heap.lt_size h1
theorem N8 (hc:X.calm = true):Vb X (.builtin "sum") Ys:=by
  intro pins s σ H xs us Q I rs ⟨S,as,ts,w,sub,hr,hf,q⟩
  cases hr with
  | nil=>simp only [Ys,reduceCtorEq] at hf
  | @cons x t xs' ts' h1 h2 =>
    cases h2 with
    | cons h3 h4=>simp only [Ys,reduceCtorEq] at hf
    | nil =>
      cases h1 with
      | @lst a vs ts g1 g2 =>
        simp only [Ys] at hf
        obtain ⟨l,e1,e2⟩:=Option.map_eq_some_iff.mp hf
        subst e2
        have ev:=Ph g2 e1
        subst ev
        obtain ⟨u,rfl,ru⟩:=rs.one
        cases ru
        obtain ⟨its,r,p,hz⟩:=I.list (qg sub g1)
        have hlt:=Inv.j4 I (qg sub g1)
        refine call_sum_walkG (wpAny_pyIter_list p.isList ?_)
        refine ⟨_,_,_,_,_,_,fun i=>l.getD i 0,rfl,Walks.list (A:=X.A.in1) (show X.A.in1.handled = none from I.ok.hd hc) s.heap.objs.size a (Nat.ne_of_lt hlt) its.toArray,And.intro ⟨_,Heap.get?_push_size _ rfl,rfl,rfl⟩ (PlainL.keeps p fun b o e=>Heap.get?_push_of_some _ e).isList,fun b hb=>?_,fun i v hv=>Zh r hv,fun h' tk t' hk=>?_⟩
        · rw [Heap.size_push]
          rcases List.mem_cons.mp hb with rfl | hb -- here
          · exact Nat.lt_succ_self _
          · rw [List.mem_singleton.mp hb]; exact Nat.lt_succ_of_lt hlt -- here
        · have hl:its.toArray.size = l.length:=by rw [List.size_toArray,← r.length,List.length_map]
          rw [hl,preSum_getD,List.take_length]
          exact ⟨.int l.sum,H,I.kept (h':=h') (t':=tk) fun b u e=>hk b u (by simp; exact Nat.ne_of_lt (Heap.lt_size e)) (Heap.get?_push_of_some _ e),⟨_,rfl⟩,q _ H S (Ext.refl sub) (.int _)⟩
      | _=>simp only [Ys,reduceCtorEq] at hf
theorem Lp:∀ {l:List Str} {us:List Value},Vals (l.map V.str) us→StrsAre us l
  | [],_,r=>by cases r; exact .nil
  | x :: l,_,r=>by
    rw [List.map_cons] at r
    cases r with
    | cons r1 r2=>obtain ⟨t,rfl⟩:=r1; exact .cons x t (Lp r2)
theorem Ji:∀ {l:List Str} {us:List Value},StrsAre us l→Vals (l.map V.str) us
  | _,_,.nil=>.nil
  | _,_,.cons x t h=>.cons ⟨t,rfl⟩ (Ji h)
noncomputable abbrev Fp (a b:Str):Prop:=¬ b.cps.toList < a.cps.toList
theorem Kq {a b c:Str} (h1:Fp a b) (h2:Fp b c):Fp a c:=fun h=>by
  have h3:a.cps.toList≤b.cps.toList:=List.not_lt.mp h1
  have h4:b.cps.toList≤c.cps.toList:=List.not_lt.mp h2
  exact List.not_lt.mpr (List.le_trans h3 h4) h
theorem Uq {a b:Str} (h1:Fp a b) (h2:Fp b a):a = b:=by
  have h3:a.cps.toList≤b.cps.toList:=List.not_lt.mp h1
  have h4:b.cps.toList≤a.cps.toList:=List.not_lt.mp h2
  have h5:=List.le_antisymm h3 h4
  cases a; cases b
  simp at h5; subst h5; rfl
theorem Jp:∀ (p:Str) (l:List Str),risingS p l = true→(p :: l).Pairwise Fp
  | p,[],_=>by simp
  | p,x :: r,h=>by
    rw [risingS,Bool.and_eq_true] at h
    have ih:=Jp x r h.2
    have hx:Fp p x:=fun z=>by
      have:=h.1
      rw [ltCps_eq,decide_eq_true z] at this
      cases this
    refine List.pairwise_cons.mpr ⟨fun y hy=>?_,ih⟩
    rcases List.mem_cons.mp hy with rfl | hy -- here
    · exact hx
    · exact Kq hx (List.rel_of_pairwise_cons ih hy)
theorem Qm (l:List Str) (h:sortedS l = true):l.Pairwise Fp:=by
  cases l with
  | nil=>exact .nil
  | cons x r=>exact Jp x r h
theorem Jv (x:Str):∀ l,(N6 x l).Perm (x :: l)
  | []=>.refl _
  | y :: r=>by
    rw [N6]
    split
    · exact .refl _
    · exact ((Jv x r).cons y).trans (.swap x y r)
theorem Pa (x:Str):∀ l:List Str,l.Pairwise Fp→(N6 x l).Pairwise Fp
  | [],_=>by simp [N6]
  | y :: r,h=>by
    rw [N6]
    split
    · rename_i hx
      have hx:=of_decide_eq_true hx
      have hxy:Fp x y:=fun z=>List.lt_irrefl _ (List.lt_trans hx z)
      refine List.pairwise_cons.mpr ⟨fun z hz=>?_,h⟩
      rcases List.mem_cons.mp hz with rfl | hz -- here
      · exact hxy
      · exact Kq hxy (List.rel_of_pairwise_cons h hz)
    · rename_i hx
      have hx:Fp y x:=fun z=>hx (decide_eq_true z)
      refine List.pairwise_cons.mpr ⟨fun z hz=>?_,Pa x r (List.pairwise_cons.mp h).2⟩
      rcases List.mem_cons.mp ((Jv x r).mem_iff.mp hz) with rfl | hz
      · exact hx
      · exact List.rel_of_pairwise_cons h hz
theorem Ci:∀ (l acc:List Str),acc.Pairwise Fp→(l.foldl (fun acc x=>N6 x acc) acc).Pairwise Fp∧(l.foldl (fun acc x=>N6 x acc) acc).Perm (l ++ acc)
  | [],acc,h=>⟨h,.refl _⟩
  | x :: l,acc,h=>by
    obtain ⟨h1,h2⟩:=Ci l (N6 x acc) (Pa x acc h)
    exact ⟨h1,h2.trans (((Jv x acc).append_left l).trans (List.perm_middle))⟩
theorem Uy (l:List Str):(Cg l).Pairwise Fp:=(Ci l [] .nil).1
theorem Hj (l:List Str):(Cg l).Perm l:=by
  have:=(Ci l [] .nil).2
  rwa [List.append_nil] at this
theorem T5 {l l':List Str} (h1:sortedS l' = true) (h2:l'.Perm l):l' = Cg l :=
  List.Perm.eq_of_pairwise (le:=Fp) (fun _ _ _ _=>Uq) (Qm l' h1) (Uy l) (h2.trans (Hj l).symm)
theorem Jr {K:PySem.W.Frag} {S:Hp} {as:List Addr}:∀ l:List Str,uq K S as (l.map V.str) (l.map T.str)
  | []=>.nil
  | x :: l=>.cons (.str x) (Jr l)
theorem U6 {pins:List (Addr × Obj)} {σ:L2.St} {H S:Hp} {s:Shared} {as:List Addr} {a:Addr} {l:List Str} {Q:VK} (I:L2.Inv X pins σ H s) (sub:Same S H) (g1:SqL X.K H a (l.map V.str)) (h64:l.length < 64)
    (q:∀ v H' S',Ext S H S' H'→Rep X.K S' as v (.lst ((Cg l).map .str))→Q v H'):wpAny (model X.prog X.w) X.A (call (.builtin "sorted") [.ref a]) (EP X pins σ Q) X.xe s:=by
  obtain ⟨its,r,p,hz⟩:=I.list g1
  refine sorted_strs p.isList (Lp r) (by rw [← r.length,List.length_map]; exact h64) fun out ss' a1 a2 a3=>?_
  have es:=T5 a3 a2
  subst es
  obtain ⟨e,he⟩:=sortedAll_at s.heap its out
  have hl:(List.map V.str (Cg l)).length≤sizeLine:=by
    rw [List.length_map,(Hj l).length_eq]
    exact Nat.le_trans (Nat.le_of_lt h64) (by rw [sizeLine_eq]; decide)
  have hn:H (s.heap.objs.size + 1) = none:=I.hok.fresh (Nat.le_succ _)
  have x:=Ext.laid sub hn (.lst ((Cg l).map V.str))
  refine ⟨.ref (s.heap.objs.size + 1),_,I.laid (a:=s.heap.objs.size + 1) (o:=.lst ((Cg l).map V.str)) (h':=sortedAll s.heap its out) (t':=s.toks) (fun _ _=>sortedAll_old) (Nat.le_succ _) ⟨hl,out.toList,e,Ji a1,he⟩,rfl,q _ _ _ x (.lst (SqL.of jd) (Jr _))⟩
theorem Mp:Ge X (.builtin "sorted") (fun xs H Q=>∃ S as ts l,Same S H∧uq X.K S as xs [.lst ts]∧ts.length < 64∧J3 ts = some l∧∀ v H' S',Ext S H S' H'→Rep X.K S' as v (.lst ((Cg l).map .str))→Q v H'):=by
  intro pins s σ H xs us Q I rs ⟨S,as,ts,l,sub,hr,h64,e1,q⟩
  cases hr with
  | cons h1 h2 =>
    cases h2
    cases h1 with
    | @lst a vs _ g1 g2 =>
      have ev:=Ow g2 e1
      subst ev
      obtain ⟨u,rfl,ru⟩:=rs.one
      cases ru
      have hl:=g2.length
      rw [List.length_map] at hl
      exact U6 I sub (qg sub g1) (by omega) q
noncomputable def tyOf:T→Option Value
  | .non=>some (.type "NoneType")
  | .bl _=>some (.type "bool")
  | .int _=>some (.type "int")
  | .str _=>some (.type "str")
  | .tup _=>some (.type "tuple")
  | .lst _=>some (.type "list")
  | .dic _=>some (.type "dict")
  | .obj _=>none
theorem a4r {pins:List (Addr × Obj)} {σ:L2.St} {H S:Hp} {s:Shared} {as:List Addr} {x:V} {u c:Value} {t:T} {ty:Value} {b:Bool} {Q:Value→Shared→Prop} {E:Value→Shared→Prop} (I:L2.Inv X pins σ H s) (sub:Same S H) (rx:RelV x u) (r:Rep X.K S as x t) (hty:tyOf t = some ty)
    (e:PySem.W.kitOne X.K ty c = some b) (h:∀ tk,Q (.bool b) { s with toks:=tk }):wpAny (model X.prog X.w) X.A (call (.builtin "isinstance") [u,c]) Q E s:=by
  cases r with
  | non=>cases hty; exact Gn I rx .non e h
  | bl y=>cases hty; exact Gn I rx (.bl y) e h
  | int y=>cases hty; exact Gn I rx (.int y) e h
  | str y=>cases hty; exact Gn I rx (.str y) e h
  | @tup a vs ts g1 g2 =>
    cases hty
    cases (show u = Value.ref a from rx)
    obtain ⟨its,_,⟨o,h1,h2,_⟩,_⟩:=I.tuple (sy sub g1)
    exact PySem.W.kia_one PySem.W.kitx_tuple I.kIn ⟨o,h1,h2⟩ e (fun z=>nomatch z) h
  | @lst a vs ts g1 g2 =>
    cases hty
    cases (show u = Value.ref a from rx)
    obtain ⟨its,_,⟨o,n,h1,h2,_⟩,_⟩:=I.list (qg sub g1)
    exact PySem.W.kia_one PySem.W.kitx_list I.kIn ⟨o,h1,h2⟩ e (fun z=>nomatch z) h
  | @dic a kvs ts g1 g2 =>
    cases hty
    cases (show u = Value.ref a from rx)
    obtain ⟨_,_,vs,_,o,es,ep,h1,h2,_⟩:=Kr I.hok (Bl sub g1)
    exact PySem.W.kia_one PySem.W.kitx_dict I.kIn ⟨o,h1,h2.1⟩ e (fun z=>nomatch z) h
  | obj h=>cases hty
noncomputable def a3t (f:Value→Bool):List T→Option T
  | [t]=>(tyOf t).map fun ty=>.bl (f ty)
  | _=>none
theorem Sh {cn:String} {f:Value→Bool} {pc:Pos} (hg:Gl X "isinstance") (hm:X.mg "isinstance" = none) (hg2:Gl X (Str.ofString cn)) (hm2:X.mg (Str.ofString cn) = none) (hv:bootBuiltins (Str.ofString cn) = some (.type cn))
    (hf:∀ t ty,tyOf t = some ty→PySem.W.kitOne X.K ty (.type cn) = some (f ty)) (ha:PE X a (tOf X.K B m)) (hd:((Str.ofString cn) == ("__debug__" : Str)) = false) (hn:(Str.ofString cn) ≠ "__name__")
    (he:starEach [a,.Name (Str.ofString cn) pc] X.env = (false,eval a X.env) :: starEach [.Name (Str.ofString cn) pc] X.env:=by rfl) (he2:starEach [.Name (Str.ofString cn) pc] X.env = (false,eval (.Name (Str.ofString cn) pc) X.env) :: starEach [] X.env:=by rfl)
    (hpl:(backTo pos (starEach [.Name (Str.ofString cn) pc] X.env)).any (·.1) = false:=by rfl) :
    PE X (.Call (.Name "isinstance" p) [a,.Name (Str.ofString cn) pc] [] pos) (tOf X.K B (j8 (a3t f) (ak m gq))):=by
  have hc:Ge X (.builtin "isinstance") (fun xs H Q=>∃ S as x t ty,xs = [x,.ty cn]∧Same S H∧Rep X.K S as x t∧tyOf t = some ty∧Q (.bl (f ty)) H):=by
    intro pins s σ H xs us Q I rs ⟨S,as,x,t,ty,ex,sub,r,hty,q⟩
    subst ex
    obtain ⟨u,w,rfl,r1,r2⟩:=rs.two
    cases r2
    exact a4r I sub r1 r hty (hf t ty hty) fun tk=>⟨.bl (f ty),H,I.tok _,rfl,q⟩
  have hnm:PE X (.Name (Str.ofString cn) pc) (tC (.ty cn)):=a2g hg2 hm2 hv rfl hn hd
  refine (vo hc hg hm PyProof.Rows.boot_isinstance (Ab ha (Ab hnm Cm he2) he) (by decide) (by decide) he hpl).imp fun σ H Q z0=>?_
  obtain ⟨st,ps,S,as,R,t,st',e,q⟩:=z0
  obtain ⟨ts,e1,e2⟩:=Dp e
  obtain ⟨t1,s1,us,ea,en,rfl⟩:=Et e1
  cases en
  simp only [a3t] at e2
  obtain ⟨ty,e3,e4⟩:=Option.map_eq_some_iff.mp e2
  subst e4
  exact ⟨st,ps,S,as,R,t1,_,ea,fun v H1 S1 as1 R1=>⟨S1,as1,v,t1,ty,rfl,R1.sub,R1.top,e3,q _ H1 S1 as1 (R1.drop.push (.bl _))⟩⟩
example (K:PySem.W.Frag):PySem.W.kitOne K (.type "bool") (.type "int") = some true:=by rfl
example (K:PySem.W.Frag):PySem.W.kitOne K (.type "str") (.type "int") = some false:=by rfl
end
end C
end
noncomputable section
set_option linter.all false
set_option maxRecDepth 100000
set_option maxHeartbeats 4000002
set_option autoImplicit false
namespace C
open PySem PySem.Spec PyProof.Rows L2
noncomputable section
variable {X:Cx} {B:Bas} {m:M T}
end
end C
end
noncomputable section
set_option linter.all false
set_option maxRecDepth 100000
set_option maxHeartbeats 4000002
set_option autoImplicit false
namespace C
open PySem PySem.Spec PyProof.Rows L2
theorem Rel.newObj {K:PySem.W.Frag} {B:Bas} {st:Sta} {σ:L2.St} {H S:Hp} {ps:List (V × T)} {as:List Addr} {p:Addr} {ob:HO} {so:SO} (r:Rel K B st σ H ps S as) (hp:H p = none) (h:Wu K S (as ++ [p]) (upd H p ob) p so) :
    Rel K B { st with sto:=st.sto ++ [so] } σ (upd H p ob) ((.ref p,.obj st.sto.length) :: ps) S (as ++ [p]):=by
  obtain ⟨bD,sD,nD,no⟩:=r.fresh hp
  have mo:∃ l,as ++ [p] = as ++ l:=⟨[p],rfl⟩
  have other:∀ q,q≠p→H q = upd H p ob q:=fun q n=>(jg n).symm
  refine Rel.push (st:={ st with sto:=st.sto ++ [so] }) (H:=upd H p ob) (v:=.ref p) (t:=.obj st.sto.length) ⟨fun b u e=>?_,⟨r.grow.same,?_,fun q o a b c=>?_⟩,fun i t f e=>?_,r.apart,⟨?_,?_,fun n so2 e=>?_⟩,fun q hq=>(r.pend q hq).mono (Same.refl _) mo,r.len⟩ (.obj ?_)
  · rw [jg (fun z=>by subst z; rw [sD] at e; cases e)]; exact r.sub _ _ e
  · obtain ⟨l,e⟩:=r.grow.more
    exact ⟨l ++ [p],by rw [e,List.append_assoc]⟩
  · obtain ⟨x,y,z⟩:=r.grow.keep q o a b c
    have n:q≠p:=fun w=>by subst w; rw [bD] at a; cases a
    refine ⟨by rw [jg n]; exact x,y,fun m=>?_⟩
    rcases List.mem_append.mp m with m | m
    · exact z m
    · exact n (List.mem_singleton.mp m)
  · obtain ⟨v,h1,h2,h3⟩:=r.slots i t f e
    refine ⟨v,h1,fun z=>(h2 z).mono (Same.refl _) mo,fun z=>?_⟩
    obtain ⟨q,rfl,o⟩:=h3 z
    have n:q≠p:=fun w=>by subst w; subst z; exact no i t e h1
    refine ⟨q,rfl,o.own.more (Same.refl _) mo (other q n),o.out,fun m=>?_,o.new⟩
    rcases List.mem_append.mp m with m | m
    · exact o.nas m
    · exact n (List.mem_singleton.mp m)
  · show (as ++ [p]).length = (st.sto ++ [so]).length
    rw [List.length_append,List.length_append,r.sto.len]; rfl
  · refine List.nodup_append.mpr ⟨r.sto.nd,by simp,fun a ha b hb=>?_⟩
    rw [List.mem_singleton.mp hb]
    intro z; subst z; exact nD ha
  · have e:(st.sto ++ [so])[n]? = some so2:=e
    by_cases hn:n < st.sto.length
    · rw [List.getElem?_append_left hn] at e
      obtain ⟨a,h1,h2,h3⟩:=r.sto.at' n so2 e
      have na:a≠p:=fun z=>by subst z; exact nD (List.mem_of_getElem? h1)
      refine ⟨a,X3 h1,h2,?_⟩
      cases so2 with
      | dic ts=>obtain ⟨vs,x,y⟩:=h3; exact ⟨vs,by rw [jg na]; exact x,y.mono (Same.refl _) mo⟩
      | lst ts=>obtain ⟨vs,x,y⟩:=h3; exact ⟨vs,by rw [jg na]; exact x,y.mono (Same.refl _) mo⟩
      | ins _ _=>exact h3.elim
    · rw [List.getElem?_append_right (Nat.le_of_not_lt hn)] at e
      have hn0:n - st.sto.length = 0:=by
        have:=(List.getElem?_eq_some_iff.mp e).1
        simp at this; omega
      rw [hn0] at e; cases e
      have hne:n = as.length:=by rw [r.sto.len]; omega
      subst hne
      exact ⟨p,by rw [List.getElem?_append_right (Nat.le_refl _),Nat.sub_self]; rfl,sD,h⟩
  · rw [← r.sto.len,List.getElem?_append_right (Nat.le_refl _),Nat.sub_self]; rfl
noncomputable def PN (X:Cx) (e:Expr) (N:L2.St→V→Prop):Prop:=PE X e (fun σ H Q=>∃ v,N σ v∧Q v H)
noncomputable def MN (K:PySem.W.Frag) (m:M T) (N:L2.St→V→Prop):Prop:=∀ (B:Bas) (st:Sta) (σ:L2.St) (H:Hp) (ps:List (V × T)) (S:Hp) (as:List Addr) (t:T) (st':Sta),Rel K B st σ H ps S as→m st = some (t,st')→st' = st∧∃ v,N σ v∧Rep K S as v t
structure PM (X:Cx) (e:Expr) (m:M T) (N:L2.St→V→Prop):Prop where
  p:PN X e N
  m:MN X.K m N
noncomputable section
variable {X:Cx} {B:Bas} {a b e e1 e2:Expr} {m m1 m2:M T} {N N1 N2:L2.St→V→Prop} {pos p:Pos}
end
end C
end
noncomputable section
set_option linter.all false
set_option autoImplicit false
namespace C
open PySem PySem.Spec PyProof.Rows L2
inductive Zc:List Expr→List Str→Prop where
  | nil:Zc [] []
  | cons {x:Str} {k:Nat} {q:Pos} {es:List Expr} {xs:List Str}:Zc es xs→Zc (.Constant (.str x) k q :: es) (x :: xs)
theorem Wx {X:Cx} {B:Bas}:∀ {es:List Expr} {xs:List Str},Zc es xs→PA X es (aOf X.K B (j6 xs))
  | _,_,.nil=>dz
  | _,_,.cons h=>aj ur (Wx h)
theorem len_strs:∀ (xs:List Str) (st:Sta) (ts:List T) (st':Sta),j6 xs st = some (ts,st')→ts.length≤xs.length
  | [],st,ts,st',e=>jf st ts st' e
  | _ :: xs,st,ts,st',e=>dw (len_strs xs) st ts st' e
noncomputable section
variable {X:Cx} {B:Bas} {a b c e o k:Expr} {m m1 m2:M T} {pos p p2:Pos}
theorem a0d (l:List T):isTup l = a3t (fun ty=>ty == .type "tuple") l:=by
  match l with
  | []=>rfl
  | [t]=>cases t <;> rfl
  | x :: y :: r=>cases x <;> rfl
theorem Z0 (l:List T):Y7 l = a3t (fun ty=>ty == .type "list") l:=by
  match l with
  | []=>rfl
  | [t]=>cases t <;> rfl
  | x :: y :: r=>cases x <;> rfl
theorem a0b (l:List T):isInt l = a3t (fun ty=>ty == .type "int" || ty == .type "bool") l:=by
  match l with
  | []=>rfl
  | [t]=>cases t <;> rfl
  | x :: y :: r=>cases x <;> rfl
theorem a1h (l:List T):a5z l = a3t (fun ty=>ty == .type "bool") l:=by
  match l with
  | []=>rfl
  | [t]=>cases t <;> rfl
  | x :: y :: r=>cases x <;> rfl
theorem Xi:bootBuiltins "int" = some (.type "int"):=by decide +kernel
theorem V0:bootBuiltins "bool" = some (.type "bool"):=by decide +kernel
theorem Ep {pc:Pos} (hg:Gl X "isinstance") (hm:X.mg "isinstance" = none) (hg2:Gl X "tuple") (hm2:X.mg "tuple" = none) (ha:PE X a (tOf X.K B m)) (he:starEach [a,.Name "tuple" pc] X.env = (false,eval a X.env) :: starEach [.Name "tuple" pc] X.env:=by rfl) :
    PE X (.Call (.Name "isinstance" p) [a,.Name "tuple" pc] [] pos) (tOf X.K B (j8 isTup (ak m gq))):=by
  rw [show isTup = _ from funext a0d]
  exact Sh (cn := "tuple") hg hm hg2 hm2 boot_tuple (fun t ty h=>by cases t <;> cases h <;> rfl) ha (by decide) (by decide) he
theorem Qi {pc:Pos} (hg:Gl X "isinstance") (hm:X.mg "isinstance" = none) (hg2:Gl X "list") (hm2:X.mg "list" = none) (ha:PE X a (tOf X.K B m)) (he:starEach [a,.Name "list" pc] X.env = (false,eval a X.env) :: starEach [.Name "list" pc] X.env:=by rfl) :
    PE X (.Call (.Name "isinstance" p) [a,.Name "list" pc] [] pos) (tOf X.K B (j8 Y7 (ak m gq))):=by
  rw [show Y7 = _ from funext Z0]
  exact Sh (cn := "list") hg hm hg2 hm2 boot_list (fun t ty h=>by cases t <;> cases h <;> rfl) ha (by decide) (by decide) he
theorem U7 {pc:Pos} (hg:Gl X "isinstance") (hm:X.mg "isinstance" = none) (hg2:Gl X "int") (hm2:X.mg "int" = none) (ha:PE X a (tOf X.K B m)) (he:starEach [a,.Name "int" pc] X.env = (false,eval a X.env) :: starEach [.Name "int" pc] X.env:=by rfl) :
    PE X (.Call (.Name "isinstance" p) [a,.Name "int" pc] [] pos) (tOf X.K B (j8 isInt (ak m gq))):=by
  rw [show isInt = _ from funext a0b]
  exact Sh (cn := "int") hg hm hg2 hm2 Xi (fun t ty h=>by cases t <;> cases h <;> rfl) ha (by decide) (by decide) he
theorem Rc {pc:Pos} (hg:Gl X "isinstance") (hm:X.mg "isinstance" = none) (hg2:Gl X "bool") (hm2:X.mg "bool" = none) (ha:PE X a (tOf X.K B m)) (he:starEach [a,.Name "bool" pc] X.env = (false,eval a X.env) :: starEach [.Name "bool" pc] X.env:=by rfl) :
    PE X (.Call (.Name "isinstance" p) [a,.Name "bool" pc] [] pos) (tOf X.K B (j8 a5z (ak m gq))):=by
  rw [show a5z = _ from funext a1h]
  exact Sh (cn := "bool") hg hm hg2 hm2 V0 (fun t ty h=>by cases t <;> cases h <;> rfl) ha (by decide) (by decide) he
end
end C
end
noncomputable section
set_option linter.all false
set_option autoImplicit false
namespace C
open PySem
mutual
theorem Dt:∀ (t:T) {d:PyData},dat t = some d→d.canLay0 = true
  | .non,_,h=>by simp only [dat] at h; cases h; simp only [PyData.canLay0]
  | .bl b,_,h=>by simp only [dat] at h; cases h; simp only [PyData.canLay0]
  | .int i,_,h=>by simp only [dat] at h; cases h; simp only [PyData.canLay0]
  | .str x,_,h=>by
    simp only [dat] at h
    split at h
    · rename_i hx; cases h; exact hx
    · cases h
  | .tup xs,_,h=>by
    simp only [dat] at h
    obtain ⟨l,e1,e2⟩:=Option.map_eq_some_iff.mp h
    subst e2
    simp only [PyData.canLay0]
    exact Mh xs e1
  | .lst xs,_,h=>by
    simp only [dat] at h
    obtain ⟨l,e1,e2⟩:=Option.map_eq_some_iff.mp h
    subst e2
    simp only [PyData.canLay0]
    exact Mh xs e1
  | .dic _,_,h=>by simp only [dat] at h; cases h
  | .obj _,_,h=>by simp only [dat] at h; cases h
theorem Mh:∀ (ts:List T) {l:List PyData},Ks ts = some l→PyData.canLayAll0 l = true
  | [],_,h=>by simp only [Ks] at h; cases h; simp only [PyData.canLayAll0]
  | x :: r,_,h=>by
    simp only [Ks] at h
    split at h
    · rename_i a ea
      obtain ⟨l,e1,e2⟩:=Option.map_eq_some_iff.mp h
      subst e2
      simp only [PyData.canLayAll0]
      rw [Dt x ea,Mh r e1]; rfl
    · cases h
end
theorem Yc {x:T} {r:List T} {l:List PyData} (h:Ks (x :: r) = some l):∃ a l',dat x = some a∧Ks r = some l'∧l = a :: l':=by
  simp only [Ks] at h
  split at h
  · rename_i a ea
    obtain ⟨l,e1,e2⟩:=Option.map_eq_some_iff.mp h
    exact ⟨a,l,ea,e1,e2.symm⟩
  · cases h
theorem Qj {t u:T} {b:Bool} (h:eqD t u = some b):∃ x y,dat t = some x∧dat u = some y∧x.depth≤40∧b = PyData.eqv x y:=by
  unfold eqD at h
  split at h
  · rename_i x ex
    split at h
    · rename_i y ey
      split at h
      · rename_i hd; cases h; exact ⟨x,y,ex,ey,hd,rfl⟩
      · cases h
    · cases h
  · cases h
theorem a2r {t u:T} {b:Bool} (h:eqT t u = some b):(∃ x y,t = .dic x∧u = .dic y∧((x.length = y.length∧a3u x y = some b)∨(x.length≠y.length∧b = false)))∨eqD t u = some b:=by
  unfold eqT at h
  split at h
  · split at h
    · rename_i hl; exact .inl ⟨_,_,rfl,rfl,.inl ⟨hl,h⟩⟩
    · rename_i hl; cases h; exact .inl ⟨_,_,rfl,rfl,.inr ⟨hl,rfl⟩⟩
  · exact .inr h
end C
end
noncomputable section
set_option linter.all false
set_option maxRecDepth 100000
set_option maxHeartbeats 4000002
set_option autoImplicit false
namespace C
open PySem PySem.Spec PyProof.Rows L2
noncomputable section
variable {X:Cx} {pins:List (Addr × Obj)} {σ:L2.St} {H S:Hp} {s:Shared} {as:List Addr}
mutual
theorem Rep.reads (I:L2.Inv X pins σ H s) (sub:Same S H):∀ {v:V} {t:T},Rep X.K S as v t→∀ {d:PyData} {u:Value},dat t = some d→RelV v u→∃ bs,Reads s.heap u d bs
  | _,_,.non,_,_,e,r=>by simp only [dat] at e; cases e; cases r; exact ⟨_,.none⟩
  | _,_,.bl b,_,_,e,r=>by simp only [dat] at e; cases e; cases r; exact ⟨_,.bool b⟩
  | _,_,.int i,_,_,e,r=>by simp only [dat] at e; cases e; obtain ⟨t,rfl⟩:=r; exact ⟨_,.int i t⟩
  | _,_,.str x,_,_,e,r=>by
    simp only [dat] at e
    split at e
    · cases e; obtain ⟨t,rfl⟩:=r; exact ⟨_,.str x t⟩
    · cases e
  | _,_,.tup h q,_,_,e,r=>by
    simp only [dat] at e
    obtain ⟨l,e1,e2⟩:=Option.map_eq_some_iff.mp e
    subst e2
    cases r
    obtain ⟨its,rv,⟨o,h1,h2,n,h3⟩,_⟩:=I.tuple (sy sub h)
    obtain ⟨bs,rb⟩:=uq.reads I sub q e1 rv
    exact ⟨_,.tuple h1 h2 h3 rb⟩
  | _,_,.lst h q,_,_,e,r=>by
    simp only [dat] at e
    obtain ⟨l,e1,e2⟩:=Option.map_eq_some_iff.mp e
    subst e2
    cases r
    obtain ⟨its,rv,⟨o,n,h1,h2,_,h3⟩,_⟩:=I.list (qg sub h)
    obtain ⟨bs,rb⟩:=uq.reads I sub q e1 rv
    exact ⟨_,.list h1 h2 h3 rb⟩
  | _,_,.dic _ _,_,_,e,_=>by simp only [dat] at e; cases e
  | _,_,.obj _,_,_,e,_=>by simp only [dat] at e; cases e
theorem uq.reads (I:L2.Inv X pins σ H s) (sub:Same S H):∀ {vs:List V} {ts:List T},uq X.K S as vs ts→∀ {ds:List PyData} {us:List Value},Ks ts = some ds→Vals vs us→∃ bs,ReadsAll s.heap us ds bs
  | _,_,.nil,_,_,e,r=>by simp only [Ks] at e; cases e; cases r; exact ⟨_,.nil⟩
  | _,_,.cons h q,_,_,e,r=>by
    obtain ⟨a,l,e1,e2,e3⟩:=Yc e
    subst e3
    cases r with
    | cons r1 r2 =>
      obtain ⟨b1,x1⟩:=Rep.reads I sub h e1 r1
      obtain ⟨b2,x2⟩:=uq.reads I sub q e2 r2
      exact ⟨_,.cons x1 x2⟩
end
theorem a0t (I:L2.Inv X pins σ H s) (sub:Same S H) {x y:V} {t u:T} {v w:Value} {b:Bool} {A:Around} (hx:Rep X.K S as x t) (hy:Rep X.K S as y u) (rx:RelV x v) (ry:RelV y w) (e:eqD t u = some b) (hu:A.units + 40 < cLine):SeqAt.EqAt A s v w b:=by
  obtain ⟨dx,dy,e1,e2,hd,rfl⟩:=Qj e
  obtain ⟨b1,x1⟩:=hx.reads I sub e1 rx
  obtain ⟨b2,x2⟩:=hy.reads I sub e2 ry
  exact SeqAt.eqAt_reads dx dy A s v w b1 b2 x1 x2 (Dt _ e1) (Dt _ e2) (by have:=Nat.min_le_left dx.depth dy.depth; omega)
theorem Xo (I:L2.Inv X pins σ H s) (sub:Same S H) {A:Around} (hu:A.units + 40 < cLine) {kb:List (L2.Key × V)} {ub:List (L2.Key × T)} {wb:List (L2.Key × Value)} (rb:Cr X.K S as kb ub) (vb:KV kb wb) :
    ∀ {ka:List (L2.Key × V)} {ua:List (L2.Key × T)} {wa:List (L2.Key × Value)} {r:Bool},Cr X.K S as ka ua→KV ka wa→a3u ua ub = some r→PySem.W.KeqHits A s wb wa r
  | _,_,_,_,.nil,va,e=>by
    simp only [a3u] at e; cases e
    cases va
    exact .nil
  | _,_,_,_,.cons (k:=k) h q,va,e=>by
    simp only [a3u] at e
    cases va with
    | @cons _ p2 _ _ hp hr =>
      obtain ⟨pk,pv⟩:=p2
      obtain ⟨ek,rv⟩:=hp
      dsimp only at ek rv
      subst ek
      rcases rb.get k with ⟨z,t',a1,a2,a3⟩ | ⟨a1,a2⟩
      · rw [a2] at e
        dsimp only at e
        have rel:=KV.val vb k
        rw [a1] at rel
        obtain ⟨w',hw,rw'⟩:=Q6.some_of rel
        split at e
        · rename_i eb he
          obtain ⟨b',e1,e2⟩:=Option.map_eq_some_iff.mp e
          subst e2
          exact .hit hw (a0t I sub h a3 rv rw' he hu) (Xo I sub hu rb vb q hr e1)
        · cases e
      · rw [a2] at e
        cases e
        have rel:=KV.val vb k
        rw [a1] at rel
        exact .miss (Q6.none_of rel)
end
noncomputable section
variable {X:Cx}
theorem O7 {op:CmpOp} {neg:Bool} (hop:(op = .Eq∧neg = false)∨(op = .NotEq∧neg = true)) {g:T→T→Option T} (hg:∀ t u w,g t u = some w→∃ b,eqT t u = some b∧w = .bl (xor neg b)) (hu:X.A.units + 64 < cLine):OpT X (compareOp op) g:=by
  intro pins s σ H x y v u Q I rx ry ⟨S,as,t,t2,w,sub,ht,hu2,hf,q⟩
  obtain ⟨b,e,rfl⟩:=hg _ _ _ hf
  have fin:EP X pins σ Q (.bool (xor neg b)) s:=⟨.bl (xor neg b),H,I,rfl,q _ H S (Ext.refl sub) (.bl _)⟩
  rcases a2r e with ⟨xs,ys,rfl,rfl,hd⟩ | he
  · cases ht with
    | @dic a kvs _ g1 g2 =>
      cases hu2 with
      | @dic a' kvs' _ k1 k2 =>
        cases rx
        cases ry
        obtain ⟨z,hs,vs,rel,dd⟩:=Kr I.hok (Bl sub g1)
        obtain ⟨z',hs',vs',rel',dd'⟩:=Kr I.hok (Bl sub k1)
        have l1:vs.length = xs.length:=by rw [← rel.length]; exact g2.length
        have l2:vs'.length = ys.length:=by rw [← rel'.length]; exact k2.length
        have hu1:X.A.in1.units + 40 < cLine:=by show X.A.units + 1 + 40 < cLine; omega
        rcases hd with ⟨hl,eb⟩ | ⟨hl,rfl⟩
        · have hits:vs.length = vs'.length→PySem.W.KeqHits X.A.in1 s vs' vs b:=fun _=>Xo I sub hu1 k2 rel' g2 rel eb
          have el:(vs.length == vs'.length) = true:=by rw [l1,l2,hl]; exact beq_self_eq_true _
          rcases hop with ⟨rfl,rfl⟩ | ⟨rfl,rfl⟩
          · refine PySem.W.keq_eq hs hs' dd dd' (by omega) hits ?_
            rw [el]; simpa using fin
          · refine PySem.W.keq_ne hs hs' dd dd' (by omega) hits ?_
            rw [el]; simpa using fin
        · have hits:vs.length = vs'.length→PySem.W.KeqHits X.A.in1 s vs' vs true:=fun h=>absurd (by rw [← l1,← l2]; exact h) hl
          have el:(vs.length == vs'.length) = false:=by rw [l1,l2]; exact beq_eq_false_iff_ne.mpr hl
          rcases hop with ⟨rfl,rfl⟩ | ⟨rfl,rfl⟩
          · refine PySem.W.keq_eq hs hs' dd dd' (by omega) hits ?_
            rw [el]; simpa using fin
          · refine PySem.W.keq_ne hs hs' dd dd' (by omega) hits ?_
            rw [el]; simpa using fin
  · obtain ⟨dx,dy,e1,e2,hd,rfl⟩:=Qj he
    obtain ⟨b1,x1⟩:=ht.reads I sub e1 rx
    obtain ⟨b2,x2⟩:=hu2.reads I sub e2 ry
    have hm:X.A.units + min dx.depth dy.depth < cLine:=by have:=Nat.min_le_left dx.depth dy.depth; omega
    rcases hop with ⟨rfl,rfl⟩ | ⟨rfl,rfl⟩
    · exact SeqAt.compareEq_reads x1 x2 (Dt _ e1) (Dt _ e2) hm (by simpa using fin)
    · exact SeqAt.compareNe_reads x1 x2 (Dt _ e1) (Dt _ e2) hm (by simpa using fin)
theorem uc (hu:X.A.units + 64 < cLine):OpT X (compareOp .Eq) eqO:=O7 (.inl ⟨rfl,rfl⟩) (fun t u w h=>by
  unfold eqO at h
  split at h
  · rename_i b e; cases h; exact ⟨b,e,by simp⟩
  · cases h) hu
theorem Gg (hu:X.A.units + 64 < cLine):OpT X (compareOp .NotEq) neO:=O7 (.inr ⟨rfl,rfl⟩) (fun t u w h=>by
  unfold neO at h
  split at h
  · rename_i b e; cases h; exact ⟨b,e,by simp⟩
  · cases h) hu
open Classical in
noncomputable def a0y (h:Heap) (dx:PyData) (y:Value):Bool:=if e:∃ d bs,Reads h y d bs∧d.canLay0 = true then PyData.eqv (Classical.choose e) dx else false
theorem a1f {h:Heap} {dx d:PyData} {y:Value} {bs:List Addr} (r:Reads h y d bs) (l:d.canLay0 = true):a0y h dx y = PyData.eqv d dx:=by
  have e:∃ d bs,Reads h y d bs∧d.canLay0 = true:=⟨d,bs,r,l⟩
  unfold a0y
  rw [dif_pos e]
  obtain ⟨bs',r',l'⟩:=Classical.choose_spec e
  rw [SeqAt.Reads.unique _ _ _ _ _ l' r' r]
theorem Wh {pins:List (Addr × Obj)} {σ:L2.St} {H S:Hp} {s:Shared} {as:List Addr} {A:Around} (I:L2.Inv X pins σ H s) (sub:Same S H) (hu:A.units + 40 < cLine) {x:V} {t:T} {v:Value} {dx:PyData} (hx:Rep X.K S as x t) (rx:RelV x v) (ex:dat t = some dx) :
    ∀ {vs:List V} {ts:List T} {us:List Value} {b:Bool},uq X.K S as vs ts→Vals vs us→inL t ts = some b→(∀ y∈us,SeqAt.EqAt A s y v (a0y s.heap dx y))∧us.any (a0y s.heap dx) = b
  | _,_,_,_,.nil,r,e=>by simp only [inL] at e; cases e; cases r; exact ⟨fun y h=>(nomatch h),rfl⟩
  | _,_,_,_,.cons h q,r,e=>by
    simp only [inL] at e
    cases r with
    | @cons _ u1 _ us1 r1 r2 =>
      split at e
      · rename_i eb he
        obtain ⟨b',e1,e2⟩:=Option.map_eq_some_iff.mp e
        subst e2
        obtain ⟨i1,i2⟩:=Wh I sub hu hx rx ex q r2 e1
        obtain ⟨dy,dx',f1,f2,hd,rfl⟩:=Qj he
        rw [ex] at f2; cases f2
        obtain ⟨b1,x1⟩:=h.reads I sub f1 r1
        have hb:=a1f (dx:=dx) x1 (Dt _ f1)
        refine ⟨fun y hy=>?_,by rw [List.any_cons,i2,hb]⟩
        rcases List.mem_cons.mp hy with rfl | hy -- here
        · rw [hb]; exact a0t I sub h hx r1 rx he hu
        · exact i1 y hy
      · cases e
theorem Wf {t u w:T} (h:inT t u = some w):(∃ ys b,(u = .tup ys∨u = .lst ys)∧inL t ys = some b∧(dat t).isSome = true∧w = .bl b)∨(∃ kvs q,u = .dic kvs∧keyOf t = some q∧w = .bl (Eh q kvs).isSome):=by
  unfold inT at h
  split at h
  · obtain ⟨q,e1,e2⟩:=Option.map_eq_some_iff.mp h
    exact .inr ⟨_,q,rfl,e1,e2.symm⟩
  · split at h
    · rename_i hd
      split at h
      · obtain ⟨b,e1,e2⟩:=Option.map_eq_some_iff.mp h; exact .inl ⟨_,b,.inl rfl,e1,hd,e2.symm⟩
      · obtain ⟨b,e1,e2⟩:=Option.map_eq_some_iff.mp h; exact .inl ⟨_,b,.inr rfl,e1,hd,e2.symm⟩
      · cases h
    · cases h
theorem O5 {op:CmpOp} {neg:Bool} (hop:(op = .In∧neg = false)∨(op = .NotIn∧neg = true)) {g:T→T→Option T} (hg:∀ t u w,g t u = some w→∃ w',inT t u = some w'∧∃ b,w' = .bl b∧w = .bl (xor neg b)) (hu:X.A.units + 64 < cLine):OpT X (compareOp op) g:=by
  intro pins s σ H x y v u Q I rx ry ⟨S,as,t,t2,w,sub,ht,hu2,hf,q⟩
  obtain ⟨w',ei,b0,rfl,rfl⟩:=hg _ _ _ hf
  rcases Wf ei with ⟨ys,b,hy,e,hdt,eb⟩ | ⟨kvs,qk,rfl,ek,eb⟩
  · cases eb
    obtain ⟨dx,ex⟩:=Option.isSome_iff_exists.mp hdt
    have fin:EP X pins σ Q (.bool (xor neg b0)) s:=⟨.bl (xor neg b0),H,I,rfl,q _ H S (Ext.refl sub) (.bl _)⟩
    have hu1:X.A.in1.units + 40 < cLine:=by show X.A.units + 1 + 40 < cLine; omega
    rcases hy with rfl | rfl
    · cases hu2 with
      | @tup a vs _ g1 g2 =>
        cases ry
        obtain ⟨its,r,p,hz⟩:=I.tuple (sy sub g1)
        obtain ⟨i1,i2⟩:=Wh I sub hu1 ht rx ex g2 r e
        have he:∀ y,y∈its.toArray→SeqAt.EqAt X.A.in1 s y v (a0y s.heap dx y):=fun y hy=>i1 y (by simpa using hy)
        have ha:its.toArray.any (a0y s.heap dx) = b0:=by rw [← i2]; simp
        rcases hop with ⟨rfl,rfl⟩ | ⟨rfl,rfl⟩
        · exact SeqAt.in_tupleAt _ (show s.heap.IsTuple a its.toArray from p) he (by rw [ha]; simpa using fin)
        · exact SeqAt.notIn_tupleAt _ (show s.heap.IsTuple a its.toArray from p) he (by rw [ha]; simpa using fin)
    · cases hu2 with
      | @lst a vs _ g1 g2 =>
        cases ry
        obtain ⟨its,r,p,hz⟩:=I.list (qg sub g1)
        obtain ⟨i1,i2⟩:=Wh I sub hu1 ht rx ex g2 r e
        have he:∀ y,y∈its.toArray→SeqAt.EqAt X.A.in1 s y v (a0y s.heap dx y):=fun y hy=>i1 y (by simpa using hy)
        have ha:its.toArray.any (a0y s.heap dx) = b0:=by rw [← i2]; simp
        rcases hop with ⟨rfl,rfl⟩ | ⟨rfl,rfl⟩
        · exact SeqAt.in_listAt _ p.isList he (by rw [ha]; simpa using fin)
        · exact SeqAt.notIn_listAt _ p.isList he (by rw [ha]; simpa using fin)
  · cases eb
    cases hu2 with
    | @dic a kv _ g1 g2 =>
      cases ry
      have ey:=U9 ht ek
      subst ey
      have hs:(Eh qk kvs).isSome = (Q8 kv qk).isSome:=by
        rcases g2.get qk with ⟨z,t',a1,a2,_⟩ | ⟨a1,a2⟩
        · simp [a1,a2]
        · simp [a1,a2]
      rw [hs] at q
      have gd:W5 H a (kV qk) (Q8 kv qk):=.inl ⟨kv,qk,Bl sub g1,rfl,rfl⟩
      rcases hop with ⟨rfl,rfl⟩ | ⟨rfl,rfl⟩
      · exact a8k (by omega) I gd rx fun s' I'=>⟨.bl _,H,I',rfl,by simpa using q _ H S (Ext.refl sub) (.bl _)⟩
      · exact a2z (by omega) I gd rx fun s' I'=>⟨.bl _,H,I',rfl,by simpa using q _ H S (Ext.refl sub) (.bl _)⟩
theorem Sg (hu:X.A.units + 64 < cLine):OpT X (compareOp .In) inT:=O5 (.inl ⟨rfl,rfl⟩) (fun t u w h=>by
  rcases Wf h with ⟨ys,b,h1,h2,h3,rfl⟩ | ⟨kvs,q,rfl,h2,rfl⟩
  · exact ⟨_,h,b,rfl,by simp⟩
  · exact ⟨_,h,_,rfl,by simp⟩) hu
theorem Wd (hu:X.A.units + 64 < cLine):OpT X (compareOp .NotIn) Rr:=O5 (.inr ⟨rfl,rfl⟩) (fun t u w h=>by
  unfold Rr at h
  split at h
  · rename_i b e
    cases h
    exact ⟨_,e,b,rfl,by simp⟩
  · cases h) hu
end
end C
end
noncomputable section
set_option linter.all false
set_option maxRecDepth 100000
set_option maxHeartbeats 4000002
set_option autoImplicit false
namespace C
open PySem PySem.Spec PyProof.Rows L2
noncomputable def a8d (K:PySem.W.Frag) (ar:Nat) (F:Fn):Sp:=fun vs H Q _=>∃ S as sto ts t sto',Same S H∧Im K S as H sto∧uq K S as vs ts∧ts.length = ar∧F ts sto = some (t,sto') ∧
  ∀ p H' S' as',Vf ⟨S,as,H⟩ S' as' H'→Same S' H'→Im K S' as' H' sto'→Lb K ⟨S,as,H⟩ S' as' H' p t→Q (.ref p) H'
theorem a3k {g:G} {m:M T} {s s':Sta} {fl:Flow} (h:sGo g m s = some (fl,s')):∃ t s1,m s = some (t,s1)∧g t s1 = some s'∧fl = .next:=by
  unfold sGo at h
  split at h
  · rename_i t s1 e
    split at h
    · rename_i s2 e2; cases h; exact ⟨t,s1,e,e2,rfl⟩
    · cases h
  · cases h
noncomputable section
variable {X:Cx} {B:Bas} {a b c e:Expr} {m m1 m2:M T} {pos p:Pos} {u v:S} {es:List Expr} {ms:M (List T)} {k n:Nat} {f:Addr} {fd:FuncData} {pn:List Str} {F:Fn} {x:Str}
theorem a3c {g:G} {s:Stmt} (h:PS X s (a1v (tOf X.K B m) (gOf X.K B g))):PS X s (sOf X.K B (sGo g m)):=h.imp fun D σ H z9=>by
  obtain ⟨st,ps,S,as,R,fl,st',e,q⟩:=z9
  obtain ⟨t,s1,e1,e2,rfl⟩:=a3k e
  exact ⟨st,ps,S,as,R,t,s1,e1,fun v H' S' as' R'=>⟨s1,ps,S',as',t,R',st',e2,fun σ' H'' S'' as'' R''=>q σ' H'' S'' as'' R''⟩⟩
theorem Rw {is:List Nat} {env:List Slot} {j:Nat} {t:T} {f:Bool} (h:(lend is env)[j]? = some (some (t,f))):f = false∧∃ g,env[j]? = some (some (t,g))∧(g = true→j∈is):=by
  unfold lend at h
  rw [List.getElem?_mapIdx] at h
  obtain ⟨x,e1,e2⟩:=Option.map_eq_some_iff.mp h
  cases x with
  | none=>cases e2
  | some p =>
    obtain ⟨t',g⟩:=p
    dsimp only at e2
    cases g with
    | false=>simp at e2; obtain ⟨rfl,rfl⟩:=e2; exact ⟨rfl,false,e1,fun z=>by cases z⟩
    | true =>
      by_cases hj:j∈is
      · simp [hj] at e2; obtain ⟨rfl,rfl⟩:=e2; exact ⟨rfl,true,e1,fun _=>hj⟩
      · simp [hj] at e2
end
noncomputable def Wn (P:Program) (w:World) (K:PySem.W.Frag) (mg:Str→Option Value) (base:Heap) (x:Str) (k:Nat) (ps:List Str) (F:Fn):Prop :=
  ∃ f fd,Cv P w K mg base CX0 k f fd ps (a8d K ps.length F)∧Binds K fd ps []∧PySem.W.keepIn K (.ref f) = true∧mg x = some (.ref f)
theorem Wn.mono {P:Program} {w:World} {K:PySem.W.Frag} {mg:Str→Option Value} {base:Heap} {x:Str} {j k:Nat} {ps:List Str} {F:Fn} (d:Wn P w K mg base x j ps F) (h:j≤k):Wn P w K mg base x k ps F:=by
  obtain ⟨f,fd,h1,h2⟩:=d
  exact ⟨f,fd,h1.mono h,h2⟩
noncomputable section
variable {X:Cx} {B:Bas} {a b c e:Expr} {m m1 m2:M T} {pos p:Pos} {es:List Expr} {ms:M (List T)} {n:Nat} {pn:List Str} {F:Fn} {x:Str}
end
noncomputable section
variable {P:Program} {w:World} {K:PySem.W.Frag} {mg:Str→Option Value} {base:Heap}
end
end C
end
noncomputable section
set_option linter.all false
set_option maxRecDepth 100000
set_option maxHeartbeats 4000002
set_option autoImplicit false
namespace C
open PySem PySem.Spec PyProof.Rows L2
noncomputable section
variable {X:Cx} {B:Bas} {a b c e:Expr} {m m1 m2:M T} {pos p p2 pos2:Pos}
noncomputable def Vl:List Nat→TGs
  | []=>a7s
  | i :: is=>a5h (Nj i) (Vl is)
theorem U3 {K:PySem.W.Frag} {H S:Hp} {as:List Addr} {ps:List (V × T)}:∀ (is:List Nat) {vs:List V} {xs:List T} {st:Sta} {σ:L2.St} {Q:L2.St→Hp→Prop},Rel K B st σ H ps S as→uq K S as vs xs→xs.length = is.length →
    (∀ σ',Rel K B ((is.zip xs).foldl (fun s p=>bh p.1 p.2 false s) st) σ' H ps S as→Q σ' H)→Vl is vs σ H Q
  | [],_,_,_,_,_,R,.nil,_,q=>⟨rfl,q _ R⟩
  | i :: is,_,_,_,_,_,R,.cons r rs,hl,q=>⟨_,_,rfl,U3 is (R.put (i:=i) r) rs (by simpa using hl) q⟩
  | [],_,_,_,_,_,_,.cons _ _,hl,_=>by simp at hl
  | _ :: _,_,_,_,_,_,_,.nil,hl,_=>by simp at hl
theorem Fw {is:List Nat} {tg:Expr} (h:PG X tg (a7w X.K is.length (Vl is))):PG X tg (gOf X.K B (jt is)):=fun pins s σ H x u Q I r ⟨st,ps,S,as,t,R,st',e,q⟩=>h pins s σ H x u Q I r (by
  have top:=R.top
  cases t with
  | tup xs =>
    cases top with
    | @tup a vs _ g1 g2 =>
      simp only [jt] at e
      split at e
      · rename_i hl
        cases e
        exact ⟨a,vs,rfl,sy R.sub g1,by rw [g2.length]; exact hl,U3 is R.drop g2 hl fun σ' R'=>q σ' H S as R'⟩
      · cases e
  | _=>simp only [jt,reduceCtorEq] at e)
end
end C
namespace C
open PySem PySem.Spec PyProof.Rows L2
end C
end
noncomputable section
set_option autoImplicit false
namespace C
open PySem
end C
end
noncomputable section
set_option autoImplicit false
namespace C
open PySem
noncomputable def a2l (xs ys:List T):List T:=(xs.zip ys).map fun p=>.tup [p.1,p.2]
noncomputable def sIx (n d:Nat):Option Int→Nat
  | none=>d
  | some v=>if v < 0 then (v + (n:Int)).toNat else min v.toNat n
noncomputable def a3v (xs:List T) (lo hi:Option Int):List T:=(xs.drop (sIx xs.length 0 lo)).take (sIx xs.length xs.length hi - sIx xs.length 0 lo)
noncomputable def Yw (lo hi:Option Int):T→Option T
  | .lst xs=>some (.lst (a3v xs lo hi))
  | .tup xs=>if sIx xs.length 0 lo = 0∧sIx xs.length xs.length hi = xs.length then none else some (.tup (a3v xs lo hi))
  | _=>none
noncomputable def J4 (e:M T):M (Option Int):=fun s=>match e s with
  | some (.int i,s1)=>some (some i,s1)
  | _=>none
noncomputable def Gs (m:M T) (lo hi:M (Option Int)):M T:=fun s=>match m s with
  | some (t,s1)=>match lo s1 with
    | some (l,s2)=>match hi s2 with
      | some (h,s3)=>match Yw l h t with
        | some u=>some (u,s3)
        | none=>none
      | none=>none
    | none=>none
  | none=>none
end C
end
noncomputable section
set_option linter.all false
set_option autoImplicit false
namespace C
open PySem
noncomputable def Gf (t u:T):Option T:=match iz t,iz u with
  | some xs,some ys=>if xs.length < lim∧ys.length < lim then (Bg (a2l xs ys)).map fun l=>.dic (l.foldl (fun d p=>Ku p.1 p.2 d) []) else none
  | _,_=>none
noncomputable def Ni (xs:List T):List T:=xs.zipIdx.map fun p=>.tup [.int (p.2:Int),p.1]
noncomputable def Oe (a:M T):M (List T):=fun s=>match a s with
  | some (.lst xs,s1)=>if xs.length < lim then some (Ni xs,s1) else none
  | _=>none
noncomputable def a5m (f:List (Key × T)→List T) (a:M T):M (List T):=fun s=>match a s with
  | some (.dic kvs,s1)=>if kvs.length < lim then some (f kvs,s1) else none
  | _=>none
noncomputable def Ii (kvs:List (Key × T)):List T:=kvs.map fun p=>.tup [V1 p.1,p.2]
noncomputable def Nh (a:M T):M (List T):=a5m Ii a
noncomputable def Uo:T→T→Option T
  | .lst xs,.int j=>if 0≤j∧j < 1000000∧xs.length * j.toNat < lim then some (.lst (List.replicate j.toNat xs).flatten) else none
  | _,_=>none
mutual
noncomputable def noObj:T→Bool
  | .obj _=>false
  | .tup xs=>Hz xs
  | .lst xs=>Hz xs
  | .dic kvs=>N7 kvs
  | _=>true
noncomputable def Hz:List T→Bool
  | []=>true
  | x :: r=>noObj x && Hz r
noncomputable def N7:List (Key × T)→Bool
  | []=>true
  | (_,x) :: r=>noObj x && N7 r
end
noncomputable def Mz (is:List Nat) (env:List Slot):List Slot:=(lend is env).map fun s=>match s with
  | some (t,f)=>if noObj t then some (t,f) else none
  | none=>none
noncomputable def Nb (is:List Nat) (m:M Bool):M Bool:=fun s=>match m ⟨Mz is s.env,[]⟩ with
  | some (b,s1)=>match s1.sto with
    | []=>some (b,s)
    | _=>none
  | none=>none
end C
end
noncomputable section
set_option linter.all false
set_option maxRecDepth 100000
set_option maxHeartbeats 4000002
set_option autoImplicit false
namespace C
open PySem PySem.Spec PyProof.Rows L2
noncomputable section
variable {X:Cx} {B:Bas} {a b c e lo hi:Expr} {m m1 m2 ml mh:M T} {pos p p2:Pos}
theorem Vz {K:PySem.W.Frag} {S:Hp} {as:List Addr} {x:V} {t:T} (r:Rep K S as x t):decide (x = V.non) = Z4 t:=by
  cases r <;> rfl
theorem Z7 {K:PySem.W.Frag} {S:Hp} {as:List Addr} {x:V} {t:T} (r:Rep K S as x t) (h:Z4 t = true):x = .non:=by
  cases r <;> first | rfl | cases h
theorem Oa:OpT X (compareOp .IsNot) Gq:=by
  intro pins s σ H x y v u Q I rx ry ⟨S,as,t,t2,w,sub,ht,hu2,hf,q⟩
  unfold Gq at hf
  split at hf
  · rename_i hn; cases hf
    exact a2a pins s σ H x y v u Q I rx ry ⟨Z7 hu2 hn,by rw [Vz ht]; exact q _ H S (Ext.refl sub) (.bl _)⟩
  · cases hf
theorem a5v:PS X (.Break pos) (sOf X.K B a6j):=Z9.imp fun D σ H z9=>by
  obtain ⟨st,ps,S,as,R,fl,st',e,q⟩:=z9
  cases e; exact q σ H S as R
theorem uq.take {K:PySem.W.Frag} {S:Hp} {as:List Addr}:∀ (n:Nat) {vs:List V} {ts:List T},uq K S as vs ts→uq K S as (vs.take n) (ts.take n)
  | 0,_,_,_=>.nil
  | _ + 1,_,_,.nil=>.nil
  | n + 1,_,_,.cons h r=>.cons h (uq.take n r)
end
end C
end
noncomputable section
set_option linter.all false
set_option maxRecDepth 100000
set_option maxHeartbeats 4000002
set_option autoImplicit false
namespace C
open PySem PySem.Spec PyProof.Rows L2
theorem Uz {o k:M T} {s s':Sta} {t:T} (h:Ca o k s = some (t,s')):∃ n s1 i xs j,o s = some (.obj n,s1)∧k s1 = some (.int i,s')∧s'.sto[n]? = some (.lst xs)∧ixI xs.length i = some j∧xs[j]? = some t:=by
  unfold Ca at h
  split at h
  · rename_i n s1 e1
    split at h
    · rename_i i s2 e2
      split at h
      · rename_i xs e3
        split at h
        · rename_i t' e4
          cases h
          obtain ⟨j,e5,e6⟩:=Option.bind_eq_some_iff.mp e4
          exact ⟨n,s1,i,xs,j,e1,e2,e3,e5,e6⟩
        · cases h
      · cases h
    · cases h
  · cases h
theorem Rf {o:M T} {s s':Sta} {t:T} (h:Ey o s = some (t,s')):∃ n xs,o s = some (.obj n,s')∧s'.sto[n]? = some (.lst xs)∧t = .int xs.length:=by
  unfold Ey at h
  split at h
  · rename_i n s1 e1
    split at h
    · rename_i xs e3; cases h; exact ⟨n,xs,e1,e3,rfl⟩
    · cases h
  · cases h
theorem Rm {a:M (List T)} {s s':Sta} {t:T} (h:Fe a s = some (t,s')):∃ ts s1,a s = some (ts,s1)∧t = .obj s1.sto.length∧s' = { s1 with sto:=s1.sto ++ [.lst ts] }:=by
  unfold Fe at h
  split at h
  · rename_i ts s1 e1; cases h; exact ⟨ts,s1,e1,rfl,rfl⟩
  · cases h
theorem Uw {o k v:M T} {s s':Sta} {fl:Flow} (h:Fv o k v s = some (fl,s')) :
    ∃ t s1 n s2 i s3 xs j,v s = some (t,s1)∧o s1 = some (.obj n,s2)∧k s2 = some (.int i,s3)∧s3.sto[n]? = some (.lst xs)∧ixI xs.length i = some j∧fl = .next∧s' = { s3 with sto:=s3.sto.set n (.lst (xs.set j t)) }:=by
  unfold Fv at h
  split at h
  · rename_i t s1 e
    split at h
    · rename_i n s2 eo
      split at h
      · rename_i i s3 ek
        split at h
        · rename_i xs ex
          split at h
          · rename_i j ej; cases h; exact ⟨t,s1,n,s2,i,s3,xs,j,e,eo,ek,ex,ej,rfl,rfl⟩
          · cases h
        · cases h
      · cases h
    · cases h
  · cases h
theorem R8 {i:Nat} {v:M T} {s s':Sta} {fl:Flow} (h:Ka i v s = some (fl,s')) :
    ∃ n ys t s1 xs,s.env[i]? = some (some (.obj n,false))∧s.sto[n]? = some (.lst ys)∧v s = some (t,s1)∧s1.sto[n]? = some (.lst xs)∧xs.length < lim∧fl = .next∧s' = { s1 with sto:=s1.sto.set n (.lst (xs ++ [t])) }:=by
  unfold Ka at h
  split at h
  · rename_i n e
    split at h
    · rename_i ys ey
      split at h
      · rename_i t s1 ev'
        split at h
        · rename_i xs ex
          split at h
          · rename_i hl; cases h; exact ⟨n,ys,t,s1,xs,e,ey,ev',ex,hl,rfl,rfl⟩
          · cases h
        · cases h
      · cases h
    · cases h
  · cases h
theorem uq.set {K:PySem.W.Frag} {S:Hp} {as:List Addr} {v:V} {t:T} (h:Rep K S as v t):∀ {vs:List V} {ts:List T} (j:Nat),uq K S as vs ts→uq K S as (vs.set j v) (ts.set j t)
  | _,_,_,.nil=>.nil
  | _,_,0,.cons _ r=>.cons h r
  | _,_,j + 1,.cons q r=>.cons q (uq.set h j r)
noncomputable section
variable {X:Cx} {B:Bas} {a b c e o k:Expr} {m mo mk mv:M T} {pos p:Pos}
theorem Cd (ho:PE X o (tOf X.K B mo)) (hk:PE X k (tOf X.K B mk)) (hs:R9 k):PE X (.Subscript o k pos) (tOf X.K B (Ca mo mk)):=(a5a Wo ho hk hs).imp fun σ H Q z9=>by
  obtain ⟨st,ps,S,as,R,t,st',e,q⟩:=z9
  obtain ⟨n,s1,i,xs,j,e1,e2,e3,e4,e5⟩:=Uz e
  refine ⟨st,ps,S,as,R,_,s1,e1,fun v H1 S1 as1 R1=>⟨s1,_,S1,as1,R1,_,st',e2,fun u H2 S2 as2 R2=>?_⟩⟩
  have t2:=R2.top2
  cases R2.top
  cases t2 with
  | @obj _ a ha =>
    obtain ⟨a',h1,h2,vs,h3,h4⟩:=R2.sto.at' n _ e3
    rw [ha] at h1; cases h1
    obtain ⟨z,hz,rz⟩:=h4.get e5
    refine ⟨a,vs,i,z,rfl,rfl,SqL.of h3,?_,q z H2 S2 as2 (R2.drop.drop.push rz)⟩
    rw [Nr,← h4.length] at e4
    unfold atI; rw [e4]; exact hz
theorem Xa (hg:Gl X "len") (hm:X.mg "len" = none) (ho:PE X o (tOf X.K B mo)) (he:starEach [o] X.env = (false,eval o X.env) :: starEach [] X.env:=by rfl) (hpl:(backTo pos (starEach [] X.env)).any (·.1) = false:=by rfl) :
    PE X (.Call (.Name "len" p) [o] [] pos) (tOf X.K B (Ey mo)):=(vo En hg hm PySem.boot_len (Ab ho Cm he) (by decide) (by decide) he hpl).imp fun σ H Q z9=>by
  obtain ⟨st,ps,S,as,R,t,st',e,q⟩:=z9
  obtain ⟨n,xs,e1,e2,rfl⟩:=Rf e
  refine ⟨st,ps,S,as,R,_,st',e1,fun v H1 S1 as1 R1=>?_⟩
  have t1:=R1.top
  cases t1 with
  | @obj _ a ha =>
    obtain ⟨a',h1,h2,vs,h3,h4⟩:=R1.sto.at' n _ e2
    rw [ha] at h1; cases h1
    exact ⟨a,vs,rfl,.inl (SqL.of h3),by rw [h4.length]; exact q _ H1 S1 as1 (R1.drop.push (.int _))⟩
theorem Og {es:List Expr} {ms:M (List T)} (h:PA X es (aOf X.K B ms)) (hm:∀ st ts st',ms st = some (ts,st')→ts.length≤1000):PE X (.List es pos) (tOf X.K B (Fe ms)) :=
  (Tr h).imp fun σ H Q z9=>by
    obtain ⟨st,ps,S,as,R,t,st',e,q⟩:=z9
    obtain ⟨ts,s1,e1,rfl,rfl⟩:=Rm e
    refine ⟨st,ps,S,as,R,ts,s1,e1,fun vs H1 S1 as1 R1 rs=>⟨?_,fun p hp=>?_⟩⟩
    · rw [rs.length]; exact Nat.le_of_lt (Eu (hm _ _ _ e1))
    · exact q _ _ _ _ (R1.newObj hp ⟨vs,jd,rs.mono (Same.refl _) ⟨[p],rfl⟩⟩)
theorem J7 {st:Stmt} (h:PS X st (a1v (tOf X.K B mv) (a7x (tOf X.K B mo) (tOf X.K B mk) a4d))):PS X st (sOf X.K B (Fv mo mk mv)):=h.imp fun D σ H z9=>by
  obtain ⟨st,ps,S,as,R,fl,st',e,q⟩:=z9
  obtain ⟨t,s1,n,s2,i,s3,xs,j,e1,e2,e3,e4,e5,rfl,rfl⟩:=Uw e
  refine ⟨st,ps,S,as,R,t,s1,e1,fun v H1 S1 as1 R1=>⟨s1,_,S1,as1,R1,_,s2,e2,fun x H2 S2 as2 R2=>⟨s2,_,S2,as2,R2,_,s3,e3,fun y H3 S3 as3 R3=>?_⟩⟩⟩
  have t2:=R3.top2
  cases R3.top
  cases t2 with
  | @obj _ a ha =>
    obtain ⟨a',h1,h2,vs,h3,h4⟩:=R3.sto.at' n _ e4
    rw [ha] at h1; cases h1
    have tv:Rep X.K S3 as3 v t:=R3.pend _ (List.mem_cons_of_mem _ (List.mem_cons_of_mem _ List.mem_cons_self))
    rw [Nr,← h4.length] at e5
    exact ⟨a,vs,i,j,rfl,rfl,h3,e5,q _ _ S3 as3 (R3.drop.drop.drop.a0m e4 ha ⟨_,jd,uq.set tv j h4⟩)⟩
theorem Yb (i:Nat) {st:Stmt} (h:PS X st (a2m (tBM X.K "list" Qz (a0a i) (Wb (tOf X.K B mv) a4t)))):PS X st (sOf X.K B (Ka i mv)):=h.imp fun D σ H z9=>by
  obtain ⟨st,ps,S,as,R,fl,st',e,q⟩:=z9
  obtain ⟨n,ys,t,s1,xs,e0,ey,e1,e2,hl,rfl,rfl⟩:=R8 e
  obtain ⟨w,h1,h2,_⟩:=R.slots i _ false e0
  have r0:=h2 rfl
  cases r0 with
  | @obj _ a ha =>
    obtain ⟨a0,l0,_,vs0,l1,_⟩:=R.sto.at' n _ ey
    rw [ha] at l0; cases l0
    refine ⟨_,h1,.inl ⟨rfl,_,SqL.of l1⟩,st,(.ref a,.obj n) :: ps,S,as,R.push (h2 rfl),t,s1,e1,fun v H1 S1 as1 R1=>?_⟩
    have t2:=R1.top2
    cases t2 with
    | @obj _ a2 ha2 =>
      obtain ⟨a',k1,k2,vs,k3,k4⟩:=R1.sto.at' n _ e2
      rw [ha2] at k1; cases k1
      exact ⟨a,vs,v,rfl,rfl,k3,by rw [k4.length]; exact Nat.lt_of_lt_of_le hl u9,q _ _ S1 as1 (R1.drop.drop.a0m e2 ha2 ⟨_,jd,k4.append (.cons R1.top .nil)⟩)⟩
end
end C
end
noncomputable section
set_option linter.all false
set_option maxRecDepth 100000
set_option maxHeartbeats 4000002
set_option autoImplicit false
namespace C
open PySem PySem.Spec PyProof.Rows L2
noncomputable section
variable {X:Cx} {B:Bas} {pins:List (Addr × Obj)} {σ:L2.St} {H S:Hp} {s:Shared} {as:List Addr} {Q:VK}
theorem gather {R:List Value→Shared→Prop} {A:Around} {E:Value→Shared→Prop} {T:String} {r d:Addr} {n:Nat} {P:Nat→Value→Prop} {OK:Heap→Prop} (KS:PySem.W.KdlSrc X.prog X.w T r d n P OK) (nh:A.handled = none) (ok0:OK s.heap) (sz:n≤sizeLine)
    (k:∀ (h1:Heap) (tk:Nat) (got:Array Value),s.heap.objs.size < h1.objs.size→(∀ b o,s.heap.get? b = some o→h1.get? b = some o)→ItemsOf P got n→R got.toList { s with heap:=h1,toks:=tk }) :
    wpAny (model X.prog X.w) A (collect (.ref r)) R E s:=by
  have lt0:=KS.there _ ok0
  unfold collect
  refine wpAny_bind (wpAny_runValue
    (codeAny_builtin entry_proto_collect' ?_))
  rw [Around.under_plainId
    PySem.F.plain_proto_collect _]
  show wpAny _ A.in1 (newList [] >>= fun z=>again (.builtin "list.__iadd__" ⟨[z,.ref r],[]⟩)) _ _ s
  refine wpAny_bind (wpAny_newObj_type (wpAny_pure ⟨plainId_quiet PySem.F.plain_list_iadd _,codeAny_builtin entry_list_iadd' ?_⟩))
  rw [Around.under_plainId
    PySem.F.plain_list_iadd _]
  change wpAny _ A.in1 (Builtin.List.listExtendWith (.ref s.heap.objs.size) (.ref r) (.ref s.heap.objs.size)) _ _ _
  have new0:(s.heap.push { cls:=.type "list",data:=.seq ([]:List Value).toArray }).get? s.heap.objs.size = some { cls:=.type "list",data:=.seq #[] }:=Heap.get?_push_size _ rfl
  have walk:=PySem.W.kdl_extend (A:=A) (s:={ s with heap:=s.heap.push { cls:=.type "list",data:=.seq ([]:List Value).toArray } })
    (R:=fun (f:Result) (s1:Shared)=>∃ (h1:Heap) (tk:Nat) (got:Array Value) (c1:Nat),f = .ok (.ret (.ref s.heap.objs.size))∧s1 = { s with heap:=h1,toks:=tk }∧(∀ b o,s.heap.get? b = some o→h1.get? b = some o) ∧
      h1.get? s.heap.objs.size = some { cls:=.type "list",dict:=none,data:=.seq got c1,slots:=#[] }∧ItemsOf P got n)
    KS nh (KS.keep _ _ ok0 fun b _ o e=>Heap.get?_push_of_some _ e) s.heap.objs.size (Nat.ne_of_gt lt0.1) (Nat.ne_of_gt lt0.2) (.ref s.heap.objs.size) 0 new0
    (fun h1 tk got c1 old at1 its=>⟨h1,tk,got,c1,rfl,rfl,fun b o e=>old b o (Nat.ne_of_lt (Heap.lt_size e)) (Heap.get?_push_of_some _ e),at1,its⟩) sz
  have last:∀ (h1:Heap) (tk:Nat) (got:Array Value) (c1:Nat),(∀ b o,s.heap.get? b = some o→h1.get? b = some o)→h1.get? s.heap.objs.size = some { cls:=.type "list",dict:=none,data:=.seq got c1,slots:=#[] }→ItemsOf P got n →
      wpAny (model X.prog X.w) A (load s.heap.objs.size >>= fun o=>match o.data with | .seq xs _=>pure xs.toList | _=>unsupported "internal:collect") R E { s with heap:=h1,toks:=tk } :=
    fun h1 tk got c1 old at1 its=>wpAny_bind (wpAny_load at1 (wpAny_pure (k h1 tk got (Heap.lt_size at1) old its)))
  refine wpAny_mono walk (fun fin s1 x=>?_) fun e s1 x=>?_
  · cases fin with
    | done f =>
      obtain ⟨h1,tk,got,c1,ef,rfl,old,at1,its⟩:=x
      cases ef
      exact last h1 tk got c1 old at1 its
    | again c =>
      refine ⟨x.1,codeAny_mono x.2 fun f s2 y=>?_⟩
      obtain ⟨h1,tk,got,c1,rfl,rfl,old,at1,its⟩:=y
      exact last h1 tk got c1 old at1 its
  · obtain ⟨_,_,_,_,ef,_⟩:=x
    cases ef
theorem Wi {T:String} {r d:Addr} {n:Nat} {P:Nat→Value→Prop} {OK:Heap→Prop} {l:List Str} (KS:PySem.W.KdlSrc X.prog X.w T r d n P OK) (hc:X.calm = true) (I:L2.Inv X pins σ H s) (sub:Same S H) (hok:OK s.heap) (h64:n < 64)
    (hi:∀ vs:List Value,vs.length = n→(∀ (j:Nat) (v:Value),vs[j]? = some v→P j v)→∃ l',StrsAre vs l'∧l'.Perm l)
    (q:∀ v H' S',Ext S H S' H'→Rep X.K S' as v (.lst ((Cg l).map .str))→Q v H'):wpAny (model X.prog X.w) X.A (call (.builtin "sorted") [.ref r]) (EP X pins σ Q) X.xe s:=by
  have hn:n≤sizeLine:=Nat.le_trans (Nat.le_of_lt h64) (by rw [sizeLine_eq]; decide)
  refine Calls.call_function_entry kind_sorted plain_sorted
    entry_sorted (args_sorted1 _) ?_
  unfold Builtin.«sorted»
  refine wpAny_bind (m:=checkCount "sorted" 1 1 _) (wpAny_pure (wpAny_bind ?_))
  refine (gather (A:=X.A.in1) KS (show X.A.in1.handled = none from I.ok.hd hc) hok hn fun h' tk acc hlt hk hacc=>?_)
  have hl:acc.toList.length = n:=Array.length_toList.trans hacc.1
  obtain ⟨l',hS,hp⟩:=hi acc.toList hl fun j v e=>hacc.2 j v (by rw [← Array.getElem?_toList]; exact e)
  refine wpAny_bind (wpAny_newList ?_ (hl ▸ hn))
  have hoL:(h'.push (seqObj "list" acc.toList.toArray 0)).get? h'.objs.size = some (seqObj "list" acc.toList.toArray 0):=Heap.get?_push_size _ rfl
  refine wpAny_bind (wpAny_holding (wpAny_call_entry slot_list_sort ⟨_,hoL,rfl⟩ entry_list_sort (list_sort_treeK strKind_oneLt hoL hS.keysOf (fun v₁ v₂ rest e=>keyKind_strs (by rw [← e]; exact hS)) (by rw [hl]; exact h64) fun st' a1 a2=>⟨_,rfl,?_⟩) (args_list_sort _)))
  refine wpAny_pure ⟨_,rfl,(?_:EP X pins σ Q _ _)⟩
  obtain ⟨ss',b1,b2,b3⟩:=sorted_out_str hS a1 a2
  have es:=T5 b3 (b2.trans hp)
  subst es
  have hle:=Nat.le_of_lt hlt
  obtain ⟨e,he⟩:=sortedHeap_at (out:=(arrOf st').map (·.2)) hoL
  have hsz:(List.map V.str (Cg l)).length≤sizeLine:=by
    rw [List.length_map,(Hj l).length_eq,← hp.length_eq,← hS.length,hl]
    exact hn
  have hnn:H h'.objs.size = none:=I.hok.fresh hle
  have x:=Ext.laid sub hnn (.lst ((Cg l).map V.str))
  refine ⟨.ref h'.objs.size,_,I.laid (a:=h'.objs.size) (o:=.lst ((Cg l).map V.str)) (t':=tk) (fun b u eb=>?_) hle ⟨hsz,_,e,Ji b1,he⟩,rfl,q _ _ _ x (.lst (SqL.of jd) (Jr _))⟩
  have hb:=Heap.lt_size (hk _ _ eb)
  rw [sortedHeap_old (Nat.ne_of_lt hb) (by rw [Heap.size_push]; exact Nat.lt_succ_of_lt hb)]
  exact Heap.get?_push_of_some _ (hk _ _ eb)
theorem Nf:∀ {kvs:List (L2.Key × V)} {ts:List (L2.Key × T)} {l:List Str},kvs.map (·.1) = ts.map (·.1)→J3 (ts.map fun p=>V1 p.1) = some l→kvs.map (·.1) = l.map Sum.inr
  | [],[],l,_,h=>by simp only [List.map_nil,J3] at h; cases h; rfl
  | (k,v) :: kvs,(k2,t) :: ts,l,e,h=>by
    simp only [List.map_cons,List.cons.injEq] at e
    obtain ⟨e1,e2⟩:=e
    subst e1
    cases k with
    | inl i=>simp only [List.map_cons,V1,J3,reduceCtorEq] at h
    | inr x =>
      simp only [List.map_cons,V1,J3] at h
      obtain ⟨l',h1,h2⟩:=Option.map_eq_some_iff.mp h
      subst h2
      rw [List.map_cons,List.map_cons,Nf e2 h1]
theorem Cr.keys {K:PySem.W.Frag} {S:Hp} {as:List Addr}:∀ {kvs:List (L2.Key × V)} {ts:List (L2.Key × T)},Cr K S as kvs ts→kvs.map (·.1) = ts.map (·.1)
  | _,_,.nil=>rfl
  | _,_,.cons h q=>by rw [List.map_cons,List.map_cons,Cr.keys q]
theorem Hu {prog:Program} {w:World}:∀ {vs:List (L2.Key × Value)} {us:List Value} {l:List Str},vs.map (·.1) = l.map Sum.inr→us.length = vs.length→(∀ (j:Nat) (v:Value),us[j]? = some v→∃ k x,vs[j]? = some (k,x)∧(u6 prog w).is k v = true)→StrsAre us l
  | [],us,l,e,hl,h=>by
    cases us with
    | cons _ _=>simp at hl
    | nil=>cases l with
      | nil=>exact .nil
      | cons _ _=>simp at e
  | (k,x) :: vs,us,l,e,hl,h=>by
    cases us with
    | nil=>simp at hl
    | cons u us =>
      cases l with
      | nil=>simp at e
      | cons y l =>
        simp only [List.map_cons,List.cons.injEq] at e
        obtain ⟨e1,e2⟩:=e
        subst e1
        obtain ⟨k',x',h1,h2⟩:=h 0 u rfl
        simp only [List.getElem?_cons_zero,Option.some.injEq,Prod.mk.injEq] at h1
        obtain ⟨rfl,rfl⟩:=h1
        rw [U5] at h2
        have hu:∃ t,u = .str y t:=by
          rcases um h2 with ⟨i,t,e',_⟩ | ⟨z,t,e',hz⟩
          · cases e'
          · cases e'; exact ⟨t,hz⟩
        obtain ⟨t,rfl⟩:=hu
        exact .cons y t (Hu e2 (by simpa using hl) fun j v ev=>by simpa using h (j + 1) v (by simpa using ev))
theorem Hx (hc:X.calm = true):Vb X (.builtin "sorted") Dd:=by
  intro pins s σ H xs us Q I rs ⟨S,as,ts,w,sub,hr,hf,q⟩
  cases hr with
  | nil=>simp only [Dd,reduceCtorEq] at hf
  | @cons x t xs' ts' h1 h2 =>
    cases h2 with
    | cons h3 h4=>cases h1 <;> simp only [Dd,reduceCtorEq] at hf
    | nil =>
      cases h1 with
      | @lst a vs ts g1 g2 =>
        simp only [Dd] at hf
        split at hf
        · rename_i h64
          obtain ⟨l,e1,e2⟩:=Option.map_eq_some_iff.mp hf
          subst e2
          exact Mp pins s σ H _ us Q I rs ⟨S,as,ts,l,sub,.cons (.lst g1 g2) .nil,h64,e1,q⟩
        · cases hf
      | @dic a kvs ts g1 g2 =>
        simp only [Dd] at hf
        split at hf
        · rename_i h64
          obtain ⟨l,e1,e2⟩:=Option.map_eq_some_iff.mp hf
          subst e2
          obtain ⟨u,rfl,ru⟩:=rs.one
          cases ru
          obtain ⟨z,hd,vs,rel,dd⟩:=Kr I.hok (Bl sub g1)
          obtain ⟨ep,hat⟩:=dd.dictAt
          have hlen:vs.length = ts.length:=by rw [← rel.length]; exact g2.length
          have hk:=Nf g2.keys e1
          rw [KV.keys rel] at hk
          exact Wi (PySem.W.kdl_dict (knd:=u6 X.prog X.w) (kvs:=vs) (ep:=ep) hd) hc I sub hat (by rw [hlen]; exact h64) (fun us hl hp=>⟨l,Hu hk hl hp,.refl _⟩) q
        · cases hf
      | _=>simp only [Dd,reduceCtorEq] at hf
end
end C
end
noncomputable section
set_option linter.all false
set_option maxRecDepth 100000
set_option maxHeartbeats 4000002
set_option autoImplicit false
namespace C
open PySem PySem.Spec PyProof.Rows L2
noncomputable section
variable {prog:Program} {w:World} {A:Around} {E:Value→Shared→Prop} {s:Shared}
theorem Li:typeLookup (.type "list") "keys" = pure none:=am_miss_of_fast (by decide +kernel)
theorem W8 {l:Addr} {xs:Array Value} {k:Nat} {sl:Array (Option Value)} {Q:Option Value→Shared→Prop} (hx:s.heap.get? l = some { cls:=.type "list",dict:=none,data:=.seq xs k,slots:=sl }) (nh:A.handled = none)
    (h:∀ h' tk e,Heap.NewExcOf s.heap h' e "AttributeError" → Q none { s with heap:=h',toks:=tk }):wpAny (model prog w) A (getAttr? (.ref l) "keys") Q E s:=by
  obtain ⟨h0,g0,d0,tk,os⟩:=s
  have hT:∀ tk',(⟨h0,g0,d0,tk',os⟩:Shared).TypeIs (.ref l) "list" := fun _=>⟨_,hx,rfl⟩
  have g1:=sub_AttributeError
  have g3:=F.slot_list_getattribute.lookup
  have g4:=F.slot_list_getattribute.bind (.ref l)
  have g5:=am_list_getattr_none
  unfold getAttr?
  unfold getAttrBy?
  unfold getAttrBy
  repeat (any_goals (first | assumption | exact hT _ | ((with_reducible show wpAny _ _ (call (Value.builtin "list.__getattribute__") _ _) _ _ _); refine call_meets F.slot_list_getattribute (hT _) am_entry_list_getattribute (F.args_list_getattribute_2 _ _) (meets_getattribute_miss_list l xs k sl "keys" _ Li (by decide +kernel)) ⟨hx,nh,fun h' tk' e y=>?_⟩) | wp_step))
  obtain ⟨t',u',he⟩:=y.there
  change wpAny _ _ (getattributeRaised _ _ _ _ _ _ _) _ _ _
  unfold getattributeRaised
  repeat (any_goals first | assumption | wp_step)
  exact h _ _ _ y.of
theorem K6:typeLookup (.type "tuple") "keys" = pure none:=am_miss_of_fast (by decide +kernel)
theorem Us {l:Addr} {xs:Array Value} {k:Nat} {sl:Array (Option Value)} {Q:Option Value→Shared→Prop} (hx:s.heap.get? l = some { cls:=.type "tuple",dict:=none,data:=.seq xs k,slots:=sl }) (nh:A.handled = none)
    (h:∀ h' tk e,Heap.NewExcOf s.heap h' e "AttributeError" → Q none { s with heap:=h',toks:=tk }):wpAny (model prog w) A (getAttr? (.ref l) "keys") Q E s:=by
  obtain ⟨h0,g0,d0,tk,os⟩:=s
  have hT:∀ tk',(⟨h0,g0,d0,tk',os⟩:Shared).TypeIs (.ref l) "tuple" := fun _=>⟨_,hx,rfl⟩
  have g1:=sub_AttributeError
  have g3:=F.slot_tuple_getattribute.lookup
  have g4:=F.slot_tuple_getattribute.bind (.ref l)
  have g5:=am_tuple_getattr_none
  unfold getAttr?
  unfold getAttrBy?
  unfold getAttrBy
  repeat (any_goals (first | assumption | exact hT _ | ((with_reducible show wpAny _ _ (call (Value.builtin "tuple.__getattribute__") _ _) _ _ _); refine call_meets F.slot_tuple_getattribute (hT _) am_entry_tuple_getattribute (F.args_tuple_getattribute_2 _ _) (meets_getattribute_miss_tuple l xs k sl "keys" _ K6 (by decide +kernel)) ⟨hx,nh,fun h' tk' e y=>?_⟩) | wp_step))
  obtain ⟨t',u',he⟩:=y.there
  change wpAny _ _ (getattributeRaised _ _ _ _ _ _ _) _ _ _
  unfold getattributeRaised
  repeat (any_goals first | assumption | wp_step)
  exact h _ _ _ y.of
end
end C
end
noncomputable section
set_option linter.all false
set_option maxRecDepth 100000
set_option maxHeartbeats 4000002
set_option autoImplicit false
namespace C
open PySem PySem.Spec PyProof.Rows L2
theorem Kl {prog:Program} {w:World} {A:Around} {E:Value→Shared→Prop} {s:Shared} {t:Addr} {o:Obj} {xs:Array Value} {m:Nat} {Q:Option (Array Value)→Shared→Prop} (h:s.heap.get? t = some o) (hd:o.data = .seq xs m) (q:Q (some xs) s):wpAny (model prog w) A (seqItems? (.ref t)) Q E s:=by
  show wpAny _ A (load t >>= fun o=>match o.data with | .seq xs _=>pure (some xs) | _=>pure none) _ _ s
  refine wpAny_bind (wpAny_load h ?_)
  rw [hd]
  exact wpAny_pure q
theorem Ae:entryFor table "dict.update.loop" = some Builtin.«dict.update.loop»:=entryFor_of_tree (by kernel_rfl)
theorem mq:plainId "dict.update.loop" = true:=by decide +kernel
noncomputable section
variable {prog:Program} {w:World} {A:Around} {R:Result→Shared→Prop} {I:Addr} {fp wr:List Addr} {G:Array GenState→Array GenState→Prop} {n:Nat} {P:Nat→Value→Prop} {St:Nat→Shared→Prop} {κ:Type} [DecidableEq κ] {knd:PySem.KeyKind prog w κ}
theorem Ti (W:WalksS prog w A.in1 I fp wr G n P St) (D:Addr) (hDf:D∉fp) (result:Value) (h0:Heap) (kvs:Nat→List (κ × Value)) (key:Nat→κ) (val:Nat→Value) (hs:∀ i,kvs (i + 1) = stored (kvs i) (key i) (val i)) (hz:∀ i,i≤n→(kvs i).length≤sizeLine)
    (hit:∀ i v,P i v→∃ t kx o m,v = .ref t∧t≠D∧t∉wr∧h0.get? t = some o∧o.cls = .type "tuple" ∧ o.data = .seq #[kx,val i] m∧knd.is (key i) kx = true) :
    ∀ (j i:Nat) (c:Nat) (s:Shared),n - i = j→i≤n→St i s→(∀ b o,b≠D→b∉wr→h0.get? b = some o→s.heap.get? b = some o)→s.heap.DictOf knd D (kvs i) →
      (∀ s',Moved (D :: wr) G s s'→s'.heap.DictOf knd D (kvs n)→R (.ok (.ret result)) s')→codeAny (model prog w) A (.builtin "dict.update.loop" ⟨[.ref D,.ref I,rawInt (c:Int),result],[]⟩) R s:=by
  have hDw:D∉wr:=fun z=>hDf (W.sub _ z)
  have more:∀ b∈wr,b∈D :: wr:=fun b hb=>List.mem_cons_of_mem _ hb
  intro j
  induction j with
  | zero =>
    intro i c s hk hi hst keep hD hR
    have e:i = n:=by omega
    subst e
    refine codeAny_builtin Ae ?_
    rw [Around.under_plainId mq _]
    change wpAny _ A.in1 (pyNext (.ref I) >>= _) _ _ s
    refine wpAny_bind (W.done s _ _ hst (fun s' hm=>?_))
    show wpAny _ A.in1 (Builtin.Dict.addKeywords D [] >>= fun _=>ret result) _ _ s'
    refine wpAny_bind (wpAny_pure (wpAny_pure (hR s' (hm.mono more) ?_)))
    obtain ⟨o,es,ep,ho,rest⟩:=hD
    exact ⟨o,es,ep,hm.heap D _ hDw ho,rest⟩
  | succ j ih =>
    intro i c s hk hi hst keep hD hR
    have hlt:i < n:=by omega
    refine codeAny_builtin Ae ?_
    rw [Around.under_plainId mq _]
    change wpAny _ A.in1 (pyNext (.ref I) >>= _) _ _ s
    refine wpAny_bind (W.item i s _ _ hlt hst (fun v s' hP hst' hm=>?_))
    obtain ⟨t,kx,o,m,rfl,htD,htw,ht,hc,hd,hkey⟩:=hit i v hP
    have ht':s'.heap.get? t = some o:=hm.heap t o htw (keep t o htD htw ht)
    have hD':s'.heap.DictOf knd D (kvs i):=by
      obtain ⟨o,es,ep,ho,rest⟩:=hD
      exact ⟨o,es,ep,hm.heap D _ hDw ho,rest⟩
    have hT:s'.TypeIs (.ref t) "tuple" := ⟨o,ht',hc⟩
    dsimp only
    refine wpAny_bind (wpAny_holding (wpAny_bind (wpAny_tryCatch ?_)))
    unfold Builtin.Dict.pairItems
    refine wpAny_bind (wpAny_typeOf (T := "tuple") hT ?_)
    rw [if_pos (by decide)]
    refine wpAny_bind (Kl ht' hd ?_)
    refine wpAny_pure ?_
    show wpAny _ A.in1 (holding [kx,val i] (dictSet D kx (val i))) _ _ s'
    refine wpAny_holding (wpAny_dictSet_pairs hkey hD' (fun h2 hD2 same=>?_) (hz i hi))
    rw [← hs i] at hD2
    refine wpAny_pure ⟨plainId_quiet mq _,?_⟩
    have ec:((c:Int) + 1) = ((c + 1:Nat):Int):=by omega
    rw [ec]
    refine ih (i + 1) (c + 1) _ (by omega) hlt (W.frame _ s' _ _ hst' (Nat.le_succ _) fun b hb o e=>?_) (fun b o hb hw e=>?_) hD2 fun s2 hm2 hD3=>?_
    · rw [same.2 b (fun h:b = D=>hDf (by rw [← h]; exact hb))]; exact e
    · show h2.get? b = some o
      rw [same.2 b hb]; exact hm.heap b o hw (keep b o hb hw e)
    · refine hR s2 (Moved.trans W.gtrans ((hm.mono more).then_heap (Nat.le_succ _) fun b o hb e=>?_) hm2) hD3
      rw [same.2 b (fun h:b = D=>hb (by rw [h]; exact List.mem_cons_self))]; exact e
end
end C
end
noncomputable section
set_option linter.all false
set_option maxRecDepth 100000
set_option maxHeartbeats 4000002
set_option autoImplicit false
namespace C
open PySem PySem.Spec PyProof.Rows L2
noncomputable section
variable {prog:Program} {w:World} {A:Around} {E:Value→Shared→Prop} {s:Shared} {κ:Type} [DecidableEq κ] {knd:PySem.KeyKind prog w κ}
noncomputable def told (key:Nat→κ) (val:Nat→Value):Nat→List (κ × Value)
  | 0=>[]
  | i + 1=>stored (told key val i) (key i) (val i)
theorem Ur (l:List (κ × Value)) (k:κ) (v:Value):(stored l k v).length≤l.length + 1:=by
  unfold stored
  split
  · rw [List.length_map]; omega
  · rw [List.length_append,List.length_singleton]; exact Nat.le_refl _
theorem Ds (key:Nat→κ) (val:Nat→Value):∀ i,(told key val i).length≤i
  | 0=>Nat.le_refl _
  | i + 1=>Nat.le_trans (Ur _ _ _) (Nat.succ_le_succ (Ds key val i))
theorem Pu {l:Addr} {its:Array Value} {m:Nat} {sl:Array (Option Value)} {key:Nat→κ} {val:Nat→Value} {Q:Value→Shared→Prop} (nh:A.handled = none) (hl:s.heap.get? l = some { cls:=.type "list",dict:=none,data:=.seq its m,slots:=sl }) (hz:its.size≤sizeLine)
    (hit:∀ i v,its[i]? = some v→∃ t kx o n,v = .ref t∧s.heap.get? t = some o∧o.cls = .type "tuple" ∧ o.data = .seq #[kx,val i] n∧knd.is (key i) kx = true)
    (q:∀ h' tk,h'.DictOf knd s.heap.objs.size (told key val its.size)→(∀ b o,s.heap.get? b = some o→h'.get? b = some o)→Q (.ref s.heap.objs.size) { s with heap:=h',toks:=tk }) :
    wpAny (model prog w) A (call (.type "dict") [.ref l]) Q E s:=by
  refine callType_codes (Q₁:=fun ob z=>ob = .ref s.heap.objs.size∧z = { s with heap:=s.heap.push { cls:=.type "dict",data:=.dict #[] } }) F.kt_called_dict (F.kt_typeCall_dict_1 _) F.entry_dict_init (kt_code_dict_new _ ⟨rfl,rfl⟩) ?_
  rintro obj s₁ ⟨rfl,rfl⟩
  have new0:(s.heap.push { cls:=.type "dict",data:=.dict #[] }).DictOf knd s.heap.objs.size []:=Heap.DictOf.new s.heap
  have hl1:(s.heap.push { cls:=.type "dict",data:=.dict #[] }).get? l = some { cls:=.type "list",dict:=none,data:=.seq its m,slots:=sl }:=Heap.get?_push_of_some _ hl
  have hll:l < s.heap.objs.size:=Heap.lt_size hl
  refine ⟨new0.typeIs,F.args_dict_init_2 _ _,?_⟩
  unfold Builtin.«dict.__init__» Builtin.Dict.selfAndRest
  refine wpAny_bind (wpAny_bind (wpAny_notOrdered_dict new0.typeIs ?_))
  show wpAny _ _ (pure (s.heap.objs.size,[Value.ref l])) _ _ _
  refine wpAny_pure ?_
  show wpAny _ _ (Builtin.Dict.updateFrom "dict.__init__" s.heap.objs.size (.ref l) [] .none) _ _ _
  unfold Builtin.Dict.updateFrom; refine wpAny_bind (wpAny_typeOf (T := "list") ⟨_,hl1,rfl⟩ ?_)
  rw [if_pos (by decide)]
  refine wpAny_bind (W8 hl1 nh fun h2 tk e ne=>?_)
  rw [if_pos (show (none:Option Value).isNone = true from rfl)]
  have old2:∀ b o,(s.heap.push { cls:=.type "dict",data:=.dict #[] }).get? b = some o→h2.get? b = some o:=fun b o hb=>ne.keeps b o hb
  have hl2:h2.IsList l its:=⟨_,old2 _ _ hl1,rfl,m,rfl⟩
  have hD2:s.heap.objs.size < h2.objs.size:=by
    obtain ⟨o,es,ep,ho,rest⟩:=new0
    exact Heap.lt_size (old2 _ _ ho)
  refine wpAny_bind (wpAny_rule (wpAny_bind (wpAny_pyIter_list hl2 ?_)))
  refine wpAny_pure ⟨plainId_quiet mq _,?_⟩
  have nl:l≠h2.objs.size:=Nat.ne_of_lt (Nat.lt_trans hll hD2)
  have nD:s.heap.objs.size∉[h2.objs.size,l]:=by
    simp only [List.mem_cons,List.mem_singleton,List.not_mem_nil,or_false,not_or]
    exact ⟨Nat.ne_of_lt hD2,Nat.ne_of_gt hll⟩
  have hD3:(h2.push { cls:=.type "list_iterator",data:=.fields #[.ref l,.int 0 0] }).DictOf knd s.heap.objs.size (told key val 0):=by
    obtain ⟨o,es,ep,ho,rest⟩:=new0
    exact ⟨o,es,ep,Heap.get?_push_of_some _ (old2 _ _ ho),rest⟩
  refine Ti (knd:=knd) ((Walks.list (A:=A.in1.in1) (show A.in1.in1.handled = none from nh) h2.objs.size l nl its).toS) s.heap.objs.size nD .none s.heap (told key val) key val (fun _=>rfl) (fun i hi=>Nat.le_trans (Ds key val i) (Nat.le_trans hi hz))
    (fun i v hv=>?_) (its.size - 0) 0 0 _ rfl (Nat.zero_le _) ⟨⟨_,Heap.get?_push_size _ rfl,rfl,rfl⟩,hl2.push _⟩ (fun b o _ _ hb=>Heap.get?_push_of_some _ (old2 _ _ (Heap.get?_push_of_some _ hb))) hD3 fun s3 hm hD4=>?_
  · obtain ⟨t,kx,o,n,rfl,ht,hc,hd,hk⟩:=hit i v hv
    have tl:=Heap.lt_size ht
    refine ⟨t,kx,o,n,rfl,Nat.ne_of_lt tl,?_,ht,hc,hd,hk⟩
    simp only [List.mem_singleton]
    exact Nat.ne_of_lt (Nat.lt_trans tl hD2)
  · obtain ⟨h3,g3,d3,t3,o3⟩:=s3
    have eg:g3 = s.gens:=hm.gens
    have ed:d3 = s.drawn:=hm.drawn
    have eo:o3 = s.os:=hm.os
    subst eg; subst ed; subst eo
    refine ⟨rfl,q h3 t3 hD4 fun b o hb=>?_⟩
    have bl:=Heap.lt_size hb
    refine hm.heap b o ?_ (Heap.get?_push_of_some _ (old2 _ _ (Heap.get?_push_of_some _ hb)))
    simp only [List.mem_cons,List.mem_singleton,List.not_mem_nil,or_false,not_or]
    exact ⟨Nat.ne_of_lt bl,Nat.ne_of_lt (Nat.lt_trans bl hD2)⟩
theorem Mt {l:Addr} {its:Array Value} {m:Nat} {sl:Array (Option Value)} {key:Nat→κ} {val:Nat→Value} {Q:Value→Shared→Prop} (nh:A.handled = none) (hl:s.heap.get? l = some { cls:=.type "tuple",dict:=none,data:=.seq its m,slots:=sl }) (hz:its.size≤sizeLine)
    (hit:∀ i v,its[i]? = some v→∃ t kx o n,v = .ref t∧s.heap.get? t = some o∧o.cls = .type "tuple" ∧ o.data = .seq #[kx,val i] n∧knd.is (key i) kx = true)
    (q:∀ h' tk,h'.DictOf knd s.heap.objs.size (told key val its.size)→(∀ b o,s.heap.get? b = some o→h'.get? b = some o)→Q (.ref s.heap.objs.size) { s with heap:=h',toks:=tk }) :
    wpAny (model prog w) A (call (.type "dict") [.ref l]) Q E s:=by
  refine callType_codes (Q₁:=fun ob z=>ob = .ref s.heap.objs.size∧z = { s with heap:=s.heap.push { cls:=.type "dict",data:=.dict #[] } }) F.kt_called_dict (F.kt_typeCall_dict_1 _) F.entry_dict_init (kt_code_dict_new _ ⟨rfl,rfl⟩) ?_
  rintro obj s₁ ⟨rfl,rfl⟩
  have new0:(s.heap.push { cls:=.type "dict",data:=.dict #[] }).DictOf knd s.heap.objs.size []:=Heap.DictOf.new s.heap
  have hl1:(s.heap.push { cls:=.type "dict",data:=.dict #[] }).get? l = some { cls:=.type "tuple",dict:=none,data:=.seq its m,slots:=sl }:=Heap.get?_push_of_some _ hl
  have hll:l < s.heap.objs.size:=Heap.lt_size hl
  refine ⟨new0.typeIs,F.args_dict_init_2 _ _,?_⟩
  unfold Builtin.«dict.__init__» Builtin.Dict.selfAndRest
  refine wpAny_bind (wpAny_bind (wpAny_notOrdered_dict new0.typeIs ?_))
  show wpAny _ _ (pure (s.heap.objs.size,[Value.ref l])) _ _ _
  refine wpAny_pure ?_
  show wpAny _ _ (Builtin.Dict.updateFrom "dict.__init__" s.heap.objs.size (.ref l) [] .none) _ _ _
  unfold Builtin.Dict.updateFrom; refine wpAny_bind (wpAny_typeOf (T := "tuple") ⟨_,hl1,rfl⟩ ?_)
  rw [if_pos (by decide)]
  refine wpAny_bind (Us hl1 nh fun h2 tk e ne=>?_)
  rw [if_pos (show (none:Option Value).isNone = true from rfl)]
  have old2:∀ b o,(s.heap.push { cls:=.type "dict",data:=.dict #[] }).get? b = some o→h2.get? b = some o:=fun b o hb=>ne.keeps b o hb
  have hl2:h2.IsTuple l its:=⟨_,old2 _ _ hl1,rfl,m,rfl⟩
  have hD2:s.heap.objs.size < h2.objs.size:=by
    obtain ⟨o,es,ep,ho,rest⟩:=new0
    exact Heap.lt_size (old2 _ _ ho)
  refine wpAny_bind (wpAny_rule (wpAny_bind (wpAny_pyIter_tuple hl2 ?_)))
  refine wpAny_pure ⟨plainId_quiet mq _,?_⟩
  have nl:l≠h2.objs.size:=Nat.ne_of_lt (Nat.lt_trans hll hD2)
  have nD:s.heap.objs.size∉[h2.objs.size,l]:=by
    simp only [List.mem_cons,List.mem_singleton,List.not_mem_nil,or_false,not_or]
    exact ⟨Nat.ne_of_lt hD2,Nat.ne_of_gt hll⟩
  have hD3:(h2.push { cls:=.type "tuple_iterator",data:=.fields #[.ref l,.int 0 0] }).DictOf knd s.heap.objs.size (told key val 0):=by
    obtain ⟨o,es,ep,ho,rest⟩:=new0
    exact ⟨o,es,ep,Heap.get?_push_of_some _ (old2 _ _ ho),rest⟩
  refine Ti (knd:=knd) ((Walks.tuple (A:=A.in1.in1) (show A.in1.in1.handled = none from nh) h2.objs.size l nl its).toS) s.heap.objs.size nD .none s.heap (told key val) key val (fun _=>rfl) (fun i hi=>Nat.le_trans (Ds key val i) (Nat.le_trans hi hz))
    (fun i v hv=>?_) (its.size - 0) 0 0 _ rfl (Nat.zero_le _) ⟨⟨_,Heap.get?_push_size _ rfl,rfl,rfl⟩,hl2.push _⟩ (fun b o _ _ hb=>Heap.get?_push_of_some _ (old2 _ _ (Heap.get?_push_of_some _ hb))) hD3 fun s3 hm hD4=>?_
  · obtain ⟨t,kx,o,n,rfl,ht,hc,hd,hk⟩:=hit i v hv
    have tl:=Heap.lt_size ht
    refine ⟨t,kx,o,n,rfl,Nat.ne_of_lt tl,?_,ht,hc,hd,hk⟩
    simp only [List.mem_singleton]
    exact Nat.ne_of_lt (Nat.lt_trans tl hD2)
  · obtain ⟨h3,g3,d3,t3,o3⟩:=s3
    have eg:g3 = s.gens:=hm.gens
    have ed:d3 = s.drawn:=hm.drawn
    have eo:o3 = s.os:=hm.os
    subst eg; subst ed; subst eo
    refine ⟨rfl,q h3 t3 hD4 fun b o hb=>?_⟩
    have bl:=Heap.lt_size hb
    refine hm.heap b o ?_ (Heap.get?_push_of_some _ (old2 _ _ (Heap.get?_push_of_some _ hb)))
    simp only [List.mem_cons,List.mem_singleton,List.not_mem_nil,or_false,not_or]
    exact ⟨Nat.ne_of_lt bl,Nat.ne_of_lt (Nat.lt_trans bl hD2)⟩
end
end C
end
noncomputable section
set_option linter.all false
set_option maxRecDepth 100000
set_option maxHeartbeats 4000002
set_option autoImplicit false
namespace C
open PySem PySem.Spec PyProof.Rows L2
theorem Jm {x:T} {xs:List T} {l:List (Key × T)} (h:Bg (x :: xs) = some l):∃ k v q l',x = .tup [k,v]∧keyOf k = some q∧Bg xs = some l'∧l = (q,v) :: l':=by
  match x,h with
  | .tup [k,v],h =>
    simp only [Bg] at h
    split at h
    · rename_i q l' e1 e2; cases h; exact ⟨k,v,q,l',rfl,e1,e2,rfl⟩
    · cases h
noncomputable section
variable {X:Cx} {pins:List (Addr × Obj)} {σ:L2.St} {H S:Hp} {s:Shared} {as:List Addr}
inductive Fd (h:Heap) (prog:Program) (w:World):List Value→List L2.Key→List Value→Prop where
  | nil:Fd h prog w [] [] []
  | cons {t:Addr} {kx wv:Value} {o:Obj} {n:Nat} {q:L2.Key} {us:List Value} {qs:List L2.Key} {ws:List Value}:h.get? t = some o→o.cls = .type "tuple" → o.data = .seq #[kx,wv] n→(u6 prog w).is q kx = true →
      Fd h prog w us qs ws→Fd h prog w (.ref t :: us) (q :: qs) (wv :: ws)
theorem Fd.get {h:Heap} {prog:Program} {w:World}:∀ {us:List Value} {qs:List L2.Key} {ws:List Value},Fd h prog w us qs ws→∀ (i:Nat) (v:Value),us[i]? = some v→∃ t kx o n,v = .ref t∧h.get? t = some o∧o.cls = .type "tuple" ∧ o.data = .seq #[kx,ws.getD i .none] n∧(u6 prog w).is (qs.getD i (.inl 0)) kx = true
  | _,_,_,.nil,i,v,e=>by simp at e
  | _,_,_,.cons h1 h2 h3 h4 r,0,v,e=>by simp at e; subst e; exact ⟨_,_,_,_,rfl,h1,h2,h3,h4⟩
  | _,_,_,.cons h1 h2 h3 h4 r,i + 1,v,e=>by simpa using r.get i v (by simpa using e)
theorem Fd.len {h:Heap} {prog:Program} {w:World}:∀ {us:List Value} {qs:List L2.Key} {ws:List Value},Fd h prog w us qs ws→us.length = qs.length∧us.length = ws.length
  | _,_,_,.nil=>⟨rfl,rfl⟩
  | _,_,_,.cons _ _ _ _ r=>⟨congrArg (· + 1) r.len.1,congrArg (· + 1) r.len.2⟩
theorem pairs_at (I:L2.Inv X pins σ H s) (sub:Same S H):∀ {vs:List V} {xs:List T} {us:List Value} {l:List (L2.Key × T)},uq X.K S as vs xs→Vals vs us→Bg xs = some l →
    ∃ ys ws,Fd s.heap X.prog X.w us (l.map (·.1)) ws∧Vals ys ws∧uq X.K S as ys (l.map (·.2))
  | _,_,_,_,.nil,r,e=>by simp only [Bg] at e; cases e; cases r; exact ⟨[],[],.nil,.nil,.nil⟩
  | _,_,_,_,.cons h q,r,e=>by
    obtain ⟨k,v,qk,l',rfl,e1,e2,rfl⟩:=Jm e
    cases r with
    | cons r1 r2 =>
      obtain ⟨ys,ws,p1,p2,p3⟩:=pairs_at I sub q r2 e2
      cases h with
      | tup g1 g2 =>
        cases g2 with
        | cons a1 g2 =>
          cases g2 with
          | cons a2 g2 =>
            cases g2
            cases r1
            obtain ⟨its,rv,⟨o,o1,o2,n,o3⟩,_⟩:=I.tuple (sy sub g1)
            cases rv with
            | cons b1 rv =>
              cases rv with
              | cons b2 rv =>
                cases rv
                have ek:=U9 a1 e1
                subst ek
                exact ⟨_ :: ys,_ :: ws,.cons o1 o2 o3 (Rp b1) p1,.cons b2 p2,.cons a2 p3⟩
theorem Je (l:List (L2.Key × T)) {ys:List V} {ws:List Value} (hv:Vals ys ws) (hr:uq X.K S as ys (l.map (·.2))):∀ i,i≤l.length →
    ∃ kv,KV kv (told (fun i=>(l.map (·.1)).getD i (.inl 0)) (fun i=>ws.getD i .none) i)∧Cr X.K S as kv ((l.take i).foldl (fun d p=>Ku p.1 p.2 d) [])
  | 0,_=>⟨[],.nil,.nil⟩
  | i + 1,hi=>by
    obtain ⟨kv,k1,k2⟩:=Je l hv hr i (by omega)
    have hlt:i < l.length:=Nat.lt_of_succ_le hi
    have e1:(l.map (·.2))[i]? = some l[i].2:=by rw [List.getElem?_map,List.getElem?_eq_getElem hlt]; rfl
    obtain ⟨y,h1,h2⟩:=hr.get e1
    obtain ⟨u,h3,h4⟩:=hv.get h1
    have e2:(l.map (·.1)).getD i (.inl 0) = l[i].1:=by rw [List.getD_eq_getElem?_getD,List.getElem?_map,List.getElem?_eq_getElem hlt]; rfl
    have e3:ws.getD i .none = u:=by rw [List.getD_eq_getElem?_getD,h3]; rfl
    refine ⟨putK kv l[i].1 y,?_,?_⟩
    · have:=k1.put l[i].1 h4
      show KV (putK kv l[i].1 y) (stored (told (fun i=>(l.map (·.1)).getD i (.inl 0)) (fun i=>ws.getD i .none) i) ((l.map (·.1)).getD i (.inl 0)) (ws.getD i .none))
      rw [e2,e3]
      exact this
    · rw [List.take_succ_eq_append_getElem hlt,List.foldl_append]
      exact k2.put h2
theorem Ij {Q:VK} {a:Addr} {vs:List V} {xs:List T} {l:List (L2.Key × T)} (hc:X.calm = true) (I:L2.Inv X pins σ H s) (sub:Same S H) (g1:SqL X.K S a vs) (g2:uq X.K S as vs xs) (e:Bg xs = some l) (hz:xs.length≤sizeLine)
    (q:∀ p kv,H p = none→kv.length≤sizeLine→Cr X.K S as kv (l.foldl (fun d p=>Ku p.1 p.2 d) [])→Q (.ref p) (upd H p (.dK kv))):wpAny (model X.prog X.w) X.A (call (.type "dict") [.ref a]) (EP X pins σ Q) X.xe s:=by
  obtain ⟨its,r,p,_⟩:=I.list (qg sub g1)
  obtain ⟨⟨cls,dd,data,sl⟩,n,ho,hcl,hd0,hd⟩:=id p
  simp only at hcl hd0 hd
  subst hcl hd0 hd
  obtain ⟨ys,ws,p1,p2,p3⟩:=pairs_at I sub g2 r e
  have hlen:its.length = l.length:=by rw [p1.len.1,List.length_map]
  have hlx:vs.length = its.length:=r.length
  obtain ⟨kv,k1,k2⟩:=Je l p2 p3 l.length (Nat.le_refl _)
  rw [List.take_length] at k2
  refine Pu (knd:=u6 X.prog X.w) (key:=fun i=>(l.map (·.1)).getD i (.inl 0)) (val:=fun i=>ws.getD i .none) (I.ok.hd hc) ho (by rw [List.size_toArray,← hlx,g2.length]; exact hz)
    (fun i v hv=>p1.get i v (by rw [List.getElem?_toArray] at hv; exact hv)) fun h' tk hD old=>?_
  rw [show its.toArray.size = l.length by rw [List.size_toArray,hlen]] at hD
  have kl:kv.length≤sizeLine:=by
    rw [k1.length]
    exact Nat.le_trans (Ds _ _ _) (by rw [← hlen,← hlx,g2.length]; exact hz)
  have hp:H s.heap.objs.size = none:=I.hok.fresh (Nat.le_refl _)
  exact ⟨.ref s.heap.objs.size,_,I.laid (a:=s.heap.objs.size) (o:=.dK kv) (h':=h') (t':=tk) old (Nat.le_refl _) (Nm kl (beq_eq_false_iff_ne.mpr (Ne.symm (Nat.ne_of_lt I.big))) k1 hD),rfl,q _ kv hp kl k2⟩
theorem Hh {Q:VK} {a:Addr} {vs:List V} {xs:List T} {l:List (L2.Key × T)} (hc:X.calm = true) (I:L2.Inv X pins σ H s) (sub:Same S H) (g1:SqT X.K S a vs) (g2:uq X.K S as vs xs) (e:Bg xs = some l) (hz:xs.length≤sizeLine)
    (q:∀ p kv,H p = none→kv.length≤sizeLine→Cr X.K S as kv (l.foldl (fun d p=>Ku p.1 p.2 d) [])→Q (.ref p) (upd H p (.dK kv))):wpAny (model X.prog X.w) X.A (call (.type "dict") [.ref a]) (EP X pins σ Q) X.xe s:=by
  obtain ⟨its,r,p,_⟩:=I.a5q (sy sub g1)
  obtain ⟨⟨cls,dd,data,sl⟩,ho,hcl,hd0,n,hd⟩:=id p
  simp only at hcl hd0 hd
  subst hcl hd0 hd
  obtain ⟨ys,ws,p1,p2,p3⟩:=pairs_at I sub g2 r e
  have hlen:its.length = l.length:=by rw [p1.len.1,List.length_map]
  have hlx:vs.length = its.length:=r.length
  obtain ⟨kv,k1,k2⟩:=Je l p2 p3 l.length (Nat.le_refl _)
  rw [List.take_length] at k2
  refine Mt (knd:=u6 X.prog X.w) (key:=fun i=>(l.map (·.1)).getD i (.inl 0)) (val:=fun i=>ws.getD i .none) (I.ok.hd hc) ho (by rw [List.size_toArray,← hlx,g2.length]; exact hz)
    (fun i v hv=>p1.get i v (by rw [List.getElem?_toArray] at hv; exact hv)) fun h' tk hD old=>?_
  rw [show its.toArray.size = l.length by rw [List.size_toArray,hlen]] at hD
  have kl:kv.length≤sizeLine:=by
    rw [k1.length]
    exact Nat.le_trans (Ds _ _ _) (by rw [← hlen,← hlx,g2.length]; exact hz)
  have hp:H s.heap.objs.size = none:=I.hok.fresh (Nat.le_refl _)
  exact ⟨.ref s.heap.objs.size,_,I.laid (a:=s.heap.objs.size) (o:=.dK kv) (h':=h') (t':=tk) old (Nat.le_refl _) (Nm kl (beq_eq_false_iff_ne.mpr (Ne.symm (Nat.ne_of_lt I.big))) k1 hD),rfl,q _ kv hp kl k2⟩
end
noncomputable section
variable {X:Cx} {B:Bas} {a:Expr} {m:M T} {pos p:Pos}
theorem Ut (hc:X.calm = true):Vb X (.type "dict") Dh:=by
  intro pins s σ H xs us Q I rs ⟨S,as,ts,w,sub,hr,hf,q⟩
  cases hr with
  | nil=>simp only [Dh,reduceCtorEq] at hf
  | @cons x t xs' ts' h1 h2 =>
    cases h2 with
    | cons h3 h4=>cases h1 <;> simp only [Dh,reduceCtorEq] at hf
    | nil =>
      obtain ⟨u,rfl,ru⟩:=rs.one
      cases h1 with
      | @lst a vs ts g1 g2 =>
        cases ru
        simp only [Dh] at hf
        split at hf
        · rename_i hl
          obtain ⟨l,e1,e2⟩:=Option.map_eq_some_iff.mp hf
          subst e2
          refine Ij hc I sub g1 g2 e1 (Nat.le_trans (Nat.le_of_lt hl) u9) fun p kv hp _ k2=>?_
          have x:=Ext.laid sub hp (.dK kv)
          exact q _ _ _ x (.dic (.inl jd) (k2.mono x.s nol))
        · cases hf
      | @tup a vs ts g1 g2 =>
        cases ru
        simp only [Dh] at hf
        split at hf
        · rename_i hl
          obtain ⟨l,e1,e2⟩:=Option.map_eq_some_iff.mp hf
          subst e2
          refine Hh hc I sub g1 g2 e1 (Nat.le_trans (Nat.le_of_lt hl) u9) fun p kv hp _ k2=>?_
          have x:=Ext.laid sub hp (.dK kv)
          exact q _ _ _ x (.dic (.inl jd) (k2.mono x.s nol))
        · cases hf
      | @dic a kvs ts g1 g2 =>
        cases ru
        simp only [Dh] at hf
        cases hf
        refine Tz I (Bl sub g1) fun p s' hp I'=>⟨.ref p,_,I',rfl,?_⟩
        have x:=Ext.laid sub hp (.dK kvs)
        exact q _ _ _ x (.dic (.inl jd) (g2.mono x.s nol))
      | _=>simp only [Dh,reduceCtorEq] at hf
end
end C
end
noncomputable section
set_option linter.all false
set_option autoImplicit false
namespace C
open PySem PySem.Spec PyProof.Rows L2
theorem jc.zero {P:Program} {w:World} {K:PySem.W.Frag} {mg:Str→Option Value} {base:Heap} {x qual:Str} {st:Stmt} {f:Addr} {fd:FuncData} {ps:List Str} {k:Nat} (F:Fun K x qual st f fd) (h:mg x = some (.ref f)) (b:Binds K fd ps []):jc P w K mg base x k ps (fun _ _=>none):=by
  have no:∀ vs H Q E,¬ spF K ps.length (fun _ _=>none) vs H Q E:=fun vs H Q E z=>by
    obtain ⟨S,as,sto,ts,t,sto',_,_,_,_,e,_⟩:=z
    cases e
  exact ⟨f,fd,⟨fun vs H Q E z=>absurd z (no vs H Q E),fun A outer s H args us vs Q E _ _ _ _ z=>absurd z (no vs H Q E)⟩,b,F.kp,h⟩
end C
end
noncomputable section
set_option linter.all false
set_option maxRecDepth 100000
set_option maxHeartbeats 4000002
set_option autoImplicit false
namespace C
open PySem PySem.Spec PyProof.Rows L2
noncomputable section
variable {X:Cx} {B:Bas} {c e:Expr} {m:M T} {pos p:Pos} {u:S} {body:List Stmt}
end
end C
end
noncomputable section
set_option linter.all false
set_option maxRecDepth 100000
set_option maxHeartbeats 4000002
set_option autoImplicit false
namespace C
open PySem PySem.Spec PyProof.Rows L2
noncomputable section
variable {X:Cx} {B:Bas} {e st:Expr} {te:TE} {m:M T} {pos p2 p3 p4:Pos} {j:Nat}
end
end C
end
noncomputable section
set_option linter.all false
set_option maxRecDepth 100000
set_option maxHeartbeats 4000002
set_option autoImplicit false
namespace C
open PySem PySem.Spec PyProof.Rows L2
noncomputable section
variable {X:Cx} {B:Bas} {a:Expr} {m:M T} {pos p:Pos}
noncomputable def a4e (K:PySem.W.Frag):List V→Hp→VK→Prop:=fun xs H Q=>∃ S as t u,Same S H∧uq K S as xs [t]∧Dh [t] = some (.dic u)∧∀ p kv,H p = none→Cr K S as kv u→Q (.ref p) (upd H p (.dK kv))
theorem Uc (hc:X.calm = true):Ge X (.type "dict") (a4e X.K):=by
  intro pins s σ H xs us Q I rs ⟨S,as,t,u,sub,hr,hf,q⟩
  cases hr with
  | cons h1 h2 =>
    cases h2
    obtain ⟨v,rfl,ru⟩:=rs.one
    cases h1 with
    | @lst a vs ts g1 g2 =>
      cases ru
      simp only [Dh] at hf
      split at hf
      · rename_i hl
        obtain ⟨l,e1,e2⟩:=Option.map_eq_some_iff.mp hf
        cases e2
        exact Ij hc I sub g1 g2 e1 (Nat.le_trans (Nat.le_of_lt hl) u9) fun p kv hp _ k2=>q p kv hp k2
      · cases hf
    | @tup a vs ts g1 g2 =>
      cases ru
      simp only [Dh] at hf
      split at hf
      · rename_i hl
        obtain ⟨l,e1,e2⟩:=Option.map_eq_some_iff.mp hf
        cases e2
        exact Hh hc I sub g1 g2 e1 (Nat.le_trans (Nat.le_of_lt hl) u9) fun p kv hp _ k2=>q p kv hp k2
      · cases hf
    | @dic a kvs ts g1 g2 =>
      cases ru
      simp only [Dh] at hf
      cases hf
      exact Tz I (Bl sub g1) fun p s' hp I'=>⟨.ref p,_,I',rfl,q p kvs hp g2⟩
    | _=>simp only [Dh,reduceCtorEq] at hf
theorem Xf {t w:T} (h:Dh [t] = some w):∃ u,w = .dic u:=by
  cases t <;> simp only [Dh,reduceCtorEq] at h
  · split at h
    · obtain ⟨l,_,e⟩:=Option.map_eq_some_iff.mp h; exact ⟨_,e.symm⟩
    · cases h
  · split at h
    · obtain ⟨l,_,e⟩:=Option.map_eq_some_iff.mp h; exact ⟨_,e.symm⟩
    · cases h
  · cases h; exact ⟨_,rfl⟩
theorem a3e (hc:X.calm = true) (hg:Gl X "dict") (hm:X.mg "dict" = none) (ha:PE X a (tOf X.K B m)) (he:starEach [a] X.env = (false,eval a X.env) :: starEach [] X.env:=by rfl) (hpl:(backTo pos (starEach [] X.env)).any (·.1) = false:=by rfl) :
    PE X (.Call (.Name "dict" p) [a] [] pos) (fOf X.K B (j8 Dh (ak m gq))):=by
  refine (qt (Uc hc) hg hm PyProof.Rows.boot_dict (Ab ha Cm he) (by decide) (by decide) he hpl).imp fun σ H Q z0=>?_
  obtain ⟨st,ps,S,as,R,t,st',e,q⟩:=z0
  obtain ⟨ts,e1,e2⟩:=Dp e
  obtain ⟨t1,s1,us,ea,en,rfl⟩:=Et e1
  cases en
  obtain ⟨u,rfl⟩:=Xf e2
  refine ⟨st,ps,S,as,R,t1,_,ea,fun v H1 S1 as1 R1=>⟨S1,as1,t1,u,R1.sub,.cons R1.top .nil,e2,fun p kv hp k2=>?_⟩⟩
  obtain ⟨bD,sD,nD,no⟩:=R1.fresh hp
  exact q p _ S1 as1 (R1.drop.a6b bD sD nD (fun j w e1 e2=>no j w e1 e2)) ⟨⟨kv,jd,k2⟩,sD,nD,bD⟩ (fun j w e1 e2=>no j w e1 e2)
end
end C
end
noncomputable section
set_option linter.all false
set_option autoImplicit false
namespace C
open PySem PySem.Sem
noncomputable def El:Bool→Heap→Addr→Addr→Nat→Prop
  | true,h,it,a,i=>h.IsListIter it a i
  | false,h,it,a,i=>h.IsTupleIter it a i
noncomputable def Ag:Bool→Heap→Addr→Array Value→Prop
  | true,h,a,xs=>h.IsList a xs
  | false,h,a,xs=>h.IsTuple a xs
theorem El.to {k:Bool} {h h':Heap} {it a:Addr} {i:Nat} (x:El k h it a i) (e:∀ o,h.get? it = some o→h'.get? it = some o):El k h' it a i:=by
  cases k <;> obtain ⟨o,ho,r⟩:=x <;> exact ⟨o,e o ho,r⟩
theorem El.obj {k:Bool} {h:Heap} {it a:Addr} {i:Nat} (x:El k h it a i):∃ o,h.get? it = some o∧∀ v,o.data≠.cell v:=by
  cases k <;> obtain ⟨o,ho,_,d⟩:=x <;> exact ⟨o,ho,fun v z=>by rw [d] at z; cases z⟩
theorem Ag.to {k:Bool} {h h':Heap} {a:Addr} {xs:Array Value} (x:Ag k h a xs) (e:∀ o,h.get? a = some o→h'.get? a = some o):Ag k h' a xs:=by
  cases k <;> obtain ⟨o,ho,r⟩:=x <;> exact ⟨o,e o ho,r⟩
noncomputable section
variable {prog:Program} {w:World} {A:Around} {E:Value→Shared→Prop} {s:Shared}
theorem nextT {it t:Addr} {i:Nat} {xs:Array Value} {x:Value} {Q:Value→Shared→Prop} (h1:s.heap.IsTupleIter it t i) (h2:s.heap.IsTuple t xs) (h3:xs[i]? = some x)
    (q:∀ h',h'.IsTupleIter it t (i + 1)→Heap.SameBut it s.heap h'→Q x { s with heap:=h' }):wpAny (model prog w) A (Builtin.SmallTypes.nextOf (.ref it)) Q E s:=by
  have ty:s.TypeIs (.ref it) "tuple_iterator" := h1.typeIs
  obtain ⟨oi,gi,ci,di⟩:=h1
  obtain ⟨ot,gt,_,m,dt⟩:=h2
  have upd:∀ (h':Heap),h' = s.heap.update it (Obj.mapFields (·.setIfInBounds 1 (rawInt ((i:Int) + 1))))→h'.IsTupleIter it t (i + 1):=fun h' e=>by
    subst e
    refine ⟨_,Heap.get?_update_self _ gi (Obj.isFreed_of_fields (Obj.data_mapFields di _)),(Obj.cls_mapFields ..).trans ci,?_⟩
    rw [Obj.data_mapFields di]; rfl
  unfold Builtin.SmallTypes.nextOf -- here
  refine wpAny_bind (wpAny_callSpecial?_slot (name:=Str.ofString "__next__") ty F.slot_tuple_iterator_next (wpAny_call_entry F.slot_tuple_iterator_next ty F.entry_tuple_iterator_next ?_ (F.args_tuple_iterator_next_1 _)))
  refine (show wpAny _ _ (field (.ref it) 0 >>= _) _ _ s from wpAny_bind (wpAny_field gi di (x:=.ref t) rfl ?_))
  dsimp only
  rw [if_neg (by intro z; cases z)]
  refine (show wpAny _ _ (field (.ref it) 1 >>= _) _ _ s from wpAny_bind (wpAny_field gi di (x:=.int i 0) rfl ?_))
  refine (show wpAny _ _ (seqItems? (.ref t) >>= _) _ _ s from wpAny_bind (wpAny_seqItems gt dt ?_))
  dsimp only
  rw [Int.toNat_natCast,h3]
  exact wpAny_bind (wpAny_setField gi di (by simp) (wpAny_pure ⟨x,rfl,wpAny_pure (q _ (upd _ rfl) (Heap.SameBut.update ..))⟩))
theorem Xg {it t:Addr} {i:Nat} {xs:Array Value} {Q:Value→Shared→Prop} (hh:A.handled = none) (h1:s.heap.IsTupleIter it t i) (h2:s.heap.IsTuple t xs) (h3:xs[i]? = none)
    (q:∀ h' e,Heap.ExtBut it s.heap h'→(∃ o,h'.get? e = some o∧o.cls = .type "StopIteration")→E (.ref e) { s with heap:=h' }):wpAny (model prog w) A (Builtin.SmallTypes.nextOf (.ref it)) Q E s:=by
  have ty:s.TypeIs (.ref it) "tuple_iterator" := h1.typeIs
  obtain ⟨oi,gi,ci,di⟩:=h1
  obtain ⟨ot,gt,_,m,dt⟩:=h2
  unfold Builtin.SmallTypes.nextOf -- here
  refine wpAny_bind (wpAny_callSpecial?_slot (name:=Str.ofString "__next__") ty F.slot_tuple_iterator_next (wpAny_call_entry F.slot_tuple_iterator_next ty F.entry_tuple_iterator_next ?_ (F.args_tuple_iterator_next_1 _)))
  refine (show wpAny _ _ (field (.ref it) 0 >>= _) _ _ s from wpAny_bind (wpAny_field gi di (x:=.ref t) rfl ?_))
  dsimp only
  rw [if_neg (by intro z; cases z)]
  refine (show wpAny _ _ (field (.ref it) 1 >>= _) _ _ s from wpAny_bind (wpAny_field gi di (x:=.int i 0) rfl ?_))
  refine (show wpAny _ _ (seqItems? (.ref t) >>= _) _ _ s from wpAny_bind (wpAny_seqItems gt dt ?_))
  dsimp only
  rw [Int.toNat_natCast,h3]
  refine wpAny_bind (wpAny_rule (wpAny_bind (wpAny_setField gi di (by simp) ?_)))
  refine (show wpAny _ _ (newExc (.type "StopIteration") [] >>= _) _ _ _ from wpAny_bind ?_)
  simp only [newExc,newTuple]
  refine wpAny_bind (wpAny_newObj_type (wpAny_bind (m:=firstArgMember _ _) (wpAny_of_eq (a:=Value.none) (by first | rfl | (simp only [firstArgMember]; rfl)) (wpAny_newObj_type ?_ (by size_fits)))) (by size_fits))
  simp only [raiseNew]
  refine wpAny_bind (wpAny_handled ?_) -- here
  rw [show A.in1.handled = none from hh] -- here
  exact wpAny_bind (wpAny_pure (wpAny_throw (q _ _ (((Heap.SameBut.update ..).extBut.push _).push _) ⟨_,Heap.get?_push_size _ rfl,rfl⟩)))
theorem Fj {k:Bool} {it a:Addr} {i:Nat} {xs:Array Value} {x:Value} {Q:Value→Shared→Prop} (h1:El k s.heap it a i) (h2:Ag k s.heap a xs) (h3:xs[i]? = some x)
    (q:∀ h',El k h' it a (i + 1)→Heap.SameBut it s.heap h'→Q x { s with heap:=h' }):wpAny (model prog w) A (Builtin.SmallTypes.nextOf (.ref it)) Q E s:=by
  cases k with
  | true=>exact wpAny_nextOf_list_item h1 h2 h3 q
  | false=>exact nextT h1 h2 h3 q
theorem Cy {k:Bool} {it a:Addr} {i:Nat} {xs:Array Value} {Q:Value→Shared→Prop} (hh:A.handled = none) (h1:El k s.heap it a i) (h2:Ag k s.heap a xs) (h3:xs[i]? = none)
    (q:∀ h' e,Heap.ExtBut it s.heap h'→(∃ o,h'.get? e = some o∧o.cls = .type "StopIteration")→E (.ref e) { s with heap:=h' }):wpAny (model prog w) A (Builtin.SmallTypes.nextOf (.ref it)) Q E s:=by
  cases k with
  | true=>exact wpAny_nextOf_list_end hh h1 h2 h3 q
  | false=>exact Xg hh h1 h2 h3 q
end
structure Ky (h:Heap) (z ti to' i1 i2:Addr) (f:Value):Prop where
  zip:IsZip h z ti to' f
  its:IsPair h ti (.ref i1) (.ref i2)
  kept:∃ a b,IsPair h to' a b
structure Far (z ti to' i1 i2:Addr):Prop where
  nd:[z,ti,to',i1,i2].Nodup
theorem Far.all {z ti to' i1 i2:Addr} (f:Far z ti to' i1 i2):ti≠z∧to'≠z∧i1≠z∧i2≠z∧ti≠to'∧ti≠i1∧ti≠i2∧to'≠i1∧to'≠i2∧i1≠i2:=by
  have:=f.nd
  simp only [List.nodup_cons,List.mem_cons,List.not_mem_nil,or_false,not_or] at this
  obtain ⟨⟨a,b,c,d⟩,⟨e,f,g⟩,⟨h,i⟩,j,_⟩:=this
  exact ⟨Ne.symm a,Ne.symm b,Ne.symm c,Ne.symm d,e,f,g,h,i,j⟩
noncomputable def Qs (z to' i1 i2:Addr) (h h':Heap):Prop:=∀ c o,c≠z→c≠to'→c≠i1→c≠i2→h.get? c = some o→h'.get? c = some o
noncomputable section
variable {prog:Program} {w:World} {A:Around} {E:Value→Shared→Prop} {s:Shared}
theorem Z1 {k1 k2:Bool} {z ti to' i1 i2 a1 a2:Addr} {j1 j2:Nat} {xs ys:Array Value} {x y:Value} {Q:Value→Shared→Prop} (D:Far z ti to' i1 i2) (Z:Ky s.heap z ti to' i1 i2 .none)
    (h1:El k1 s.heap i1 a1 j1) (h2:El k2 s.heap i2 a2 j2) (r1:Ag k1 s.heap a1 xs) (r2:Ag k2 s.heap a2 ys) (n2:a2≠z∧a2≠to'∧a2≠i1∧a2≠i2) (n1:a1≠z) (hx:xs[j1]? = some x) (hy:ys[j2]? = some y)
    (q:∀ h',Ky h' z ti to' i1 i2 (rawInt s.heap.objs.size)→El k1 h' i1 a1 (j1 + 1)→El k2 h' i2 a2 (j2 + 1)→IsPair h' s.heap.objs.size x y→Qs z to' i1 i2 s.heap h'→Q (.ref s.heap.objs.size) { s with heap:=h' }) :
    wpAny (model prog w) A (Builtin.«zip.__next__» ⟨[.ref z],[]⟩) (fun fin s'=>∃ v,fin = .done (.ret v)∧Q v s') E s:=by -- here
  obtain ⟨hz,hI,a,b,hO⟩:=Z
  obtain ⟨d1,d2,d3,d4,d5,d6,d7,d8,d9,d10⟩:=D.all
  refine (show wpAny _ _ (field (.ref z) 2 >>= _) _ _ _ from wpAny_bind (wpAny_field hz rfl (x:=.bool false) rfl ?_))
  refine (show wpAny _ _ (field (.ref z) 3 >>= _) _ _ _ from wpAny_bind (wpAny_field hz rfl (x:=.ref ti) rfl (wpAny_bind (wpAny_seqItems hI rfl ?_))))
  refine (show wpAny _ _ (Builtin.SmallTypes.ownedTupleIsFree (.ref z) >>= _) _ _ _ from wpAny_bind ?_)
  unfold Builtin.SmallTypes.ownedTupleIsFree -- here
  refine wpAny_bind (wpAny_field hz rfl (x:=.none) rfl (wpAny_pure ?_)) -- here
  dsimp only
  rw [if_pos rfl]
  refine wpAny_bind (wpAny_rule (wpAny_bind (wpAny_field hz rfl (x:=.ref to') rfl (wpAny_bind (wpAny_setField_rec hz (by simp) fun g1 z1 s1=>wpAny_bind ?_)))))
  have z1:IsZip g1 z ti to' .ellipsis:=z1
  simp only [List.zipIdx_cons,List.zipIdx_nil,List.forIn_cons,List.forIn_nil] -- here
  refine wpAny_bind (wpAny_bind (wpAny_onRaise (show wpAny _ _ (Builtin.SmallTypes.nextOf (.ref i1) >>= _) _ _ _ from wpAny_bind (Fj (h1.to fun o e=>s1.extBut _ _ d3 e) (r1.to fun o e=>s1.extBut _ _ n1 e) hx fun g2 t2 s2=>wpAny_pure ?_))))
  have o2:IsPair g2 to' a b:=s2.extBut _ _ d8 (s1.extBut _ _ d2 hO)
  refine wpAny_bind (wpAny_seqItems o2 rfl (wpAny_bind (wpAny_updateSeq_pair o2 fun g3 o3 s3=>wpAny_bind (wpAny_letGo (wpAny_pure ?_)))))
  have o3:IsPair g3 to' x b:=o3
  have e3:∀ c o,c≠z→c≠i1→c≠to'→s.heap.get? c = some o→g3.get? c = some o:=fun c o c1 c2 c3 e=>s3.extBut _ _ c3 (s2.extBut _ _ c2 (s1.extBut _ _ c1 e))
  refine wpAny_bind (wpAny_bind (wpAny_onRaise (show wpAny _ _ (Builtin.SmallTypes.nextOf (.ref i2) >>= _) _ _ _ from wpAny_bind (Fj (h2.to fun o e=>e3 _ o d4 (Ne.symm d10) (Ne.symm d9) e) (r2.to fun o e=>e3 _ o n2.1 n2.2.2.1 n2.2.1 e) hy fun g4 t4 s4=>wpAny_pure ?_))))
  have o4:IsPair g4 to' x b:=s4.extBut _ _ d9 o3
  refine wpAny_bind (wpAny_seqItems o4 rfl (wpAny_bind (wpAny_updateSeq_pair o4 fun g5 o5 s5=>wpAny_bind (wpAny_letGo (wpAny_pure (wpAny_pure ?_))))))
  have o5:IsPair g5 to' x y:=o5
  have sz:g5.objs.size = s.heap.objs.size:=by rw [s5.1,s4.1,s3.1,s2.1,s1.1]
  have z5:IsZip g5 z ti to' .ellipsis:=s5.extBut _ _ (Ne.symm d2) (s4.extBut _ _ (Ne.symm d4) (s3.extBut _ _ (Ne.symm d2) (s2.extBut _ _ (Ne.symm d3) z1)))
  have t5:El k1 g5 i1 a1 (j1 + 1):=t2.to fun o e=>s5.extBut _ _ (Ne.symm d8) (s4.extBut _ _ d10 (s3.extBut _ _ (Ne.symm d8) e))
  have u5:El k2 g5 i2 a2 (j2 + 1):=t4.to fun o e=>s5.extBut _ _ (Ne.symm d9) e
  refine wpAny_bind (wpAny_seqItems o5 rfl (wpAny_bind (wpAny_newTuple ?_)))
  refine (show wpAny _ _ (Builtin.SmallTypes.ownedTupleHandOut (.ref z) (.ref g5.objs.size) >>= _) _ _ _ from wpAny_bind ?_)
  unfold Builtin.SmallTypes.ownedTupleHandOut -- here
  have z6:IsZip (g5.push { cls:=.type "tuple",data:=.seq #[x,y] }) z ti to' .ellipsis:=Heap.get?_push_of_some _ z5
  refine wpAny_bind (wpAny_setField_rec z6 (by simp) fun g7 z7 s7=>?_)
  have z7:IsZip g7 z ti to' (rawInt g5.objs.size):=z7
  refine wpAny_setField_rec z7 (by simp) fun g8 z8 s8=>wpAny_pure ⟨_,rfl,?_⟩
  have z8:IsZip g8 z ti to' (rawInt g5.objs.size):=z8
  have e8:∀ c o,c≠z→g5.get? c = some o→g8.get? c = some o:=fun c o c1 e=>s8.extBut _ _ c1 (s7.extBut _ _ c1 (Heap.get?_push_of_some _ e))
  have p8:IsPair g8 g5.objs.size x y:=s8.extBut _ _ (Nat.ne_of_gt (Heap.lt_size z5)) (s7.extBut _ _ (Nat.ne_of_gt (Heap.lt_size z5)) (Heap.get?_push_size _ rfl))
  have all:∀ c o,c≠z→c≠to'→c≠i1→c≠i2→s.heap.get? c = some o→g8.get? c = some o:=fun c o c1 c2 c3 c4 e=>e8 c o c1 (s5.extBut _ _ c2 (s4.extBut _ _ c4 (e3 c o c1 c3 c2 e)))
  rw [sz] at z8 p8
  show Q (.ref g5.objs.size) _
  rw [sz]
  exact q g8 ⟨z8,all _ _ d1 d5 d6 d7 hI,x,y,e8 _ _ d2 o5⟩ (t5.to fun o e=>e8 _ o d3 e) (u5.to fun o e=>e8 _ o d4 e) p8 all
theorem Zr {k1 k2:Bool} {z ti to' i1 i2 a1 a2:Addr} {j1 j2:Nat} {xs ys:Array Value} {Q:PySem.Fin→Shared→Prop} (hh:A.handled = none) (D:Far z ti to' i1 i2) (Z:Ky s.heap z ti to' i1 i2 .none)
    (h1:El k1 s.heap i1 a1 j1) (h2:El k2 s.heap i2 a2 j2) (r1:Ag k1 s.heap a1 xs) (r2:Ag k2 s.heap a2 ys) (n2:a2≠z∧a2≠to'∧a2≠i1∧a2≠i2) (n1:a1≠z) (hend:xs[j1]? = none∨ys[j2]? = none)
    (q:∀ h' e,Qs z to' i1 i2 s.heap h'→(∃ o,h'.get? e = some o∧o.cls = .type "StopIteration")→E (.ref e) { s with heap:=h' }) :
    wpAny (model prog w) A (Builtin.«zip.__next__» ⟨[.ref z],[]⟩) Q E s:=by -- here
  obtain ⟨hz,hI,a,b,hO⟩:=Z
  obtain ⟨d1,d2,d3,d4,d5,d6,d7,d8,d9,d10⟩:=D.all
  refine (show wpAny _ _ (field (.ref z) 2 >>= _) _ _ _ from wpAny_bind (wpAny_field hz rfl (x:=.bool false) rfl ?_))
  refine (show wpAny _ _ (field (.ref z) 3 >>= _) _ _ _ from wpAny_bind (wpAny_field hz rfl (x:=.ref ti) rfl (wpAny_bind (wpAny_seqItems hI rfl ?_))))
  refine (show wpAny _ _ (Builtin.SmallTypes.ownedTupleIsFree (.ref z) >>= _) _ _ _ from wpAny_bind ?_)
  unfold Builtin.SmallTypes.ownedTupleIsFree -- here
  refine wpAny_bind (wpAny_field hz rfl (x:=.none) rfl (wpAny_pure ?_)) -- here
  dsimp only
  rw [if_pos rfl]
  refine wpAny_bind (wpAny_rule (wpAny_bind (wpAny_field hz rfl (x:=.ref to') rfl (wpAny_bind (wpAny_setField_rec hz (by simp) fun g1 z1 s1=>wpAny_bind ?_)))))
  have z1:IsZip g1 z ti to' .ellipsis:=z1
  simp only [List.zipIdx_cons,List.zipIdx_nil,List.forIn_cons,List.forIn_nil] -- here
  have fin:∀ (g:Heap) (e:Addr) (zg:IsZip g z ti to' .ellipsis) (he:∃ o,g.get? e = some o∧o.cls = .type "StopIteration") (kg:Qs z to' i1 i2 s.heap g),wpAny (model prog w) A (setField (.ref z) 0 .none) (fun _ s'=>E (.ref e) s') E { s with heap:=g }:=fun g e zg ⟨o,ho,hc⟩ kg=>by
    have ne:e≠z:=fun x=>by subst x; rw [zg] at ho; cases ho; simp at hc
    exact wpAny_setField_rec zg (by simp) fun g' _ s'=>q g' e (fun c o c1 c2 c3 c4 x=>s'.extBut _ _ c1 (kg c o c1 c2 c3 c4 x)) ⟨o,s'.extBut _ _ ne ho,hc⟩
  cases hx:xs[j1]? with
  | none =>
    refine wpAny_bind (wpAny_bind (wpAny_onRaise (show wpAny _ _ (Builtin.SmallTypes.nextOf (.ref i1) >>= _) _ _ _ from wpAny_bind (Cy hh (h1.to fun o e=>s1.extBut _ _ d3 e) (r1.to fun o e=>s1.extBut _ _ n1 e) hx fun g2 e s2 he=>?_))))
    exact fin g2 e (s2 _ _ (Ne.symm d3) z1) he fun c o c1 _ c3 _ x=>s2 _ _ c3 (s1.extBut _ _ c1 x)
  | some x =>
    have hy:ys[j2]? = none:=hend.resolve_left fun h=>by rw [hx] at h; cases h
    refine wpAny_bind (wpAny_bind (wpAny_onRaise (show wpAny _ _ (Builtin.SmallTypes.nextOf (.ref i1) >>= _) _ _ _ from wpAny_bind (Fj (h1.to fun o e=>s1.extBut _ _ d3 e) (r1.to fun o e=>s1.extBut _ _ n1 e) hx fun g2 t2 s2=>wpAny_pure ?_))))
    have o2:IsPair g2 to' a b:=s2.extBut _ _ d8 (s1.extBut _ _ d2 hO)
    refine wpAny_bind (wpAny_seqItems o2 rfl (wpAny_bind (wpAny_updateSeq_pair o2 fun g3 o3 s3=>wpAny_bind (wpAny_letGo (wpAny_pure ?_)))))
    have e3:∀ c o,c≠z→c≠i1→c≠to'→s.heap.get? c = some o→g3.get? c = some o:=fun c o c1 c2 c3 e=>s3.extBut _ _ c3 (s2.extBut _ _ c2 (s1.extBut _ _ c1 e))
    refine wpAny_bind (wpAny_bind (wpAny_onRaise (show wpAny _ _ (Builtin.SmallTypes.nextOf (.ref i2) >>= _) _ _ _ from wpAny_bind (Cy hh (h2.to fun o e=>e3 _ o d4 (Ne.symm d10) (Ne.symm d9) e) (r2.to fun o e=>e3 _ o n2.1 n2.2.2.1 n2.2.1 e) hy fun g4 e s4 he=>?_))))
    exact fin g4 e (s4 _ _ (Ne.symm d4) (s3.extBut _ _ (Ne.symm d2) (s2.extBut _ _ (Ne.symm d3) z1))) he fun c o c1 c2 c3 c4 x=>s4 _ _ c4 (e3 c o c1 c3 c2 x)
theorem a04 {k1 k2:Bool} {z ti to' i1 i2 a1 a2:Addr} {j1 j2:Nat} {xs ys:Array Value} {x y:Value} {Q:Option Value→Shared→Prop} (D:Far z ti to' i1 i2) (Z:Ky s.heap z ti to' i1 i2 .none)
    (h1:El k1 s.heap i1 a1 j1) (h2:El k2 s.heap i2 a2 j2) (r1:Ag k1 s.heap a1 xs) (r2:Ag k2 s.heap a2 ys) (n2:a2≠z∧a2≠to'∧a2≠i1∧a2≠i2) (n1:a1≠z) (hx:xs[j1]? = some x) (hy:ys[j2]? = some y)
    (q:∀ h',Ky h' z ti to' i1 i2 (rawInt s.heap.objs.size)→El k1 h' i1 a1 (j1 + 1)→El k2 h' i2 a2 (j2 + 1)→IsPair h' s.heap.objs.size x y→Qs z to' i1 i2 s.heap h'→Q (some (.ref s.heap.objs.size)) { s with heap:=h' }) :
    wpAny (model prog w) A (pyNext (.ref z)) Q E s:=by -- here
  have ty:s.TypeIs (.ref z) "zip" := ⟨_,Z.zip,rfl⟩
  unfold pyNext
  exact wpAny_bind (wpAny_attempt (wpAny_callSpecial?_slot (name:=Str.ofString "__next__") ty F.slot_zip_next (wpAny_call_entry F.slot_zip_next ty F.entry_zip_next
    (Z1 D Z h1 h2 r1 r2 n2 n1 hx hy fun h' a b c d e=>wpAny_pure (q h' a b c d e)) (F.args_zip_next_1 _))))
theorem Zu {k1 k2:Bool} {z ti to' i1 i2 a1 a2:Addr} {j1 j2:Nat} {xs ys:Array Value} {Q:Option Value→Shared→Prop} (hh:A.handled = none) (D:Far z ti to' i1 i2) (Z:Ky s.heap z ti to' i1 i2 .none)
    (h1:El k1 s.heap i1 a1 j1) (h2:El k2 s.heap i2 a2 j2) (r1:Ag k1 s.heap a1 xs) (r2:Ag k2 s.heap a2 ys) (n2:a2≠z∧a2≠to'∧a2≠i1∧a2≠i2) (n1:a1≠z) (hend:xs[j1]? = none∨ys[j2]? = none)
    (q:∀ h',Qs z to' i1 i2 s.heap h'→Q none { s with heap:=h' }):wpAny (model prog w) A (pyNext (.ref z)) Q E s:=by
  have ty:s.TypeIs (.ref z) "zip" := ⟨_,Z.zip,rfl⟩
  unfold pyNext
  refine wpAny_bind (wpAny_attempt (wpAny_callSpecial?_slot (name:=Str.ofString "__next__") ty F.slot_zip_next (wpAny_call_entry F.slot_zip_next ty F.entry_zip_next
    (Zr hh D Z h1 h2 r1 r2 n2 n1 hend fun h' e kp he=>?_) (F.args_zip_next_1 _))))
  obtain ⟨o,ho,hc⟩:=he
  exact wpAny_bind (wpAny_isInstance (T := "StopIteration") (b:=true) ⟨o,ho,hc⟩ isSubtype_stop (wpAny_pure (q _ kp)))
end
noncomputable abbrev Wj (k:Bool) (a:Addr):Obj:={ cls:=.type (if k then "list_iterator" else "tuple_iterator"),data:=.fields #[.ref a,.int 0 0] }
noncomputable abbrev zh1 (h:Heap) (k1:Bool) (a1:Addr):Heap:=h.push (Wj k1 a1)
noncomputable abbrev zh2 (h:Heap) (k1 k2:Bool) (a1 a2:Addr):Heap:=(zh1 h k1 a1).push (Wj k2 a2)
noncomputable abbrev zh3 (h:Heap) (k1 k2:Bool) (a1 a2:Addr):Heap:=(zh2 h k1 k2 a1 a2).push { cls:=.type "tuple",data:=.seq #[.ref h.objs.size,.ref (zh1 h k1 a1).objs.size] }
noncomputable abbrev zh4 (h:Heap) (k1 k2:Bool) (a1 a2:Addr):Heap:=(zh3 h k1 k2 a1 a2).push { cls:=.type "tuple",data:=.seq #[.none,.none] }
noncomputable abbrev zh5 (h:Heap) (k1 k2:Bool) (a1 a2:Addr):Heap:=(zh4 h k1 k2 a1 a2).push { cls:=.type "zip",data:=.fields #[.none,.bool false,.bool false,.ref (zh2 h k1 k2 a1 a2).objs.size,.ref (zh3 h k1 k2 a1 a2).objs.size] }
set_option maxHeartbeats 4000000 in
theorem Qt (a1 a2:Addr) (xs ys:Array Value):Meets (Builtin.«zip.__new__» ⟨[.type "zip",.ref a1,.ref a2],[]⟩) (fun _ R s=>s.heap.IsTuple a1 xs∧s.heap.IsTuple a2 ys ∧
      R (.ok (.ret (.ref (zh4 s.heap false false a1 a2).objs.size))) { s with heap:=zh5 s.heap false false a1 a2 }) :=
  .of_wp fun prog w A R s z9=>by
    obtain ⟨r1,r2,fin⟩:=z9
    obtain ⟨hp,g,d,tk,os⟩:=s -- here
    have hsub:=sub_zip
    have q1:Heap.IsTuple (Shared.heap ⟨hp,g,d,tk,os⟩) a1 xs:=r1
    have q2:Heap.IsTuple (Shared.heap ⟨hp.push { cls:=.type "tuple_iterator",data:=.fields #[.ref a1,.int 0 0] },g,d,tk,os⟩) a2 ys:=Heap.IsTuple.push r2 _
    wp_walk using wpAny_pyIter_tuple q1,wpAny_pyIter_tuple q2
    exact ⟨_,rfl,fin⟩
set_option maxHeartbeats 4000000 in
theorem Qv (a1 a2:Addr) (xs ys:Array Value):Meets (Builtin.«zip.__new__» ⟨[.type "zip",.ref a1,.ref a2],[]⟩) (fun _ R s=>s.heap.IsTuple a1 xs∧s.heap.IsList a2 ys ∧
      R (.ok (.ret (.ref (zh4 s.heap false true a1 a2).objs.size))) { s with heap:=zh5 s.heap false true a1 a2 }) :=
  .of_wp fun prog w A R s z9=>by
    obtain ⟨r1,r2,fin⟩:=z9
    obtain ⟨hp,g,d,tk,os⟩:=s -- here
    have hsub:=sub_zip
    have q1:Heap.IsTuple (Shared.heap ⟨hp,g,d,tk,os⟩) a1 xs:=r1
    have q2:Heap.IsList (Shared.heap ⟨hp.push { cls:=.type "tuple_iterator",data:=.fields #[.ref a1,.int 0 0] },g,d,tk,os⟩) a2 ys:=Heap.IsList.push r2 _
    wp_walk using wpAny_pyIter_tuple q1,wpAny_pyIter_list q2
    exact ⟨_,rfl,fin⟩
set_option maxHeartbeats 4000000 in
theorem Rk (a1 a2:Addr) (xs ys:Array Value):Meets (Builtin.«zip.__new__» ⟨[.type "zip",.ref a1,.ref a2],[]⟩) (fun _ R s=>s.heap.IsList a1 xs∧s.heap.IsTuple a2 ys ∧
      R (.ok (.ret (.ref (zh4 s.heap true false a1 a2).objs.size))) { s with heap:=zh5 s.heap true false a1 a2 }) :=
  .of_wp fun prog w A R s z9=>by
    obtain ⟨r1,r2,fin⟩:=z9
    obtain ⟨hp,g,d,tk,os⟩:=s -- here
    have hsub:=sub_zip
    have q1:Heap.IsList (Shared.heap ⟨hp,g,d,tk,os⟩) a1 xs:=r1
    have q2:Heap.IsTuple (Shared.heap ⟨hp.push { cls:=.type "list_iterator",data:=.fields #[.ref a1,.int 0 0] },g,d,tk,os⟩) a2 ys:=Heap.IsTuple.push r2 _
    wp_walk using wpAny_pyIter_list q1,wpAny_pyIter_tuple q2
    exact ⟨_,rfl,fin⟩
set_option maxHeartbeats 4000000 in
theorem Qk (a1 a2:Addr) (xs ys:Array Value):Meets (Builtin.«zip.__new__» ⟨[.type "zip",.ref a1,.ref a2],[]⟩) (fun _ R s=>s.heap.IsList a1 xs∧s.heap.IsList a2 ys ∧
      R (.ok (.ret (.ref (zh4 s.heap true true a1 a2).objs.size))) { s with heap:=zh5 s.heap true true a1 a2 }) :=
  .of_wp fun prog w A R s z9=>by
    obtain ⟨r1,r2,fin⟩:=z9
    obtain ⟨hp,g,d,tk,os⟩:=s -- here
    have hsub:=sub_zip
    have q1:Heap.IsList (Shared.heap ⟨hp,g,d,tk,os⟩) a1 xs:=r1
    have q2:Heap.IsList (Shared.heap ⟨hp.push { cls:=.type "list_iterator",data:=.fields #[.ref a1,.int 0 0] },g,d,tk,os⟩) a2 ys:=Heap.IsList.push r2 _
    wp_walk using wpAny_pyIter_list q1,wpAny_pyIter_list q2
    exact ⟨_,rfl,fin⟩
theorem Z5 (k1 k2:Bool) (a1 a2:Addr) (xs ys:Array Value):Meets (Builtin.«zip.__new__» ⟨[.type "zip",.ref a1,.ref a2],[]⟩) (fun _ R s=>Ag k1 s.heap a1 xs∧Ag k2 s.heap a2 ys ∧
      R (.ok (.ret (.ref (zh4 s.heap k1 k2 a1 a2).objs.size))) { s with heap:=zh5 s.heap k1 k2 a1 a2 }):=by
  cases k1 <;> cases k2
  · exact Qt a1 a2 xs ys
  · exact Qv a1 a2 xs ys
  · exact Rk a1 a2 xs ys
  · exact Qk a1 a2 xs ys
theorem Tf {k:Bool} {h:Heap} {p a:Addr} (e:h.get? p = some (Wj k a)):El k h p a 0:=by
  cases k <;> exact ⟨_,e,rfl,rfl⟩
noncomputable section
variable {prog:Program} {w:World} {A:Around} {E:Value→Shared→Prop} {s:Shared}
theorem Z8 {k1 k2:Bool} {a1 a2:Addr} {xs ys:Array Value} {Q:Value→Shared→Prop} (r1:Ag k1 s.heap a1 xs) (r2:Ag k2 s.heap a2 ys)
    (q:∀ h',Ky h' (s.heap.objs.size + 4) (s.heap.objs.size + 2) (s.heap.objs.size + 3) s.heap.objs.size (s.heap.objs.size + 1) .none→El k1 h' s.heap.objs.size a1 0→El k2 h' (s.heap.objs.size + 1) a2 0 →
      (∀ c o,s.heap.get? c = some o→h'.get? c = some o)→Q (.ref (s.heap.objs.size + 4)) { s with heap:=h' }):wpAny (model prog w) A (call (.type "zip") [.ref a1,.ref a2]) Q E s:=by
  refine callType_new F.called_zip (by decide) (F.typeCall_zip_2 _ _) (F.newCall_zip_2 _ _) (fun obj=>F.args_object_init_3 obj _ _) F.entry_zip_new (Z5 k1 k2 a1 a2 xs ys) ⟨r1,r2,?_⟩
  have y1:(zh1 s.heap k1 a1).objs.size = s.heap.objs.size + 1:=Heap.size_push ..
  have y2:(zh2 s.heap k1 k2 a1 a2).objs.size = s.heap.objs.size + 2:=by rw [Heap.size_push,y1]
  have y3:(zh3 s.heap k1 k2 a1 a2).objs.size = s.heap.objs.size + 3:=by rw [Heap.size_push,y2]
  have y4:(zh4 s.heap k1 k2 a1 a2).objs.size = s.heap.objs.size + 4:=by rw [Heap.size_push,y3]
  have up:∀ {h:Heap} {o:Obj} {c:Addr} {u:Obj},h.get? c = some u→(h.push o).get? c = some u:=fun e=>Heap.get?_push_of_some _ e
  have g5:(zh5 s.heap k1 k2 a1 a2).get? (zh4 s.heap k1 k2 a1 a2).objs.size = some _:=Heap.get?_push_size _ rfl
  have g4:(zh5 s.heap k1 k2 a1 a2).get? (zh3 s.heap k1 k2 a1 a2).objs.size = some _:=up (Heap.get?_push_size _ rfl)
  have g3:(zh5 s.heap k1 k2 a1 a2).get? (zh2 s.heap k1 k2 a1 a2).objs.size = some _:=up (up (Heap.get?_push_size _ rfl))
  have g2:(zh5 s.heap k1 k2 a1 a2).get? (zh1 s.heap k1 a1).objs.size = some (Wj k2 a2):=up (up (up (Heap.get?_push_size _ rfl)))
  have g1:(zh5 s.heap k1 k2 a1 a2).get? s.heap.objs.size = some (Wj k1 a1):=up (up (up (up (Heap.get?_push_size _ rfl))))
  show _∧_
  rw [y2,y3,y4] at g5
  rw [y1,y2] at g3
  rw [y3] at g4
  rw [y1] at g2
  rw [y4]
  exact ⟨⟨_,g5,rfl⟩,q _ ⟨g5,g3,_,_,g4⟩ (Tf g1) (Tf g2) fun c o x=>up (up (up (up (up x))))⟩
end
end C
end
noncomputable section
set_option linter.all false
set_option maxRecDepth 100000
set_option maxHeartbeats 4000002
set_option autoImplicit false
namespace C
open PySem PySem.Spec PyProof.Rows L2
theorem Inv.Wz {X:Cx} {pins:List (Addr × Obj)} {σ:L2.St} {H:Hp} {s:Shared} {h':Heap} {t':Nat} {ch:List Addr} {n:Addr} {o:HO} (I:L2.Inv X pins σ H s) (hch:∀ b∈ch,Q9 X pins H b)
    (k:∀ b u,b∉ch→s.heap.get? b = some u→h'.get? b = some u) (hp:s.heap.objs.size≤n) (new:zq X.prog X.w (upd H n o) h' n o):L2.Inv X pins σ (upd H n o) { s with heap:=h',toks:=t' }:=by
  have fr:=I.hok.fresh hp
  have nn:∀ b u,s.heap.get? b = some u→b≠n:=fun b u e=>Nat.ne_of_lt (Nat.lt_of_lt_of_le (Heap.lt_size e) hp)
  have nch:∀ b u,H b = some u→b∉ch:=fun b u e z=>by rw [(hch b z).1] at e; cases e
  refine I.step (g':=s.gens) (d':=s.drawn) (ch:=ch) (fun b hb=>?_) (fun b u _ _ hc e _=>k b u hc e) (fun b u _ _ hc e _=>⟨u.slots,k b u hc e⟩) (fun b u _ e z=>by rw [jg (nn b u e)]; exact z)
    (fun b u hc e=>⟨u,k b u hc e⟩) (fun b xs e=>by rw [jg (xg e fr)]; exact e) (fun b u xs e=>by rw [jg (xg e fr)]; exact e) (fun b ps e=>⟨#[],by rw [jg (xg e fr),e]; simp⟩) (fun m hm=>?_) (fun b u e=>?_) I.bare
  · obtain ⟨f0,f1,f2,f3,f4,f5⟩:=hch b hb
    exact ⟨f3,f1,f4,f5⟩
  · obtain ⟨ob,es,ep,ho,r⟩:=hm
    exact ⟨ob,es,ep,k _ ob (fun z=>(hch _ z).2.1 rfl) ho,r⟩
  · by_cases hb:b = n
    · subst hb; rw [jd] at e; cases e; exact new
    · rw [jg hb] at e
      refine (I.hok b u e).stay (fun c v hc q=>k c v ?_ q) (fun c q=>by rw [jg (xg q fr)]; exact q) fun c xs q=>by rw [jg (xg q fr)]; exact q
      rcases hc with rfl | hc
      · exact nch _ _ e
      · exact nch _ _ hc
theorem Inv.a2h {X:Cx} {pins:List (Addr × Obj)} {σ:L2.St} {H:Hp} {s:Shared} {h':Heap} {t':Nat} {ch:List Addr} (I:L2.Inv X pins σ H s) (hch:∀ b∈ch,Q9 X pins H b)
    (k:∀ b u,b∉ch→s.heap.get? b = some u→h'.get? b = some u):L2.Inv X pins σ H { s with heap:=h',toks:=t' }:=by
  have nch:∀ b u,H b = some u→b∉ch:=fun b u e z=>by rw [(hch b z).1] at e; cases e
  refine I.step (g':=s.gens) (d':=s.drawn) (ch:=ch) (fun b hb=>?_) (fun b u _ _ hc e _=>k b u hc e) (fun b u _ _ hc e _=>⟨u.slots,k b u hc e⟩) (fun b u _ e z=>z)
    (fun b u hc e=>⟨u,k b u hc e⟩) (fun b xs e=>e) (fun b u xs e=>e) (fun b ps e=>⟨#[],by rw [e]; simp⟩) (fun m hm=>?_) (fun b u e=>?_) I.bare
  · obtain ⟨f0,f1,f2,f3,f4,f5⟩:=hch b hb
    exact ⟨f3,f1,f4,f5⟩
  · obtain ⟨ob,es,ep,ho,r⟩:=hm
    exact ⟨ob,es,ep,k _ ob (fun z=>(hch _ z).2.1 rfl) ho,r⟩
  · refine (I.hok b u e).stay (fun c v hc q=>k c v ?_ q) (fun c q=>q) fun c xs q=>q
    rcases hc with rfl | hc
    · exact nch _ _ e
    · exact nch _ _ hc
noncomputable def Sq:Bool→PySem.W.Frag→Hp→Addr→List V→Prop
  | true,K,H,a,xs=>SqL K H a xs
  | false,K,H,a,xs=>SqT K H a xs
noncomputable section
variable {X:Cx} {pins:List (Addr × Obj)} {σ:L2.St} {H:Hp} {s:Shared} {a:Addr} {xs ys:List V} {k:Bool}
theorem Sq.row (I:L2.Inv X pins σ H s) (h:Sq k X.K H a xs):∃ its:List Value,Vals xs its∧Ag k s.heap a its.toArray:=by
  cases k with
  | true=>obtain ⟨its,r,p,_⟩:=I.list h; exact ⟨its,r,p.isList⟩
  | false=>obtain ⟨its,r,p,_⟩:=I.tuple h; exact ⟨its,r,p⟩
end
theorem a1q (n:Nat):Far (n + 4) (n + 2) (n + 3) n (n + 1):=⟨by
  have h1:n + 4≠n + 2:=by omega
  have h2:n + 4≠n + 3:=by omega
  have h3:n + 4≠n:=by omega
  have h4:n + 4≠n + 1:=by omega
  have h5:n + 2≠n + 3:=by omega
  have h6:n + 2≠n:=by omega
  have h7:n + 2≠n + 1:=by omega
  have h8:n + 3≠n:=by omega
  have h9:n + 3≠n + 1:=by omega
  have h10:n≠n + 1:=by omega
  exact List.nodup_cons.mpr ⟨by simp only [List.mem_cons,List.not_mem_nil,or_false,not_or]; exact ⟨h1,h2,h3,h4⟩,List.nodup_cons.mpr ⟨by simp only [List.mem_cons,List.not_mem_nil,or_false,not_or]; exact ⟨h5,h6,h7⟩,List.nodup_cons.mpr ⟨by simp only [List.mem_cons,List.not_mem_nil,or_false,not_or]; exact ⟨h8,h9⟩,List.nodup_cons.mpr ⟨by simp only [List.mem_cons,List.not_mem_nil,or_false]; exact h10,List.nodup_cons.mpr ⟨by simp,.nil⟩⟩⟩⟩⟩⟩
noncomputable section
variable {X:Cx} {B:Bas} {a b:Expr} {m m1 m2:M T} {pos p:Pos} {elts:List Expr} {x1:Nat} {tpos:Pos}
theorem Vp {K:PySem.W.Frag} {S:Hp} {as:List Addr} {v:V} {t:T} {xs:List T} (r:Rep K S as v t) (e:iz t = some xs):∃ k a vs,v = .ref a∧Sq k K S a vs∧uq K S as vs xs∧(k = true∧t = .lst xs∨k = false∧t = .tup xs):=by
  cases r with
  | @lst a vs ts g1 g2=>simp only [iz] at e; cases e; exact ⟨true,a,vs,rfl,g1,g2,.inl ⟨rfl,rfl⟩⟩
  | @tup a vs ts g1 g2=>simp only [iz] at e; cases e; exact ⟨false,a,vs,rfl,g1,g2,.inr ⟨rfl,rfl⟩⟩
  | _=>simp only [iz,reduceCtorEq] at e
theorem Sq.mono {k:Bool} {K:PySem.W.Frag} {S H:Hp} {a:Addr} {vs:List V} (e:Same S H) (h:Sq k K S a vs):Sq k K H a vs:=by
  cases k with
  | true=>exact qg e h
  | false=>exact sy e h
end
end C
end
noncomputable section
set_option linter.all false
set_option maxRecDepth 100000
set_option maxHeartbeats 4000002
set_option autoImplicit false
namespace C
open PySem PySem.Spec PyProof.Rows L2
noncomputable section
variable {X:Cx}
variable {B:Bas} {o e:Expr} {m1 m2:M T} {apos cpos:Pos}
end
end C
end
noncomputable section
set_option linter.all false
set_option maxRecDepth 100000
set_option maxHeartbeats 4000002
set_option autoImplicit false
namespace C
open PySem PySem.Spec PyProof.Rows L2
theorem Rv (n d:Nat) (o:Option Int):sIx n d o = HT.sIx n d o:=by cases o <;> rfl
noncomputable def oOf (K:PySem.W.Frag) (B:Bas) (m:M (Option Int)):TO:=fun σ H Q=>∃ st ps S as,Rel K B st σ H ps S as∧∃ o st',m st = some (o,st')∧∀ H' S' as',Rel K B st' σ H' ps S' as'→Q o H'
noncomputable section
variable {X:Cx} {B:Bas} {a e:Expr} {m:M T} {ml mh:M (Option Int)} {lo hi:Option Expr} {pos p2:Pos}
theorem M9 (h:PE X e (tOf X.K B m)):PO X (some e) (oOf X.K B (J4 m)):=fun pins s σ H Q I ⟨st,ps,S,as,R,o,st',eo,q⟩=>a2p h pins s σ H Q I (by
  unfold J4 at eo
  split at eo
  · rename_i i s1 e1
    cases eo
    refine ⟨st,ps,S,as,R,.int i,_,e1,fun v H1 S1 as1 R1=>?_⟩
    cases R1.top
    exact ⟨i,rfl,q H1 S1 as1 R1.drop⟩
  · cases eo)
theorem V5 {s s':Sta} {v:T} (h:Gs m ml mh s = some (v,s')):∃ t s1 l s2 u,m s = some (t,s1)∧ml s1 = some (l,s2)∧mh s2 = some (u,s')∧Yw l u t = some v:=by
  unfold Gs at h
  split at h
  · rename_i t s1 e1
    split at h
    · rename_i l s2 e2
      split at h
      · rename_i u s3 e3
        split at h
        · rename_i w e4; cases h; exact ⟨t,s1,l,s2,u,e1,e2,e3,e4⟩
        · cases h
      · cases h
    · cases h
  · cases h
theorem uq.takes {K:PySem.W.Frag} {S:Hp} {as:List Addr}:∀ (n:Nat) {vs:List V} {ts:List T},uq K S as vs ts→uq K S as (vs.take n) (ts.take n)
  | 0,_,_,_=>.nil
  | _ + 1,_,_,.nil=>.nil
  | n + 1,_,_,.cons h r=>.cons h (uq.takes n r)
theorem T6 {K:PySem.W.Frag} {S:Hp} {as:List Addr} {vs:List V} {ts:List T} (r:uq K S as vs ts) (lo hi:Option Int):uq K S as (Yd vs lo hi) (a3v ts lo hi):=by
  unfold Yd a3v
  rw [Rv,Rv,r.length]
  exact uq.takes _ (r.drop _)
theorem Sy (ha:PE X a (tOf X.K B m)) (hl:PO X lo (oOf X.K B ml)) (hh:PO X hi (oOf X.K B mh)):PE X (.Subscript a (.Slice lo hi none p2) pos) (tOf X.K B (Gs m ml mh)) :=
  (Zo (a1o.or a4v) ha hl hh).imp fun σ H Q z9=>by
    obtain ⟨st,ps,S,as,R,t,st',e,q⟩:=z9
    obtain ⟨t1,s1,l,s2,u,e1,e2,e3,e4⟩:=V5 e
    refine ⟨st,ps,S,as,R,t1,s1,e1,fun v H1 S1 as1 R1=>⟨s1,_,S1,as1,R1,l,s2,e2,fun H2 S2 as2 R2=>⟨s2,_,S2,as2,R2,u,st',e3,fun H3 S3 as3 R3=>?_⟩⟩⟩
    have top:=R3.top
    cases top with
    | @lst b vs ts g1 g2 =>
      simp only [Yw] at e4; cases e4
      refine .inl ⟨b,vs,rfl,qg R3.sub g1,fun p hp=>?_⟩
      have x:=Ext.laid R3.sub hp (.lst (Yd vs l u))
      exact q _ _ _ _ ((R3.drop.ext x).push (.lst (SqL.of jd) ((T6 g2 l u).mono x.s nol)))
    | @tup b vs ts g1 g2 =>
      simp only [Yw] at e4
      split at e4
      · cases e4
      · rename_i hw
        cases e4
        refine .inr ⟨b,vs,rfl,sy R3.sub g1,?_,fun p hp=>?_⟩
        · rw [Rv,Rv,← g2.length] at hw; exact hw
        · have x:=Ext.laid R3.sub hp (.tup (Yd vs l u))
          exact q _ _ _ _ ((R3.drop.ext x).push (.tup (SqT.of jd) ((T6 g2 l u).mono x.s nol)))
    | _=>simp only [Yw,reduceCtorEq] at e4
end
noncomputable section
variable {prog:Program} {w:World} {A:Around} {E:Value→Shared→Prop} {s:Shared}
end
noncomputable section
variable {X:Cx} {B:Bas} {e:Expr} {te:TE} {m m1 m2:M T} {pos p p2 p3 p4:Pos} {j:Nat}
end
end C
end
noncomputable section
set_option linter.all false
set_option autoImplicit false
namespace C
open PySem PySem.Spec L2
noncomputable def Held (K:PySem.W.Frag) (u:Value) (t:T):Prop:=∃ v,RelV v u∧∀ S as,Rep K S as v t
noncomputable def Qf (K:PySem.W.Frag) (us:List Value) (ts:List T):Prop:=∃ vs,Vals vs us∧∀ S as,uq K S as vs ts
noncomputable section
variable {K:PySem.W.Frag}
theorem Held.int {i:Int} {tk:Tok}:Held K (.int i tk) (.int i):=⟨.int i,⟨tk,rfl⟩,fun _ _=>.int i⟩
theorem Held.str {x:Str} {tk:Tok}:Held K (.str x tk) (.str x):=⟨.str x,⟨tk,rfl⟩,fun _ _=>.str x⟩
theorem Held.bl {b:Bool}:Held K (.bool b) (.bl b):=⟨.bl b,rfl,fun _ _=>.bl b⟩
theorem Held.non:Held K .none .non:=⟨.non,rfl,fun _ _=>.non⟩
theorem Qf.nil:Qf K [] []:=⟨[],.nil,fun _ _=>.nil⟩
theorem Qf.cons {u:Value} {t:T} {us:List Value} {ts:List T} (h:Held K u t) (hs:Qf K us ts):Qf K (u :: us) (t :: ts):=by
  obtain ⟨v,r,e⟩:=h
  obtain ⟨vs,rs,es⟩:=hs
  exact ⟨v :: vs,.cons r rs,fun S as=>.cons (e S as) (es S as)⟩
theorem Held.tup {a:Addr} {us:List Value} {n:Nat} {sl:Array (Option Value)} {ts:List T} (h:K.lookup a = some ⟨.type "tuple",none,.seq us.toArray n,sl⟩) (hz:us.length≤1000) (hs:Qf K us ts):Held K (.ref a) (.tup ts):=by
  obtain ⟨vs,rs,es⟩:=hs
  refine ⟨.ref a,rfl,fun S as=>.tup (.inr ⟨_,us.toArray,n,h,rfl,rfl,rfl,?_,?_⟩) (es S as)⟩
  · rw [List.size_toArray,sizeLine_eq]; omega
  · exact rs
theorem Held.lst {a:Addr} {us:List Value} {n:Nat} {sl:Array (Option Value)} {ts:List T} (h:K.lookup a = some ⟨.type "list",none,.seq us.toArray n,sl⟩) (hz:us.length≤1000) (hs:Qf K us ts):Held K (.ref a) (.lst ts):=by
  obtain ⟨vs,rs,es⟩:=hs
  refine ⟨.ref a,rfl,fun S as=>.lst (.inr ⟨_,us.toArray,n,h,rfl,rfl,rfl,?_,?_⟩) (es S as)⟩
  · rw [List.size_toArray,sizeLine_eq]; omega
  · exact rs
end
noncomputable section
variable {X:Cx} {B:Bas} {pos:Pos}
end
end C
end
noncomputable section
set_option linter.all false
set_option maxRecDepth 100000
set_option autoImplicit false
namespace C
open PySem PySem.Spec PyProof.Rows
noncomputable section
variable {prog:Program} {w:World} {A:Around} {E:Value→Shared→Prop} {s:Shared}
end
end C
end
noncomputable section
set_option linter.all false
set_option maxRecDepth 100000
set_option maxHeartbeats 4000002
set_option autoImplicit false
namespace C
open PySem PySem.Spec PyProof.Rows
noncomputable section
variable {prog:Program} {w:World} {A:Around} {R:Result→Shared→Prop} {I:Addr} {fp wr:List Addr} {G:Array GenState→Array GenState→Prop} {n:Nat} {P:Nat→Value→Prop} {St:Nat→Shared→Prop} -- here
end
noncomputable section
variable {prog:Program} {w:World} {A:Around} {E:Value→Shared→Prop} {s:Shared}
end
end C
end
noncomputable section
set_option linter.all false
set_option maxRecDepth 100000
set_option maxHeartbeats 4000002
set_option autoImplicit false
namespace C
open PySem PySem.Spec PyProof.Rows
noncomputable section
variable {prog:Program} {w:World} {A:Around} {E:Value→Shared→Prop} {s:Shared}
end
end C
end
noncomputable section
set_option linter.all false
set_option maxRecDepth 100000
set_option maxHeartbeats 4000002
set_option autoImplicit false
namespace C
open PySem PySem.Spec PyProof.Rows
noncomputable section
variable {prog:Program} {w:World} {A:Around} {E:Value→Shared→Prop} {s:Shared}
end
end C
end
noncomputable section
set_option linter.all false
set_option maxRecDepth 100000
set_option maxHeartbeats 4000002
set_option autoImplicit false
namespace C
open PySem PySem.Spec PyProof.Rows
noncomputable section
variable {prog:Program} {w:World} {A:Around} {E:Value→Shared→Prop} {s:Shared} {I a:Addr} {i n ep:Nat} {o:Obj} {es:Array (Int × Value)} {t:SetTable} {Q:Option Value→Shared→Prop}
end
end C
end
noncomputable section
set_option linter.all false
set_option maxRecDepth 100000
set_option maxHeartbeats 4000002
set_option autoImplicit false
namespace C
open PySem PySem.Spec PyProof.Rows
noncomputable section
variable {prog:Program} {w:World} {A:Around} {E:Value→Shared→Prop} {s:Shared} {I a q:Addr} {i n ep:Nat} {o:Obj} {es:Array (Int × Value)} {t:SetTable} {Q:Option Value→Shared→Prop} {ps:List Nat}
end
end C
end
noncomputable section
set_option linter.all false
set_option maxRecDepth 100000
set_option maxHeartbeats 4000002
set_option autoImplicit false
namespace C
open PySem PySem.Spec PyProof.Rows
noncomputable section
variable {prog:Program} {w:World} {A:Around} {E:Value→Shared→Prop} {s:Shared} {I a q:Addr} {n ep:Nat} {o:Obj} {es:Array (Int × Value)} {t:SetTable} {ps:List Nat}
end
end C
end
noncomputable section
set_option linter.all false
set_option maxRecDepth 100000
set_option maxHeartbeats 4000002
set_option autoImplicit false
namespace C
open PySem PySem.Spec PyProof.Rows
noncomputable section
variable {prog:Program} {w:World} {A:Around} {E:Value→Shared→Prop} {s:Shared} {a:Addr} {o:Obj} {l:List Str}
end
end C
end
noncomputable section
set_option linter.all false
set_option maxRecDepth 100000
set_option maxHeartbeats 4000002
set_option autoImplicit false
namespace C
open PySem PySem.Spec PyProof.Rows
noncomputable section
variable {prog:Program} {w:World} {A:Around} {E:Value→Shared→Prop} {s:Shared} {a:Addr} {o:Obj} {l:List Str}
end
end C
end
noncomputable section
set_option linter.all false
set_option maxRecDepth 100000
set_option maxHeartbeats 4000002
set_option autoImplicit false
namespace C
open PySem PySem.Spec PyProof.Rows L2
noncomputable section
variable {X:Cx} {B:Bas} {e:Expr} {m1:M T} {p1 p2 p3 p4:Pos}
end
end C
end
noncomputable section
set_option linter.all false
set_option maxRecDepth 100000
set_option maxHeartbeats 4000002
set_option autoImplicit false
namespace C
open PySem PySem.Spec PyProof.Rows L2
open AutoSeq1 (wpAny_loadPart') -- here
open MeetsSeq MeetsSeq2 MeetsSeq3 -- here
noncomputable section
variable {prog:Program} {w:World} -- here
end
noncomputable section
variable {X:Cx} {pins:List (Addr × Obj)} {σ:L2.St} {H S:Hp} {s:Shared} {as:List Addr}
end
end C
end
noncomputable section
set_option linter.all false
set_option maxRecDepth 100000
set_option maxHeartbeats 4000002
set_option autoImplicit false
namespace C
open PySem PySem.Spec PyProof.Rows L2
theorem a3g {K:PySem.W.Frag} {F:Fn} {H:Hp} {a:Addr} {ns:List Int} (hS:SqL K H a (ns.map V.int)) (hE:∃ st,F [.lst (ns.map T.int)] [] = some (.bl true,st)):spF K 1 F [.ref a] H (fun v _=>v = .bl true) fun _ _ _=>False:=by
  obtain ⟨st,hF⟩:=hE
  have reps:∀ (S:Hp) (l:List Int),uq K S [] (l.map V.int) (l.map T.int):=fun S l=>by
    induction l with
    | nil=>exact .nil
    | cons x l ih=>exact .cons (.int x) ih
  let S:Hp:=fun p=>if p = a then H p else none
  have sa:S a = H a:=if_pos rfl
  have sub:Same S H:=fun p u h=>by
    by_cases e:p = a
    · subst e; rw [← sa]; exact h
    · have:S p = none:=if_neg e
      rw [this] at h; cases h
  have sq:SqL K S a (ns.map V.int):=by
    rcases hS with h | h
    · refine .inl ?_
      unfold Rd at h ⊢
      rw [sa]; exact h
    · exact .inr h
  refine ⟨S,[],[],[.lst (ns.map T.int)],.bl true,st,sub,⟨rfl,.nil,fun n so e=>by simp at e⟩,.cons (.lst sq (reps S ns)) .nil,rfl,hF,fun v H' S' as' _ _ _ r=>?_⟩
  cases r
  rfl
end C
end
noncomputable section
set_option linter.all false
set_option maxRecDepth 100000
set_option maxHeartbeats 4000002
set_option autoImplicit false
namespace C
open PySem PySem.Spec PyProof.Rows L2
theorem a5p {kvs:List (L2.Key × V)} {vs:List (L2.Key × Value)} (r:KV kvs vs):∀ {i:Nat} {k:L2.Key} {v:V},kvs[i]? = some (k,v)→∃ u,vs[i]? = some (k,u)∧RelV v u:=by
  unfold KV at r
  induction r with
  | nil=>intro i k v e; simp at e
  | cons h _ ih =>
    intro i k v e
    cases i with
    | zero =>
      simp at e
      rename_i p q _ _ _
      subst e
      exact ⟨q.2,by obtain ⟨a,b⟩:=q; simp at h ⊢; exact h.1.symm,h.2⟩
    | succ j =>
      obtain ⟨u,h1,h2⟩:=ih (i:=j) (k:=k) (v:=v) (by simpa using e)
      exact ⟨u,by simpa using h1,h2⟩
theorem a2v {k:L2.Key} {u:Value} (h:Oz k u = true):RelV (kV k) u:=by
  rcases um h with ⟨i,t,rfl,rfl⟩ | ⟨x,t,rfl,rfl⟩
  · exact ⟨t,rfl⟩
  · exact ⟨t,rfl⟩
theorem Y0 {P:Program} {w:World} {H:Hp} {h:Heap} {d:Addr} {o:Obj} {kvs:List (L2.Key × V)} {es:Array DictEntry} {ep:Nat} (hd:o.data = .dict es ep) (ok:HOk P w H h) (e:H d = some (.frz o (.dK kvs))) :
    (d == sysModules) = false∧∃ vs,KV kvs vs∧h.DictAt (u6 P w) d vs ep:=by
  obtain ⟨ho,z,y,vs,r,o',es',ep',ho',hx,hd',q⟩:=(show zq P w H h d (.frz o (.dK kvs)) from ok d _ e)
  rw [ho] at ho'; cases ho'
  rw [hd] at hd'; cases hd'
  exact ⟨y,vs,r,o,es,ho,hx,hd,q⟩
noncomputable def a7c (J:Addr→Obj→List (L2.Key × V)→It) (i:Nat):TI:=fun σ H R=>∃ d o kvs,σ[i]? = some (some (.ref d))∧H d = some (.frz o (.dK kvs))∧R (J d o kvs) H
noncomputable section
variable {K:PySem.W.Frag} {S S':Hp} {as:List Addr}
noncomputable def Ln (S S':Hp):Prop:=∀ a u,(∀ o v,u≠HO.frz o v)→Rd S a u→Rd S' a u
mutual
theorem Rep.rdx (e:Ln S S'):∀ {v:V} {t:T},Rep K S as v t→Rep K S' as v t
  | _,_,.non=>.non
  | _,_,.bl b=>.bl b
  | _,_,.int i=>.int i
  | _,_,.str y=>.str y
  | _,_,.tup h r=>.tup (h.imp (e _ _ fun _ _=>HO.noConfusion) id) (uq.rdx e r)
  | _,_,.lst h r=>.lst (h.imp (e _ _ fun _ _=>HO.noConfusion) id) (uq.rdx e r)
  | _,_,.dic h r=>.dic (e _ _ (fun _ _=>HO.noConfusion) h) (Cr.rdx e r)
  | _,_,.obj h=>.obj h
theorem uq.rdx (e:Ln S S'):∀ {v:List V} {t:List T},uq K S as v t→uq K S' as v t
  | _,_,.nil=>.nil
  | _,_,.cons h r=>.cons (Rep.rdx e h) (uq.rdx e r)
theorem Cr.rdx (e:Ln S S'):∀ {v:List (L2.Key × V)} {t:List (L2.Key × T)},Cr K S as v t→Cr K S' as v t
  | _,_,.nil=>.nil
  | _,_,.cons h r=>.cons (Rep.rdx e h) (Cr.rdx e r)
end
theorem Own.rdx {H H':Hp} {p:Addr} {t:T} (e:Ln S S') (hh:H p = H' p) (o:Own K S as H p t):Own K S' as H' p t:=by
  cases t with
  | lst ts=>obtain ⟨vs,h,r⟩:=o; exact ⟨vs,hh ▸ h,r.rdx e⟩
  | dic ts=>obtain ⟨vs,h,r⟩:=o; exact ⟨vs,hh ▸ h,r.rdx e⟩
  | _=>exact o.elim
theorem Wu.rdx {H H':Hp} {a:Addr} {so:SO} (e:Ln S S') (hh:H a = H' a) (o:Wu K S as H a so):Wu K S' as H' a so:=by
  cases so with
  | dic ts=>obtain ⟨vs,h,r⟩:=o; exact ⟨vs,hh ▸ h,r.rdx e⟩
  | lst ts=>obtain ⟨vs,h,r⟩:=o; exact ⟨vs,hh ▸ h,r.rdx e⟩
  | ins c f=>exact o.elim
noncomputable def Still (z:HO) (kvs:List (L2.Key × V)):Prop:=z = .dK kvs∨∃ o,z = .frz o (.dK kvs)
theorem K1 {d:Addr} {kvs:List (L2.Key × V)} {z z':HO} (hd:S d = some z') (h':Still z' kvs) (h:Still z kvs):Ln S (upd S d z):=fun a u hu r=>by
  by_cases e:a = d
  · subst e
    have eu:u = .dK kvs:=by
      rcases r with r | ⟨o,r⟩
      · rw [hd] at r; cases r
        rcases h' with h' | ⟨o,h'⟩
        · exact h'
        · exact absurd h' (hu _ _)
      · rw [hd] at r; cases r
        rcases h' with h' | ⟨o,h'⟩
        · cases h'
        · cases h'; rfl
    subst eu
    rcases h with rfl | ⟨o,rfl⟩
    · exact .inl jd
    · exact .inr ⟨o,jd⟩
  · rcases r with r | ⟨o,r⟩
    · exact .inl (by rw [jg e]; exact r)
    · exact .inr ⟨o,by rw [jg e]; exact r⟩
theorem Lb.swap {B B':Bas} {H:Hp} {p d:Addr} {t:T} {kvs:List (L2.Key × V)} {z z':HO} (o:Lb K B S as H p t) (hd:S d = some z') (h':Still z' kvs) (h:Still z kvs) (hB:B.H p = none→B'.H p = none) :
    Lb K B' (upd S d z) as (upd H d z) p t:=by
  have ne:p≠d:=fun e=>by have:=o.out; rw [e,hd] at this; cases this
  exact ⟨o.own.rdx (K1 hd h' h) (jg ne).symm,by rw [jg ne]; exact o.out,o.nas,hB o.new⟩
theorem Rel.swap {B B':Bas} {st:Sta} {σ:L2.St} {H:Hp} {ps:List (V × T)} {d:Addr} {kvs:List (L2.Key × V)} {z z':HO} (r:Rel K B st σ H ps S as) (hd:S d = some z') (h':Still z' kvs) (h:Still z kvs)
    (hg:Vf B' (upd S d z) as (upd H d z)) (hB:∀ p,B.H p = none→B'.H p = none):Rel K B' st σ (upd H d z) ps (upd S d z) as where
  sub:=fun b u e=>by
    by_cases eb:b = d
    · subst eb; rw [jd] at e ⊢; exact e
    · rw [jg eb] at e ⊢; exact r.sub _ _ e
  grow:=hg
  slots:=fun i t f e=>by
    obtain ⟨v,h1,h2,h3⟩:=r.slots i t f e
    refine ⟨v,h1,fun q=>(h2 q).rdx (K1 hd h' h),fun q=>?_⟩
    obtain ⟨p,ep,o⟩:=h3 q
    exact ⟨p,ep,o.swap hd h' h (hB p)⟩
  apart:=r.apart
  sto:=⟨r.sto.len,r.sto.nd,fun n so e=>by
    obtain ⟨a,h1,h2,h3⟩:=r.sto.at' n so e
    have ne:a≠d:=fun e=>by rw [e,hd] at h2; cases h2
    exact ⟨a,h1,by rw [jg ne]; exact h2,h3.rdx (K1 hd h' h) (jg ne).symm⟩⟩
  pend:=fun p hp=>(r.pend p hp).rdx (K1 hd h' h)
  len:=r.len
theorem Vf.still {B:Bas} {H:Hp} {d:Addr} {z z':HO} (g:Vf B S as H) (hd:S d = some z'):Vf ⟨upd S d z,as,B.H⟩ (upd S d z) as (upd H d z) where
  same:=Same.refl _
  more:=nol
  keep:=fun p o h1 h2 h3=>by
    have ne:p≠d:=fun e=>by subst e; change upd S p z p = none at h2; rw [jd] at h2; cases h2
    have h2':S p = none:=by rw [← jg (H:=S) (o:=z) ne]; exact h2
    have b2:B.S p = none:=by
      cases q:B.S p with
      | none=>rfl
      | some u=>have:=g.same _ _ q; rw [h2'] at this; cases this
    have b3:p∉B.as:=fun q=>by obtain ⟨l,e⟩:=g.more; exact h3 (by show p∈as; rw [e]; exact List.mem_append_left _ q)
    exact ⟨by rw [jg ne]; exact (g.keep p o h1 b2 b3).1,h2,h3⟩
theorem Vf.back {B:Bas} {H H':Hp} {as':List Addr} {d:Addr} {z z':HO} (g:Vf B S as H) (hd:S d = some z') (g':Vf ⟨upd S d z,as,B.H⟩ S' as' H'):Vf B (upd S' d z') as' (upd H' d z') where
  same:=fun b u e=>by
    have e1:=g.same _ _ e
    by_cases eb:b = d
    · subst eb; rw [hd] at e1; cases e1; exact jd
    · rw [jg eb]; exact g'.same _ _ (by show upd S d z b = some u; rw [jg eb]; exact e1)
  more:=by
    obtain ⟨l,e⟩:=g.more
    obtain ⟨l',e'⟩:=g'.more
    exact ⟨l ++ l',by rw [e',← List.append_assoc,← e]⟩
  keep:=fun p o h1 h2 h3=>by
    obtain ⟨a,b,c⟩:=g.keep p o h1 h2 h3
    have ne:p≠d:=fun e=>by subst e; rw [hd] at b; cases b
    obtain ⟨a',b',c'⟩:=g'.keep p o h1 (by show upd S d z p = none; rw [jg ne]; exact b) c
    exact ⟨by rw [jg ne]; exact a',by rw [jg ne]; exact b',c'⟩
end
theorem Zf {X:Cx} {pins:List (Addr × Obj)} {σ:L2.St} {H:Hp} {s:Shared} {d:Addr} {o:Obj} {kvs:List (L2.Key × V)} (I:Inv X pins σ H s) (e:H d = some (.frz o (.dK kvs))) (n:∀ o u,X.H₀ d≠some (.frz o u)) :
    Inv X pins σ (upd H d (.dK kvs)) s:=by
  have nn:∀ b,H b = none→upd H d (.dK kvs) b = none:=fun b h=>by rw [jg (fun q=>by subst q; rw [e] at h; cases h)]; exact h
  have nt:∀ b xs,H b = some (.tup xs)→upd H d (.dK kvs) b = some (.tup xs):=fun b xs h=>by rw [jg (fun q=>by subst q; rw [e] at h; cases h)]; exact h
  have no:∀ b x,H b = some (.own x)→upd H d (.dK kvs) b = some (.own x):=fun b xs h=>by rw [jg (fun q=>by subst q; rw [e] at h; cases h)]; exact h
  have hok:HOk X.prog X.w (upd H d (.dK kvs)) s.heap:=fun b u q=>by
    by_cases eb:b = d
    · subst eb
      rw [jd] at q; cases q
      obtain ⟨_,x⟩:=(show zq X.prog X.w H s.heap b (.frz o (.dK kvs)) from I.hok b _ e)
      exact zq.stay x (fun _ _ _ q=>q) (fun b q=>no b _ q) nt
    · rw [jg eb] at q
      exact (I.hok b u q).stay (fun _ _ _ q=>q) (fun b q=>no b _ q) nt
  refine ⟨I.ok,I.os,I.bare,⟨I.base.keep,I.base.slot,fun b ob h1 h2 h3=>nn b (I.base.free b ob h1 h2 h3),I.base.there,fun b xs q=>nt b xs (I.base.tups b xs q),fun b ob u q=>?_,fun b ps q=>?_⟩,I.loc,I.cell,nn _ I.free,fun x c q=>nn c (I.freeC x c q),fun p hp=>?_,hok,I.len⟩
  · rw [jg (fun z=>by subst z; exact n _ _ q)]; exact I.base.frzs b ob u q
  · obtain ⟨m,hm⟩:=I.base.tbls b ps q
    exact ⟨m,by rw [jg (fun z=>by subst z; rw [e] at hm; cases hm)]; exact hm⟩
  · obtain ⟨a,b,c⟩:=I.pin p hp
    exact ⟨a,nn _ b,c⟩
noncomputable section
variable {X:Cx} {scope:Scope} {N:List Str} {B:Bas} {nv:Nat} {cap:List Nat} {g:G} {c:M Bool} {e:M T} {tg iter elt:Expr} {ifs:List Expr} {pos:Pos} {i:Nat}
theorem Za {f:List (L2.Key × T)→List T} {ts:List T} {s s1:Sta} (h:a5m f (cg i) s = some (ts,s1)):∃ kvs,ts = f kvs∧kvs.length < lim∧((s.env[i]? = some (some (.dic kvs,false))∧s1 = s)∨(s.env[i]? = some (some (.dic kvs,true))∧s1 = { s with env:=s.env.set i (some (.dic kvs,false)) })):=by
  unfold a5m at h
  split at h
  · rename_i kvs s2 e2
    split at h
    · rename_i hl
      cases h
      exact ⟨kvs,rfl,hl,Rz e2⟩
    · cases h
  · cases h
noncomputable def Walk (K:PySem.W.Frag) (J:Addr→Obj→List (L2.Key × V)→It) (f:List (L2.Key × T)→List T):Prop:=∀ S as H d o vs ts,Same S H→H d = some (.frz o (.dK vs))→Cr K S as vs ts→Ju K S as H (J d o vs) (f ts)
theorem M7 {J:Addr→Obj→List (L2.Key × V)→It} {f:List (L2.Key × T)→List T} (wk:Walk X.K J f) (co:Xr X scope N nv cap) {st s1 s2:Sta} {ps:List (V × T)} {S:Hp} {as:List Addr} {σ:L2.St} {H:Hp} {d:Addr} {o:Obj} {vs:List (L2.Key × V)} {ts:List (L2.Key × T)} {us:List T} {Q:VK}
    (R:Rel X.K B s1 σ H ps S as) (hσ:σ[i]? = some (some (.ref d))) (hB:B.S d = some (.frz o (.dK vs))) (hk:Cr X.K B.S B.as vs ts)
    (hc:Dm g c e (f ts) ⟨List.replicate nv none ++ cap.map (fun i=>((au cap s1.env)[i]?).getD none),s1.sto⟩ [] = some (us,s2))
    (q:∀ p H' S' as',Rel X.K B ⟨au cap s1.env,s2.sto⟩ σ H' ps S' as'→Lb X.K B S' as' H' p (.lst us)→Jg ⟨au cap s1.env,s2.sto⟩ σ p→Q (.ref p) H') :
    a0f X scope N (a7c J i) (gE X.K g) (cE X.K c) (eE X.K e) σ H Q:=by
  obtain ⟨S2,R2⟩:=R.au cap
  refine ⟨d,o,vs,hσ,R.sub _ _ (R.grow.same _ _ hB),?_⟩
  exact Nu (ps':=[]) co.len (fun _ _ _ _=>trivial) co.at' R2 (fun k hk=>Ga cap s1.env k hk) (fun S as H sB mr _ sub=>wk S as H d o vs ts sub (sub _ _ (sB _ _ hB)) (hk.mono sB mr)) hc fun D H' S' as' R' o n=>q D H' S' as' R' o n
theorem Yo {J:Addr→Obj→List (L2.Key × V)→It} {f:List (L2.Key × T)→List T} (wk:Walk X.K J f) (co:Xr X scope N nv cap) (sc:Hw X scope N) (calm:X.calm = true) (hi:PI X tg iter (a7c J i))
    (hg:∀ C s₀ H₀ ex pn,PG (xu X scope N C s₀ H₀ ex pn) tg (gE X.K g)) (hc:∀ C s₀ H₀ ex pn,PTs (xu X scope N C s₀ H₀ ex pn) ifs (cE X.K c)) (he:∀ C s₀ H₀ ex pn,PE (xu X scope N C s₀ H₀ ex pn) elt (eE X.K e))
    (hs:∀ x,foldedSetIterable iter X.env x = pure x:=by intro _; rfl):PE X (.ListComp elt [⟨tg,iter,ifs,0⟩] scope pos) (fOf X.K B (yq nv cap g (a5m f (cg i)) c e)):=by
  have P:=Ws (pos:=pos) sc calm hi hg hc he hs
  intro pins s σ H Q I ⟨st,ps,S0,as,R0,t,st',em,q⟩
  obtain ⟨ts0,s1,us,s2,e1,e2,rfl,rfl⟩:=Oc em
  obtain ⟨ts,rfl,hl,hst⟩:=Za e1
  have hR:∃ S,Rel X.K B s1 σ H ps S as∧s1.env[i]? = some (some (.dic ts,false)):=by
    rcases hst with ⟨h1,rfl⟩ | ⟨h1,rfl⟩
    · exact ⟨S0,R0,h1⟩
    · obtain ⟨S,R⟩:=R0.Qy h1
      exact ⟨S,R,List.getElem?_set_self (List.getElem?_eq_some_iff.mp h1).1⟩
  obtain ⟨S,R,hE⟩:=hR
  obtain ⟨v,hσ,hv,_⟩:=R.slots i _ _ hE
  cases hv rfl with
  | @dic d vs _ hrd hrk =>
    obtain ⟨z',hS,hz'⟩:∃ z',S d = some z'∧Still z' vs:=by
      rcases hrd with h | ⟨o,h⟩
      · exact ⟨_,h,.inl rfl⟩
      · exact ⟨_,h,.inr ⟨o,rfl⟩⟩
    have hH:=R.sub _ _ hS
    obtain ⟨o,ho⟩:∃ o,s.heap.get? d = some o:=by
      have:=(I.hok d _ hH).lt
      rcases hz' with rfl | ⟨o,rfl⟩
      · obtain ⟨_,_,_,_,o,_,_,e,_⟩:=(show zq X.prog X.w H s.heap d (.dK vs) from I.hok d _ hH); exact ⟨o,e⟩
      · exact ⟨o,(show zq X.prog X.w H s.heap d (.frz o (.dK vs)) from I.hok d _ hH).1⟩
    rcases hz' with rfl | ⟨o',rfl⟩
    · have nf:∀ o u,X.H₀ d≠some (.frz o u):=fun o u h=>by have:=I.base.frzs d o u h; rw [hH] at this; cases this
      have I1:Inv X pins σ (upd H d (.frz o (.dK vs))) s:=I.write (x:=d) (e:=d) (h':=s.heap) (t':=s.toks) (by rw [hH]; trivial) (.inl rfl) (fun _ _ _ q=>q) ⟨o,ho⟩
        ⟨ho,zq.stay (show zq X.prog X.w H s.heap d (.dK vs) from I.hok d _ hH) (fun _ _ _ q=>q) (fun b q=>by rw [jg (fun z=>by subst z; rw [hH] at q; cases q)]; exact q) fun b xs q=>by rw [jg (fun z=>by subst z; rw [hH] at q; cases q)]; exact q⟩
      have R1:=R.swap (B':=⟨upd S d (.frz o (.dK vs)),as,B.H⟩) (z:=.frz o (.dK vs)) hS (.inl rfl) (.inr ⟨o,rfl⟩) (R.grow.still hS) fun _ h=>h
      refine thn (P pins s σ _ (fun v H'=>H' d = some (.frz o (.dK vs))∧Q v (upd H' d (.dK vs))) I1 (M7 wk (st:=st) (o:=o) (vs:=vs) (ts:=ts) co R1 hσ jd (hrk.rdx (K1 hS (.inl rfl) (.inr ⟨o,rfl⟩))) e2 fun p H' S' as' R' ow n=>?_)) fun u s' ⟨v,H',I',r,hf,hq⟩=>⟨v,_,Zf I' hf nf,r,hq⟩
      have hS':S' d = some (.frz o (.dK vs)):=R'.grow.same _ _ jd
      refine ⟨R'.sub _ _ hS',q p _ (upd S' d (.dK vs)) as' (R'.swap hS' (.inr ⟨o,rfl⟩) (.inl rfl) (R.grow.back hS R'.grow) fun _ h=>h) (ow.swap hS' (.inr ⟨o,rfl⟩) (.inl rfl) fun h=>h) n⟩
    · have R1:Rel X.K ⟨S,as,B.H⟩ s1 σ H ps S as:=⟨R.sub,⟨Same.refl _,nol,fun p o h1 h2 h3=>by
          change S p = none at h2
          have b2:B.S p = none:=by
            cases q:B.S p with
            | none=>rfl
            | some u=>have:=R.grow.same _ _ q; rw [h2] at this; cases this
          have b3:p∉B.as:=fun q=>by obtain ⟨l,e⟩:=R.grow.more; exact h3 (by show p∈as; rw [e]; exact List.mem_append_left _ q)
          exact ⟨(R.grow.keep p o h1 b2 b3).1,h2,h3⟩⟩,fun i t f e=>by
            obtain ⟨v,h1,h2,h3⟩:=R.slots i t f e
            exact ⟨v,h1,h2,fun q=>by obtain ⟨p,ep,o⟩:=h3 q; exact ⟨p,ep,o.own,o.out,o.nas,o.new⟩⟩,R.apart,R.sto,R.pend,R.len⟩
      refine P pins s σ _ Q I (M7 wk (st:=st) (o:=o') (vs:=vs) (ts:=ts) co R1 hσ hS hrk e2 fun p H' S' as' R' ow n=>q p H' S' as' ⟨R'.sub,⟨R.grow.same.trans R'.grow.same,?_,fun p o h1 h2 h3=>?_⟩,fun i t f e=>?_,R'.apart,R'.sto,R'.pend,R'.len⟩ ⟨ow.own,ow.out,ow.nas,ow.new⟩ n)
      · obtain ⟨l,e⟩:=R.grow.more
        obtain ⟨l',e'⟩:=R'.grow.more
        exact ⟨l ++ l',by rw [e',← List.append_assoc,← e]⟩
      · obtain ⟨a,b,c⟩:=R.grow.keep p o h1 h2 h3
        exact R'.grow.keep p o h1 b c
      · obtain ⟨v,h1,h2,h3⟩:=R'.slots i t f e
        exact ⟨v,h1,h2,fun q=>by obtain ⟨p,ep,o⟩:=h3 q; exact ⟨p,ep,o.own,o.out,o.nas,o.new⟩⟩
end
noncomputable section
noncomputable def Itp (d:Addr) (o:Obj) (kvs:List (L2.Key × V)):It :=
  ⟨fun i H=>H d = some (.frz o (.dK kvs))∧∃ p,kvs[i]? = some p,fun i H v H'=>∃ p,H p = none∧v = .ref p∧∀ q,kvs[i]? = some q→H' = upd H p (.tup [kV q.1,q.2]),fun i H=>H d = some (.frz o (.dK kvs))∧kvs.length≤i⟩
theorem G9:entryFor table "dict_itemiterator.__iter__" = some Builtin.«dict_keyiterator.__iter__» :=
  entryFor_alias (id' := "dict_keyiterator.__iter__") (by kernel_rfl) (by first | rfl | decide +kernel | (unfold String.splitOn; simp +decide [String.splitOnAux])) (by decide +kernel) (by kernel_rfl) -- here
theorem Jq {prog:Program} {w:World} {A:Around} {E:Value→Shared→Prop} {s:Shared} {it d:Addr} {i n ep:Nat} {ok ov:Value} {Q:Value→Shared→Prop} (hit:IsItemIter s.heap it d i n ep ok ov) (h:Q (.ref it) s):wpAny (model prog w) A (pyIter (.ref it)) Q E s:=by
  have hT:s.TypeIs (.ref it) "dict_itemiterator" := ⟨_,hit,rfl⟩ -- here
  refine wpAny_pyIter_slot hT PySem.F.slot_dict_itemiterator_iter (wpAny_call_entry PySem.F.slot_dict_itemiterator_iter hT G9 ?_ (PySem.F.args_dict_itemiterator_iter_1 _))
  show wpAny _ _ (ret (.ref it)) _ _ s -- here
  exact wpAny_pure ⟨_,rfl,"dict_itemiterator",_,hT,PySem.F.slot_dict_itemiterator_next.lookup,h⟩ -- here
theorem Uj {P:Program} {w:World} {K:PySem.W.Frag} {elts:List Expr} {x1:Nat} {pos:Pos} (d it:Addr) {o:Obj} {kvs:List (L2.Key × V)} {es:Array DictEntry} {ep:Nat} (hd:o.data = .dict es ep) :
    Turn P w K (.Tuple elts x1 pos) (Itp d o kvs) [it] it (fun i h=>∃ ok ov,IsItemIter h it d i kvs.length ep ok ov) where
  mem:=by simp
  obj:=fun i h ⟨ok,ov,st⟩ b hb=>by
    have e:b = it:=by simpa using hb
    subst e
    exact ⟨_,st,fun v z=>by cases z⟩
  keep:=fun i h h' ⟨ok,ov,st⟩ k=>⟨ok,ov,k it (by simp) _ st⟩
  item:=by
    intro X hP hw hK hc i pins s σ H E I hf ⟨ok,ov,st⟩ hg
    subst hP hw hK
    obtain ⟨hF,⟨k,v⟩,hx⟩:=hg
    obtain ⟨_,vs,rv,da⟩:=Y0 hd I.hok hF
    obtain ⟨u,hu,ru⟩:=a5p rv hx
    rw [KV.length rv] at st
    refine wpAny_pyNext_items_item st da hu fun key h' hk st' hp hsz kp=>?_
    refine ⟨_,rfl,wpAny_letOwnedTupleGo_items (s:={ s with heap:=h' }) st' fun h2 st2 s2=>?_⟩
    have lt:s.heap.objs.size≠it:=Nat.ne_of_gt (Heap.lt_size st)
    have pair:h2.get? s.heap.objs.size = some { cls:=.type "tuple",data:=.seq #[key,u] }:=s2.extBut _ _ lt hp
    have J:L2.Inv X pins σ (upd H s.heap.objs.size (.tup [kV k,v])) { s with heap:=h2,toks:=s.toks }:=Inv.Wz (ch:=[it]) I hf (fun b o hb eb=>by
      have hb':b≠it:=by simpa using hb
      exact s2.extBut _ _ hb' (kp b o hb' eb)) (Nat.le_refl _) ⟨by show 2≤sizeLine; rw [sizeLine_eq]; decide,[key,u],.cons (a2v hk) (.cons ru .nil),⟨_,pair,rfl,rfl,0,rfl⟩⟩
    refine ⟨.ref s.heap.objs.size,_,J,rfl,⟨s.heap.objs.size,I.hok.fresh (Nat.le_refl _),rfl,fun q hq=>by rw [hx] at hq; cases hq; rfl⟩,⟨key,u,by rw [KV.length rv]; exact st2⟩,fun b hb=>?_⟩
    have e:b = it:=by simpa using hb
    subst e
    rw [jg (Ne.symm lt)]; exact (hf b hb).1
  done:=by
    intro X hP hw hK hc i pins s σ H E I hf ⟨ok,ov,st⟩ hg
    subst hP hw hK
    obtain ⟨hF,hx⟩:=hg
    obtain ⟨_,vs,rv,da⟩:=Y0 hd I.hok hF
    obtain ⟨f0,f1,f2,f3,f4,f5⟩:=hf it (by simp)
    rw [KV.length rv] at st hx
    exact wpAny_pyNext_items_end (I.ok.hd hc) st da (List.getElem?_eq_none hx) fun h' eb=>⟨rfl,I.turned (t':=s.toks) (fun b o hb e=>eb b o hb e) f0 f1 f3 f4 f5⟩
  self:=fun _ _ _ _ _ ⟨ok,ov,st⟩ h=>Jq st h
theorem Zd {X:Cx} {elts:List Expr} {x1:Nat} {tpos apos cpos:Pos} {l:Expr} {i:Nat} (hl:PE X l (a0a i)) (hbase:attributeBase l "items" X.env (eval l X.env) = eval l X.env:=by rfl) (hline:(apos.endLine == cpos.line) = true:=by rfl) :
    PI X (.Tuple elts x1 tpos) (.Call (.Attribute l "items" apos) [] [] cpos) (a7c Itp i):=by
  intro pins s σ H R I ⟨d,o,kvs,e1,e2,q⟩
  refine wpAny_Call_method0_late hbase hline (thn (hl pins s σ H (fun x H1=>x = .ref d∧H1 = H) I ⟨_,e1,rfl,rfl⟩) fun v s1 z0=>?_)
  obtain ⟨x,H1,I1,r1,hx,hH⟩:=z0
  subst hx; subst hH
  cases r1
  obtain ⟨ho,z,y,vs,r,o',es,ep,ho',hxd,hd',qq⟩:=(show zq X.prog X.w H1 s1.heap d (.frz o (.dK kvs)) from I1.hok d _ e2)
  rw [ho] at ho'; cases ho'
  obtain ⟨_,vs',rv,da⟩:=Y0 hd' I1.hok e2
  refine ⟨"dict","dict.items",PySem.F.plainAttrs_dict,PySem.F.slot_dict_items,PySem.F.type_dict_items,da.dictOf.typeIs,da.dictOf.mapOf.noDict,Calls.callWith_builtin rfl (PySem.evalArgs_none ?_)⟩
  refine call_meetsIn PySem.F.slot_dict_items da.dictOf.typeIs PySem.F.entry_dict_items (PySem.F.args_dict_items_1 _) (meets_dict_items (u6 X.prog X.w) d y) ⟨⟨vs',da.dictOf⟩,?_⟩
  have I2:=I1.kept (h':=s1.heap.push { cls:=.type "dict_items",data:=.fields #[.ref d] }) (t':=s1.toks) fun b o e=>Heap.get?_push_of_some _ e
  refine wpAny_pyIter_items (s:={ s1 with heap:=s1.heap.push { cls:=.type "dict_items",data:=.fields #[.ref d] } }) ⟨_,Heap.get?_push_size _ rfl,rfl,rfl⟩ (da.push _) ?_
  generalize hg:s1.heap.push { cls:=.type "dict_items",data:=.fields #[.ref d] } = g at *
  refine ⟨g.objs.size,[g.objs.size],_,_,H1,rfl,I2.kept (t':=s1.toks) fun b o e=>Heap.get?_push_of_some _ e,Uj d g.objs.size hd',⟨.none,.none,?_⟩,fun b hb=>?_,q⟩
  · show (g.push _).get? g.objs.size = _
    rw [Heap.get?_push_size _ rfl,KV.length rv]; rfl
  have e:b = g.objs.size:=by simpa using hb
  subst e
  exact I2.a3s (Nat.le_refl _) (I2.hok.fresh (Nat.le_refl _))
theorem Pk {K:PySem.W.Frag} {S:Hp} {as:List Addr}:∀ {vs:List (L2.Key × V)} {ts:List (L2.Key × T)},Cr K S as vs ts→∀ (i:Nat) (t:T),(Ii ts)[i]? = some t→∃ k v u,vs[i]? = some (k,v)∧t = .tup [V1 k,u]∧Rep K S as v u
  | _,_,.nil,i,t,e=>by simp [Ii] at e
  | _,_,.cons (k:=k) (v:=v) (t:=u) hu hr,0,t,e=>by simp [Ii] at e; exact ⟨k,v,u,rfl,e.symm,hu⟩
  | _,_,.cons hu hr,j + 1,t,e=>by
    obtain ⟨k2,v2,u2,a,b,c⟩:=Pk hr j t (by simpa [Ii] using e)
    exact ⟨k2,v2,u2,by simpa using a,b,c⟩
theorem V3 {K:PySem.W.Frag}:Walk K Itp Ii:=fun S as H d o vs ts sub h r=>by
  refine ⟨fun i t e=>?_,fun i hi=>⟨h,?_⟩⟩
  · obtain ⟨k,v,u,a,rfl,c⟩:=Pk r i t e
    refine ⟨⟨h,_,a⟩,fun x H' z0=>?_⟩
    obtain ⟨p,hn,hv,hH⟩:=z0
    have:=hH _ a
    subst hv this
    have x:=Ext.laid sub hn (.tup [kV k,v])
    refine ⟨_,x,.tup (SqT.of jd) (.cons ?_ (.cons (c.mono x.s nol) .nil))⟩
    cases k with
    | inl i=>exact .int i
    | inr y=>exact .str y
  · have:=r.length
    unfold Ii at hi
    rw [List.length_map] at hi
    omega
theorem a0e {X:Cx} {scope:Scope} {N:List Str} {B:Bas} {nv:Nat} {cap:List Nat} {g:G} {c:M Bool} {e:M T} {elt:Expr} {ifs:List Expr} {pos:Pos} {i:Nat} {elts:List Expr} {x1:Nat} {tpos apos cpos:Pos} {l:Expr} (co:Xr X scope N nv cap) (sc:Hw X scope N) (calm:X.calm = true) (hi:PE X l (a0a i))
    (hg:∀ C s₀ H₀ ex pn,PG (xu X scope N C s₀ H₀ ex pn) (.Tuple elts x1 tpos) (gE X.K g)) (hc:∀ C s₀ H₀ ex pn,PTs (xu X scope N C s₀ H₀ ex pn) ifs (cE X.K c)) (he:∀ C s₀ H₀ ex pn,PE (xu X scope N C s₀ H₀ ex pn) elt (eE X.K e))
    (hs:∀ x,foldedSetIterable (.Call (.Attribute l "items" apos) [] [] cpos) X.env x = pure x:=by intro _; rfl) (hbase:attributeBase l "items" X.env (eval l X.env) = eval l X.env:=by rfl) (hline:(apos.endLine == cpos.line) = true:=by rfl) :
    PE X (.ListComp elt [⟨.Tuple elts x1 tpos,.Call (.Attribute l "items" apos) [] [] cpos,ifs,0⟩] scope pos) (fOf X.K B (yq nv cap g (Nh (cg i)) c e)) :=
  Yo V3 co sc calm (Zd hi hbase hline) hg hc he hs
end
end C
end
noncomputable section
set_option linter.all false
set_option maxRecDepth 100000
set_option maxHeartbeats 4000002
set_option autoImplicit false
namespace C
open PySem PySem.Spec PyProof.Rows L2
noncomputable def Itm (K:PySem.W.Frag) (a:Addr):It :=
  ⟨fun i H=>∃ xs x,SqL K H a xs∧xs[i]? = some x,fun i H v H'=>∃ p x,H p = none∧v = .ref p∧H' = upd H p (.tup [.int (i:Int),x])∧∀ xs,SqL K H a xs→xs[i]? = some x,fun i H=>∃ xs,SqL K H a xs∧xs.length≤i⟩
theorem Xc {P:Program} {w:World} {K:PySem.W.Frag} {elts:List Expr} {x1:Nat} {pos:Pos} {a e it:Addr} (hne:e≠it) :
    Turn P w K (.Tuple elts x1 pos) (Itm K a) [e,it] e (fun i h=>(∃ old,IsEnum h e it (i:Int) old)∧h.IsListIter it a i) where
  mem:=by simp
  obj:=fun i h ⟨⟨old,he⟩,t⟩ b hb=>by
    simp only [List.mem_cons,List.not_mem_nil,or_false] at hb -- here
    rcases hb with rfl | rfl
    · exact ⟨_,he,fun v q=>by cases q⟩
    · obtain ⟨o,e,c,d⟩:=t
      exact ⟨o,e,fun v z=>by rw [d] at z; cases z⟩
  keep:=fun i h h' ⟨⟨old,he⟩,t⟩ k=>⟨⟨old,k e (by simp) _ he⟩,t.at fun o q=>k it (by simp) o q⟩
  item:=by
    intro X hP hw hK hc i pins s σ H E I hf ⟨⟨old,he⟩,t⟩ ⟨xs,x,q1,e1⟩
    subst hP hw hK
    obtain ⟨its,rv,p,hz⟩:=I.list q1
    obtain ⟨u,g1,ru⟩:=rv.get e1
    refine wpAny_pyNext_enum_item he t p.isList (x:=u) (by simpa using g1) hne fun h' heo t' hp hsz kp=>?_
    refine ⟨_,rfl,wpAny_letOwnedTupleGo_enum (s:={ s with heap:=h',toks:=s.toks + 1 }) heo fun h2 he2 s2=>?_⟩
    have lt:∀ b∈[e,it],s.heap.objs.size≠b:=fun b hb=>by
      simp only [List.mem_cons,List.not_mem_nil,or_false] at hb -- here
      rcases hb with rfl | rfl
      · exact Nat.ne_of_gt (Heap.lt_size he)
      · obtain ⟨o,e,_⟩:=t
        exact Nat.ne_of_gt (Heap.lt_size e)
    have pair:h2.get? s.heap.objs.size = some { cls:=.type "tuple",data:=.seq #[.int i s.toks,u] }:=s2.extBut _ _ (lt e (by simp)) hp
    have J:L2.Inv X pins σ (upd H s.heap.objs.size (.tup [.int (i:Int),x])) { s with heap:=h2,toks:=s.toks + 1 }:=Inv.Wz (ch:=[e,it]) I hf (fun b o hb eb=>by
      simp only [List.mem_cons,List.not_mem_nil,or_false,not_or] at hb
      exact s2.extBut _ _ hb.1 (kp b o hb.1 hb.2 eb)) (Nat.le_refl _) ⟨by show 2≤sizeLine; rw [sizeLine_eq]; decide,[.int i s.toks,u],.cons ⟨_,rfl⟩ (.cons ru .nil),⟨_,pair,rfl,rfl,0,rfl⟩⟩
    refine ⟨.ref s.heap.objs.size,_,J,rfl,⟨s.heap.objs.size,x,I.hok.fresh (Nat.le_refl _),rfl,rfl,fun xs' h=>by rw [I.U4 h q1]; exact e1⟩,⟨⟨u,?_⟩,?_⟩,fun b hb=>?_⟩
    · have:((i + 1:Nat):Int) = (i:Int) + 1:=by omega
      rw [this]; exact he2
    · exact t'.at fun o q=>s2.extBut _ _ (Ne.symm hne) q
    · rw [jg (Ne.symm (lt b hb))]; exact (hf b hb).1
  done:=by
    intro X hP hw hK hc i pins s σ H E I hf ⟨⟨old,he⟩,t⟩ ⟨xs,q1,hx⟩
    subst hP hw hK
    obtain ⟨its,rv,p,hz⟩:=I.list q1
    have hl:=rv.length
    refine wpAny_pyNext_enum_end (I.ok.hd hc) he t p.isList (by simp; omega) fun h' kp=>⟨rfl,Inv.a2h (t':=s.toks) (ch:=[e,it]) I hf fun b u hb eb=>?_⟩
    simp only [List.mem_cons,List.not_mem_nil,or_false,not_or] at hb
    exact kp b u hb.2 eb
  self:=fun _ _ _ _ _ ⟨⟨_,he⟩,_⟩ h=>wpAny_pyIter_enum he h
noncomputable def iEm (K:PySem.W.Frag) (ta:TA):TI:=fun σ H R=>ta σ H fun vs H1=>∃ a xs,vs = [.ref a]∧SqL K H1 a xs∧R (Itm K a) H1
noncomputable section
variable {X:Cx} {B:Bas} {a:Expr} {m:M T} {pos p:Pos} {elts:List Expr} {x1:Nat} {tpos:Pos}
theorem a2b {ta:TA} (hg:Gl X "enumerate") (hm:X.mg "enumerate" = none) (ha:PA X [a] ta) (hs:starEach [a] X.env = [(false,eval a X.env)]:=by rfl) :
    PI X (.Tuple elts x1 tpos) (.Call (.Name "enumerate" p) [a] [] pos) (iEm X.K ta):=by
  intro pins s σ H R I h
  refine Call_ (Ke I hg hm boot_enumerate (PyProof.Rows.callWith_type1 (thn (ha pos pins s σ H _ I h) fun us s1 z0=>?_) (by rw [hs]; rfl) (by rfl)))
  obtain ⟨vs,H1,I1,r1,q1⟩:=z0
  obtain ⟨a,xs,e,w1,q⟩:=q1
  subst e
  cases r1 with
  | cons r rr =>
    cases rr
    cases r
    obtain ⟨its,rv,pL,hz⟩:=I1.list w1
    refine call_enumerate_list pL.isList fun h' he hit hsz kp=>wpAny_pyIter_enum he ?_
    refine ⟨_,[s1.heap.objs.size + 1,s1.heap.objs.size],_,_,H1,rfl,I1.kept (t':=s1.toks) kp,Xc (Nat.succ_ne_self _),⟨⟨_,he⟩,hit⟩,fun b hb=>?_,q⟩
    have hle:s1.heap.objs.size≤b:=by
      simp only [List.mem_cons,List.not_mem_nil,or_false] at hb -- here
      rcases hb with rfl | rfl
      · exact Nat.le_succ _
      · exact Nat.le_refl _
    exact I1.a3s hle (I1.hok.fresh hle)
theorem Pr {ts:List T} {s s':Sta} (h:Oe m s = some (ts,s')):∃ xs,m s = some (.lst xs,s')∧xs.length < lim∧ts = Ni xs:=by
  unfold Oe at h
  split at h
  · rename_i xs s1 e1
    split at h
    · rename_i hl; cases h; exact ⟨xs,e1,hl,rfl⟩
    · cases h
  · cases h
theorem a3n:∀ st ts st',Oe m st = some (ts,st')→ts.length≤sizeLine:=fun st ts st' e=>by
  obtain ⟨xs,_,l1,rfl⟩:=Pr e
  unfold Ni
  rw [List.length_map,List.length_zipIdx]
  exact Nat.le_trans (Nat.le_of_lt l1) u9
theorem Xw {xs:List T} {i:Nat} {t:T} (h:(Ni xs)[i]? = some t):∃ x,xs[i]? = some x∧t = .tup [.int (i:Int),x]:=by
  unfold Ni at h
  rw [List.getElem?_map,List.getElem?_zipIdx] at h
  cases q:xs[i]? with
  | none=>rw [q] at h; cases h
  | some x=>rw [q] at h; simp at h; exact ⟨x,rfl,h.symm⟩
theorem a1l (hg:Gl X "enumerate") (hm:X.mg "enumerate" = none) (h1:PE X a (tOf X.K B m)) (hs:starEach [a] X.env = [(false,eval a X.env)]:=by rfl) :
    PI X (.Tuple elts x1 tpos) (.Call (.Name "enumerate" p) [a] [] pos) (iOf X.K B (Oe m)):=by
  intro pins s σ H R I hw
  refine a2b (ta:=Wb (tOf X.K B m) a4t) hg hm (Ab h1 Cm hs) hs pins s σ H R I ?_
  obtain ⟨st,ps,S,as,Rl,ts,st',e,hz,q⟩:=hw
  obtain ⟨xs,e1,l1,rfl⟩:=Pr e
  refine ⟨st,ps,S,as,Rl,_,_,e1,fun v H1 S1 as1 R1=>?_⟩
  have top:=R1.top
  cases top with
  | @lst a vs _ hs hr =>
    refine ⟨a,vs,rfl,qg R1.sub hs,q _ H1 S1 as1 [(.ref a,.lst xs)] R1 fun S2 as2 H2 hp hh=>?_⟩
    have:=hp _ List.mem_cons_self
    cases this with
    | @lst _ vs2 _ hs2 hr2 =>
      refine ⟨fun i tt et=>?_,fun i hi=>⟨vs2,qg hh hs2,?_⟩⟩
      · obtain ⟨x,f1,rfl⟩:=Xw et
        obtain ⟨vx,gx,rx⟩:=hr2.get f1
        refine ⟨⟨vs2,vx,qg hh hs2,gx⟩,fun v H' z0=>?_⟩
        obtain ⟨pp,x',hn,hv,hH,b1⟩:=z0
        have c1:=b1 _ (qg hh hs2)
        rw [gx] at c1
        cases c1
        subst hv hH
        have x:=Ext.laid hh hn (.tup [.int (i:Int),vx])
        exact ⟨_,x,.tup (SqT.of jd) (.cons (.int _) (.cons (rx.mono x.s nol) .nil))⟩
      · rw [hr2.length]
        unfold Ni at hi
        rwa [List.length_map,List.length_zipIdx] at hi
end
end C
end
noncomputable section
set_option linter.all false
set_option maxRecDepth 100000
set_option maxHeartbeats 4000002
set_option autoImplicit false
namespace C
open PySem PySem.Spec PyProof.Rows L2
theorem Iv:typeLookup (.type "zip") "__getattr__" = pure none:=by rw [typeLookup_type,builtinLookup_eq_fast]; kernel_rfl
theorem Ef:entryFor table "zip.__getattribute__" = some Builtin.«object.__getattribute__» :=
  entryFor_alias (id' := "object.__getattribute__") (by kernel_rfl) (by decide +kernel) (by decide +kernel) (by kernel_rfl) -- here
theorem Ms:typeLookup (.type "zip") "keys" = pure none:=am_miss_of_fast (by decide +kernel)
theorem Cq (a:Addr) (fs:Array Value) (name:Str) (u:Tok) (hmiss:typeLookup (.type "zip") name = pure none) (hname:(["__module__","__name__","__qualname__","__doc__","__annotations__"]:List Str).contains name = false) (hsz:name.length + 100≤sizeLine:=by size_fits) :
    Meets (Builtin.«object.__getattribute__» ⟨[.ref a,.str name u],[]⟩) (fun A R s=>s.heap.get? a = some { cls:=.type "zip",dict:=none,data:=.fields fs,slots:=#[] }∧raisesAttr (.ref a) name A R s) :=
  Meets.of_wp fun prog w A R s hs=>by -- here
    obtain ⟨hp,g,d,tk,os⟩:=s -- here
    obtain ⟨hx,hs⟩:=hs
    have hT:(⟨hp,g,d,tk,os⟩:Shared).TypeIs (.ref a) "zip" := ⟨_,hx,rfl⟩
    unfold Builtin.«object.__getattribute__» -- here
    repeat (any_goals (first | assumption | wp_step)) -- here
    simp only [hname,Bool.false_eq_true,if_false] -- here
    repeat (any_goals (first | assumption | wp_step)) -- here
    exact wpAny_raiseAttrError hs.1 hs.2 (attrMsg_fits (by decide +kernel) hsz) -- here
noncomputable section
variable {prog:Program} {w:World} {A:Around} {E:Value→Shared→Prop} {s:Shared}
theorem a03 {l:Addr} {fs:Array Value} {Q:Option Value→Shared→Prop} (hx:s.heap.get? l = some { cls:=.type "zip",dict:=none,data:=.fields fs,slots:=#[] }) (nh:A.handled = none)
    (h:∀ h' tk e,Heap.NewExcOf s.heap h' e "AttributeError" → Q none { s with heap:=h',toks:=tk }):wpAny (model prog w) A (getAttr? (.ref l) "keys") Q E s:=by
  obtain ⟨h0,g0,d0,tk,os⟩:=s
  have hT:∀ tk',(⟨h0,g0,d0,tk',os⟩:Shared).TypeIs (.ref l) "zip" := fun _=>⟨_,hx,rfl⟩
  have g1:=sub_AttributeError
  have g3:=F.slot_zip_getattribute.lookup
  have g4:=F.slot_zip_getattribute.bind (.ref l)
  have g5:=Iv
  unfold getAttr?
  unfold getAttrBy?
  unfold getAttrBy
  repeat (any_goals (first | assumption | exact hT _ | ((with_reducible show wpAny _ _ (call (Value.builtin "zip.__getattribute__") _ _) _ _ _); refine call_meets F.slot_zip_getattribute (hT _) Ef (F.args_zip_getattribute_2 _ _) (Cq l fs "keys" _ Ms (by decide +kernel)) ⟨hx,nh,fun h' tk' e y=>?_⟩) | wp_step))
  obtain ⟨t',u',he⟩:=y.there
  change wpAny _ _ (getattributeRaised _ _ _ _ _ _ _) _ _ _
  unfold getattributeRaised
  repeat (any_goals first | assumption | wp_step)
  exact h _ _ _ y.of
end
end C
end
noncomputable section
set_option linter.all false
set_option maxRecDepth 100000
set_option maxHeartbeats 4000002
set_option autoImplicit false
namespace C
open PySem PySem.Spec PyProof.Rows L2
open Sem (wp)
noncomputable section
variable {prog:Program} {w:World} {A:Around} {E:Value→Shared→Prop} {s:Shared}
theorem Zx {M:Model} {a:Addr} {Q:Option Obj→Shared→Prop} (h:Q (s.heap.get? a) s):wpAny M A (loadIfAlive a) Q E s:=fun Γ p _=>by
  unfold loadIfAlive
  rw [Sem.wp_loadIfAlive]
  exact (Sem.wp_pure ..).mpr h
noncomputable abbrev a2o (h:Heap) (z ti to':Addr) (a:Addr) (b:Bool):Prop:=h.get? z = some { cls:=.type "zip",dict:=none,data:=.fields #[rawInt a,.bool b,.bool false,.ref ti,.ref to'],slots:=#[] }
theorem S8 {z ti to' a:Addr} {b:Bool} {o:Obj} {Q:Bool→Shared→Prop} (hz:a2o s.heap z ti to' a b) (ha:s.heap.get? a = some o)
    (q:∀ h',a2o h' z ti to' a true→Heap.ExtBut z s.heap h'→h'.objs.size = s.heap.objs.size→Q false { s with heap:=h' }):wpAny (model prog w) A (Builtin.SmallTypes.ownedTupleIsFree (.ref z)) Q E s:=by
  unfold Builtin.SmallTypes.ownedTupleIsFree -- here
  refine wpAny_bind (wpAny_field hz rfl (x:=rawInt a) rfl ?_)
  show wpAny _ _ (loadIfAlive ((a:Int)).toNat >>= _) _ _ s
  refine wpAny_bind (Zx ?_)
  rw [Int.toNat_natCast,ha]
  dsimp only
  rw [if_neg (by simp)]
  refine wpAny_bind (wpAny_field hz rfl (x:=.bool b) rfl ?_)
  cases b with
  | true =>
    rw [if_neg (by decide)]
    exact wpAny_pure (q _ hz (fun _ _ _ e=>e) rfl)
  | false =>
    rw [if_pos (by decide)]
    exact wpAny_bind (wpAny_setField_rec hz (by simp) fun h' hz' s'=>wpAny_pure (q h' hz' s'.extBut s'.1))
theorem X8 {k1 k2:Bool} {z ti to' i1 i2 a1 a2 a:Addr} {b:Bool} {o:Obj} {j1 j2:Nat} {xs ys:Array Value} {x y:Value} {Q:Value→Shared→Prop} (D:Far z ti to' i1 i2) (hz:a2o s.heap z ti to' a b) (hI:IsPair s.heap ti (.ref i1) (.ref i2)) (ha:s.heap.get? a = some o)
    (h1:El k1 s.heap i1 a1 j1) (h2:El k2 s.heap i2 a2 j2) (r1:Ag k1 s.heap a1 xs) (r2:Ag k2 s.heap a2 ys) (n2:a2≠z∧a2≠i1∧a2≠i2) (n1:a1≠z) (hx:xs[j1]? = some x) (hy:ys[j2]? = some y)
    (q:∀ h',a2o h' z ti to' a true→El k1 h' i1 a1 (j1 + 1)→El k2 h' i2 a2 (j2 + 1)→IsPair h' s.heap.objs.size x y→(∀ c o,c≠z→c≠i1→c≠i2→s.heap.get? c = some o→h'.get? c = some o)→Q (.ref s.heap.objs.size) { s with heap:=h' }) :
    wpAny (model prog w) A (Builtin.«zip.__next__» ⟨[.ref z],[]⟩) (fun fin s'=>∃ v,fin = .done (.ret v)∧Q v s') E s:=by -- here
  obtain ⟨d1,d2,d3,d4,d5,d6,d7,d8,d9,d10⟩:=D.all
  refine (show wpAny _ _ (field (.ref z) 2 >>= _) _ _ _ from wpAny_bind (wpAny_field hz rfl (x:=.bool false) rfl ?_))
  refine (show wpAny _ _ (field (.ref z) 3 >>= _) _ _ _ from wpAny_bind (wpAny_field hz rfl (x:=.ref ti) rfl (wpAny_bind (wpAny_seqItems hI rfl ?_))))
  refine (show wpAny _ _ (Builtin.SmallTypes.ownedTupleIsFree (.ref z) >>= _) _ _ _ from wpAny_bind (S8 hz ha fun g1 z1 s1 sz1=>?_))
  dsimp only
  rw [if_neg (by decide)]
  rw [← Array.forIn_toList]
  simp only [List.forIn_cons,List.forIn_nil] -- here
  refine wpAny_bind (wpAny_bind (wpAny_bind (wpAny_holding (show wpAny _ _ (Builtin.SmallTypes.nextOf (.ref i1) >>= fun x=>pure (some x)) _ _ _ from wpAny_bind (Fj (s:={ s with heap:=g1 }) (h1.to fun o e=>s1 _ _ d3 e) (r1.to fun o e=>s1 _ _ n1 e) hx fun g2 t2 s2=>wpAny_pure (wpAny_pure ?_))))))
  have e2:∀ c o,c≠z→c≠i1→s.heap.get? c = some o→g2.get? c = some o:=fun c o c1 c2 e=>s2.extBut _ _ c2 (s1 _ _ c1 e)
  refine wpAny_bind (wpAny_bind (wpAny_holding (show wpAny _ _ (Builtin.SmallTypes.nextOf (.ref i2) >>= fun x=>pure (some x)) _ _ _ from wpAny_bind (Fj (s:={ s with heap:=g2 }) (h2.to fun o e=>e2 _ o d4 (Ne.symm d10) e) (r2.to fun o e=>e2 _ o n2.1 n2.2.1 e) hy fun g3 t3 s3=>wpAny_pure (wpAny_pure (wpAny_pure ?_))))))
  dsimp only
  have sz:g3.objs.size = s.heap.objs.size:=by rw [s3.1]; show g2.objs.size = _; rw [s2.1]; exact sz1
  refine wpAny_bind (wpAny_newTuple (wpAny_pure ⟨_,rfl,?_⟩) (by show 2≤sizeLine; rw [sizeLine_eq]; decide))
  show Q (.ref g3.objs.size) _
  have z3:a2o g3 z ti to' a true:=s3.extBut _ _ (Ne.symm d4) (s2.extBut _ _ (Ne.symm d3) z1)
  have p3:IsPair (g3.push { cls:=.type "tuple",data:=.seq #[x,y] }) g3.objs.size x y:=Heap.get?_push_size _ rfl
  rw [sz] at p3 ⊢
  exact q _ (Heap.get?_push_of_some _ z3) (t2.to fun o e=>Heap.get?_push_of_some _ (s3.extBut _ _ d10 e)) (t3.to fun o e=>Heap.get?_push_of_some _ e) p3 fun c o c1 c2 c3 e=>Heap.get?_push_of_some _ (s3.extBut _ _ c3 (e2 c o c1 c2 e))
theorem Wc {k1 k2:Bool} {z ti to' i1 i2 a1 a2 a:Addr} {b:Bool} {o:Obj} {j1 j2:Nat} {xs ys:Array Value} {Q:PySem.Fin→Shared→Prop} (hh:A.handled = none) (D:Far z ti to' i1 i2) (hz:a2o s.heap z ti to' a b) (hI:IsPair s.heap ti (.ref i1) (.ref i2)) (ha:s.heap.get? a = some o)
    (h1:El k1 s.heap i1 a1 j1) (h2:El k2 s.heap i2 a2 j2) (r1:Ag k1 s.heap a1 xs) (r2:Ag k2 s.heap a2 ys) (n2:a2≠z∧a2≠i1∧a2≠i2) (n1:a1≠z) (hend:xs[j1]? = none∨ys[j2]? = none)
    (q:∀ h' e,(∀ c o,c≠z→c≠i1→c≠i2→s.heap.get? c = some o→h'.get? c = some o)→(∃ o,h'.get? e = some o∧o.cls = .type "StopIteration")→E (.ref e) { s with heap:=h' }) :
    wpAny (model prog w) A (Builtin.«zip.__next__» ⟨[.ref z],[]⟩) Q E s:=by -- here
  obtain ⟨d1,d2,d3,d4,d5,d6,d7,d8,d9,d10⟩:=D.all
  refine (show wpAny _ _ (field (.ref z) 2 >>= _) _ _ _ from wpAny_bind (wpAny_field hz rfl (x:=.bool false) rfl ?_))
  refine (show wpAny _ _ (field (.ref z) 3 >>= _) _ _ _ from wpAny_bind (wpAny_field hz rfl (x:=.ref ti) rfl (wpAny_bind (wpAny_seqItems hI rfl ?_))))
  refine (show wpAny _ _ (Builtin.SmallTypes.ownedTupleIsFree (.ref z) >>= _) _ _ _ from wpAny_bind (S8 hz ha fun g1 z1 s1 sz1=>?_))
  dsimp only
  rw [if_neg (by decide)]
  rw [← Array.forIn_toList]
  simp only [List.forIn_cons,List.forIn_nil] -- here
  cases hx:xs[j1]? with
  | none =>
    exact wpAny_bind (wpAny_bind (wpAny_bind (wpAny_holding (show wpAny _ _ (Builtin.SmallTypes.nextOf (.ref i1) >>= fun x=>pure (some x)) _ _ _ from wpAny_bind (Cy (s:={ s with heap:=g1 }) hh (h1.to fun o e=>s1 _ _ d3 e) (r1.to fun o e=>s1 _ _ n1 e) hx fun g2 e s2 he=>q g2 e (fun c o c1 c2 _ x=>s2 _ _ c2 (s1 _ _ c1 x)) he)))))
  | some x =>
    have hy:ys[j2]? = none:=hend.resolve_left fun h=>by rw [hx] at h; cases h
    refine wpAny_bind (wpAny_bind (wpAny_bind (wpAny_holding (show wpAny _ _ (Builtin.SmallTypes.nextOf (.ref i1) >>= fun x=>pure (some x)) _ _ _ from wpAny_bind (Fj (s:={ s with heap:=g1 }) (h1.to fun o e=>s1 _ _ d3 e) (r1.to fun o e=>s1 _ _ n1 e) hx fun g2 t2 s2=>wpAny_pure (wpAny_pure ?_))))))
    have e2:∀ c o,c≠z→c≠i1→s.heap.get? c = some o→g2.get? c = some o:=fun c o c1 c2 e=>s2.extBut _ _ c2 (s1 _ _ c1 e)
    exact wpAny_bind (wpAny_bind (wpAny_holding (show wpAny _ _ (Builtin.SmallTypes.nextOf (.ref i2) >>= fun x=>pure (some x)) _ _ _ from wpAny_bind (Cy (s:={ s with heap:=g2 }) hh (h2.to fun o e=>e2 _ o d4 (Ne.symm d10) e) (r2.to fun o e=>e2 _ o n2.1 n2.2.1 e) hy fun g3 e s3 he=>q g3 e (fun c o c1 c2 c3 x=>s3 _ _ c3 (e2 c o c1 c2 x)) he))))
structure a6i (k1 k2:Bool) (z ti to' i1 i2 a1 a2:Addr) (i:Nat) (h:Heap):Prop where
  it1:El k1 h i1 a1 i
  it2:El k2 h i2 a2 i
  its:IsPair h ti (.ref i1) (.ref i2)
  st:Ky h z ti to' i1 i2 .none∨∃ a b o,a2o h z ti to' a b∧h.get? a = some o∧a≠z∧a≠i1∧a≠i2
theorem Xe {k1 k2:Bool} {z ti to' i1 i2 a1 a2:Addr} {i:Nat} {xs ys:Array Value} {x y:Value} {Q:Option Value→Shared→Prop} (D:Far z ti to' i1 i2) (Z:a6i k1 k2 z ti to' i1 i2 a1 a2 i s.heap)
    (r1:Ag k1 s.heap a1 xs) (r2:Ag k2 s.heap a2 ys) (n2:a2≠z∧a2≠to'∧a2≠i1∧a2≠i2) (n1:a1≠z) (hx:xs[i]? = some x) (hy:ys[i]? = some y)
    (q:∀ h',a6i k1 k2 z ti to' i1 i2 a1 a2 (i + 1) h'→IsPair h' s.heap.objs.size x y→Qs z to' i1 i2 s.heap h'→Q (some (.ref s.heap.objs.size)) { s with heap:=h' }):wpAny (model prog w) A (pyNext (.ref z)) Q E s:=by
  obtain ⟨t1,t2,hI,st⟩:=Z
  obtain ⟨d1,d2,d3,d4,d5,d6,d7,d8,d9,d10⟩:=D.all
  rcases st with Z | ⟨a,b,o,hz,ha,na,na1,na2⟩
  · have nz:s.heap.objs.size≠z:=Nat.ne_of_gt (Heap.lt_size Z.zip)
    obtain ⟨o1,g1,_⟩:=t1.obj
    obtain ⟨o2,g2,_⟩:=t2.obj
    exact a04 D Z t1 t2 r1 r2 n2 n1 hx hy fun h' Z' t1' t2' hp kp=>q h' ⟨t1',t2',Z'.its,.inr ⟨_,false,_,Z'.zip,hp,nz,Nat.ne_of_gt (Heap.lt_size g1),Nat.ne_of_gt (Heap.lt_size g2)⟩⟩ hp kp
  · have ty:s.TypeIs (.ref z) "zip" := ⟨_,hz,rfl⟩
    unfold pyNext
    exact wpAny_bind (wpAny_attempt (wpAny_callSpecial?_slot (name:=Str.ofString "__next__") ty F.slot_zip_next (wpAny_call_entry F.slot_zip_next ty F.entry_zip_next
      (X8 D hz hI ha t1 t2 r1 r2 ⟨n2.1,n2.2.2⟩ n1 hx hy fun h' z' t1' t2' hp kp=>wpAny_pure (q h' ⟨t1',t2',kp _ _ d1 d6 d7 hI,.inr ⟨a,true,o,z',kp _ _ na na1 na2 ha,na,na1,na2⟩⟩ hp fun c o c1 _ c3 c4 e=>kp c o c1 c3 c4 e)) (F.args_zip_next_1 _))))
theorem W6 {k1 k2:Bool} {z ti to' i1 i2 a1 a2:Addr} {i:Nat} {xs ys:Array Value} {Q:Option Value→Shared→Prop} (hh:A.handled = none) (D:Far z ti to' i1 i2) (Z:a6i k1 k2 z ti to' i1 i2 a1 a2 i s.heap)
    (r1:Ag k1 s.heap a1 xs) (r2:Ag k2 s.heap a2 ys) (n2:a2≠z∧a2≠to'∧a2≠i1∧a2≠i2) (n1:a1≠z) (hend:xs[i]? = none∨ys[i]? = none)
    (q:∀ h',Qs z to' i1 i2 s.heap h'→Q none { s with heap:=h' }):wpAny (model prog w) A (pyNext (.ref z)) Q E s:=by
  obtain ⟨t1,t2,hI,st⟩:=Z
  rcases st with Z | ⟨a,b,o,hz,ha,na,na1,na2⟩
  · exact Zu hh D Z t1 t2 r1 r2 n2 n1 hend q
  · have ty:s.TypeIs (.ref z) "zip" := ⟨_,hz,rfl⟩
    unfold pyNext
    refine wpAny_bind (wpAny_attempt (wpAny_callSpecial?_slot (name:=Str.ofString "__next__") ty F.slot_zip_next (wpAny_call_entry F.slot_zip_next ty F.entry_zip_next
      (Wc hh D hz hI ha t1 t2 r1 r2 ⟨n2.1,n2.2.2⟩ n1 hend fun h' e kp he=>?_) (F.args_zip_next_1 _))))
    obtain ⟨o,ho,hc⟩:=he
    exact wpAny_bind (wpAny_isInstance (T := "StopIteration") (b:=true) ⟨o,ho,hc⟩ isSubtype_stop (wpAny_pure (q _ fun c o c1 _ c3 c4 e=>kp c o c1 c3 c4 e)))
end
end C
end
noncomputable section
set_option linter.all false
set_option maxRecDepth 100000
set_option maxHeartbeats 4000002
set_option autoImplicit false
namespace C
open PySem PySem.Spec PyProof.Rows L2
noncomputable section
variable {prog:Program} {w:World} {A:Around} {R:Result→Shared→Prop} {k1 k2:Bool} {z ti to' i1 i2 a1 a2:Addr} {xs ys:Array Value} {κ:Type} [DecidableEq κ] {knd:PySem.KeyKind prog w κ}
theorem Vt (nh:A.handled = none) (Df:Far z ti to' i1 i2) (D:Addr) (hDf:D∉[z,ti,to',i1,i2]) (result:Value) (h0:Heap) (key:Nat→κ) (val:Nat→Value) (n:Nat) (hz:n≤sizeLine)
    (r1:Ag k1 h0 a1 xs) (r2:Ag k2 h0 a2 ys) (n1:a1∉[D,z,ti,to',i1,i2]) (n2:a2∉[D,z,ti,to',i1,i2]) (hmin:n = min xs.size ys.size)
    (hk:∀ i x,i < n→xs[i]? = some x→knd.is (key i) x = true) (hv:∀ i y,i < n→ys[i]? = some y→y = val i) :
    ∀ (j i:Nat) (c:Nat) (s:Shared),n - i = j→i≤n→a6i k1 k2 z ti to' i1 i2 a1 a2 i s.heap→(∀ b o,b∉[D,z,ti,to',i1,i2]→h0.get? b = some o→s.heap.get? b = some o)→s.heap.DictOf knd D (told key val i) →
      (∀ h' tk,h'.DictOf knd D (told key val n)→(∀ b o,b∉[D,z,ti,to',i1,i2]→h0.get? b = some o→h'.get? b = some o)→R (.ok (.ret result)) { s with heap:=h',toks:=tk }) →
      codeAny (model prog w) A (.builtin "dict.update.loop" ⟨[.ref D,.ref z,rawInt (c:Int),result],[]⟩) R s:=by
  simp only [List.mem_cons,List.not_mem_nil,or_false,not_or] at hDf n1 n2
  obtain ⟨f1,f2,f3,f4,f5⟩:=hDf
  have mem:∀ b,b∉[D,z,ti,to',i1,i2]→b≠D∧b≠z∧b≠ti∧b≠to'∧b≠i1∧b≠i2:=fun b hb=>by
    simpa only [List.mem_cons,List.not_mem_nil,or_false,not_or] using hb
  have memI:∀ b,b≠D→b≠z→b≠ti→b≠to'→b≠i1→b≠i2→b∉[D,z,ti,to',i1,i2]:=fun b c1 c2 c3 c4 c5 c6=>by
    simp only [List.mem_cons,List.not_mem_nil,or_false,not_or]; exact ⟨c1,c2,c3,c4,c5,c6⟩
  have rows:∀ {h:Heap},(∀ b o,b∉[D,z,ti,to',i1,i2]→h0.get? b = some o→h.get? b = some o)→Ag k1 h a1 xs∧Ag k2 h a2 ys:=fun k =>
    ⟨r1.to fun o e=>k _ o (memI _ n1.1 n1.2.1 n1.2.2.1 n1.2.2.2.1 n1.2.2.2.2.1 n1.2.2.2.2.2) e,r2.to fun o e=>k _ o (memI _ n2.1 n2.2.1 n2.2.2.1 n2.2.2.2.1 n2.2.2.2.2.1 n2.2.2.2.2.2) e⟩
  intro j
  induction j with
  | zero =>
    intro i c s hj hi Z keep hD hR
    have e:i = n:=by omega
    subst e
    obtain ⟨q1,q2⟩:=rows keep
    refine codeAny_builtin Ae ?_
    rw [Around.under_plainId mq _]
    change wpAny _ A.in1 (pyNext (.ref z) >>= _) _ _ s
    refine wpAny_bind (W6 (A:=A.in1) nh Df Z q1 q2 ⟨n2.2.1,n2.2.2.2.1,n2.2.2.2.2.1,n2.2.2.2.2.2⟩ n1.2.1 ?_ fun h' kp=>?_)
    · rcases Nat.le_total xs.size ys.size with hle | hle
      · exact .inl (Array.getElem?_eq_none (by omega))
      · exact .inr (Array.getElem?_eq_none (by omega))
    show wpAny _ A.in1 (Builtin.Dict.addKeywords D [] >>= fun _=>ret result) _ _ { s with heap:=h' }
    refine wpAny_bind (wpAny_pure (wpAny_pure (hR h' s.toks ?_ fun b o hb e=>?_)))
    · obtain ⟨o,es,ep,ho,rest⟩:=hD
      exact ⟨o,es,ep,kp D _ f1 f3 f4 f5 ho,rest⟩
    · obtain ⟨c1,c2,c3,c4,c5,c6⟩:=mem b hb
      exact kp b o c2 c4 c5 c6 (keep b o hb e)
  | succ j ih =>
    intro i c s hj hi Z keep hD hR
    have hlt:i < n:=by omega
    obtain ⟨q1,q2⟩:=rows keep
    have hx:xs[i]? = some xs[i]:=Array.getElem?_eq_getElem (by omega)
    have hy:ys[i]? = some ys[i]:=Array.getElem?_eq_getElem (by omega)
    refine codeAny_builtin Ae ?_
    rw [Around.under_plainId mq _]
    change wpAny _ A.in1 (pyNext (.ref z) >>= _) _ _ s
    refine wpAny_bind (Xe (A:=A.in1) Df Z q1 q2 ⟨n2.2.1,n2.2.2.2.1,n2.2.2.2.2.1,n2.2.2.2.2.2⟩ n1.2.1 hx hy fun h' Z' hp kp=>?_)
    have hkey:=hk i _ hlt hx
    have hval:=hv i _ hlt hy
    have hD':h'.DictOf knd D (told key val i):=by
      obtain ⟨o,es,ep,ho,rest⟩:=hD
      exact ⟨o,es,ep,kp D _ f1 f3 f4 f5 ho,rest⟩
    have hT:(Shared.mk h' s.gens s.drawn s.toks s.os).TypeIs (.ref s.heap.objs.size) "tuple" := ⟨_,hp,rfl⟩
    dsimp only
    refine wpAny_bind (wpAny_holding (wpAny_bind (wpAny_tryCatch ?_)))
    unfold Builtin.Dict.pairItems
    refine wpAny_bind (wpAny_typeOf (T := "tuple") hT ?_)
    rw [if_pos (by decide)]
    refine wpAny_bind (Kl (s:=Shared.mk h' s.gens s.drawn s.toks s.os) hp rfl ?_)
    refine wpAny_pure ?_
    show wpAny _ A.in1 (holding [xs[i],ys[i]] (dictSet D xs[i] ys[i])) _ _ _
    refine wpAny_holding (wpAny_dictSet_pairs hkey hD' (fun h2 hD2 same=>?_) (Nat.le_trans (Ds key val i) (Nat.le_trans hi hz)))
    rw [hval] at hD2
    refine wpAny_pure ⟨plainId_quiet mq _,?_⟩
    have ec:((c:Int) + 1) = ((c + 1:Nat):Int):=by omega
    rw [ec]
    have e2:∀ b o,b≠D→h'.get? b = some o→h2.get? b = some o:=fun b o hb e=>by rw [same.2 b hb]; exact e
    obtain ⟨t1,t2,hI,st⟩:=Z'
    refine ih (i + 1) (c + 1) _ (by omega) hlt ⟨t1.to fun o e=>e2 _ o (Ne.symm f4) e,t2.to fun o e=>e2 _ o (Ne.symm f5) e,e2 _ _ (Ne.symm f2) hI,?_⟩ (fun b o hb e=>?_) hD2 fun h3 tk hD3 kp3=>hR h3 tk hD3 kp3
    · rcases st with ⟨zz,ii,a,b,kk⟩ | ⟨a,b,o,hz,ha,na,na1,na2⟩
      · exact .inl ⟨e2 _ _ (Ne.symm f1) zz,e2 _ _ (Ne.symm f2) ii,a,b,e2 _ _ (Ne.symm f3) kk⟩
      · by_cases haD:a = D
        · obtain ⟨o',es,ep,ho',rest⟩:=hD2
          exact .inr ⟨a,b,o',e2 _ _ (Ne.symm f1) hz,by rw [haD]; exact ho',na,na1,na2⟩
        · exact .inr ⟨a,b,o,e2 _ _ (Ne.symm f1) hz,e2 _ _ haD ha,na,na1,na2⟩
    · obtain ⟨c1,c2,c3,c4,c5,c6⟩:=mem b hb
      exact e2 b o c1 (kp b o c2 c4 c5 c6 (keep b o hb e))
end
noncomputable section
variable {prog:Program} {w:World} {A:Around} {E:Value→Shared→Prop} {s:Shared} {k1 k2:Bool} {z ti to' i1 i2 a1 a2:Addr} {xs ys:Array Value} {κ:Type} [DecidableEq κ] {knd:PySem.KeyKind prog w κ}
theorem Qn {key:Nat→κ} {val:Nat→Value} {n:Nat} {Q:Value→Shared→Prop} (nh:A.handled = none) (Df:Far z ti to' i1 i2) (Z:Ky s.heap z ti to' i1 i2 .none) (t1:El k1 s.heap i1 a1 0) (t2:El k2 s.heap i2 a2 0) (r1:Ag k1 s.heap a1 xs) (r2:Ag k2 s.heap a2 ys)
    (n1:a1∉[z,ti,to',i1,i2]) (n2:a2∉[z,ti,to',i1,i2]) (hz:n≤sizeLine) (hmin:n = min xs.size ys.size) (hk:∀ i x,i < n→xs[i]? = some x→knd.is (key i) x = true) (hv:∀ i y,i < n→ys[i]? = some y→y = val i)
    (q:∀ h' tk,h'.DictOf knd s.heap.objs.size (told key val n)→(∀ b o,b∉[z,ti,to',i1,i2]→s.heap.get? b = some o→h'.get? b = some o)→Q (.ref s.heap.objs.size) { s with heap:=h',toks:=tk }) :
    wpAny (model prog w) A (call (.type "dict") [.ref z]) Q E s:=by
  refine callType_codes (Q₁:=fun ob z=>ob = .ref s.heap.objs.size∧z = { s with heap:=s.heap.push { cls:=.type "dict",data:=.dict #[] } }) F.kt_called_dict (F.kt_typeCall_dict_1 _) F.entry_dict_init (kt_code_dict_new _ ⟨rfl,rfl⟩) ?_
  rintro obj s₁ ⟨rfl,rfl⟩
  have new0:(s.heap.push { cls:=.type "dict",data:=.dict #[] }).DictOf knd s.heap.objs.size []:=Heap.DictOf.new s.heap
  have up:∀ b o,s.heap.get? b = some o→(s.heap.push { cls:=.type "dict",data:=.dict #[] }).get? b = some o:=fun b o e=>Heap.get?_push_of_some _ e
  have hz1:=up _ _ Z.zip
  refine ⟨new0.typeIs,F.args_dict_init_2 _ _,?_⟩
  unfold Builtin.«dict.__init__» Builtin.Dict.selfAndRest
  refine wpAny_bind (wpAny_bind (wpAny_notOrdered_dict new0.typeIs ?_))
  show wpAny _ _ (pure (s.heap.objs.size,[Value.ref z])) _ _ _
  refine wpAny_pure ?_
  show wpAny _ _ (Builtin.Dict.updateFrom "dict.__init__" s.heap.objs.size (.ref z) [] .none) _ _ _
  unfold Builtin.Dict.updateFrom; refine wpAny_bind (wpAny_typeOf (T := "zip") ⟨_,hz1,rfl⟩ ?_)
  rw [if_pos (by decide)]
  refine wpAny_bind (a03 hz1 nh fun h2 tk e ne=>?_)
  rw [if_pos (show (none:Option Value).isNone = true from rfl)]
  have old2:∀ b o,s.heap.get? b = some o→h2.get? b = some o:=fun b o hb=>ne.keeps b o (up b o hb)
  have hD2:h2.DictOf knd s.heap.objs.size []:=by
    obtain ⟨o,es,ep,ho,rest⟩:=new0
    exact ⟨o,es,ep,ne.keeps _ _ ho,rest⟩
  obtain ⟨zz,its,ka,kb,kk⟩:=Z
  have Z2:Ky h2 z ti to' i1 i2 .none:=⟨old2 _ _ zz,old2 _ _ its,ka,kb,old2 _ _ kk⟩
  refine wpAny_bind (wpAny_rule (wpAny_bind (wpAny_pyIter_zip (s:={ s with heap:=h2,toks:=tk }) Z2.zip ?_)))
  refine wpAny_pure ⟨plainId_quiet mq _,?_⟩
  have lt:∀ b,(∃ o,s.heap.get? b = some o)→s.heap.objs.size≠b:=fun b ⟨o,e⟩=>Nat.ne_of_gt (Heap.lt_size e)
  have nD:s.heap.objs.size∉[z,ti,to',i1,i2]:=by
    simp only [List.mem_cons,List.not_mem_nil,or_false,not_or]
    obtain ⟨o1,g1,_⟩:=t1.obj
    obtain ⟨o2,g2,_⟩:=t2.obj
    exact ⟨lt _ ⟨_,zz⟩,lt _ ⟨_,its⟩,lt _ ⟨_,kk⟩,lt _ ⟨_,g1⟩,lt _ ⟨_,g2⟩⟩
  have nr:∀ {k:Bool} {a:Addr} {xs:Array Value},Ag k s.heap a xs→a∉[z,ti,to',i1,i2]→a∉[s.heap.objs.size,z,ti,to',i1,i2]:=fun {k a xs} r h=>by
    have:a≠s.heap.objs.size:=by -- here
      cases k <;> obtain ⟨o,e,_⟩:=r <;> exact Nat.ne_of_lt (Heap.lt_size e)
    simp only [List.mem_cons,not_or] at h ⊢
    exact ⟨this,h⟩
  refine Vt (A:=A.in1) (knd:=knd) (h0:=s.heap) nh Df s.heap.objs.size nD .none key val n hz r1 r2 (nr r1 n1) (nr r2 n2) hmin hk hv (n - 0) 0 0 { s with heap:=h2,toks:=tk } rfl (Nat.zero_le _) ⟨t1.to fun o e=>old2 _ o e,t2.to fun o e=>old2 _ o e,Z2.its,.inl Z2⟩ (fun b o _ e=>old2 b o e) hD2 fun h3 tk3 hD3 kp=>?_
  refine ⟨rfl,q h3 tk3 hD3 fun b o hb e=>kp b o ?_ e⟩
  simp only [List.mem_cons,not_or] at hb ⊢
  exact ⟨Nat.ne_of_lt (Heap.lt_size e),hb⟩
end
noncomputable section
variable {X:Cx} {B:Bas} {a b:Expr} {m1 m2:M T} {p1 p2 p3 p4:Pos}
theorem a0s {K:PySem.W.Frag} {S:Hp} {as:List Addr} {prog:Program} {w:World}:∀ {vs1:List V} {xs:List T} {us1:List Value} {vs2:List V} {ys:List T} {us2:List Value} {l:List (L2.Key × T)},uq K S as vs1 xs→Vals vs1 us1→uq K S as vs2 ys→Vals vs2 us2→Bg (a2l xs ys) = some l →
    l.length = min us1.length us2.length∧(∀ (i:Nat) x,i < l.length→us1[i]? = some x→(u6 prog w).is ((l.map (·.1)).getD i (.inl 0)) x = true)∧Vals (vs2.take l.length) (us2.take l.length)∧uq K S as (vs2.take l.length) (l.map (·.2))
  | _,_,_,_,_,_,l,.nil,.nil,_,_,e=>by
    have:l = []:=by simpa [a2l,Bg] using e.symm
    subst this
    exact ⟨by simp,fun i x h=>by simp at h,.nil,.nil⟩
  | _,_,_,_,_,_,l,.cons _ _,.cons _ _,.nil,.nil,e=>by
    have:l = []:=by simpa [a2l,Bg] using e.symm
    subst this
    exact ⟨by simp,fun i x h=>by simp at h,.nil,.nil⟩
  | _,_,_,_,_,_,l,.cons h1 q1,.cons b1 c1,.cons h2 q2,.cons b2 c2,e=>by
    obtain ⟨k,v,qk,l',ex,e1,e2,rfl⟩:=Jm (show Bg (_ :: a2l _ _) = some l from e)
    cases ex
    obtain ⟨a1,a2,a3,a4⟩:=a0s (prog:=prog) (w:=w) q1 c1 q2 c2 e2
    refine ⟨by simp [a1],fun i x hi hx=>?_,.cons b2 a3,.cons h2 a4⟩
    cases i with
    | zero =>
      simp at hx
      subst hx
      have ek:=U9 h1 e1
      subst ek
      exact Rp b1
    | succ j=>simpa using a2 j x (by simpa using hi) (by simpa using hx)
theorem Lz (hc:X.calm = true) (hg:Gl X "dict") (hm:X.mg "dict" = none) (hg2:Gl X "zip") (hm2:X.mg "zip" = none) (ha:PE X a (tOf X.K B m1)) (hb:PE X b (tOf X.K B m2))
    (hs:starEach [a,b] X.env = [(false,eval a X.env),(false,eval b X.env)]:=by rfl) (hs2:starEach [b] X.env = [(false,eval b X.env)]:=by rfl)
    (he:starEach [.Call (.Name "zip" p2) [a,b] [] p3] X.env = (false,eval (.Call (.Name "zip" p2) [a,b] [] p3) X.env) :: starEach [] X.env:=by rfl) (hpl:(backTo p4 (starEach [] X.env)).any (·.1) = false:=by rfl) :
    PE X (.Call (.Name "dict" p1) [.Call (.Name "zip" p2) [a,b] [] p3] [] p4) (fOf X.K B (mOp Gf m1 m2)):=by
  intro pins s σ H Q I ⟨st,ps,S,as,R,t,st',ev,q⟩
  obtain ⟨t1,s1,t2,e1,e2,e3⟩:=Km ev
  unfold Gf at e3
  split at e3
  · rename_i xs ys f1 f2
    split at e3
    · rename_i hl
      obtain ⟨l,el,rfl⟩:=Option.map_eq_some_iff.mp e3
      refine wpAny_Call_Name_kw (Ke I hg hm PyProof.Rows.boot_dict ?_ (by decide) (by decide))
      refine PyProof.Rows.callWith_type1 ?_ he hpl
      rw [he]
      show wpAny _ _ (spliced ((false,eval (.Call (.Name "zip" p2) [a,b] [] p3) X.env) :: backTo p4 (starEach [] X.env))) _ _ s
      refine Calls.spliced_cons ?_
      have pa:=Ab ha (Ab hb Cm (by rw [hs2]; rfl)) (by rw [hs,hs2])
      refine Call_ (Ke I hg2 hm2 boot_zip (PyProof.Rows.callWith_type1 (thn (pa p3 pins s σ H (fun vs H2=>∃ k1 k2 a1 a2 vs1 vs2 S2 as2,vs = [.ref a1,.ref a2]∧Rel X.K B st' σ H2 ps S2 as2∧Sq k1 X.K S2 a1 vs1∧Sq k2 X.K S2 a2 vs2∧uq X.K S2 as2 vs1 xs∧uq X.K S2 as2 vs2 ys) I ?_) fun us s2 ⟨vs,H1,I1,r1,q1⟩=>?_) (by rw [hs,hs2]) (by rw [hs2]; rfl)))
      · refine ⟨st,ps,S,as,R,t1,s1,e1,fun v H1 S1 as1 R1=>⟨s1,_,S1,as1,R1,t2,st',e2,fun v2 H2 S2 as2 R2=>?_⟩⟩
        obtain ⟨k1,a1,vs1,rfl,w1,p1,_⟩:=Vp R2.top2 f1
        obtain ⟨k2,a2,vs2,rfl,w2,p2,_⟩:=Vp R2.top f2
        exact ⟨k1,k2,a1,a2,vs1,vs2,S2,as2,rfl,R2.drop.drop,w1,w2,p1,p2⟩
      obtain ⟨k1,k2,a1,a2,vs1,vs2,S2,as2,rfl,R2,w1,w2,g1,g2⟩:=q1
      cases r1 with
      | cons r rr =>
        cases rr with
        | cons r' rr =>
          cases rr
          cases r
          cases r'
          obtain ⟨its1,v1,r1⟩:=(w1.mono R2.sub).row I1
          obtain ⟨its2,v2,r2⟩:=(w2.mono R2.sub).row I1
          obtain ⟨b1,b2,b3,b4⟩:=a0s (prog:=X.prog) (w:=X.w) g1 v1 g2 v2 el
          refine Z8 r1 r2 fun h' Z t1' t2' kp=>Calls.spliced_nil ?_
          have Df:Far (s2.heap.objs.size + 4) (s2.heap.objs.size + 2) (s2.heap.objs.size + 3) s2.heap.objs.size (s2.heap.objs.size + 1):=a1q s2.heap.objs.size
          have out:∀ b,b < s2.heap.objs.size→b∉[s2.heap.objs.size + 4,s2.heap.objs.size + 2,s2.heap.objs.size + 3,s2.heap.objs.size,s2.heap.objs.size + 1]:=fun b hb=>by
            have hb':(b:Nat) < s2.heap.objs.size:=hb
            simp only [List.mem_cons,List.not_mem_nil,or_false,not_or]
            refine ⟨?_,?_,?_,?_,?_⟩ <;> apply Nat.ne_of_lt <;> omega
          have low:∀ {k:Bool} {a:Addr} {zs:Array Value},Ag k s2.heap a zs→a < s2.heap.objs.size:=fun {k a zs} r=>by
            cases k <;> obtain ⟨o,e,_⟩:=r <;> exact Heap.lt_size e
          obtain ⟨kv,k5,k6⟩:=Je l b3 b4 l.length (Nat.le_refl _)
          rw [List.take_length] at k6
          have hsz:s2.heap.objs.size≤h'.objs.size:=Nat.le_of_lt (Nat.lt_of_le_of_lt (Nat.le_add_right _ 4) (Heap.lt_size Z.zip))
          have lz:l.length≤sizeLine:=by
            rw [b1,← v1.length,g1.length]
            exact Nat.le_trans (Nat.min_le_left _ _) (Nat.le_trans (Nat.le_of_lt hl.1) u9)
          refine Qn (s:={ s2 with heap:=h' }) (knd:=u6 X.prog X.w) (key:=fun i=>(l.map (·.1)).getD i (.inl 0)) (val:=fun i=>(its2.take l.length).getD i .none) (n:=l.length) (I1.ok.hd hc) Df Z t1' t2' (r1.to fun o e=>kp _ o e) (r2.to fun o e=>kp _ o e) (out _ (low r1)) (out _ (low r2)) lz (by simpa using b1)
            (fun i x hi hx=>b2 i x hi (by simpa using hx)) (fun i y hi hy=>?_) fun h3 tk hD old=>?_
          · have hy':its2[i]? = some y:=by simpa using hy
            rw [List.getD_eq_getElem?_getD,List.getElem?_take,if_pos hi,hy']; rfl
          · have hp:H1 h'.objs.size = none:=I1.hok.fresh hsz
            have kl:kv.length≤sizeLine:=by
              rw [k5.length]
              exact Nat.le_trans (Ds _ _ _) lz
            obtain ⟨z1,z2,z3,z4⟩:=R2.fresh hp
            refine ⟨.ref h'.objs.size,_,I1.laid (a:=h'.objs.size) (o:=.dK kv) (h':=h3) (t':=tk) (fun b o e=>old b o (out b (Heap.lt_size e)) (kp b o e)) hsz (Nm kl (beq_eq_false_iff_ne.mpr (Ne.symm (Nat.ne_of_lt (Nat.lt_of_lt_of_le I1.big hsz)))) k5 hD),rfl,q _ _ _ _ (R2.a6b z1 z2 z3 z4) ⟨⟨_,jd,k6⟩,z2,z3,z1⟩ z4⟩
    · cases e3
  · cases e3
theorem Hi (hc:X.calm = true) (hg:Gl X "dict") (hm:X.mg "dict" = none) (hg2:Gl X "zip") (hm2:X.mg "zip" = none) (ha:PE X a (tOf X.K B m1)) (hb:PE X b (tOf X.K B m2))
    (hs:starEach [a,b] X.env = [(false,eval a X.env),(false,eval b X.env)]:=by rfl) (hs2:starEach [b] X.env = [(false,eval b X.env)]:=by rfl)
    (he:starEach [.Call (.Name "zip" p2) [a,b] [] p3] X.env = (false,eval (.Call (.Name "zip" p2) [a,b] [] p3) X.env) :: starEach [] X.env:=by rfl) (hpl:(backTo p4 (starEach [] X.env)).any (·.1) = false:=by rfl) :
    PE X (.Call (.Name "dict" p1) [.Call (.Name "zip" p2) [a,b] [] p3] [] p4) (tOf X.K B (mOp Gf m1 m2)):=vh (Lz hc hg hm hg2 hm2 ha hb hs hs2 he hpl)
end
end C
end
noncomputable section
set_option linter.all false
set_option maxRecDepth 100000
set_option maxHeartbeats 4000002
set_option autoImplicit false
namespace C
open PySem PySem.Spec PyProof.Rows L2
noncomputable section
variable {K:PySem.W.Frag} {S:Hp} {as:List Addr}
mutual
theorem Rep.bare:∀ {v:V} {t:T},Rep K S as v t→noObj t = true→Rep K S [] v t
  | _,_,.non,_=>.non
  | _,_,.bl b,_=>.bl b
  | _,_,.int i,_=>.int i
  | _,_,.str y,_=>.str y
  | _,_,.tup h r,n=>.tup h (uq.bare r (by simpa only [noObj] using n))
  | _,_,.lst h r,n=>.lst h (uq.bare r (by simpa only [noObj] using n))
  | _,_,.dic h r,n=>.dic h (Cr.bare r (by simpa only [noObj] using n))
  | _,_,.obj h,n=>by simp [noObj] at n
theorem uq.bare:∀ {v:List V} {t:List T},uq K S as v t→Hz t = true→uq K S [] v t
  | _,_,.nil,_=>.nil
  | _,_,.cons h r,n=>by
    simp only [Hz,Bool.and_eq_true] at n
    exact .cons (Rep.bare h n.1) (uq.bare r n.2)
theorem Cr.bare:∀ {v:List (L2.Key × V)} {t:List (L2.Key × T)},Cr K S as v t→N7 t = true→Cr K S [] v t
  | _,_,.nil,_=>.nil
  | _,_,.cons h r,n=>by
    simp only [N7,Bool.and_eq_true] at n
    exact .cons (Rep.bare h n.1) (Cr.bare r n.2)
end
theorem uq.rep {vs:List V} {ts:List T} (r:uq K S as vs ts):∀ k:Nat,uq K S as (List.replicate k vs).flatten (List.replicate k ts).flatten
  | 0=>.nil
  | k + 1=>by
    rw [List.replicate_succ,List.replicate_succ,List.flatten_cons,List.flatten_cons]
    exact r.append (r.rep k)
end
theorem Oh {is:List Nat} {env:List Slot} {j:Nat} {t:T} {f:Bool} (h:(Mz is env)[j]? = some (some (t,f))):(lend is env)[j]? = some (some (t,f))∧noObj t = true:=by
  unfold Mz at h
  rw [List.getElem?_map] at h
  obtain ⟨x,e1,e2⟩:=Option.map_eq_some_iff.mp h
  cases x with
  | none=>cases e2
  | some p =>
    obtain ⟨t',g⟩:=p
    dsimp only at e2
    split at e2
    · rename_i hn; cases e2; exact ⟨e1,hn⟩
    · cases e2
noncomputable section
variable {X:Cx} {B:Bas} {a b e:Expr} {m m2:M T} {pos p1:Pos} {es:List Expr} {ms:M (List T)}
theorem Rel.base {K:PySem.W.Frag} {B:Bas} {st:Sta} {σ:L2.St} {H S:Hp} {ps:List (V × T)} {as:List Addr} (r:Rel K B st σ H ps S as):Rel K ⟨S,as,B.H⟩ st σ H ps S as :=
  ⟨r.sub,⟨Same.refl _,nol,fun p o h1 h2 h3=>by
    change S p = none at h2
    have b2:B.S p = none:=by
      cases q:B.S p with
      | none=>rfl
      | some u=>have:=r.grow.same _ _ q; rw [h2] at this; cases this
    have b3:p∉B.as:=fun q=>by obtain ⟨l,e⟩:=r.grow.more; exact h3 (by show p∈as; rw [e]; exact List.mem_append_left _ q)
    exact ⟨(r.grow.keep p o h1 b2 b3).1,h2,h3⟩⟩,fun i t f e=>by
      obtain ⟨v,h1,h2,h3⟩:=r.slots i t f e
      exact ⟨v,h1,h2,fun q=>by obtain ⟨p,ep,o⟩:=h3 q; exact ⟨p,ep,o.own,o.out,o.nas,o.new⟩⟩,r.apart,r.sto,r.pend,r.len⟩
theorem Rel.a5w {K:PySem.W.Frag} {B:Bas} {st st':Sta} {σ σ':L2.St} {H H' S S':Hp} {ps ps':List (V × T)} {as as':List Addr} (r:Rel K B st σ H ps S as) (r':Rel K ⟨S,as,B.H⟩ st' σ' H' ps' S' as'):Rel K B st' σ' H' ps' S' as' :=
  ⟨r'.sub,⟨r.grow.same.trans r'.grow.same,by
    obtain ⟨l,e⟩:=r.grow.more
    obtain ⟨l',e'⟩:=r'.grow.more
    exact ⟨l ++ l',by rw [e',← List.append_assoc,← e]⟩,fun p o h1 h2 h3=>by
    obtain ⟨a,b,c⟩:=r.grow.keep p o h1 h2 h3
    exact r'.grow.keep p o h1 b c⟩,fun i t f e=>by
      obtain ⟨v,h1,h2,h3⟩:=r'.slots i t f e
      exact ⟨v,h1,h2,fun q=>by obtain ⟨p,ep,o⟩:=h3 q; exact ⟨p,ep,o.own,o.out,o.nas,o.new⟩⟩,r'.apart,r'.sto,r'.pend,r'.len⟩
theorem a1y (h:PA X es (aOf X.K B ms)) (hm:∀ st ts st',ms st = some (ts,st')→ts.length≤1000) (hb:∀ B,PE X b (tOf X.K B m2)):PE X (.BinOp (.List es p1) .Mult b pos) (tOf X.K B (mOp Uo (j8 (fun l=>some (.lst l)) ms) m2)) :=
  (a3x a4m (Tr h) (peE hb)).imp fun σ H Q z9=>by
    obtain ⟨st,ps,S,as,R,t,st',ev,q⟩:=z9
    obtain ⟨t1,s1,t2,e1,e2,e3⟩:=Km ev
    obtain ⟨ts,e4,e5⟩:=Dp e1
    cases e5
    cases t2 <;> simp only [Uo,reduceCtorEq] at e3
    rename_i j
    split at e3
    · rename_i hl
      cases e3
      refine ⟨st,ps,S,as,R,ts,s1,e4,fun vs H1 S1 as1 R1 rs=>⟨?_,fun p hp=>?_⟩⟩
      · rw [rs.length]; exact Nat.le_of_lt (Eu (hm _ _ _ e4))
      · have x:=Ext.laid R1.sub hp (.lst vs)
        have R2:=R1.ext x
        refine ⟨_,s1,_,_,as1,R2.base,_,_,e2,fun v2 H3 S3 as3 R3=>?_⟩
        have tp:=R3.top
        cases tp
        have hS:S3 p = some (.lst vs):=R3.grow.same _ _ jd
        have R4:=(R2.a5w R3).drop
        refine ⟨p,j,vs,rfl,rfl,R3.sub _ _ hS,by omega,by omega,?_,fun p2 hp2=>?_⟩
        · rw [rs.length]
          exact Nat.le_of_lt (Nat.lt_of_lt_of_le hl.2.2 u9)
        · have y:=Ext.laid R4.sub hp2 (.lst (List.replicate j.toNat vs).flatten)
          have sm:Same S1 S3:=x.s.trans R3.grow.same
          exact q _ _ _ _ ((R4.ext y).push (.lst (SqL.of jd) (((rs.mono sm R3.grow.more).rep j.toNat).mono y.s nol)))
    · cases e3
open Classical in
theorem Yq (is:List Nat) {mb:M Bool} (h:∀ B,PT X e (cOf X.K B mb)):PT X e (cOf X.K B (Nb is mb)):=by
  intro pins s σ H Q I ⟨st,ps,S,as,R,b,st',em,q⟩
  unfold Nb at em
  split at em
  · rename_i b1 s1 e1
    split at em
    · rename_i hs1
      cases em
      let P:Addr→Prop:=fun p=>∃ i t,i∈is∧st.env[i]? = some (some (t,true))∧σ[i]? = some (some (.ref p))
      let S1:Hp:=fun p=>if P p then H p else S p
      have s1pos:∀ p,P p→S1 p = H p:=fun p hp=>if_pos hp
      have s1neg:∀ p,¬ P p→S1 p = S p:=fun p hp=>if_neg hp
      have sub1:Same S1 H:=fun p u hu=>by
        by_cases hp:P p
        · rw [s1pos p hp] at hu; exact hu
        · rw [s1neg p hp] at hu; exact R.sub _ _ hu
      have sS:Same S S1:=fun p u hu=>by
        by_cases hp:P p
        · rw [s1pos p hp]; exact R.sub _ _ hu
        · rw [s1neg p hp]; exact hu
      have R1:Rel X.K ⟨S1,[],H⟩ ⟨Mz is st.env,[]⟩ σ H [] S1 []:=by
        refine ⟨sub1,⟨Same.refl _,nol,fun p o a b c=>⟨a,b,c⟩⟩,fun i t f ei=>?_,fun i j t u p ei ej=>?_,⟨rfl,.nil,fun n so en=>by simp at en⟩,fun p hp=>(by cases hp),?_⟩
        · obtain ⟨ei,no⟩:=Oh ei
          obtain ⟨rfl,g,eg,hg⟩:=Rw ei
          obtain ⟨v,h1,h2,h3⟩:=R.slots i t g eg
          refine ⟨v,h1,fun _=>?_,fun z=>by cases z⟩
          cases g with
          | false=>exact ((h2 rfl).mono sS nol).bare no
          | true =>
            obtain ⟨p,rfl,o⟩:=h3 rfl
            have hp:P p:=⟨i,t,hg rfl,eg,h1⟩
            have ow:=o.own
            refine Rep.bare (as:=as) ?_ no
            cases t with
            | lst ts=>obtain ⟨vs,hH,r⟩:=ow; exact .lst (SqL.of (by rw [s1pos p hp]; exact hH)) (r.mono sS nol)
            | dic ts=>obtain ⟨vs,hH,r⟩:=ow; exact .dic (.inl (by rw [s1pos p hp]; exact hH)) (r.mono sS nol)
            | _=>exact ow.elim
        · obtain ⟨ei,_⟩:=Oh ei
          obtain ⟨z,_⟩:=Rw ei; cases z
        · show σ.length = (Mz is st.env).length
          unfold Mz lend
          rw [List.length_map,List.length_mapIdx]; exact R.len
      refine h ⟨S1,[],H⟩ pins s σ H Q I ⟨⟨Mz is st.env,[]⟩,[],S1,[],R1,_,s1,e1,fun H' S' as' R'=>q H' S as ?_⟩
      have keepAll:∀ p o,H p = some o→H' p = some o:=fun p o hp=>by
        cases z:S1 p with
        | none=>exact (R'.grow.keep p o hp z (by simp)).1
        | some w =>
          have:=sub1 _ _ z
          rw [hp] at this; cases this
          exact R'.sub _ _ (R'.grow.same _ _ z)
      refine ⟨fun p u hu=>R'.sub _ _ (R'.grow.same _ _ (sS _ _ hu)),⟨R.grow.same,R.grow.more,fun p o a b c=>?_⟩,fun i t f ei=>?_,R.apart,⟨R.sto.len,R.sto.nd,fun n so en=>?_⟩,R.pend,R.len⟩
      · obtain ⟨x,y,z⟩:=R.grow.keep p o a b c
        exact ⟨keepAll _ _ x,y,z⟩
      · obtain ⟨v,h1,h2,h3⟩:=R.slots i t f ei
        refine ⟨v,h1,h2,fun z=>?_⟩
        obtain ⟨p,rfl,o⟩:=h3 z
        obtain ⟨ob,ho⟩:=o.own.there
        exact ⟨p,rfl,o.own.mono (Same.refl _) (by rw [ho,keepAll _ _ ho]),o.out,o.nas,o.new⟩
      · obtain ⟨a,h1,h2,h3⟩:=R.sto.at' n so en
        obtain ⟨ob,ho⟩:=h3.there
        exact ⟨a,h1,h2,h3.mono (Same.refl _) (by rw [ho,keepAll _ _ ho])⟩
    · cases em
  · cases em
end
end C
end
noncomputable section
set_option linter.all false
set_option maxRecDepth 100000
set_option autoImplicit false
namespace C
open PySem
theorem Py {α:Type} {h f:α→T} {g:G} {c:M Bool} {e:M T} {nv:Nat} {cap:List Slot} {sto:List SO} (hcap:cap.map kh = cap) :
    ∀ (l:List α) (acc:List T) (pre:List Slot),pre.length = nv→acc.length + l.length≤lim →
      (∀ a∈l,∀ pre:List Slot,pre.length = nv→∃ pre',pre'.length = nv∧g (h a) ⟨pre ++ cap,sto⟩ = some ⟨pre' ++ cap,sto⟩∧c ⟨pre' ++ cap,sto⟩ = some (true,⟨pre' ++ cap,sto⟩)∧e ⟨pre' ++ cap,sto⟩ = some (f a,⟨pre' ++ cap,sto⟩)) →
      ∃ s',Dm g c e (l.map h) ⟨pre ++ cap,sto⟩ acc = some (acc ++ l.map f,s')∧s'.sto = sto
  | [],acc,pre,hp,hl,H=>⟨⟨pre ++ cap,sto⟩,by simp [Dm],rfl⟩
  | a :: l,acc,pre,hp,hl,H=>by
    obtain ⟨pre',p1,p2,p3,p4⟩:=H a List.mem_cons_self pre hp
    have hlen:acc.length < lim:=by simp at hl ⊢; omega
    obtain ⟨s',q1,q2⟩:=Py hcap l (acc ++ [f a]) (pre'.map kh) (by simpa using p1) (by simp at hl ⊢; omega) fun b hb=>H b (List.mem_cons_of_mem _ hb)
    refine ⟨s',?_,q2⟩
    rw [List.map_cons,Dm,p2]
    dsimp only
    rw [p3]
    dsimp only
    rw [p4]
    dsimp only
    rw [if_pos hlen,su]
    dsimp only
    rw [List.map_append,hcap,q1]
    simp
theorem vm {α:Type} (h f:α→T) (l:List α) {g:G} {c:M Bool} {e:M T} {nv:Nat} {ci:List Nat} {it:M (List T)} {s s1:Sta} (env:List Slot) (cap:List Slot) (hit:it s = some (l.map h,s1)) (henv:au ci s1.env = env) (hci:ci.map (fun i=>(env[i]?).getD none) = cap) (hcap:cap.map kh = cap) (hl:l.length≤lim)
    (H:∀ a∈l,∀ pre:List Slot,pre.length = nv→∃ pre',pre'.length = nv∧g (h a) ⟨pre ++ cap,s1.sto⟩ = some ⟨pre' ++ cap,s1.sto⟩∧c ⟨pre' ++ cap,s1.sto⟩ = some (true,⟨pre' ++ cap,s1.sto⟩)∧e ⟨pre' ++ cap,s1.sto⟩ = some (f a,⟨pre' ++ cap,s1.sto⟩)) :
    yq nv ci g it c e s = some (.lst (l.map f),⟨env,s1.sto⟩):=by
  obtain ⟨s',q1,q2⟩:=Py hcap l [] (List.replicate nv none) (by simp) (by simpa using hl) H
  unfold yq
  rw [hit]
  dsimp only
  rw [henv,hci,q1]
  dsimp only
  rw [q2]; rfl
noncomputable def okS (x:Str):Prop:=PyData.canLay0 (.str x) = true
theorem Jy {x:Str} (h:okS x):dat (.str x) = some (.str x):=by
  unfold okS at h
  simp [dat,h]
theorem a2i {a b:Str} (ha:okS a) (hb:okS b):neO (.str a) (.str b) = some (.bl (!(a == b))):=by
  simp [neO,eqT,eqD,Jy ha,Jy hb,PyData.depth,PyData.eqv]
noncomputable def Pl (n:Nat) (t:T):Prop:=∃ d,dat t = some d∧d.depth≤n
theorem Dl (n:Nat) (i:Int):Pl n (.int i):=⟨.int i,by simp [dat],by simp [PyData.depth]⟩
theorem Cz (n:Nat) {x:Str} (h:okS x):Pl n (.str x):=⟨.str x,Jy h,by simp [PyData.depth]⟩
theorem pls {n:Nat}:∀ ts:List T,(∀ t∈ts,Pl n t)→∃ ds,Ks ts = some ds∧PyData.depthAll ds≤n
  | [],_=>⟨[],by simp [Ks],by simp [PyData.depthAll]⟩
  | t :: r,h=>by
    obtain ⟨d,d1,d2⟩:=h t List.mem_cons_self
    obtain ⟨ds,e1,e2⟩:=pls r fun x hx=>h x (List.mem_cons_of_mem _ hx)
    exact ⟨d :: ds,by simp [Ks,d1,e1],by simp only [PyData.depthAll]; omega⟩
theorem zy {n:Nat} {ts:List T} (h:∀ t∈ts,Pl n t):Pl (n + 1) (.tup ts):=by
  obtain ⟨ds,e1,e2⟩:=pls ts h
  exact ⟨.tuple ds,by simp [dat,e1],by simp only [PyData.depth]; omega⟩
theorem Td {n:Nat} {ts:List T} (h:∀ t∈ts,Pl n t):Pl (n + 1) (.lst ts):=by
  obtain ⟨ds,e1,e2⟩:=pls ts h
  exact ⟨.list ds,by simp [dat,e1],by simp only [PyData.depth]; omega⟩
mutual
theorem Tq:∀ d:PyData,d.canLay0 = true→PyData.eqv d d = true
  | .none,_=>by simp [PyData.eqv]
  | .bool b,_=>by simp [PyData.eqv] -- here
  | .int i,_=>by simp [PyData.eqv] -- here
  | .str x,_=>by simp [PyData.eqv] -- here
  | .list xs,h=>by simp only [PyData.eqv]; exact Js xs (by simpa [PyData.canLay0] using h)
  | .tuple xs,h=>by simp only [PyData.eqv]; exact Js xs (by simpa [PyData.canLay0] using h)
  | .dict _,h=>by simp [PyData.canLay0] at h
theorem Js:∀ xs:List PyData,PyData.canLayAll0 xs = true→PyData.eqvAll xs xs = true
  | [],_=>by simp [PyData.eqvAll]
  | x :: xs,h=>by
    simp only [PyData.canLayAll0,Bool.and_eq_true] at h
    simp only [PyData.eqvAll,Tq x h.1,Js xs h.2,Bool.and_self]
end
end C
namespace C
open PySem
theorem Xl {g:G} {b:S} (P:List T→Sta→Prop) (H:∀ t r s,P (t :: r) s→∃ s1 s2,g t s = some s1∧b s1 = some (.next,s2)∧P r s2):∀ (ts:List T) (s:Sta),P ts s→∃ s',forL g b ts s = some (.next,s')∧P [] s'
  | [],s,h=>⟨s,by simp [forL],h⟩
  | t :: r,s,h=>by
    obtain ⟨s1,s2,h1,h2,h3⟩:=H t r s h
    obtain ⟨s',e,p⟩:=Xl P H r s2 h3
    refine ⟨s',?_,p⟩
    rw [forL]; dsimp only; rw [h1]; dsimp only; rw [h2]; dsimp only; exact e
theorem Ew {g:G} {b:S} {ts:List T} {s:Sta} {r:Option (Flow × Sta)} (hF:forL g b ts s = r) (P:List T→Sta→Prop) (hP:P ts s) (H:∀ t r s,P (t :: r) s→∃ s1 s2,g t s = some s1∧b s1 = some (.next,s2)∧P r s2):∃ s',r = some (.next,s')∧P [] s':=by
  obtain ⟨s',e,p⟩:=Xl P H ts s hP
  exact ⟨s',hF.symm.trans e,p⟩
end C
namespace C
open PySem
theorem Rt {α:Type} {g:G} {c:M Bool} {e:M T} {nv:Nat} {ci:List Nat} {it:M (List T)} {s:Sta} {r:Option (T × Sta)} (hF:yq nv ci g it c e s = r) (h f:α→T) (l:List α) (s1:Sta) (env cap:List Slot) (hit:it s = some (l.map h,s1)) (henv:au ci s1.env = env) (hci:ci.map (fun i=>(env[i]?).getD none) = cap) (hcap:cap.map kh = cap) (hl:l.length≤lim)
    (H:∀ a∈l,∀ pre:List Slot,pre.length = nv→∃ pre',pre'.length = nv∧g (h a) ⟨pre ++ cap,s1.sto⟩ = some ⟨pre' ++ cap,s1.sto⟩∧c ⟨pre' ++ cap,s1.sto⟩ = some (true,⟨pre' ++ cap,s1.sto⟩)∧e ⟨pre' ++ cap,s1.sto⟩ = some (f a,⟨pre' ++ cap,s1.sto⟩)) :
    r = some (.lst (l.map f),⟨env,s1.sto⟩):=hF.symm.trans (vm h f l env cap hit henv hci hcap hl H)
theorem P0 {α:Type} (h:α→T) (l:List α) {i:Int} (h0:0≤i) (h1:i < l.length):∃ a∈l,gb (.lst (l.map h)) (.int i) = some (h a):=by
  have hi:i.toNat < l.length:=by omega
  refine ⟨l[i.toNat],List.getElem_mem hi,?_⟩
  simp [gb,ixI,h0,h1,List.getElem?_eq_getElem hi]
theorem T7 {α:Type} (h:α→T) (l:List α) {k:Nat} (hk:k < l.length):gb (.lst (l.map h)) (.int (k:Int)) = some (h l[k]):=by
  have h1:(k:Int) < (l.length:Int):=by omega
  simp [gb,ixI,h1,List.getElem?_eq_getElem hk]
end C
end
noncomputable section
set_option linter.all false
set_option maxRecDepth 100000
set_option autoImplicit false
namespace C
open PySem
theorem Ei {α:Type} {h f:α→T} {q:α→Bool} {g:G} {c:M Bool} {e:M T} {nv:Nat} {cap:List Slot} {sto:List SO} (hcap:cap.map kh = cap) :
    ∀ (l:List α) (acc:List T) (pre:List Slot),pre.length = nv→acc.length + l.length≤lim →
      (∀ a∈l,∀ pre:List Slot,pre.length = nv→∃ pre',pre'.length = nv∧g (h a) ⟨pre ++ cap,sto⟩ = some ⟨pre' ++ cap,sto⟩∧c ⟨pre' ++ cap,sto⟩ = some (q a,⟨pre' ++ cap,sto⟩)∧(q a = true→e ⟨pre' ++ cap,sto⟩ = some (f a,⟨pre' ++ cap,sto⟩))) →
      ∃ s',Dm g c e (l.map h) ⟨pre ++ cap,sto⟩ acc = some (acc ++ (l.filter q).map f,s')∧s'.sto = sto
  | [],acc,pre,hp,hl,H=>⟨⟨pre ++ cap,sto⟩,by simp [Dm],rfl⟩
  | a :: l,acc,pre,hp,hl,H=>by
    obtain ⟨pre',p1,p2,p3,p4⟩:=H a List.mem_cons_self pre hp
    have hlen:acc.length < lim:=by simp at hl ⊢; omega
    rw [List.map_cons,Dm,p2]
    dsimp only
    rw [p3]
    cases hq:q a with
    | true =>
      obtain ⟨s',q1,q2⟩:=Ei hcap l (acc ++ [f a]) (pre'.map kh) (by simpa using p1) (by simp at hl ⊢; omega) fun b hb=>H b (List.mem_cons_of_mem _ hb)
      refine ⟨s',?_,q2⟩
      dsimp only
      rw [p4 hq]
      dsimp only
      rw [if_pos hlen,su]
      dsimp only
      rw [List.map_append,hcap,q1]
      simp [hq]
    | false =>
      obtain ⟨s',q1,q2⟩:=Ei hcap l acc (pre'.map kh) (by simpa using p1) (by simp at hl ⊢; omega) fun b hb=>H b (List.mem_cons_of_mem _ hb)
      refine ⟨s',?_,q2⟩
      dsimp only
      rw [su]
      dsimp only
      rw [List.map_append,hcap,q1]
      simp [hq]
theorem Wk {α:Type} {g:G} {c:M Bool} {e:M T} {nv:Nat} {ci:List Nat} {it:M (List T)} {s:Sta} {r:Option (T × Sta)} (hF:yq nv ci g it c e s = r) (h f:α→T) (q:α→Bool) (l:List α) (s1:Sta) (env cap:List Slot) (hit:it s = some (l.map h,s1)) (henv:au ci s1.env = env) (hci:ci.map (fun i=>(env[i]?).getD none) = cap) (hcap:cap.map kh = cap) (hl:l.length≤lim)
    (H:∀ a∈l,∀ pre:List Slot,pre.length = nv→∃ pre',pre'.length = nv∧g (h a) ⟨pre ++ cap,s1.sto⟩ = some ⟨pre' ++ cap,s1.sto⟩∧c ⟨pre' ++ cap,s1.sto⟩ = some (q a,⟨pre' ++ cap,s1.sto⟩)∧(q a = true→e ⟨pre' ++ cap,s1.sto⟩ = some (f a,⟨pre' ++ cap,s1.sto⟩))) :
    r = some (.lst ((l.filter q).map f),⟨env,s1.sto⟩):=by
  obtain ⟨s',q1,q2⟩:=Ei hcap l [] (List.replicate nv none) (by simp) (by simpa using hl) H
  rw [← hF]
  unfold yq
  rw [hit]
  dsimp only
  rw [henv,hci,q1]
  dsimp only
  rw [q2]; rfl
theorem Yt {n:Nat} {t:T} (h:Pl n t) (hn:n≤40):eqD t t = some true:=by
  obtain ⟨d,e1,e2⟩:=h
  have:d.depth≤40:=Nat.le_trans e2 hn
  simp [eqD,e1,this,Tq d (Dt _ e1)]
theorem T8 {n:Nat} {t:T} (h:Pl n t) (hn:n≤40):eqT t t = some true:=by
  cases t with
  | dic k=>obtain ⟨d,e1,_⟩:=h; simp [dat] at e1
  | _=>exact Yt h hn
theorem Jf {n:Nat} {t:T} (h:Pl n t) (hn:n≤40):neO t t = some (.bl false):=by simp [neO,T8 h hn]
theorem Sv {n:Nat} {t:T} (h:Pl n t) (hn:n≤40):eqO t t = some (.bl true):=by simp [eqO,T8 h hn]
theorem qe {a b:Int}:eqO (.int a) (.int b) = some (.bl (a == b)):=by simp [eqO,eqT,eqD,dat,PyData.depth,PyData.eqv]
theorem Hq {a b:Int}:neO (.int a) (.int b) = some (.bl (!(a == b))):=by simp [neO,eqT,eqD,dat,PyData.depth,PyData.eqv]
theorem Vr {a b:Str} (ha:okS a) (hb:okS b):eqO (.str a) (.str b) = some (.bl (a == b)):=by
  simp [eqO,eqT,eqD,Jy ha,Jy hb,PyData.depth,PyData.eqv]
theorem Gb {xs:List T} {k:Nat} {t:T} (h:xs[k]? = some t):gb (.tup xs) (.int (k:Int)) = some t:=by
  have hk:k < xs.length:=(List.getElem?_eq_some_iff.mp h).1
  have h1:(k:Int) < (xs.length:Int):=by omega
  simp [gb,ixI,h1,h]
theorem qm {a:T} {r:List T}:gb (.tup (a :: r)) (.int 0) = some a:=Gb (k:=0) rfl
theorem xq {a b:T} {r:List T}:gb (.tup (a :: b :: r)) (.int 1) = some b:=Gb (k:=1) rfl
theorem Ez {a b c:T} {r:List T}:gb (.tup (a :: b :: c :: r)) (.int 2) = some c:=Gb (k:=2) rfl
theorem a0r {a b c d:T} {r:List T}:gb (.tup (a :: b :: c :: d :: r)) (.int 3) = some d:=Gb (k:=3) rfl
theorem Ml {i j:Nat} {x y:T} {s:Sta}:jt [i,j] (.tup [x,y]) s = some (bh j y false (bh i x false s)):=by simp [jt]
theorem Tj {a b c:S} {s s':Sta} (h:j7 a b s = some (.next,s')):j7 a (j7 b c) s = c s':=by
  unfold j7 at h ⊢
  cases ha:a s with
  | none=>rw [ha] at h; cases h
  | some p =>
    obtain ⟨fl,s1⟩:=p
    rw [ha] at h
    cases fl with
    | next=>dsimp only at h ⊢; rw [h]
    | _=>cases h
theorem jq {a b:S} {s s':Sta} (h:a s = some (.next,s')):j7 a b s = b s':=by unfold j7; rw [h]
noncomputable def Out (r:Option (T × List SO)) (P:T→List SO→Prop):Prop:=∃ t s,r = some (t,s)∧P t s
theorem Out.of {t:T} {s:List SO} {P:T→List SO→Prop} (h:P t s):Out (some (t,s)) P:=⟨t,s,rfl,h⟩
end C
end
noncomputable section
set_option linter.all false
namespace K
open C PySem
noncomputable def Br:Fn:=gw 2
  (je (mOp jr (mOp gb (cg 0) (aq (.int 0))) (j8 Ys (ak (yq 2 [1] (jt [0,1]) (jl (mOp gb (cg 0) (aq (.int 1)))) iu (mOp Jj (cg 1) (mOp gb (cg 2) (cg 0)))) gq))))
mutual
noncomputable def ug:Nat→Fn
  | 0=>fun _ _=>none
  | n + 1=>gw 4
      (j7 (ji 3 (mOp gb (cg 0) (aq (.int 0))))
      (j7 (sIf (fj (mOp eqO (cg 3) (aq (.str "most"))))
      (je (mOp leT (dj Br (ak (mOp gb (cg 0) (aq (.int 1))) (ak (cg 1) gq))) (aq (.int 0))))
      jk)
      (j7 (sIf (fj (mOp eqO (cg 3) (aq (.str "rest"))))
      (je (mOp eqO (mOp jy (dj Br (ak (mOp gb (cg 0) (aq (.int 1))) (ak (cg 1) gq))) (mOp gb (cg 0) (aq (.int 2)))) (aq (.int 0))))
      jk)
      (j7 (sIf (fj (mOp eqO (cg 3) (aq (.str "at"))))
      (je (mOp eqO (mOp gb (cg 2) (mOp gb (cg 0) (aq (.int 1)))) (mOp gb (cg 0) (aq (.int 2)))))
      jk)
      (j7 (sIf (fj (mOp eqO (cg 3) (aq (.str "not"))))
      (je (j5 (jz (fj (dj (ug n) (ak (mOp gb (cg 0) (aq (.int 1))) (ak (cg 1) (ak (cg 2) gq))))))))
      jk)
      (j7 (sIf (fj (mOp eqO (cg 3) (aq (.str "and"))))
      (je (j5 (jz (fj (dj (Ce n) (ak (aq (.bl false)) (ak (mOp gb (cg 0) (aq (.int 1))) (ak (cg 1) (ak (cg 2) gq)))))))))
      jk)
      (je (dj (Ce n) (ak (aq (.bl true)) (ak (mOp gb (cg 0) (aq (.int 1))) (ak (cg 1) (ak (cg 2) gq))))))))))))
noncomputable def Ce:Nat→Fn
  | 0=>fun _ _=>none
  | n + 1=>gw 5
      (j7 (jo (hName 4) (jl (cg 1))
      (sIf (fj (mOp eqO (dj (ug n) (ak (cg 4) (ak (cg 2) (ak (cg 3) gq)))) (cg 0)))
      (je (aq (.bl true)))
      jk))
      (je (aq (.bl false))))
end
noncomputable def Af:Fn:=gw 1
  (je (j8 (fun l=>some (.tup l)) (ak (j8 wz (ak (yq 1 [] (hName 0) (jl (mOp gb (cg 0) (aq (.int 1)))) iu (aq (.int 0))) gq)) (ak (j8 wz (ak (yq 1 [] (hName 0) (jl (mOp gb (cg 0) (aq (.int 0)))) iu (mOp gb (cg 0) (aq (.int 4)))) gq)) gq))))
noncomputable def Ai:Fn:=gw 2
  (je (mOp Gf (yq 1 [] (hName 0) (jl (mOp gb (cg 0) (aq (.int 0)))) iu (mOp gb (cg 0) (aq (.int 0)))) (mOp gb (cg 1) (aq (.int 1)))))
noncomputable def wg:Fn:=gw 2
  (je (mOp Gf (yq 1 [] (hName 0) (jl (mOp gb (cg 0) (aq (.int 1)))) iu (mOp gb (cg 0) (aq (.int 0)))) (mOp gb (cg 1) (aq (.int 0)))))
noncomputable def mj:Fn:=gw 11
  (j7 (ji 3 (j8 Dh (ak (mOp gb (cg 2) (aq (.int 3))) gq)))
  (j7 (sNew 4 (j8 (fun l=>some (.lst l)) gq))
  (j7 (jo (jt [5,6,7,8,9]) (jl (mOp gb (cg 0) (aq (.int 0))))
  (j7 (ji 10 (mIf (fj (mOp inT (cg 5) (cg 3))) (dj Br (ak (mOp gb (cg 3) (cg 5)) (ak (cg 1) gq))) (mOp gb (cg 1) (cg 5))))
  (j7 (sIf (m5 (fj (mOp inT (cg 5) (cg 3))) (mOr (fj (mOp ltT (cg 10) (cg 7))) (fj (mOp gtT (cg 10) (cg 8)))))
  (je (aq .non))
  jk)
  (cj 4 (cg 10)))))
  (je (j8 wz (ak (cg 4) gq))))))
noncomputable def m9:Fn:=gw 2
  (je (j8 wz (ak (yq 2 [1] (jt [0,1]) (Nh (cg 0)) iu (mIf (fj (mOp eqO (cg 0) (mOp gb (cg 2) (aq (.int 0))))) (mOp gb (cg 2) (aq (.int 4))) (cg 1))) gq)))
noncomputable def Em:Fn:=gw 8
  (j7 (ji 2 (dj Ai (ak (cg 0) (ak (cg 1) gq))))
  (j7 (ji 3 (dj wg (ak (cg 0) (ak (cg 1) gq))))
  (j7 (sNew 4 (j8 (fun l=>some (.lst l)) gq))
  (j7 (jo (jt [5,6]) (Oe (mOp gb (cg 0) (aq (.int 2))))
  (sIf (m5 (fj (mOp eqO (mOp gb (cg 3) (mOp gb (cg 6) (aq (.int 0)))) (mOp gb (cg 6) (aq (.int 1))))) (fj (dj (ug 40) (ak (mOp gb (cg 6) (aq (.int 2))) (ak (cg 2) (ak (cg 3) gq))))))
  (j7 (ji 7 (dj mj (ak (cg 0) (ak (cg 2) (ak (cg 6) gq)))))
  (sIf (fj (mOp Gq (cg 7) (aq .non)))
  (cj 4 (j8 (fun l=>some (.tup l)) (ak (cg 5) (ak (j8 (fun l=>some (.tup l)) (ak (dj m9 (ak (cg 3) (ak (cg 6) gq))) (ak (cg 7) gq))) gq))))
  jk))
  jk))
  (je (cg 4))))))
noncomputable def Ra:Fn:=gw 2
  (je (yq 2 [] (jt [0,1]) (jl (dj Em (ak (cg 0) (ak (cg 1) gq)))) iu (cg 0)))
noncomputable def Gp:Fn:=gw 5
  (j7 (ji 3 (mOp gb (mOp gb (cg 0) (aq (.int 2))) (cg 2)))
  (j7 (ji 4 (dj mj (ak (cg 0) (ak (dj Ai (ak (cg 0) (ak (cg 1) gq))) (ak (cg 3) gq)))))
  (je (j8 (fun l=>some (.tup l)) (ak (dj m9 (ak (dj wg (ak (cg 0) (ak (cg 1) gq))) (ak (cg 3) gq))) (ak (cg 4) gq))))))
noncomputable def qd:Fn:=gw 2
  (j7 (sIf (fj (mOp ltT (cg 1) (j8 ju (ak (cg 0) gq))))
  (je (mOp gb (cg 0) (cg 1)))
  jk)
  (je (aq (.int 0))))
noncomputable def gk:Fn:=gw 3
  (j7 (sIf (fj (mOp eqO (Ey (cg 0)) (aq (.int 2))))
  (Ka 0 (Ca (cg 0) (aq (.int 0))))
  jk)
  (j7 (sIf (m5 (fj (mOp eqO (Ca (cg 0) (aq (.int 1))) (aq (.int 0)))) (fj (mOp inT (Ca (cg 0) (aq (.int 0))) (j8 (fun l=>some (.lst l)) (ak (aq (.int 0)) (ak (mUn m6 (aq (.int 1))) gq))))))
  (j7 (Fv (cg 0) (aq (.int 0)) (mOp jr (Ca (cg 0) (aq (.int 2))) (aq (.int 1013))))
  (Fv (cg 0) (aq (.int 1)) (aq (.int 1))))
  jk)
  (j7 (sIf (fj (mOp eqO (Ca (cg 0) (aq (.int 1))) (aq (.int 0))))
  (j7 (ji 2 (mOp jy (Ca (cg 0) (aq (.int 0))) (cg 1)))
  (j7 (Fv (cg 0) (aq (.int 0)) (mOp iy (Ca (cg 0) (aq (.int 0))) (cg 1)))
  (je (cg 2))))
  jk)
  (j7 (Fv (cg 0) (aq (.int 0)) (mOp jy (mOp jr (mOp Jj (mOp jy (Ca (cg 0) (aq (.int 0))) (aq (.int 2147483647))) (aq (.int 48271))) (aq (.int 1013))) (aq (.int 2147483629))))
  (je (mOp jy (mOp iy (mOp jy (mOp Jj (Ca (cg 0) (aq (.int 0))) (aq (.int 69621))) (aq (.int 2147483587))) (aq (.int 11))) (cg 1)))))))
noncomputable def vd:Fn:=gw 4
  (j7 (sIf (fj (mOp eqO (mOp jy (mOp iy (cg 0) (aq (.int 640))) (aq (.int 4))) (aq (.int 1))))
  (je (mOp gb (j8 (fun l=>some (.lst l)) (j6 ["b","ab","abc","abcd","a","ba","aab","b1","bab","ab1"])) (mOp jy (cg 1) (aq (.int 10)))))
  jk)
  (j7 (ji 2 (mOp jr (aq (.int 1)) (mOp jy (cg 0) (aq (.int 8)))))
  (j7 (ji 3 (mOp jy (mOp iy (cg 0) (aq (.int 8))) (cg 2)))
  (je (mOp jr (mOp jr (mOp Jj (aq (.str "q")) (cg 3)) (mOp gb (aq (.str "abcdefghij")) (mOp jy (mOp jr (mOp Jj (aq (.int 3)) (cg 1)) (mOp iy (cg 0) (aq (.int 64)))) (aq (.int 10))))) (mOp Jj (aq (.str "q")) (mOp jw (mOp jw (cg 2) (aq (.int 1))) (cg 3))))))))
noncomputable def Aj:Fn:=gw 6
  (j7 (ji 2 (mOp jw (dj gk (ak (cg 0) (ak (aq (.int 5)) gq))) (aq (.int 2))))
  (j7 (sIf (fj (mOp eqO (dj gk (ak (cg 0) (ak (aq (.int 9)) gq))) (aq (.int 8))))
  (ji 2 (mOp jw (dj gk (ak (cg 0) (ak (mOp jw (mOp Jj (aq (.int 2)) (mOp Tc (aq (.int 10)) (aq (.int 9)))) (aq (.int 1))) gq))) (mOp jw (mOp Tc (aq (.int 10)) (aq (.int 9))) (aq (.int 1)))))
  jk)
  (j7 (sNew 3 (j8 (fun l=>some (.lst l)) gq))
  (j7 (jo (hName 4) (jl (j8 Dd (ak (cg 1) gq)))
  (j7 (ji 5 (mOp gb (j8 (fun l=>some (.lst l)) (ak (aq (.int 0)) (ak (aq (.int 0)) (ak (aq (.int 1)) (ak (aq (.int 1)) (ak (mUn m6 (aq (.int 1))) (ak (aq (.int 2)) (ak (mOp jw (dj gk (ak (cg 0) (ak (aq (.int 7)) gq))) (aq (.int 3))) gq)))))))) (dj gk (ak (cg 0) (ak (aq (.int 7)) gq)))))
  (sIf (fj (mOp neO (cg 5) (aq (.int 0))))
  (cj 3 (j8 (fun l=>some (.tup l)) (ak (cg 4) (ak (cg 5) gq))))
  jk)))
  (je (j8 (fun l=>some (.tup l)) (ak (cg 2) (ak (j8 wz (ak (cg 3) gq)) gq))))))))
noncomputable def qp:Fn:=gw 7
  (j7 (ji 3 (dj gk (ak (cg 0) (ak (aq (.int 4)) gq))))
  (j7 (sIf (fj (mOp eqO (cg 3) (aq (.int 0))))
  (j7 (sGo (jt [4,5]) (mOp gb (cg 2) (dj gk (ak (cg 0) (ak (j8 ju (ak (cg 2) gq)) gq)))))
  (je (j8 (fun l=>some (.tup l)) (ak (aq (.str "at")) (ak (cg 4) (ak (dj gk (ak (cg 0) (ak (cg 5) gq))) gq))))))
  jk)
  (j7 (ji 6 (dj Aj (ak (cg 0) (ak (cg 1) gq))))
  (j7 (sIf (fj (mOp eqO (cg 3) (aq (.int 1))))
  (je (j8 (fun l=>some (.tup l)) (ak (aq (.str "rest")) (ak (cg 6) (ak (mOp jr (aq (.int 2)) (dj gk (ak (cg 0) (ak (aq (.int 11)) gq)))) gq)))))
  jk)
  (je (j8 (fun l=>some (.tup l)) (ak (aq (.str "most")) (ak (cg 6) gq))))))))
noncomputable def Ac:Fn:=gw 7
  (j7 (ji 3 (dj gk (ak (cg 0) (ak (aq (.int 11)) gq))))
  (j7 (sIf (fj (mOp ltT (cg 3) (aq (.int 2))))
  (je (j8 (fun l=>some (.tup l)) (ak (aq (.str "and")) (ak (j8 (fun l=>some (.tup l)) gq) gq))))
  jk)
  (j7 (ji 4 (dj qp (ak (cg 0) (ak (cg 1) (ak (cg 2) gq)))))
  (j7 (sIf (fj (mOp ltT (cg 3) (aq (.int 5))))
  (je (cg 4))
  jk)
  (j7 (sIf (fj (mOp eqO (cg 3) (aq (.int 5))))
  (je (j8 (fun l=>some (.tup l)) (ak (aq (.str "not")) (ak (cg 4) gq))))
  jk)
  (j7 (ji 5 (j8 (fun l=>some (.tup l)) (ak (mOp gb (j8 (fun l=>some (.lst l)) (ak (aq (.str "and")) (ak (aq (.str "or")) gq))) (mOp jy (cg 3) (aq (.int 2)))) (ak (j8 (fun l=>some (.tup l)) (ak (cg 4) (ak (dj qp (ak (cg 0) (ak (cg 1) (ak (cg 2) gq)))) gq))) gq))))
  (j7 (sIf (fj (mOp ltT (cg 3) (aq (.int 8))))
  (je (cg 5))
  jk)
  (j7 (sIf (fj (mOp eqO (cg 3) (aq (.int 8))))
  (je (j8 (fun l=>some (.tup l)) (ak (aq (.str "not")) (ak (j8 (fun l=>some (.tup l)) (ak (mOp gb (j8 (fun l=>some (.lst l)) (ak (aq (.str "and")) (ak (aq (.str "or")) gq))) (dj gk (ak (cg 0) (ak (aq (.int 2)) gq)))) (ak (mOp gb (cg 5) (aq (.int 1))) gq))) gq))))
  jk)
  (j7 (sIf (fj (mOp eqO (cg 3) (aq (.int 9))))
  (je (j8 (fun l=>some (.tup l)) (ak (mOp gb (j8 (fun l=>some (.lst l)) (ak (aq (.str "and")) (ak (aq (.str "or")) gq))) (dj gk (ak (cg 0) (ak (aq (.int 2)) gq)))) (ak (j8 (fun l=>some (.tup l)) (ak (j8 (fun l=>some (.tup l)) (ak (aq (.str "not")) (ak (cg 5) gq))) (ak (dj qp (ak (cg 0) (ak (cg 1) (ak (cg 2) gq)))) gq))) gq))))
  jk)
  (j7 (ji 6 (j8 wz (ak (yq 1 [0,1,2] (hName 0) (fu (mOp jr (aq (.int 1)) (dj gk (ak (cg 0) (ak (aq (.int 3)) gq))))) iu (dj qp (ak (cg 1) (ak (cg 2) (ak (cg 3) gq))))) gq)))
  (je (j8 (fun l=>some (.tup l)) (ak (mOp gb (j8 (fun l=>some (.lst l)) (ak (aq (.str "and")) (ak (aq (.str "or")) gq))) (dj gk (ak (cg 0) (ak (aq (.int 2)) gq)))) (ak (mOp jr (mOp gb (cg 5) (aq (.int 1))) (cg 6)) gq))))))))))))))
noncomputable def Az:Fn:=gw 7
  (j7 (sNew 3 (j8 (fun l=>some (.lst l)) gq))
  (j7 (jo (hName 4) (fu (cg 2))
  (j7 (ji 5 (mOp jw (dj gk (ak (cg 0) (ak (aq (.int 4)) gq))) (aq (.int 2))))
  (j7 (sIf (fj (mOp eqO (dj gk (ak (cg 0) (ak (aq (.int 9)) gq))) (aq (.int 8))))
  (ji 5 (mOp jw (dj gk (ak (cg 0) (ak (mOp jw (mOp Jj (aq (.int 2)) (mOp Tc (aq (.int 10)) (aq (.int 30)))) (aq (.int 9))) gq))) (mOp Tc (aq (.int 10)) (aq (.int 30)))))
  jk)
  (j7 (ji 6 (mOp jr (cg 5) (dj gk (ak (cg 0) (ak (aq (.int 3)) gq)))))
  (cj 3 (j8 (fun l=>some (.tup l)) (ak (dj vd (ak (cg 1) (ak (cg 4) gq))) (ak (aq (.str "")) (ak (cg 5) (ak (cg 6) (ak (mOp jr (cg 5) (dj gk (ak (cg 0) (ak (mOp jr (mOp jw (cg 6) (cg 5)) (aq (.int 1))) gq)))) gq)))))))))))
  (je (cg 3))))
noncomputable def Bd:Fn:=gw 11
  (j7 (sGo (jt [3,4]) (mOp gb (cg 2) (dj gk (ak (cg 0) (ak (j8 ju (ak (cg 2) gq)) gq)))))
  (j7 (ji 5 (dj gk (ak (cg 0) (ak (cg 4) gq))))
  (j7 (ji 6 (dj gk (ak (cg 0) (ak (cg 4) gq))))
  (j7 (ji 7 (dj Ac (ak (cg 0) (ak (cg 1) (ak (cg 2) gq)))))
  (j7 (sNew 8 (j8 (fun l=>some (.lst l)) gq))
  (j7 (jo (hName 9) (jl (j8 Dd (ak (cg 1) gq)))
  (j7 (ji 10 (dj gk (ak (cg 0) (ak (aq (.int 5)) gq))))
  (j7 (sIf (fj (mOp eqO (cg 10) (aq (.int 0))))
  (cj 8 (j8 (fun l=>some (.tup l)) (ak (cg 9) (ak (dj Aj (ak (cg 0) (ak (cg 1) gq))) gq))))
  jk)
  (sIf (fj (mOp eqO (cg 10) (aq (.int 1))))
  (cj 8 (j8 (fun l=>some (.tup l)) (ak (cg 9) (ak (j8 (fun l=>some (.tup l)) (ak (mOp jw (dj gk (ak (cg 0) (ak (aq (.int 3)) gq))) (aq (.int 1))) (ak (j8 (fun l=>some (.tup l)) (ak (j8 (fun l=>some (.tup l)) (ak (cg 9) (ak (aq (.int 1)) gq))) gq)) gq))) gq))))
  jk))))
  (je (j8 (fun l=>some (.tup l)) (ak (cg 3) (ak (cg 5) (ak (cg 7) (ak (j8 wz (ak (cg 8) gq)) (ak (cg 6) gq)))))))))))))
noncomputable def Ah:Fn:=gw 11
  (j7 (ji 2 (mOp jy (mOp iy (dj qd (ak (cg 0) (ak (aq (.int 0)) gq))) (aq (.int 5))) (aq (.int 2))))
  (j7 (ji 3 (dj qd (ak (cg 0) (ak (aq (.int 1)) gq))))
  (j7 (ji 4 (Fe (ak (dj qd (ak (cg 0) (ak (aq (.int 2)) gq))) (ak (cg 2) gq))))
  (j7 (ji 5 (mOp jr (aq (.int 1)) (dj gk (ak (cg 4) (ak (aq (.int 3)) gq)))))
  (j7 (sNew 6 (j8 (fun l=>some (.lst l)) gq))
  (j7 (jo (hName 7) (fu (cg 5))
  (cj 6 (j8 (fun l=>some (.tup l)) (ak (dj vd (ak (cg 3) (ak (mOp jr (aq (.int 5)) (cg 7)) gq))) (ak (mOp jr (aq (.int 1)) (dj gk (ak (cg 4) (ak (mOp gb (j8 (fun l=>some (.lst l)) (ak (aq (.int 4)) (ak (aq (.int 4)) (ak (aq (.int 2)) gq)))) (mOp jw (cg 5) (aq (.int 1)))) gq)))) gq)))))
  (j7 (ji 8 (dj Az (ak (cg 4) (ak (cg 3) (ak (dj gk (ak (cg 4) (ak (aq (.int 3)) gq))) gq)))))
  (j7 (ji 9 (yq 1 [] (hName 0) (jl (cg 8)) iu (mOp gb (cg 0) (aq (.int 0)))))
  (j7 (ji 10 (yq 1 [9,6,2] (hName 0) (jl (Gs (cg 0) (J4 (aq (.int 3))) (J4 (mOp jr (aq (.int 3)) (cg 1))))) iu (dj Bd (ak (Fe (ak (cg 0) (ak (cg 3) gq))) (ak (cg 1) (ak (cg 2) gq))))))
  (je (j8 (fun l=>some (.tup l)) (ak (cg 8) (ak (cg 6) (ak (cg 10) (ak (j8 (fun l=>some (.tup l)) gq) gq)))))))))))))))
noncomputable def ql:Fn:=gw 2
  (je (mOp jr (mOp gb (cg 0) (aq (.int 0))) (j8 Ys (ak (yq 2 [1] (jt [0,1]) (jl (mOp gb (cg 0) (aq (.int 1)))) iu (mOp Jj (cg 1) (mOp gb (cg 2) (cg 0)))) gq))))
mutual
noncomputable def jx:Nat→Fn
  | 0=>fun _ _=>none
  | n + 1=>gw 4
      (j7 (sIf (fj (mOp eqO (mOp gb (cg 0) (aq (.int 0))) (aq (.str "most"))))
      (je (mOp leT (dj ql (ak (mOp gb (cg 0) (aq (.int 1))) (ak (cg 1) gq))) (aq (.int 0))))
      jk)
      (j7 (sIf (fj (mOp eqO (mOp gb (cg 0) (aq (.int 0))) (aq (.str "rest"))))
      (je (mOp eqO (mOp jy (dj ql (ak (mOp gb (cg 0) (aq (.int 1))) (ak (cg 1) gq))) (mOp gb (cg 0) (aq (.int 2)))) (aq (.int 0))))
      jk)
      (j7 (sIf (fj (mOp eqO (mOp gb (cg 0) (aq (.int 0))) (aq (.str "at"))))
      (je (mOp eqO (mOp gb (cg 2) (mOp gb (cg 0) (aq (.int 1)))) (mOp gb (cg 0) (aq (.int 2)))))
      jk)
      (j7 (sIf (fj (mOp eqO (mOp gb (cg 0) (aq (.int 0))) (aq (.str "not"))))
      (je (j5 (jz (fj (dj (jx n) (ak (mOp gb (cg 0) (aq (.int 1))) (ak (cg 1) (ak (cg 2) gq))))))))
      jk)
      (j7 (ji 3 (yq 1 [1,2] (hName 0) (jl (mOp gb (cg 0) (aq (.int 1)))) iu (dj (jx n) (ak (cg 0) (ak (cg 1) (ak (cg 2) gq))))))
      (je (mIf (fj (mOp eqO (mOp gb (cg 0) (aq (.int 0))) (aq (.str "and")))) (mOp Rr (aq (.bl false)) (cg 3)) (mOp inT (aq (.bl true)) (cg 3)))))))))
end
noncomputable def Bo:Fn:=gw 1
  (je (j8 (fun l=>some (.tup l)) (ak (j8 wz (ak (mOp Uo (j8 (fun l=>some (.lst l)) (ak (aq (.int 0)) gq)) (j8 ju (ak (mOp gb (cg 0) (aq (.int 1))) gq))) gq)) (ak (j8 wz (ak (yq 1 [] (hName 0) (jl (mOp gb (cg 0) (aq (.int 0)))) iu (mOp gb (cg 0) (aq (.int 4)))) gq)) gq))))
noncomputable def zj:Fn:=gw 13
  (j7 (sGo (jt [3,4,5,6,7]) (mOp gb (mOp gb (cg 0) (aq (.int 2))) (cg 2)))
  (j7 (sNew 8 (mOp Gf (yq 1 [] (hName 0) (jl (mOp gb (cg 0) (aq (.int 1)))) iu (mOp gb (cg 0) (aq (.int 0)))) (mOp gb (cg 1) (aq (.int 0)))))
  (j7 (ji 9 (mOp Gf (yq 1 [] (hName 0) (jl (mOp gb (cg 0) (aq (.int 0)))) iu (mOp gb (cg 0) (aq (.int 0)))) (mOp gb (cg 1) (aq (.int 1)))))
  (j7 (sIf (Nb [8] (mOr (fj (mOp neO (yc 8 (cg 3)) (cg 4))) (jz (fj (dj (jx 40) (ak (cg 5) (ak (cg 9) (ak (cg 8) gq))))))))
  (je (aq .non))
  jk)
  (j7 (sNew 10 (j8 Dh (ak (cg 9) gq)))
  (j7 (jo (jt [11,12]) (jl (cg 6))
  (Es 10 (cg 11) (dj ql (ak (cg 12) (ak (cg 9) gq)))))
  (j7 (jo (hName 11) (jl (mOp gb (cg 0) (aq (.int 0))))
  (sIf (mOr (fj (mOp ltT (yc 10 (mOp gb (cg 11) (aq (.int 0)))) (mOp gb (cg 11) (aq (.int 2))))) (fj (mOp gtT (yc 10 (mOp gb (cg 11) (aq (.int 0)))) (mOp gb (cg 11) (aq (.int 3))))))
  (je (aq .non))
  jk))
  (j7 (Es 8 (cg 3) (cg 7))
  (je (j8 (fun l=>some (.tup l)) (ak (j8 wz (ak (yq 1 [8] (hName 0) (jl (mOp gb (cg 0) (aq (.int 1)))) iu (mOp gb (cg 1) (mOp gb (cg 0) (aq (.int 0))))) gq)) (ak (j8 wz (ak (yq 1 [10] (hName 0) (jl (mOp gb (cg 0) (aq (.int 0)))) iu (mOp gb (cg 1) (mOp gb (cg 0) (aq (.int 0))))) gq)) gq))))))))))))
noncomputable def Di:Fn:=gw 2
  (je (yq 1 [0,1] (hName 0) (fu (j8 ju (ak (mOp gb (cg 0) (aq (.int 2))) gq))) (fj (mOp Gq (dj zj (ak (cg 1) (ak (cg 2) (ak (cg 0) gq)))) (aq .non))) (cg 0)))
noncomputable def qb:Fn:=gw 3
  (j7 (sIf (mOr (jz (fj (j8 isTup (ak (cg 0) gq)))) (fj (mOp neO (j8 ju (ak (cg 0) gq)) (aq (.int 2)))))
  (je (aq (.bl false)))
  jk)
  (j7 (sIf (mOr (jz (fj (j8 isTup (ak (mOp gb (cg 0) (aq (.int 0))) gq)))) (jz (fj (j8 isTup (ak (mOp gb (cg 0) (aq (.int 1))) gq)))))
  (je (aq (.bl false)))
  jk)
  (j7 (sIf (mOr (fj (mOp neO (j8 ju (ak (mOp gb (cg 0) (aq (.int 0))) gq)) (j8 ju (ak (mOp gb (cg 1) (aq (.int 1))) gq)))) (fj (mOp neO (j8 ju (ak (mOp gb (cg 0) (aq (.int 1))) gq)) (j8 ju (ak (mOp gb (cg 1) (aq (.int 0))) gq)))))
  (je (aq (.bl false)))
  jk)
  (j7 (jo (hName 2) (jl (mOp jr (mOp gb (cg 0) (aq (.int 0))) (mOp gb (cg 0) (aq (.int 1)))))
  (sIf (mOr (jz (fj (j8 isInt (ak (cg 2) gq)))) (fj (j8 a5z (ak (cg 2) gq))))
  (je (aq (.bl false)))
  jk))
  (je (aq (.bl true)))))))
noncomputable def V8:Fn:=gw 11
  (j7 (ji 1 (dj Ah (ak (cg 0) (ak (aq (.int 12)) gq))))
  (j7 (ji 2 (j8 (fun l=>some (.tup l)) (ak (j8 Gd (ak (mOp gb (cg 1) (aq (.int 0))) gq)) (ak (j8 Gd (ak (mOp gb (cg 1) (aq (.int 1))) gq)) (ak (j8 Gd (ak (mOp gb (cg 1) (aq (.int 2))) gq)) (ak (j8 (fun l=>some (.tup l)) gq) gq))))))
  (j7 (ji 3 (dj Af (ak (cg 2) gq)))
  (j7 (sIf (mOr (jz (fj (dj qb (ak (cg 3) (ak (cg 1) gq))))) (fj (mOp neO (cg 3) (dj Bo (ak (cg 1) gq)))))
  (je (aq (.bl false)))
  jk)
  (j7 (ji 4 (dj Ra (ak (cg 2) (ak (cg 3) gq))))
  (j7 (ji 5 (j8 Gd (ak (cg 4) gq)))
  (j7 (jo (hName 6) (jl (mOp jr (j8 (fun l=>some (.lst l)) (ak (aq (.int 0)) gq)) (Gs (cg 0) (J4 (aq (.int 15))) (J4 (aq (.int 63))))))
  (j7 (ji 7 (dj Di (ak (cg 1) (ak (cg 3) gq))))
  (j7 (ji 8 (dj Ra (ak (cg 2) (ak (cg 3) gq))))
  (j7 (sIf (mOr (jz (fj (j8 Y7 (ak (cg 8) gq)))) (mOr (fj (mOp neO (cg 8) (cg 7))) (fj (mOp neO (cg 2) (cg 1)))))
  (je (aq (.bl false)))
  jk)
  (j7 (jo (hName 9) (jl (cg 8))
  (j7 (ji 10 (dj Gp (ak (cg 2) (ak (cg 3) (ak (cg 9) gq)))))
  (sIf (mOr (jz (fj (dj qb (ak (cg 10) (ak (cg 1) gq))))) (fj (mOp neO (cg 10) (dj zj (ak (cg 1) (ak (cg 3) (ak (cg 9) gq)))))))
  (je (aq (.bl false)))
  jk)))
  (j7 (sIf (fj (mOp eqO (cg 8) (j8 (fun l=>some (.lst l)) gq)))
  a6j
  jk)
  (ji 3 (dj Gp (ak (cg 2) (ak (cg 3) (ak (mOp gb (cg 8) (mOp jy (cg 6) (j8 ju (ak (cg 8) gq)))) gq)))))))))))
  (je (mOp eqO (cg 4) (cg 5))))))))))
end K
end
noncomputable section
set_option linter.all false
set_option maxRecDepth 100000
set_option autoImplicit false
namespace K
open C PySem
noncomputable abbrev scr (cs:List Int):T:=.lst (cs.map .int)
noncomputable def cell (cs:List Int) (k:Nat):Int:=cs.getD k 0
theorem a2d {cs:List Int} {k:Nat} {sto:List SO}:qd [scr cs,.int (k:Int)] sto = some (.int (cell cs k),sto):=by
  by_cases h:k < cs.length
  · have h1:((k:Int) < (cs.length:Int)):=by omega
    have h2:cs[k]? = some cs[k]:=List.getElem?_eq_getElem h
    simp [gw,j7,sIf,ji,sNew,je,jk,sNx,dg,sGo,bf,jo,cj,dh,j4,fj,jz,m5,mOr,j5,mIf,mOp,mUn,cg,j8,ak,gq,aq,j6,dj,bh,hName,jt,fu,jl,ltT,leT,ju,jr,jw,jy,iy,m6,m8,iz,iu,au,kh,qd,gb,ixI,h1,h2,cell,List.getD]
  · have h1:¬ ((k:Int) < (cs.length:Int)):=by omega
    have h2:cs[k]? = none:=List.getElem?_eq_none_iff.mpr (by omega)
    simp [gw,j7,sIf,ji,sNew,je,jk,sNx,dg,sGo,bf,jo,cj,dh,j4,fj,jz,m5,mOr,j5,mIf,mOp,mUn,cg,j8,ak,gq,aq,j6,dj,bh,hName,jt,fu,jl,ltT,leT,ju,jr,jw,jy,iy,m6,m8,iz,iu,au,kh,qd,gb,ixI,h1,h2,cell,List.getD]
theorem Xj {cs:List Int} {k:Nat} {i:Int} {sto:List SO} (h:i = (k:Int)):qd [scr cs,.int i] sto = some (.int (cell cs k),sto):=by
  rw [h]; exact a2d
noncomputable def a6k (so:SO):Prop:=(∃ a w,so = .lst [.int a,.int w])∨∃ a w c,so = .lst [.int a,.int w,.int c]
noncomputable def StO (sto:List SO):Prop:=∀ so∈sto,a6k so
theorem StO.set {sto:List SO} (h:StO sto) (n:Nat) {so:SO} (hs:a6k so):StO (sto.set n so):=fun x hx=>by
  rcases List.mem_or_eq_of_mem_set hx with z | z
  · exact h x z
  · subst z; exact hs
theorem a7z (a:Int):inT (.int a) (.lst [.int 0,.int (-1)]) = some (.bl (a == 0 || a == -1)):=by
  simp [inT,inL,eqD,dat,PyData.depth,PyData.eqv]
  rw [show ((0:Int) == a) = (a == 0) from Bool.beq_comm,show ((-1:Int) == a) = (a == -1) from Bool.beq_comm]
noncomputable def mixed (a:Int):Int:=(a % 2147483647 * 48271 + 1013) % 2147483629
theorem a4w {n:Nat} {many a w c:Int} {sto:List SO} (hn:n < sto.length) (hs:StO sto) (hm:0 < many) (hb:many.natAbs < fdl) (e:sto[n]? = some (.lst [.int a,.int w,.int c])) :
    ∃ r sto',gk [.obj n,.int many] sto = some (.int r,sto')∧0≤r∧r < many∧StO sto'∧sto'.length = sto.length:=by
  have lt:∀ x:Int,0≤x % many∧x % many < many:=fun x=>⟨Int.emod_nonneg _ (by omega),Int.emod_lt_of_pos _ hm⟩
  have S3:∀ a w c:Int,a6k (.lst [.int a,.int w,.int c]):=fun a w c=>.inr ⟨a,w,c,rfl⟩
  have b1:∀ x:Int,Kz (x % 2147483647) = true:=fun x=>by
    have:=Int.emod_nonneg x (show (2147483647:Int)≠0 by decide)
    have:=Int.emod_lt_of_pos x (show (0:Int) < 2147483647 by decide)
    simp only [Kz,decide_eq_true_eq]; omega
  have b2:Kz 69621 = true:=by decide
  unfold gk
  by_cases hw:w = 0
  · subst hw
    by_cases ha:(a == 0 || a == -1) = true
    · refine ⟨(mixed (c + 1013) * 69621 % 2147483587) / 11 % many,sto.set n (.lst [.int (mixed (c + 1013)),.int 1,.int c]),?_,(lt _).1,(lt _).2,hs.set n (S3 _ _ _),List.length_set⟩
      simp [gw,j7,sIf,ji,sNew,je,jk,sNx,dg,sGo,bf,jo,cj,dh,j4,fj,jz,m5,mOr,j5,mIf,mOp,mUn,cg,j8,ak,gq,aq,j6,dj,bh,hName,jt,fu,jl,ltT,leT,ju,jr,jw,jy,iy,m6,m8,iz,iu,au,kh,Ey,e,qe,Ca,ixI,a7z,ha,Fv,List.getElem?_set_self hn,Jj,b1,b2,hm,mixed]
    · refine ⟨a % many,sto.set n (.lst [.int (a / many),.int 0,.int c]),?_,(lt _).1,(lt _).2,hs.set n (S3 _ _ _),List.length_set⟩
      simp [gw,j7,sIf,ji,sNew,je,jk,sNx,dg,sGo,bf,jo,cj,dh,j4,fj,jz,m5,mOr,j5,mIf,mOp,mUn,cg,j8,ak,gq,aq,j6,dj,bh,hName,jt,fu,jl,ltT,leT,ju,jr,jw,jy,iy,m6,m8,iz,iu,au,kh,Ey,e,qe,Ca,ixI,a7z,ha,Fv,List.getElem?_set_self hn,hm,hb]
  · have hw':(w == 0) = false:=beq_eq_false_iff_ne.mpr hw
    refine ⟨(mixed a * 69621 % 2147483587) / 11 % many,sto.set n (.lst [.int (mixed a),.int w,.int c]),?_,(lt _).1,(lt _).2,hs.set n (S3 _ _ _),List.length_set⟩
    simp [gw,j7,sIf,ji,sNew,je,jk,sNx,dg,sGo,bf,jo,cj,dh,j4,fj,jz,m5,mOr,j5,mIf,mOp,mUn,cg,j8,ak,gq,aq,j6,dj,bh,hName,jt,fu,jl,ltT,leT,ju,jr,jw,jy,iy,m6,m8,iz,iu,au,kh,Ey,e,qe,Ca,ixI,hw',Fv,List.getElem?_set_self hn,Jj,b1,b2,hm,mixed]
theorem a6q {n:Nat} {many a w:Int} {sto:List SO} (hn:n < sto.length) (e:sto[n]? = some (.lst [.int a,.int w])):gk [.obj n,.int many] sto = gk [.obj n,.int many] (sto.set n (.lst [.int a,.int w,.int a])):=by
  have l2:(2:Nat) < lim:=by decide
  simp [gw,j7,sIf,ji,sNew,je,jk,sNx,dg,sGo,bf,jo,cj,dh,j4,fj,jz,m5,mOr,j5,mIf,mOp,mUn,cg,j8,ak,gq,aq,j6,dj,bh,hName,jt,fu,jl,ltT,leT,ju,jr,jw,jy,iy,m6,m8,iz,iu,au,kh,gk,Ey,e,qe,Ca,ixI,Ka,List.getElem?_set_self hn,l2]
theorem pick {n:Nat} {many:Int} {sto:List SO} (hn:n < sto.length) (hs:StO sto) (hm:0 < many) (hb:many.natAbs < fdl) :
    ∃ r sto',gk [.obj n,.int many] sto = some (.int r,sto')∧0≤r∧r < many∧StO sto'∧sto'.length = sto.length:=by
  have e:=List.getElem?_eq_getElem hn
  rcases hs _ (List.getElem_mem hn) with ⟨a,w,h⟩ | ⟨a,w,c,h⟩
  · rw [h] at e
    rw [a6q hn e]
    obtain ⟨r,sto',q1,q2,q3,q4,q5⟩:=a4w (many:=many) (by rw [List.length_set]; exact hn) (hs.set n (.inr ⟨a,w,a,rfl⟩)) hm hb (List.getElem?_set_self hn)
    exact ⟨r,sto',q1,q2,q3,q4,by rw [q5,List.length_set]⟩
  · rw [h] at e
    exact a4w hn hs hm hb e
end K
end
noncomputable section
set_option linter.all false
set_option maxRecDepth 100000
set_option autoImplicit false
namespace C
open PySem
theorem Lj {g:G} {e:M T} {nv:Nat} {cap:List Slot} (hcap:cap.map kh = cap) (P:List T→List T→List SO→Prop)
    (H:∀ t r acc sto,P (t :: r) acc sto→∀ pre:List Slot,pre.length = nv→∃ pre' u sto',pre'.length = nv∧g t ⟨pre ++ cap,sto⟩ = some ⟨pre' ++ cap,sto⟩∧e ⟨pre' ++ cap,sto⟩ = some (u,⟨pre' ++ cap,sto'⟩)∧P r (acc ++ [u]) sto') :
    ∀ (ts acc:List T) (pre:List Slot) (sto:List SO),pre.length = nv→acc.length + ts.length≤lim→P ts acc sto →
      ∃ us s',Dm g iu e ts ⟨pre ++ cap,sto⟩ acc = some (us,s')∧P [] us s'.sto
  | [],acc,pre,sto,hp,hl,p=>⟨acc,⟨pre ++ cap,sto⟩,by simp [Dm],p⟩
  | t :: r,acc,pre,sto,hp,hl,p=>by
    obtain ⟨pre',u,sto',p1,p2,p3,p4⟩:=H t r acc sto p pre hp
    have hlen:acc.length < lim:=by simp only [List.length_cons] at hl; omega
    obtain ⟨us,s',q1,q2⟩:=Lj hcap P H r (acc ++ [u]) (pre'.map kh) sto' (by simpa using p1) (by simp only [List.length_cons,List.length_append,List.length_nil] at hl ⊢; omega) p4
    refine ⟨us,s',?_,q2⟩
    rw [Dm,p2]
    dsimp only [iu]
    rw [p3]
    dsimp only
    rw [if_pos hlen,su]
    dsimp only
    rw [List.map_append,hcap,q1]
theorem Lk {g:G} {e:M T} {nv:Nat} {ci:List Nat} {it:M (List T)} {s:Sta} {r:Option (T × Sta)} (hF:yq nv ci g it iu e s = r) (ts:List T) (s1:Sta) (env cap:List Slot) (P:List T→List T→List SO→Prop) (hit:it s = some (ts,s1)) (henv:au ci s1.env = env) (hci:ci.map (fun i=>(env[i]?).getD none) = cap) (hcap:cap.map kh = cap) (hl:ts.length≤lim) (p:P ts [] s1.sto)
    (H:∀ t r acc sto,P (t :: r) acc sto→∀ pre:List Slot,pre.length = nv→∃ pre' u sto',pre'.length = nv∧g t ⟨pre ++ cap,sto⟩ = some ⟨pre' ++ cap,sto⟩∧e ⟨pre' ++ cap,sto⟩ = some (u,⟨pre' ++ cap,sto'⟩)∧P r (acc ++ [u]) sto') :
    ∃ us sto',r = some (.lst us,⟨env,sto'⟩)∧P [] us sto':=by
  obtain ⟨us,s',q1,q2⟩:=Lj hcap P H ts [] (List.replicate nv none) s1.sto (by simp) (by simpa using hl) p
  refine ⟨us,s'.sto,?_,q2⟩
  rw [← hF]
  unfold yq
  rw [hit]
  dsimp only
  rw [henv,hci,q1]
end C
namespace K
open C PySem
noncomputable def qs (n:Nat):Str:=⟨((List.replicate n ("q" : Str).cps.toList).flatten).toArray⟩
theorem a4a {j:Int} (h0:0≤j) (h1:j≤1000):Jj (.str "q") (.int j) = some (.str (qs j.toNat)):=by
  have hl:Str.length ("q" : Str)≤100:=by decide +kernel
  simp only [Jj]
  rw [if_pos ⟨h0,h1,hl⟩]; rfl
noncomputable def lt1 (i:Nat):Str:=⟨#[("abcdefghij" : Str).cps.toList.getD i 0]⟩
theorem a3w {i:Nat} (h:i < 10):gb (.str "abcdefghij") (.int (i:Int)) = some (.str (lt1 i)):=by
  match i,h with
  | 0,_=>rfl
  | 1,_=>rfl
  | 2,_=>rfl
  | 3,_=>rfl
  | 4,_=>rfl
  | 5,_=>rfl
  | 6,_=>rfl
  | 7,_=>rfl
  | 8,_=>rfl
  | 9,_=>rfl
noncomputable def nm (p i q:Nat):Str:=qs p ++ lt1 i ++ qs q
noncomputable def okN (x:Str):Prop:=okS x∧x.length < 40
theorem a72:∀ p,p < 8→∀ i,i < 10→∀ q,q < 8→okN (nm p i q)∧(qs p).length + (lt1 i).length < 20∧(qs p ++ lt1 i).length + (qs q).length < 40:=by
  unfold okN okS
  decide +kernel
noncomputable def wd (i:Nat):Str:=(["b","ab","abc","abcd","a","ba","aab","b1","bab","ab1"]:List Str).getD i "b"
theorem a75:∀ i,i < 10→okN (wd i):=by
  unfold okN okS
  decide +kernel
theorem a6r {i:Nat} (h:i < 10):gb (.lst [.str "b",.str "ab",.str "abc",.str "abcd",.str "a",.str "ba",.str "aab",.str "b1",.str "bab",.str "ab1"]) (.int (i:Int)) = some (.str (wd i)):=by
  match i,h with
  | 0,_=>rfl
  | 1,_=>rfl
  | 2,_=>rfl
  | 3,_=>rfl
  | 4,_=>rfl
  | 5,_=>rfl
  | 6,_=>rfl
  | 7,_=>rfl
  | 8,_=>rfl
  | 9,_=>rfl
noncomputable def nameOf (c k:Int):Str:=if c / 640 % 4 = 1 then wd (k % 10).toNat else nm (c / 8 % (1 + c % 8)).toNat ((3 * k + c / 64) % 10).toNat (c % 8 - c / 8 % (1 + c % 8)).toNat
theorem name {c k:Int} {sto:List SO}:vd [.int c,.int k] sto = some (.str (nameOf c k),sto)∧okN (nameOf c k):=by
  by_cases h4:c / 640 % 4 = 1
  · obtain ⟨i,hi,ei⟩:∃ i:Nat,i < 10∧k % 10 = (i:Int):=⟨(k % 10).toNat,by omega,by omega⟩
    have en:nameOf c k = wd i:=by unfold nameOf; rw [if_pos h4,ei]; rfl
    rw [en]
    refine ⟨?_,a75 i hi⟩
    simp [gw,j7,sIf,ji,sNew,je,jk,sNx,dg,sGo,bf,jo,cj,dh,j4,fj,jz,m5,mOr,j5,mIf,mOp,mUn,cg,j8,ak,gq,aq,j6,dj,bh,hName,jt,fu,jl,ltT,leT,ju,jr,jw,jy,iy,m6,m8,iz,iu,au,kh,vd,qe,h4,ei,a6r hi]
  · obtain ⟨z,hz,ez⟩:∃ z:Nat,z < 8∧c % 8 = (z:Int):=⟨(c % 8).toNat,by omega,by omega⟩
    have hs:(0:Int) < 1 + (z:Int):=by omega
    have p0:=Int.emod_nonneg (c / 8) (show (1 + (z:Int))≠0 by omega)
    have p1:=Int.emod_lt_of_pos (c / 8) hs
    obtain ⟨p,ep⟩:∃ p:Nat,c / 8 % (1 + (z:Int)) = (p:Int):=⟨(c / 8 % (1 + (z:Int))).toNat,by omega⟩
    have hp:p≤z:=by omega
    obtain ⟨i,hi,ei⟩:∃ i:Nat,i < 10∧(3 * k + c / 64) % 10 = (i:Int):=⟨((3 * k + c / 64) % 10).toNat,by omega,by omega⟩
    obtain ⟨o1,o2,o3⟩:=a72 p (by omega) i hi (z - p) (by omega)
    have en:nameOf c k = nm p i (z - p):=by
      unfold nameOf
      rw [if_neg h4,ez,ep,ei]
      congr 1
      omega
    rw [en]
    refine ⟨?_,o1⟩
    have hb:(c / 640 % 4 == 1) = false:=beq_eq_false_iff_ne.mpr h4
    have m1:=a4a (j:=(p:Int)) (by omega) (by omega)
    have m2:=a4a (j:=(z:Int) - (p:Int)) (by omega) (by omega)
    rw [Int.toNat_natCast] at m1
    rw [show ((z:Int) - (p:Int)).toNat = z - p by omega] at m2
    have b3:Kz 3 = true:=by decide
    have mi:Jj (.int 3) (.int k) = some (.int (3 * k)):=by simp [Jj,b3]
    have l1:(qs p).length + (lt1 i).length < lim:=by show _ < 1000000; omega
    have l2:(qs p ++ lt1 i).length + (qs (z - p)).length < lim:=by show _ < 1000000; omega
    simp [gw,j7,sIf,ji,sNew,je,jk,sNx,dg,sGo,bf,jo,cj,dh,j4,fj,jz,m5,mOr,j5,mIf,mOp,mUn,cg,j8,ak,gq,aq,j6,dj,bh,hName,jt,fu,jl,ltT,leT,ju,jr,jw,jy,iy,m6,m8,iz,iu,au,kh,vd,qe,hb,ez,hs,ep,m1,mi,ei,a3w hi,l1,show 1 + (z:Int) - 1 - (p:Int) = (z:Int) - (p:Int) by omega,m2,l2,nm]
theorem a1m (n:Nat):(qs n).cps.toList = List.replicate n 113:=by
  have e:("q" : Str).cps.toList = [113]:=by decide +kernel
  unfold qs
  rw [e]
  simp only
  induction n with
  | zero=>rfl
  | succ n ih=>simp [List.replicate_succ] at ih ⊢
noncomputable def ltc (i:Nat):Nat:=("abcdefghij" : Str).cps.toList.getD i 0
theorem a3d:∀ i,i < 10→∀ j,j < 10→ltc i = ltc j→i = j:=by decide +kernel
theorem a4y:∀ i,i < 10→∀ j,j < 10→wd i = wd j→i = j:=by decide +kernel
theorem a3y {p q i j:Nat} (hi:i < 10) (hj:j < 10) (h:nm p i q = nm p j q):i = j:=by
  have e:=congrArg (fun x:Str=>x.cps.toList[p]?) h
  have at1:∀ k,(nm p k q).cps.toList[p]? = some (ltc k):=fun k=>by
    have:(nm p k q).cps.toList = (qs p).cps.toList ++ [ltc k] ++ (qs q).cps.toList:=by
      show ((qs p).cps ++ #[ltc k] ++ (qs q).cps).toList = _
      simp
    rw [this,a1m]
    simp
  simp only [at1] at e
  exact a3d i hi j hj (Option.some.inj e)
theorem Ub {c:Int} {i j:Int} (hi:0≤i∧i < 10) (hj:0≤j∧j < 10) (h:nameOf c i = nameOf c j):i = j:=by
  unfold nameOf at h
  by_cases h1:c / 640 % 4 = 1
  · rw [if_pos h1,if_pos h1] at h
    have:=a4y _ (by omega) _ (by omega) h
    omega
  rw [if_neg h1,if_neg h1] at h
  have:=a3y (by omega) (by omega) h
  omega
theorem Tv (c:Int) (a n:Nat) (h:a + n≤10):((List.range n).map fun (k:Nat)=>nameOf c ((a:Int) + (k:Int))).Nodup:=by
  refine List.Pairwise.map _ ?_ (List.Pairwise.and_mem.mp List.nodup_range)
  intro i j ⟨hi,hj,hij⟩ e
  have hi':=List.mem_range.mp hi -- here
  have hj':=List.mem_range.mp hj -- here
  have:=Ub (by omega) (by omega) e
  exact hij (by omega)
noncomputable abbrev Sm:=Int × List (Str × Int)
noncomputable def pT (p:Str × Int):T:=.tup [.str p.1,.int p.2]
noncomputable def smT (s:Sm):T:=.tup [.int s.1,.tup (s.2.map pT)]
noncomputable def Yy (N:List Str) (s:Sm):Prop:=s.2.length≤N.length∧∀ p∈s.2,p.1∈N∧-4 < p.2∧p.2 < 4
noncomputable def Va (N:List Str):Prop:=N.length≤2∧∀ x∈N,okN x
theorem T3 {x y:Str}:∀ {l:List Str},y∈N6 x l→y = x∨y∈l
  | [],h=>by simp [N6] at h; exact .inl h
  | z :: l,h=>by
    unfold N6 at h
    split at h
    · rcases List.mem_cons.mp h with rfl | h -- here
      · exact .inl rfl
      · exact .inr h
    · rcases List.mem_cons.mp h with rfl | h -- here
      · exact .inr List.mem_cons_self
      · rcases T3 h with h | h
        · exact .inl h
        · exact .inr (List.mem_cons_of_mem _ h)
theorem S9 {x:Str}:∀ {l:List Str},(N6 x l).length = l.length + 1
  | []=>rfl
  | z :: l=>by unfold N6; split <;> simp [S9]
theorem Ci (l:List Str):∀ acc:List Str,(∀ y∈l.foldl (fun acc x=>N6 x acc) acc,y∈l∨y∈acc)∧(l.foldl (fun acc x=>N6 x acc) acc).length = l.length + acc.length:=by
  induction l with
  | nil=>intro acc; exact ⟨fun y h=>.inr h,by simp⟩
  | cons x l ih =>
    intro acc
    obtain ⟨h1,h2⟩:=ih (N6 x acc)
    refine ⟨fun y hy=>?_,by rw [List.foldl_cons,h2,S9,List.length_cons]; omega⟩
    rcases h1 y hy with h | h
    · exact .inl (List.mem_cons_of_mem _ h)
    · rcases T3 h with rfl | h
      · exact .inl List.mem_cons_self
      · exact .inr h
theorem Ou {l:List Str} {y:Str} (h:y∈Cg l):y∈l:=by
  rcases (Ci l []).1 y h with h | h
  · exact h
  · cases h
theorem Pj {l:List Str}:(Cg l).length = l.length:=by have:=(Ci l []).2; unfold Cg; simpa using this
theorem strs_map:∀ l:List Str,J3 (l.map T.str) = some l
  | []=>rfl
  | x :: l=>by simp [J3,strs_map l]
theorem sorted_strs {l:List Str} (h:l.length < 64):Dd [.lst (l.map T.str)] = some (.lst ((Cg l).map T.str)):=by
  simp [Dd,h,strs_map]
theorem a08 {n:Nat} {v:Int} (hn:n < 7) (h0:0≤v) (h1:v < 7):∃ t:Int,gb (.lst [.int 0,.int 0,.int 1,.int 1,.int (-1),.int 2,.int (v - 3)]) (.int (n:Int)) = some (.int t)∧-4 < t∧t < 4:=by
  match n,hn with
  | 0,_=>exact ⟨0,rfl,by omega,by omega⟩
  | 1,_=>exact ⟨0,rfl,by omega,by omega⟩
  | 2,_=>exact ⟨1,rfl,by omega,by omega⟩
  | 3,_=>exact ⟨1,rfl,by omega,by omega⟩
  | 4,_=>exact ⟨-1,rfl,by omega,by omega⟩
  | 5,_=>exact ⟨2,rfl,by omega,by omega⟩
  | 6,_=>exact ⟨v - 3,rfl,by omega,by omega⟩
theorem Xd {j:Int} (h0:0≤j) (h1:j < 1000000000000000000000000000000000):j.natAbs < fdl:=Nat.lt_trans (show j.natAbs < 1000000000000000000000000000000000 by omega) (by decide)
structure Dn (sto:List SO) (sto':List SO):Prop where
  ok:StO sto'
  len:sto.length≤sto'.length
theorem Bs {n:Nat} {many:Int} {sto:List SO} (hn:n < sto.length) (hs:StO sto) (hm:0 < many) (hb:many < 1000000000000000000000000000000000) :
    ∃ (r:Int) (sto':List SO),gk [.obj n,.int many] sto = some (.int r,sto')∧0≤r∧r < many∧StO sto'∧sto'.length = sto.length:=pick hn hs hm (Xd (by omega) hb)
noncomputable def SmO (N:List Str) (L:Nat) (t:T) (st:List SO):Prop:=∃ s,t = smT s∧Yy N s∧StO st∧st.length = L
theorem sum {n:Nat} {N:List Str} {sto:List SO} (hn:n < sto.length) (hs:StO sto) (okN:Va N) :
    Out (Aj [.obj n,.lst (N.map T.str)] sto) (SmO N sto.length):=by
  obtain ⟨r1,s1,p1,a1,b1,o1,l1⟩:=Bs (many:=5) hn hs (by decide) (by decide)
  obtain ⟨r2,s2,p2,a2,b2,o2,l2⟩:=Bs (many:=9) (by omega:n < s1.length) o1 (by decide) (by decide)
  have num:∃ (k:Int) (s3:List SO),StO s3∧s3.length = sto.length∧((j7 (ji 2 (mOp jw (dj gk (ak (cg 0) (ak (aq (.int 5)) gq))) (aq (.int 2))))
      (sIf (fj (mOp eqO (dj gk (ak (cg 0) (ak (aq (.int 9)) gq))) (aq (.int 8))))
      (ji 2 (mOp jw (dj gk (ak (cg 0) (ak (mOp jw (mOp Jj (aq (.int 2)) (mOp Tc (aq (.int 10)) (aq (.int 9)))) (aq (.int 1))) gq))) (mOp jw (mOp Tc (aq (.int 10)) (aq (.int 9))) (aq (.int 1)))))
      jk)):S) ⟨[some (.obj n,false),some (.lst (N.map T.str),false),none,none,none,none],sto⟩ = some (.next,⟨[some (.obj n,false),some (.lst (N.map T.str),false),some (.int k,false),none,none,none],s3⟩):=by
    by_cases h8:r2 = 8
    · obtain ⟨r3,s3,p3,a3,b3,o3,l3⟩:=Bs (n:=n) (many:=1999999999) (by omega:n < s2.length) o2 (by decide) (by decide)
      refine ⟨r3 - 999999999,s3,o3,by omega,?_⟩
      have bb:Kz 2 = true:=by decide
      subst h8
      simp [gw,j7,sIf,ji,sNew,je,jk,sNx,dg,sGo,bf,jo,cj,dh,j4,fj,jz,m5,mOr,j5,mIf,mOp,mUn,cg,j8,ak,gq,aq,j6,dj,bh,hName,jt,fu,jl,ltT,leT,ju,jr,jw,jy,iy,m6,m8,iz,iu,au,kh,p1,p2,qe,Tc,Jj,bb,p3]
    · have hb:(r2 == 8) = false:=beq_eq_false_iff_ne.mpr h8
      refine ⟨r1 - 2,s2,o2,by omega,?_⟩
      simp [gw,j7,sIf,ji,sNew,je,jk,sNx,dg,sGo,bf,jo,cj,dh,j4,fj,jz,m5,mOr,j5,mIf,mOp,mUn,cg,j8,ak,gq,aq,j6,dj,bh,hName,jt,fu,jl,ltT,leT,ju,jr,jw,jy,iy,m6,m8,iz,iu,au,kh,p1,p2,qe,hb]
  obtain ⟨k,s3,o3,l3,num⟩:=num
  have hN:(Cg N).length = N.length:=Pj
  have h2:=okN.1
  have nn:(Cg N).length < lim:=by show _ < 1000000; omega
  have so:=sorted_strs (l:=N) (by omega)
  unfold Aj gw
  rw [show ([T.obj n,.lst (N.map T.str)].map (fun t=>some (t,false)) ++ List.replicate (6 - [T.obj n,.lst (N.map T.str)].length) none:List Slot) = [some (.obj n,false),some (.lst (N.map T.str),false),none,none,none,none] from rfl,Tj num]
  simp [gw,j7,sIf,ji,sNew,je,jk,sNx,dg,sGo,bf,jo,cj,dh,j4,fj,jz,m5,mOr,j5,mIf,mOp,mUn,cg,j8,ak,gq,aq,j6,dj,bh,hName,jt,fu,jl,ltT,leT,ju,jr,jw,jy,iy,m6,m8,iz,iu,au,kh,so,nn]
  generalize hF:forL _ _ _ _ = r
  obtain ⟨s',rfl,P⟩:=Ew hF (fun ts s=>∃ (l:List Str) (acc:List (Str × Int)) (o4 o5:Slot) (st:List SO),ts = l.map T.str∧(∀ x∈l,x∈N)∧s = ⟨[some (.obj n,false),some (.lst (N.map T.str),false),some (.int k,false),some (.lst (acc.map pT),true),o4,o5],st⟩∧StO st∧st.length = sto.length∧acc.length + l.length≤N.length∧∀ p∈acc,p.1∈N∧-4 < p.2∧p.2 < 4)
    ⟨Cg N,[],none,none,s3,rfl,fun x hx=>Ou hx,rfl,o3,l3,by simp [hN],fun p hp=>by cases hp⟩ (by
      rintro t r s ⟨l,acc,o4,o5,st,e1,e2,rfl,e3,e4,e5,e6⟩
      cases l with
      | nil=>cases e1
      | cons x l =>
        cases e1
        have xN:=e2 x List.mem_cons_self
        obtain ⟨v,t1,q1,c1,d1,w1,m1⟩:=Bs (n:=n) (many:=7) (by omega:n < st.length) e3 (by decide) (by decide)
        obtain ⟨i,t2,q2,c2,d2,w2,m2⟩:=Bs (n:=n) (many:=7) (by omega:n < t1.length) w1 (by decide) (by decide)
        obtain ⟨ii,hi,ei⟩:∃ j:Nat,j < 7∧i = (j:Int):=⟨i.toNat,by omega,by omega⟩
        obtain ⟨tm,ht,g1,g2⟩:=a08 hi c1 d1
        rw [← ei] at ht
        simp only [List.length_cons] at e5
        have hl:acc.length < lim:=by show _ < 1000000; omega
        by_cases h0:tm = 0
        · refine ⟨_,⟨[some (.obj n,false),some (.lst (N.map T.str),false),some (.int k,false),some (.lst (acc.map pT),true),some (.str x,false),some (.int tm,false)],t2⟩,rfl,?_,l,acc,some (.str x,false),some (.int tm,false),t2,rfl,fun y hy=>e2 y (List.mem_cons_of_mem _ hy),rfl,w2,by omega,by omega,e6⟩
          subst h0
          simp [gw,j7,sIf,ji,sNew,je,jk,sNx,dg,sGo,bf,jo,cj,dh,j4,fj,jz,m5,mOr,j5,mIf,mOp,mUn,cg,j8,ak,gq,aq,j6,dj,bh,hName,jt,fu,jl,ltT,leT,ju,jr,jw,jy,iy,m6,m8,iz,iu,au,kh,q1,q2,ht,Hq]
        · have hb:(tm == 0) = false:=beq_eq_false_iff_ne.mpr h0
          refine ⟨_,⟨[some (.obj n,false),some (.lst (N.map T.str),false),some (.int k,false),some (.lst ((acc ++ [(x,tm)]).map pT),true),some (.str x,false),some (.int tm,false)],t2⟩,rfl,?_,l,acc ++ [(x,tm)],some (.str x,false),some (.int tm,false),t2,rfl,fun y hy=>e2 y (List.mem_cons_of_mem _ hy),rfl,w2,by omega,by rw [List.length_append,List.length_singleton]; omega,?_⟩
          · simp [gw,j7,sIf,ji,sNew,je,jk,sNx,dg,sGo,bf,jo,cj,dh,j4,fj,jz,m5,mOr,j5,mIf,mOp,mUn,cg,j8,ak,gq,aq,j6,dj,bh,hName,jt,fu,jl,ltT,leT,ju,jr,jw,jy,iy,m6,m8,iz,iu,au,kh,q1,q2,ht,Hq,hb,hl,pT]
          · intro p hp
            rcases List.mem_append.mp hp with z | z -- here
            · exact e6 p z
            · rw [List.mem_singleton] at z; subst z; exact ⟨xN,g1,g2⟩)
  obtain ⟨l,acc,o4,o5,st,e1,e2,rfl,e3,e4,e5,e6⟩:=P
  cases l with
  | cons _ _=>cases e1
  | nil =>
    simp [gw,j7,sIf,ji,sNew,je,jk,sNx,dg,sGo,bf,jo,cj,dh,j4,fj,jz,m5,mOr,j5,mIf,mOp,mUn,cg,j8,ak,gq,aq,j6,dj,bh,hName,jt,fu,jl,ltT,leT,ju,jr,jw,jy,iy,m6,m8,iz,iu,au,kh,wz]
    exact .of ⟨(k,acc),rfl,⟨by simpa using e5,e6⟩,e3,e4⟩
end K
end
noncomputable section
set_option linter.all false
set_option maxRecDepth 100000
set_option autoImplicit false
namespace K
open C PySem
noncomputable abbrev Hd:=Str × Int
noncomputable def hT (h:Hd):T:=.tup [.str h.1,.int h.2]
noncomputable def a3r (H:List Hd):Prop:=1≤H.length∧H.length≤3∧∀ h∈H,okN h.1∧1≤h.2∧h.2≤4
inductive Rem where
  | most (s:Sm) | rest (s:Sm) (m:Int) | pl (h:Str) (p:Int) | all (l:List Rem) | any (l:List Rem) | no (r:Rem)
mutual
noncomputable def vq:Rem→T
  | .most s=>.tup [.str "most",smT s]
  | .rest s m=>.tup [.str "rest",smT s,.int m]
  | .pl h p=>.tup [.str "at",.str h,.int p]
  | .all l=>.tup [.str "and",.tup (K9 l)]
  | .any l=>.tup [.str "or",.tup (K9 l)]
  | .no r=>.tup [.str "not",vq r]
noncomputable def K9:List Rem→List T
  | []=>[]
  | r :: l=>vq r :: K9 l
end
theorem Bu:∀ l:List Rem,K9 l = l.map vq
  | []=>rfl
  | r :: l=>by rw [K9,Bu l]; rfl
inductive OkR (N:List Str) (H:List Hd):Nat→Rem→Prop where
  | most {d:Nat} {s:Sm}:Yy N s→OkR N H d (.most s)
  | rest {d:Nat} {s:Sm} {m:Int}:Yy N s→2≤m→m≤12→OkR N H d (.rest s m)
  | pl {d:Nat} {h:Hd} {p:Int}:h∈H→0≤p→p < h.2→OkR N H d (.pl h.1 p)
  | all {d:Nat} {l:List Rem}:l.length≤5→(∀ r∈l,OkR N H d r)→OkR N H (d + 1) (.all l)
  | any {d:Nat} {l:List Rem}:l.length≤5→(∀ r∈l,OkR N H d r)→OkR N H (d + 1) (.any l)
  | no {d:Nat} {r:Rem}:OkR N H d r→OkR N H (d + 1) (.no r)
theorem OkR.up {N:List Str} {H:List Hd} {d:Nat} {r:Rem} (h:OkR N H d r):OkR N H (d + 1) r:=by
  induction h with
  | most h=>exact .most h
  | rest h a b=>exact .rest h a b
  | pl h a b=>exact .pl h a b
  | all h _ ih=>exact .all h ih
  | any h _ ih=>exact .any h ih
  | no _ ih=>exact .no ih
noncomputable def RmO (N:List Str) (H:List Hd) (d L:Nat) (t:T) (st:List SO):Prop:=∃ r,t = vq r∧OkR N H d r∧StO st∧st.length = L
theorem Np {α:Type} (h:α→T) (l:List α) {i:Int} (h0:0≤i) (h1:i < l.length):∃ a∈l,gb (.lst (l.map h)) (.int i) = some (h a):=P0 h l h0 h1
noncomputable section
variable {n:Nat} {N:List Str} {H:List Hd} {sto:List SO}
theorem simple (hn:n < sto.length) (hs:StO sto) (okn:Va N) (okh:a3r H):Out (qp [.obj n,.lst (N.map T.str),.lst (H.map hT)] sto) (RmO N H 0 sto.length):=by
  obtain ⟨r1,s1,p1,a1,b1,o1,l1⟩:=Bs (many:=4) hn hs (by decide) (by decide)
  unfold qp
  by_cases h0:r1 = 0
  · subst h0
    obtain ⟨hl1,hl2,hok⟩:=okh
    obtain ⟨r2,s2,p2,a2,b2,o2,l2⟩:=Bs (n:=n) (many:=(H.length:Int)) (by omega:n < s1.length) o1 (by omega) (by omega)
    obtain ⟨h,hm,hi⟩:=Np hT H a2 b2
    obtain ⟨k1,k2,k3⟩:=hok h hm
    obtain ⟨r3,s3,p3,a3,b3,o3,l3⟩:=Bs (n:=n) (many:=h.2) (by omega:n < s2.length) o2 (by omega) (by omega)
    simp [gw,j7,sIf,ji,sNew,je,jk,sNx,dg,sGo,bf,jo,cj,dh,j4,fj,jz,m5,mOr,j5,mIf,mOp,mUn,cg,j8,ak,gq,aq,j6,dj,bh,hName,jt,fu,jl,ltT,leT,ju,jr,jw,jy,iy,m6,m8,iz,iu,au,kh,p1,qe,p2,hi,hT,p3]
    exact .of ⟨.pl h.1 r3,rfl,.pl hm a3 b3,o3,by omega⟩
  · have hb:(r1 == 0) = false:=beq_eq_false_iff_ne.mpr h0
    obtain ⟨t,s2,p2,s,rfl,ok,o2,l2⟩:=sum (n:=n) (by omega:n < s1.length) o1 okn
    by_cases h1:r1 = 1
    · subst h1
      obtain ⟨r3,s3,p3,a3,b3,o3,l3⟩:=Bs (n:=n) (many:=11) (by omega:n < s2.length) o2 (by omega) (by omega)
      simp [gw,j7,sIf,ji,sNew,je,jk,sNx,dg,sGo,bf,jo,cj,dh,j4,fj,jz,m5,mOr,j5,mIf,mOp,mUn,cg,j8,ak,gq,aq,j6,dj,bh,hName,jt,fu,jl,ltT,leT,ju,jr,jw,jy,iy,m6,m8,iz,iu,au,kh,p1,qe,p2,p3]
      exact .of ⟨.rest s (2 + r3),rfl,.rest ok (by omega) (by omega),o3,by omega⟩
    · have hb1:(r1 == 1) = false:=beq_eq_false_iff_ne.mpr h1
      simp [gw,j7,sIf,ji,sNew,je,jk,sNx,dg,sGo,bf,jo,cj,dh,j4,fj,jz,m5,mOr,j5,mIf,mOp,mUn,cg,j8,ak,gq,aq,j6,dj,bh,hName,jt,fu,jl,ltT,leT,ju,jr,jw,jy,iy,m6,m8,iz,iu,au,kh,p1,qe,hb,hb1,p2]
      exact .of ⟨.most s,rfl,.most ok,o2,by omega⟩
theorem a3i {v:Int} (h0:0≤v) (h1:v < 2):(v = 0∧gb (.lst [.str "and",.str "or"]) (.int v) = some (.str "and"))∨(v = 1∧gb (.lst [.str "and",.str "or"]) (.int v) = some (.str "or")):=by
  have:v = 0∨v = 1:=by omega
  rcases this with rfl | rfl
  · exact .inl ⟨rfl,rfl⟩
  · exact .inr ⟨rfl,rfl⟩
noncomputable def either (v:Int) (l:List Rem):Rem:=if v = 0 then .all l else .any l
noncomputable def Ui (v:Int):Str:=if v = 0 then "and" else "or"
theorem Kh {v:Int} (h0:0≤v) (h1:v < 2):gb (.lst [.str "and",.str "or"]) (.int v) = some (.str (Ui v)):=by
  rcases a3i h0 h1 with ⟨rfl,h⟩ | ⟨rfl,h⟩ <;> exact h
theorem J9 {v:Int} {l:List Rem}:vq (either v l) = .tup [.str (Ui v),.tup (K9 l)]:=by
  unfold either Ui
  split <;> simp [vq]
theorem Eo {v:Int} {d:Nat} {l:List Rem} (h:l.length≤5) (h2:∀ r∈l,OkR N H d r):OkR N H (d + 1) (either v l):=by
  unfold either
  split
  · exact .all h h2
  · exact .any h h2
theorem remark (hn:n < sto.length) (hs:StO sto) (okn:Va N) (okh:a3r H):Out (Ac [.obj n,.lst (N.map T.str),.lst (H.map hT)] sto) (RmO N H 3 sto.length):=by
  obtain ⟨w,s1,p1,a1,b1,o1,l1⟩:=Bs (many:=11) hn hs (by decide) (by decide)
  unfold Ac
  by_cases h2:w < 2
  · simp [gw,j7,sIf,ji,sNew,je,jk,sNx,dg,sGo,bf,jo,cj,dh,j4,fj,jz,m5,mOr,j5,mIf,mOp,mUn,cg,j8,ak,gq,aq,j6,dj,bh,hName,jt,fu,jl,ltT,leT,ju,jr,jw,jy,iy,m6,m8,iz,iu,au,kh,p1,h2]
    exact .of ⟨.all [],by simp [vq,K9],.all (by simp) (fun r hr=>by cases hr),o1,by omega⟩
  obtain ⟨t1,s2,p2,x1,rfl,k1,o2,l2⟩:=simple (n:=n) (by omega:n < s1.length) o1 okn okh
  by_cases h5:w < 5
  · simp [gw,j7,sIf,ji,sNew,je,jk,sNx,dg,sGo,bf,jo,cj,dh,j4,fj,jz,m5,mOr,j5,mIf,mOp,mUn,cg,j8,ak,gq,aq,j6,dj,bh,hName,jt,fu,jl,ltT,leT,ju,jr,jw,jy,iy,m6,m8,iz,iu,au,kh,p1,h2,p2,h5]
    exact .of ⟨x1,rfl,k1.up.up.up,o2,by omega⟩
  by_cases e5:w = 5
  · subst e5
    simp [gw,j7,sIf,ji,sNew,je,jk,sNx,dg,sGo,bf,jo,cj,dh,j4,fj,jz,m5,mOr,j5,mIf,mOp,mUn,cg,j8,ak,gq,aq,j6,dj,bh,hName,jt,fu,jl,ltT,leT,ju,jr,jw,jy,iy,m6,m8,iz,iu,au,kh,p1,p2,qe]
    exact .of ⟨.no x1,by simp [vq],.no k1.up.up,o2,by omega⟩
  have n5:(w == 5) = false:=beq_eq_false_iff_ne.mpr e5
  obtain ⟨t3,s3,p3,x2,rfl,k2,o3,l3⟩:=simple (n:=n) (by omega:n < s2.length) o2 okn okh
  have m2:0≤w % 2∧w % 2 < 2:=by omega
  have we:=Kh m2.1 m2.2
  by_cases h8:w < 8
  · simp [gw,j7,sIf,ji,sNew,je,jk,sNx,dg,sGo,bf,jo,cj,dh,j4,fj,jz,m5,mOr,j5,mIf,mOp,mUn,cg,j8,ak,gq,aq,j6,dj,bh,hName,jt,fu,jl,ltT,leT,ju,jr,jw,jy,iy,m6,m8,iz,iu,au,kh,p1,h2,p2,h5,qe,n5,we,p3,h8]
    refine .of ⟨either (w % 2) [x1,x2],by rw [J9]; simp [K9],(Eo (d:=0) (by simp) ?_).up.up,o3,by omega⟩
    intro r hr
    simp only [List.mem_cons,List.not_mem_nil,or_false] at hr
    rcases hr with rfl | rfl
    · exact k1
    · exact k2
  by_cases e8:w = 8
  · subst e8
    obtain ⟨v,s4,p4,a4,b4,o4,l4⟩:=Bs (n:=n) (many:=2) (by omega:n < s3.length) o3 (by omega) (by omega)
    have wv:=Kh a4 b4
    simp [gw,j7,sIf,ji,sNew,je,jk,sNx,dg,sGo,bf,jo,cj,dh,j4,fj,jz,m5,mOr,j5,mIf,mOp,mUn,cg,j8,ak,gq,aq,j6,dj,bh,hName,jt,fu,jl,ltT,leT,ju,jr,jw,jy,iy,m6,m8,iz,iu,au,kh,p1,p2,qe,Kh (v:=0) (by decide) (by decide),p3,p4,wv,xq]
    refine .of ⟨.no (either v [x1,x2]),by simp [vq,J9,K9],.no (Eo (d:=0) (by simp) ?_).up,o4,by omega⟩
    intro r hr
    simp only [List.mem_cons,List.not_mem_nil,or_false] at hr
    rcases hr with rfl | rfl
    · exact k1
    · exact k2
  have n8:(w == 8) = false:=beq_eq_false_iff_ne.mpr e8
  by_cases e9:w = 9
  · subst e9
    obtain ⟨v,s4,p4,a4,b4,o4,l4⟩:=Bs (n:=n) (many:=2) (by omega:n < s3.length) o3 (by omega) (by omega)
    obtain ⟨t5,s5,p5,x3,rfl,k3,o5,l5⟩:=simple (n:=n) (by omega:n < s4.length) o4 okn okh
    have wv:=Kh a4 b4
    simp [gw,j7,sIf,ji,sNew,je,jk,sNx,dg,sGo,bf,jo,cj,dh,j4,fj,jz,m5,mOr,j5,mIf,mOp,mUn,cg,j8,ak,gq,aq,j6,dj,bh,hName,jt,fu,jl,ltT,leT,ju,jr,jw,jy,iy,m6,m8,iz,iu,au,kh,p1,p2,qe,Kh (v:=1) (by decide) (by decide),p3,p4,wv,p5]
    refine .of ⟨either v [.no (either 1 [x1,x2]),x3],by simp [vq,J9,K9],Eo (d:=2) (by simp) ?_,o5,by omega⟩
    intro r hr
    simp only [List.mem_cons,List.not_mem_nil,or_false] at hr
    rcases hr with rfl | rfl
    · refine .no (Eo (d:=0) (by simp) ?_)
      intro r hr
      simp only [List.mem_cons,List.not_mem_nil,or_false] at hr
      rcases hr with rfl | rfl
      · exact k1
      · exact k2
    · exact k3.up.up
  have n9:(w == 9) = false:=beq_eq_false_iff_ne.mpr e9
  have e10:w = 10:=by omega
  subst e10
  obtain ⟨m,s4,p4,a4,b4,o4,l4⟩:=Bs (n:=n) (many:=3) (by omega:n < s3.length) o3 (by omega) (by omega)
  have ml:(1 + m).natAbs < lim:=by show _ < 1000000; omega
  obtain ⟨us,s5,ec,l,e1,e2,o5,l5,k5⟩:=Lk (g:=hName 0) (nv:=1) (ci:=[0,1,2]) (it:=fu (mOp jr (aq (.int 1)) (dj gk (ak (cg 0) (ak (aq (.int 3)) gq))))) (e:=dj qp (ak (cg 1) (ak (cg 2) (ak (cg 3) gq))))
    (s:=⟨[some (.obj n,false),some (.lst (N.map T.str),false),some (.lst (H.map hT),false),some (.int 10,false),some (vq x1,false),some (.tup [.str (Ui 0),.tup [vq x1,vq x2]],false),none],s3⟩) rfl (rangeT (1 + m).toNat) ⟨[some (.obj n,false),some (.lst (N.map T.str),false),some (.lst (H.map hT),false),some (.int 10,false),some (vq x1,false),some (.tup [.str (Ui 0),.tup [vq x1,vq x2]],false),none],s4⟩
    [some (.obj n,false),some (.lst (N.map T.str),false),some (.lst (H.map hT),false),some (.int 10,false),some (vq x1,false),some (.tup [.str (Ui 0),.tup [vq x1,vq x2]],false),none] [some (.obj n,false),some (.lst (N.map T.str),false),some (.lst (H.map hT),false)]
    (fun ts acc st=>∃ l:List Rem,acc = l.map vq∧ts.length + l.length≤3∧StO st∧st.length = sto.length∧∀ r∈l,OkR N H 0 r)
    (by simp [gw,j7,sIf,ji,sNew,je,jk,sNx,dg,sGo,bf,jo,cj,dh,j4,fj,jz,m5,mOr,j5,mIf,mOp,mUn,cg,j8,ak,gq,aq,j6,dj,bh,hName,jt,fu,jl,ltT,leT,ju,jr,jw,jy,iy,m6,m8,iz,iu,au,kh,p4,ml]) rfl rfl rfl (by unfold rangeT; rw [List.length_map,List.length_range]; show _≤1000000; omega) ⟨[],rfl,by unfold rangeT; rw [List.length_map,List.length_range]; simp only [List.length_nil]; omega,o4,(by show s4.length = sto.length; omega),fun r hr=>by cases hr⟩ (by
      rintro t q acc st ⟨l,e1,e2,e3,e4,e5⟩ pre hp
      obtain ⟨a,rfl⟩:∃ a,pre = [a]:=by
        match pre,hp with
        | [a],_=>exact ⟨a,rfl⟩
      simp only [List.length_cons] at e2
      obtain ⟨t5,s6,p6,x3,rfl,k3,o6,l6⟩:=simple (n:=n) (by omega:n < st.length) e3 okn okh
      refine ⟨[some (t,false)],vq x3,s6,rfl,rfl,?_,l ++ [x3],by rw [e1]; simp,by rw [List.length_append,List.length_singleton]; omega,o6,by omega,fun r hr=>?_⟩
      · simp [gw,j7,sIf,ji,sNew,je,jk,sNx,dg,sGo,bf,jo,cj,dh,j4,fj,jz,m5,mOr,j5,mIf,mOp,mUn,cg,j8,ak,gq,aq,j6,dj,bh,hName,jt,fu,jl,ltT,leT,ju,jr,jw,jy,iy,m6,m8,iz,iu,au,kh,p6]
      · rcases List.mem_append.mp hr with z | z
        · exact e5 r z
        · rw [List.mem_singleton] at z; subst z; exact k3)
  simp only [List.length_nil,Nat.zero_add] at e2
  subst e1
  obtain ⟨v,s7,p7,a7,b7,o7,l7⟩:=Bs (n:=n) (many:=2) (by omega:n < s5.length) o5 (by omega) (by omega)
  have wv:=Kh a7 b7
  have l2l:l.length + 2 < lim:=by show _ < 1000000; omega
  simp [gw,j7,sIf,ji,sNew,je,jk,sNx,dg,sGo,bf,jo,cj,dh,j4,fj,jz,m5,mOr,j5,mIf,mOp,mUn,cg,j8,ak,gq,aq,j6,dj,bh,hName,jt,fu,jl,ltT,leT,ju,jr,jw,jy,iy,m6,m8,iz,iu,au,kh,p1,p2,qe,Kh (v:=0) (by decide) (by decide),p3,ec,wz,p7,wv,xq,l2l,Nat.add_comm]
  refine .of ⟨either v (x1 :: x2 :: l),by simp [J9,K9,Bu],(Eo (d:=0) (by simp; omega) ?_).up.up,o7,by omega⟩
  intro r hr
  simp only [List.mem_cons] at hr
  rcases hr with rfl | rfl | hr
  · exact k1
  · exact k2
  · exact k5 r hr
end
end K
end
noncomputable section
set_option linter.all false
set_option maxRecDepth 100000
set_option autoImplicit false
namespace C
open PySem
theorem Xz {i:Nat} {e:M T} {s s1:Sta} {t:T} (h:e s = some (t,s1)):ji i e s = some (.next,bh i t false s1):=by unfold ji; rw [h]
theorem a7h {c:M Bool} {a:S} {s s1:Sta} (h:c s = some (false,s1)):sIf c a jk s = some (.next,s1):=by unfold sIf; rw [h]; rfl
theorem a5y {g:G} {it:M (List T)} {b:S} {s s1 s2:Sta} {ts:List T} (h:it s = some (ts,s1)) (hf:forL g b ts s1 = some (.next,s2)):jo g it b s = some (.next,s2):=by unfold jo; rw [h]; exact hf
theorem p1 (pre:List Slot) (h:pre.length = 1):∃ a,pre = [a]:=by
  match pre,h with
  | [a],_=>exact ⟨a,rfl⟩
theorem p2 (pre:List Slot) (h:pre.length = 2):∃ a b,pre = [a,b]:=by
  match pre,h with
  | [a,b],_=>exact ⟨a,b,rfl⟩
end C
namespace K
open C PySem
structure Bx where
  nm:Str
  lo:Int
  hi:Int
  st:Int
noncomputable def bxT (b:Bx):T:=.tup [.str b.nm,.str "",.int b.lo,.int b.hi,.int b.st]
noncomputable def a6y (b:Bx):Prop:=okN b.nm∧b.lo≤b.st∧b.st≤b.hi∧b.hi≤b.lo + 2
noncomputable def BxO (c:Int) (L:Nat) (t:T) (st:List SO):Prop:=∃ l:List Bx,t = .lst (l.map bxT)∧l.length≤2∧(∀ b∈l,a6y b)∧l.map (·.nm) = (List.range l.length).map (fun (k:Nat)=>nameOf c (k:Int))∧StO st∧st.length = L
noncomputable section
variable {n:Nat} {N:List Str} {H:List Hd} {sto:List SO}
theorem a6z {c m:Int} (hn:n < sto.length) (hs:StO sto) (m0:0≤m) (m2:m < 3):Out (Az [.obj n,.int c,.int m] sto) (BxO c sto.length):=by
  have ml:m.natAbs < lim:=by show _ < 1000000; omega
  have c30:Tc (.int 10) (.int 30) = some (.int 1000000000000000000000000000000):=by simp [Tc]
  have bb:Kz 2 = true:=by decide
  unfold Az
  simp [gw,j7,sIf,ji,sNew,je,jk,sNx,dg,sGo,bf,jo,cj,dh,j4,fj,jz,m5,mOr,j5,mIf,mOp,mUn,cg,j8,ak,gq,aq,j6,dj,bh,hName,jt,fu,jl,ltT,leT,ju,jr,jw,jy,iy,m6,m8,iz,iu,au,kh,ml]
  generalize hF:forL _ _ _ _ = q
  obtain ⟨s',rfl,P⟩:=Ew hF (fun ts s=>∃ (l:List Bx) (r:Nat) (o4 o5 o6:Slot) (st:List SO),ts = (List.range' l.length r).map (fun (k:Nat)=>T.int (k:Int))∧l.map (·.nm) = (List.range l.length).map (fun (k:Nat)=>nameOf c (k:Int))∧r + l.length≤2∧s = ⟨[some (.obj n,false),some (.int c,false),some (.int m,false),some (.lst (l.map bxT),true),o4,o5,o6],st⟩∧StO st∧st.length = sto.length∧∀ b∈l,a6y b)
    ⟨[],m.toNat,none,none,none,sto,by unfold rangeT; rw [List.range_eq_range']; rfl,rfl,by simp only [List.length_nil]; omega,rfl,hs,rfl,fun b hb=>by cases hb⟩ (by
      rintro t q s ⟨l,r,o4,o5,o6,st,e0,en,e1,rfl,e2,e3,e4⟩
      obtain ⟨r,rfl⟩:∃ j,r = j + 1:=by
        cases r with
        | zero=>cases e0
        | succ j=>exact ⟨j,rfl⟩
      rw [List.range'_succ,List.map_cons] at e0
      injection e0 with e01 e02
      subst e01
      obtain ⟨k,hk⟩:∃ k:Int,(l.length:Int) = k:=⟨_,rfl⟩
      rw [hk]
      have ll:l.length < lim:=by show _ < 1000000; omega
      obtain ⟨r1,s1,q1,a1,b1,w1,l1⟩:=Bs (n:=n) (many:=4) (by omega:n < st.length) e2 (by decide) (by decide)
      obtain ⟨r2,s2,q2,a2,b2,w2,l2⟩:=Bs (n:=n) (many:=9) (by omega:n < s1.length) w1 (by decide) (by decide)
      obtain ⟨lo,s3,w3,l3,h3⟩:∃ (lo:Int) (s3:List SO),StO s3∧s3.length = sto.length∧(j7 (ji 5 (mOp jw (dj gk (ak (cg 0) (ak (aq (.int 4)) gq))) (aq (.int 2))))
          (sIf (fj (mOp eqO (dj gk (ak (cg 0) (ak (aq (.int 9)) gq))) (aq (.int 8))))
          (ji 5 (mOp jw (dj gk (ak (cg 0) (ak (mOp jw (mOp Jj (aq (.int 2)) (mOp Tc (aq (.int 10)) (aq (.int 30)))) (aq (.int 9))) gq))) (mOp Tc (aq (.int 10)) (aq (.int 30)))))
          jk):S) ⟨[some (.obj n,false),some (.int c,false),some (.int m,false),some (.lst (l.map bxT),true),some (.int k,false),o5,o6],st⟩ = some (.next,⟨[some (.obj n,false),some (.int c,false),some (.int m,false),some (.lst (l.map bxT),true),some (.int k,false),some (.int lo,false),o6],s3⟩):=by
        by_cases h8:r2 = 8
        · obtain ⟨r3,s3,q3,a3,b3,w3,l3⟩:=Bs (n:=n) (many:=1999999999999999999999999999991) (by omega:n < s2.length) w2 (by decide) (by decide)
          subst h8
          exact ⟨r3 - 1000000000000000000000000000000,s3,w3,by omega,by simp [gw,j7,sIf,ji,sNew,je,jk,sNx,dg,sGo,bf,jo,cj,dh,j4,fj,jz,m5,mOr,j5,mIf,mOp,mUn,cg,j8,ak,gq,aq,j6,dj,bh,hName,jt,fu,jl,ltT,leT,ju,jr,jw,jy,iy,m6,m8,iz,iu,au,kh,q1,q2,qe,c30,Jj,bb,q3]⟩
        · have hb:(r2 == 8) = false:=beq_eq_false_iff_ne.mpr h8
          exact ⟨r1 - 2,s2,w2,by omega,by simp [gw,j7,sIf,ji,sNew,je,jk,sNx,dg,sGo,bf,jo,cj,dh,j4,fj,jz,m5,mOr,j5,mIf,mOp,mUn,cg,j8,ak,gq,aq,j6,dj,bh,hName,jt,fu,jl,ltT,leT,ju,jr,jw,jy,iy,m6,m8,iz,iu,au,kh,q1,q2,qe,hb]⟩
      obtain ⟨r4,s4,q4,a4,b4,w4,l4⟩:=Bs (n:=n) (many:=3) (by omega:n < s3.length) w3 (by decide) (by decide)
      obtain ⟨q5,ox⟩:=name (c:=c) (k:=k) (sto:=s4)
      generalize hx:nameOf c k = x at *
      obtain ⟨r6,s6,q6,a6,b6,w6,l6⟩:=Bs (n:=n) (many:=lo + r4 - lo + 1) (by omega:n < s4.length) w4 (by omega) (by omega)
      refine ⟨_,⟨[some (.obj n,false),some (.int c,false),some (.int m,false),some (.lst ((l ++ [Bx.mk x lo (lo + r4) (lo + r6)]).map bxT),true),some (.int k,false),some (.int lo,false),some (.int (lo + r4),false)],s6⟩,rfl,?_,l ++ [⟨x,lo,lo + r4,lo + r6⟩],r,_,_,_,s6,by rw [List.length_append,List.length_singleton]; exact e02,by rw [List.map_append,en,List.length_append,List.length_singleton,List.range_succ,List.map_append,← hx,← hk]; rfl,by rw [List.length_append,List.length_singleton]; omega,rfl,w6,by omega,fun b hb=>?_⟩
      · show (j7 _ (j7 _ _):S) ⟨[some (.obj n,false),some (.int c,false),some (.int m,false),some (.lst (l.map bxT),true),some (.int k,false),o5,o6],st⟩ = _
        rw [Tj h3]
        simp [gw,j7,sIf,ji,sNew,je,jk,sNx,dg,sGo,bf,jo,cj,dh,j4,fj,jz,m5,mOr,j5,mIf,mOp,mUn,cg,j8,ak,gq,aq,j6,dj,bh,hName,jt,fu,jl,ltT,leT,ju,jr,jw,jy,iy,m6,m8,iz,iu,au,kh,q4,q5,q6,ll,bxT]
      · rcases List.mem_append.mp hb with z | z
        · exact e4 b z
        · rw [List.mem_singleton] at z; subst z; exact ⟨ox,by show lo≤lo + r6; omega,by show lo + r6≤lo + r4; omega,by show lo + r4≤lo + 2; omega⟩)
  obtain ⟨l,r,o4,o5,o6,st,e0,en,e1,rfl,e2,e3,e4⟩:=P
  exact .of ⟨l,rfl,by omega,e4,en,e2,e3⟩
structure Sp where
  hand:Str
  here:Int
  guard:Rem
  sets:List (Str × Sm)
  there:Int
noncomputable def seT (p:Str × Sm):T:=.tup [.str p.1,smT p.2]
noncomputable def spT (s:Sp):T:=.tup [.str s.hand,.int s.here,vq s.guard,.tup (s.sets.map seT),.int s.there]
structure OkP (N:List Str) (H:List Hd) (s:Sp):Prop where
  hd:okN s.hand
  mem:s.hand∈H.map (·.1)
  gd:OkR N H 3 s.guard
  len:s.sets.length≤2
  set:∀ p∈s.sets,p.1∈N∧Yy N p.2
noncomputable def SpO (N:List Str) (H:List Hd) (L:Nat) (t:T) (st:List SO):Prop:=∃ s,t = spT s∧OkP N H s∧StO st∧st.length = L
theorem step (hn:n < sto.length) (hs:StO sto) (okn:Va N) (okh:a3r H):Out (Bd [.obj n,.lst (N.map T.str),.lst (H.map hT)] sto) (SpO N H sto.length):=by
  obtain ⟨hl1,hl2,hok⟩:=okh
  obtain ⟨r2,s2,q2,a2,b2,o2,l2⟩:=Bs (n:=n) (many:=(H.length:Int)) hn hs (by omega) (by omega)
  obtain ⟨h,hm,hi⟩:=Np hT H a2 b2
  obtain ⟨k1,k2,k3⟩:=hok h hm
  obtain ⟨r3,s3,q3,a3,b3,o3,l3⟩:=Bs (n:=n) (many:=h.2) (by omega:n < s2.length) o2 (by omega) (by omega)
  obtain ⟨r4,s4,q4,a4,b4,o4,l4⟩:=Bs (n:=n) (many:=h.2) (by omega:n < s3.length) o3 (by omega) (by omega)
  obtain ⟨t5,s5,q5,g,rfl,kg,o5,l5⟩:=remark (n:=n) (by omega:n < s4.length) o4 okn ⟨hl1,hl2,hok⟩
  have hN:(Cg N).length = N.length:=Pj
  have h2:=okn.1
  have nn:(Cg N).length < lim:=by show _ < 1000000; omega
  have so:=sorted_strs (l:=N) (by omega)
  unfold Bd
  simp [gw,j7,sIf,ji,sNew,je,jk,sNx,dg,sGo,bf,jo,cj,dh,j4,fj,jz,m5,mOr,j5,mIf,mOp,mUn,cg,j8,ak,gq,aq,j6,dj,bh,hName,jt,fu,jl,ltT,leT,ju,jr,jw,jy,iy,m6,m8,iz,iu,au,kh,q2,hi,hT,q3,q4,q5,so,nn]
  generalize hF:forL _ _ _ _ = q
  obtain ⟨s',rfl,P⟩:=Ew hF (fun ts s=>∃ (m:List Str) (l:List (Str × Sm)) (o9 o10:Slot) (st:List SO),ts = m.map T.str∧(∀ x∈m,x∈N)∧m.length + l.length≤2∧s = ⟨[some (.obj n,false),some (.lst (N.map T.str),false),some (.lst (H.map hT),false),some (.str h.1,false),some (.int h.2,false),some (.int r3,false),some (.int r4,false),some (vq g,false),some (.lst (l.map seT),true),o9,o10],st⟩∧StO st∧st.length = sto.length∧∀ p∈l,p.1∈N∧Yy N p.2)
    ⟨Cg N,[],none,none,s5,rfl,fun x hx=>Ou hx,by simp only [List.length_nil]; omega,rfl,o5,by omega,fun p hp=>by cases hp⟩ (by
      rintro t q s ⟨m,l,o9,o10,st,e1,e2,e3,rfl,e4,e5,e6⟩
      cases m with
      | nil=>cases e1
      | cons x m =>
        cases e1
        have xN:=e2 x List.mem_cons_self
        simp only [List.length_cons] at e3
        have ll:l.length < lim:=by show _ < 1000000; omega
        obtain ⟨w,t1,q1,c1,d1,w1,m1⟩:=Bs (n:=n) (many:=5) (by omega:n < st.length) e4 (by decide) (by decide)
        by_cases h0:w = 0
        · subst h0
          obtain ⟨t2,s2,q2,y,rfl,ok,w2,m2⟩:=sum (n:=n) (by omega:n < t1.length) w1 okn
          refine ⟨_,⟨[some (.obj n,false),some (.lst (N.map T.str),false),some (.lst (H.map hT),false),some (.str h.1,false),some (.int h.2,false),some (.int r3,false),some (.int r4,false),some (vq g,false),some (.lst ((l ++ [(x,y)]).map seT),true),some (.str x,false),some (.int 0,false)],s2⟩,rfl,?_,m,l ++ [(x,y)],_,_,s2,rfl,fun z hz=>e2 z (List.mem_cons_of_mem _ hz),by rw [List.length_append,List.length_singleton]; omega,rfl,w2,by omega,fun p hp=>?_⟩
          · simp [gw,j7,sIf,ji,sNew,je,jk,sNx,dg,sGo,bf,jo,cj,dh,j4,fj,jz,m5,mOr,j5,mIf,mOp,mUn,cg,j8,ak,gq,aq,j6,dj,bh,hName,jt,fu,jl,ltT,leT,ju,jr,jw,jy,iy,m6,m8,iz,iu,au,kh,q1,qe,q2,ll,seT]
          · rcases List.mem_append.mp hp with z | z
            · exact e6 p z
            · rw [List.mem_singleton] at z; subst z; exact ⟨xN,ok⟩
        · have b0:(w == 0) = false:=beq_eq_false_iff_ne.mpr h0
          by_cases h1:w = 1
          · subst h1
            obtain ⟨v,s2,q2,a2,b2,w2,m2⟩:=Bs (n:=n) (many:=3) (by omega:n < t1.length) w1 (by decide) (by decide)
            refine ⟨_,⟨[some (.obj n,false),some (.lst (N.map T.str),false),some (.lst (H.map hT),false),some (.str h.1,false),some (.int h.2,false),some (.int r3,false),some (.int r4,false),some (vq g,false),some (.lst ((l ++ [(x,(v - 1,[(x,1)]))]).map seT),true),some (.str x,false),some (.int 1,false)],s2⟩,rfl,?_,m,l ++ [(x,(v - 1,[(x,1)]))],_,_,s2,rfl,fun z hz=>e2 z (List.mem_cons_of_mem _ hz),by rw [List.length_append,List.length_singleton]; omega,rfl,w2,by omega,fun p hp=>?_⟩
            · simp [gw,j7,sIf,ji,sNew,je,jk,sNx,dg,sGo,bf,jo,cj,dh,j4,fj,jz,m5,mOr,j5,mIf,mOp,mUn,cg,j8,ak,gq,aq,j6,dj,bh,hName,jt,fu,jl,ltT,leT,ju,jr,jw,jy,iy,m6,m8,iz,iu,au,kh,q1,qe,q2,ll,seT,smT,pT]
            · rcases List.mem_append.mp hp with z | z
              · exact e6 p z
              · rw [List.mem_singleton] at z; subst z
                refine ⟨xN,List.length_pos_of_mem xN,fun p hp=>?_⟩
                simp only [List.mem_singleton] at hp
                subst hp
                exact ⟨xN,by show (-4:Int) < 1; decide,by show (1:Int) < 4; decide⟩
          · have b1:(w == 1) = false:=beq_eq_false_iff_ne.mpr h1
            refine ⟨_,⟨[some (.obj n,false),some (.lst (N.map T.str),false),some (.lst (H.map hT),false),some (.str h.1,false),some (.int h.2,false),some (.int r3,false),some (.int r4,false),some (vq g,false),some (.lst (l.map seT),true),some (.str x,false),some (.int w,false)],t1⟩,rfl,?_,m,l,_,_,t1,rfl,fun z hz=>e2 z (List.mem_cons_of_mem _ hz),by omega,rfl,w1,by omega,e6⟩
            simp [gw,j7,sIf,ji,sNew,je,jk,sNx,dg,sGo,bf,jo,cj,dh,j4,fj,jz,m5,mOr,j5,mIf,mOp,mUn,cg,j8,ak,gq,aq,j6,dj,bh,hName,jt,fu,jl,ltT,leT,ju,jr,jw,jy,iy,m6,m8,iz,iu,au,kh,q1,qe,b0,b1])
  obtain ⟨m,l,o9,o10,st,e1,e2,e3,rfl,e4,e5,e6⟩:=P
  simp [gw,j7,sIf,ji,sNew,je,jk,sNx,dg,sGo,bf,jo,cj,dh,j4,fj,jz,m5,mOr,j5,mIf,mOp,mUn,cg,j8,ak,gq,aq,j6,dj,bh,hName,jt,fu,jl,ltT,leT,ju,jr,jw,jy,iy,m6,m8,iz,iu,au,kh,wz]
  exact .of ⟨⟨h.1,r3,g,l,r4⟩,rfl,⟨k1,List.mem_map.mpr ⟨h,hm,rfl⟩,kg,by show l.length≤2; omega,e6⟩,e4,e5⟩
noncomputable def prT (bs:List Bx) (H:List Hd) (ss:List Sp):T:=.tup [.lst (bs.map bxT),.lst (H.map hT),.lst (ss.map spT),.tup []]
structure Kv (bs:List Bx) (H:List Hd) (ss:List Sp):Prop where
  ndB:(bs.map (·.nm)).Nodup
  ndH:(H.map (·.1)).Nodup
  ns:Va (bs.map (·.nm))
  bx:∀ b∈bs,a6y b
  hs:a3r H
  ss:∀ s∈ss,OkP (bs.map (·.nm)) H s
noncomputable def PrO (k:Nat) (t:T) (st:List SO):Prop:=∃ bs H ss,t = prT bs H ss∧Kv bs H ss∧ss.length≤k∧StO st
theorem StO.add {sto:List SO} (h:StO sto) {so:SO} (hs:a6k so):StO (sto ++ [so]):=fun x hx=>by
  rcases List.mem_append.mp hx with z | z
  · exact h x z
  · rw [List.mem_singleton] at z; subst z; exact hs
theorem a1j {m:Int} (h0:0 < m) (h1:m < 4):∃ p:Int,gb (.lst [.int 4,.int 4,.int 2]) (.int (m - 1)) = some (.int p)∧1≤p∧p≤4:=by
  have:m = 1∨m = 2∨m = 3:=by omega
  rcases this with rfl | rfl | rfl
  · exact ⟨4,rfl,by decide,by decide⟩
  · exact ⟨4,rfl,by decide,by decide⟩
  · exact ⟨2,rfl,by decide,by decide⟩
theorem program {cs:List Int} {k:Nat} (hc:cs.length≤63):Out (Ah [scr cs,.int (k:Int)] []) (PrO 63):=by
  have c0e:=Xj (cs:=cs) (k:=0) (i:=0) (sto:=[]) rfl
  have c1e:=Xj (cs:=cs) (k:=1) (i:=1) (sto:=[]) rfl
  have c2e:=Xj (cs:=cs) (k:=2) (i:=2) (sto:=[]) rfl
  generalize cell cs 0 = c0 at *
  generalize cell cs 1 = c at *
  generalize cell cs 2 = c2 at *
  obtain ⟨w,ew⟩:∃ w:Int,c0 / 5 % 2 = w:=⟨_,rfl⟩
  have s0:StO [.lst [.int c2,.int w]]:=fun x hx=>by rw [List.mem_singleton] at hx; subst hx; exact .inl ⟨_,_,rfl⟩
  obtain ⟨r5,s5,q5,a5,b5,o5,l5⟩:=Bs (n:=0) (many:=3) (by simp) s0 (by decide) (by decide)
  have l5':s5.length = 1:=l5
  have hm:(1 + r5).natAbs < lim:=by show _ < 1000000; omega
  unfold Ah gw
  rw [show ([scr cs,T.int (k:Int)].map (fun t=>some (t,false)) ++ List.replicate (11 - [scr cs,T.int (k:Int)].length) none:List Slot) = [some (scr cs,false),some (.int (k:Int),false),none,none,none,none,none,none,none,none,none] from rfl]
  rw [jq (s':=⟨[some (scr cs,false),some (.int (k:Int),false),some (.int w,false),none,none,none,none,none,none,none,none],[]⟩) (by simp [gw,j7,sIf,ji,sNew,je,jk,sNx,dg,sGo,bf,jo,cj,dh,j4,fj,jz,m5,mOr,j5,mIf,mOp,mUn,cg,j8,ak,gq,aq,j6,dj,bh,hName,jt,fu,jl,ltT,leT,ju,jr,jw,jy,iy,m6,m8,iz,iu,au,kh,c0e,ew])]
  rw [jq (s':=⟨[some (scr cs,false),some (.int (k:Int),false),some (.int w,false),some (.int c,false),none,none,none,none,none,none,none],[]⟩) (by simp [gw,j7,sIf,ji,sNew,je,jk,sNx,dg,sGo,bf,jo,cj,dh,j4,fj,jz,m5,mOr,j5,mIf,mOp,mUn,cg,j8,ak,gq,aq,j6,dj,bh,hName,jt,fu,jl,ltT,leT,ju,jr,jw,jy,iy,m6,m8,iz,iu,au,kh,c1e])]
  rw [jq (s':=⟨[some (scr cs,false),some (.int (k:Int),false),some (.int w,false),some (.int c,false),some (.obj 0,false),none,none,none,none,none,none],[.lst [.int c2,.int w]]⟩) (by simp [gw,j7,sIf,ji,sNew,je,jk,sNx,dg,sGo,bf,jo,cj,dh,j4,fj,jz,m5,mOr,j5,mIf,mOp,mUn,cg,j8,ak,gq,aq,j6,dj,bh,hName,jt,fu,jl,ltT,leT,ju,jr,jw,jy,iy,m6,m8,iz,iu,au,kh,c2e,Fe])]
  rw [jq (s':=⟨[some (scr cs,false),some (.int (k:Int),false),some (.int w,false),some (.int c,false),some (.obj 0,false),some (.int (1 + r5),false),none,none,none,none,none],s5⟩) (by simp [gw,j7,sIf,ji,sNew,je,jk,sNx,dg,sGo,bf,jo,cj,dh,j4,fj,jz,m5,mOr,j5,mIf,mOp,mUn,cg,j8,ak,gq,aq,j6,dj,bh,hName,jt,fu,jl,ltT,leT,ju,jr,jw,jy,iy,m6,m8,iz,iu,au,kh,q5])]
  rw [jq (s':=⟨[some (scr cs,false),some (.int (k:Int),false),some (.int w,false),some (.int c,false),some (.obj 0,false),some (.int (1 + r5),false),some (.lst [],true),none,none,none,none],s5⟩) rfl]
  obtain ⟨H,o7,s7,okH,ndH,o7s,l7,e7⟩:∃ (H:List Hd) (o7:Slot) (s7:List SO),a3r H∧(H.map (·.1)).Nodup∧StO s7∧s7.length = 1∧jo (hName 7) (fu (cg 5))
      (cj 6 (j8 (fun l=>some (.tup l)) (ak (dj vd (ak (cg 3) (ak (mOp jr (aq (.int 5)) (cg 7)) gq))) (ak (mOp jr (aq (.int 1)) (dj gk (ak (cg 4) (ak (mOp gb (j8 (fun l=>some (.lst l)) (ak (aq (.int 4)) (ak (aq (.int 4)) (ak (aq (.int 2)) gq)))) (mOp jw (cg 5) (aq (.int 1)))) gq)))) gq))))
      ⟨[some (scr cs,false),some (.int (k:Int),false),some (.int w,false),some (.int c,false),some (.obj 0,false),some (.int (1 + r5),false),some (.lst [],true),none,none,none,none],s5⟩ = some (.next,⟨[some (scr cs,false),some (.int (k:Int),false),some (.int w,false),some (.int c,false),some (.obj 0,false),some (.int (1 + r5),false),some (.lst (H.map hT),true),o7,none,none,none],s7⟩):=by
    obtain ⟨mx,em,m1,m4⟩:=a1j (m:=1 + r5) (by omega) (by omega)
    have it:fu (cg 5) ⟨[some (scr cs,false),some (.int (k:Int),false),some (.int w,false),some (.int c,false),some (.obj 0,false),some (.int (1 + r5),false),some (.lst [],true),none,none,none,none],s5⟩ = some (rangeT (1 + r5).toNat,⟨[some (scr cs,false),some (.int (k:Int),false),some (.int w,false),some (.int c,false),some (.obj 0,false),some (.int (1 + r5),false),some (.lst [],true),none,none,none,none],s5⟩):=by simp [gw,j7,sIf,ji,sNew,je,jk,sNx,dg,sGo,bf,jo,cj,dh,j4,fj,jz,m5,mOr,j5,mIf,mOp,mUn,cg,j8,ak,gq,aq,j6,dj,bh,hName,jt,fu,jl,ltT,leT,ju,jr,jw,jy,iy,m6,m8,iz,iu,au,kh,hm]
    unfold jo
    rw [it]
    dsimp only
    generalize hF:forL _ _ _ _ = q
    obtain ⟨s',rfl,P⟩:=Ew hF (fun ts s=>∃ (H:List Hd) (r:Nat) (o7:Slot) (st:List SO),ts = (List.range' H.length r).map (fun (k:Nat)=>T.int (k:Int))∧H.map (·.1) = (List.range H.length).map (fun (k:Nat)=>nameOf c (((5:Nat):Int) + (k:Int)))∧r + H.length = (1 + r5).toNat∧s = ⟨[some (scr cs,false),some (.int (k:Int),false),some (.int w,false),some (.int c,false),some (.obj 0,false),some (.int (1 + r5),false),some (.lst (H.map hT),true),o7,none,none,none],st⟩∧StO st∧st.length = 1∧∀ h∈H,okN h.1∧1≤h.2∧h.2≤4)
      ⟨[],(1 + r5).toNat,none,s5,by unfold rangeT; rw [List.range_eq_range']; rfl,rfl,rfl,rfl,o5,l5',fun b hb=>by cases hb⟩ (by
        rintro t q s ⟨H,r,o7,st,e0,en,e1,rfl,e2,e3,e4⟩
        obtain ⟨r,rfl⟩:∃ j,r = j + 1:=by
          cases r with
          | zero=>cases e0
          | succ j=>exact ⟨j,rfl⟩
        rw [List.range'_succ,List.map_cons] at e0
        injection e0 with e01 e02
        subst e01
        obtain ⟨kk,hk⟩:∃ k:Int,(H.length:Int) = k:=⟨_,rfl⟩
        rw [hk]
        have ll:H.length < lim:=by show _ < 1000000; omega
        obtain ⟨qx,ox⟩:=name (c:=c) (k:=5 + kk) (sto:=st)
        generalize hx:nameOf c (5 + kk) = x at *
        obtain ⟨rr,s1,q1,a1,b1,w1,l1⟩:=Bs (n:=0) (many:=mx) (by omega:0 < st.length) e2 (by omega) (by omega)
        refine ⟨_,⟨[some (scr cs,false),some (.int (k:Int),false),some (.int w,false),some (.int c,false),some (.obj 0,false),some (.int (1 + r5),false),some (.lst ((H ++ [(x,1 + rr)]).map hT),true),some (.int kk,false),none,none,none],s1⟩,rfl,?_,H ++ [(x,1 + rr)],r,_,s1,by rw [List.length_append,List.length_singleton]; exact e02,by rw [List.map_append,en,List.length_append,List.length_singleton,List.range_succ,List.map_append,← hx,← hk]; rfl,by rw [List.length_append,List.length_singleton]; omega,rfl,w1,by omega,fun h hh=>?_⟩
        · simp [gw,j7,sIf,ji,sNew,je,jk,sNx,dg,sGo,bf,jo,cj,dh,j4,fj,jz,m5,mOr,j5,mIf,mOp,mUn,cg,j8,ak,gq,aq,j6,dj,bh,hName,jt,fu,jl,ltT,leT,ju,jr,jw,jy,iy,m6,m8,iz,iu,au,kh,qx,em,q1,ll,hT]
        · rcases List.mem_append.mp hh with z | z
          · exact e4 h z
          · rw [List.mem_singleton] at z; subst z; exact ⟨ox,by show 1≤1 + rr; omega,by show 1 + rr≤4; omega⟩)
    obtain ⟨H,r,o7,st,e0,en,e1,rfl,e2,e3,e4⟩:=P
    have r0:r = 0:=by
      cases r with
      | zero=>rfl
      | succ j=>rw [List.range'_succ] at e0; cases e0
    exact ⟨H,o7,st,⟨by omega,by omega,e4⟩,by rw [en]; exact Tv c 5 _ (by omega),e2,e3,rfl⟩
  rw [jq e7]
  obtain ⟨r8,s8,q8,a8,b8,w8,l8⟩:=Bs (n:=0) (many:=3) (by omega:0 < s7.length) o7s (by decide) (by decide)
  obtain ⟨t9,s9,q9,bs,rfl,bl,bok,bnm,w9,l9⟩:=a6z (n:=0) (c:=c) (m:=r8) (by omega:0 < s8.length) w8 a8 b8
  have ndB:(bs.map (·.nm)).Nodup:=by
    rw [bnm]
    have:=Tv c 0 bs.length (by omega)
    simpa using this
  rw [jq (s':=⟨[some (scr cs,false),some (.int (k:Int),false),some (.int w,false),some (.int c,false),some (.obj 0,false),some (.int (1 + r5),false),some (.lst (H.map hT),true),o7,some (.lst (bs.map bxT),false),none,none],s9⟩) (by simp [gw,j7,sIf,ji,sNew,je,jk,sNx,dg,sGo,bf,jo,cj,dh,j4,fj,jz,m5,mOr,j5,mIf,mOp,mUn,cg,j8,ak,gq,aq,j6,dj,bh,hName,jt,fu,jl,ltT,leT,ju,jr,jw,jy,iy,m6,m8,iz,iu,au,kh,q8,q9])]
  clear bnm
  have bll:bs.length < lim:=by show _ < 1000000; omega
  have cb:=vm bxT (fun b=>T.str b.nm) bs (g:=hName 0) (nv:=1) (ci:=[]) (c:=iu) (it:=jl (cg 8)) (e:=mOp gb (cg 0) (aq (.int 0))) (s:=⟨[some (scr cs,false),some (.int (k:Int),false),some (.int w,false),some (.int c,false),some (.obj 0,false),some (.int (1 + r5),false),some (.lst (H.map hT),true),o7,some (.lst (bs.map bxT),false),none,none],s9⟩) (s1:=⟨[some (scr cs,false),some (.int (k:Int),false),some (.int w,false),some (.int c,false),some (.obj 0,false),some (.int (1 + r5),false),some (.lst (H.map hT),true),o7,some (.lst (bs.map bxT),false),none,none],s9⟩) [some (scr cs,false),some (.int (k:Int),false),some (.int w,false),some (.int c,false),some (.obj 0,false),some (.int (1 + r5),false),some (.lst (H.map hT),true),o7,some (.lst (bs.map bxT),false),none,none] []
    (by simp [gw,j7,sIf,ji,sNew,je,jk,sNx,dg,sGo,bf,jo,cj,dh,j4,fj,jz,m5,mOr,j5,mIf,mOp,mUn,cg,j8,ak,gq,aq,j6,dj,bh,hName,jt,fu,jl,ltT,leT,ju,jr,jw,jy,iy,m6,m8,iz,iu,au,kh,bll]) rfl rfl rfl (Nat.le_of_lt bll) (by
      intro b hb pre hp
      obtain ⟨a,rfl⟩:=C.p1 pre hp
      exact ⟨[some (bxT b,false)],rfl,rfl,rfl,by simp [gw,j7,sIf,ji,sNew,je,jk,sNx,dg,sGo,bf,jo,cj,dh,j4,fj,jz,m5,mOr,j5,mIf,mOp,mUn,cg,j8,ak,gq,aq,j6,dj,bh,hName,jt,fu,jl,ltT,leT,ju,jr,jw,jy,iy,m6,m8,iz,iu,au,kh,bxT,qm]⟩)
  have en:bs.map (fun b=>T.str b.nm) = (bs.map (·.nm)).map T.str:=by rw [List.map_map]; rfl
  rw [en] at cb
  have okn:Va (bs.map (·.nm)):=⟨by simpa using bl,fun x hx=>by obtain ⟨b,hb,rfl⟩:=List.mem_map.mp hx; exact (bok b hb).1⟩
  rw [jq (s':=⟨[some (scr cs,false),some (.int (k:Int),false),some (.int w,false),some (.int c,false),some (.obj 0,false),some (.int (1 + r5),false),some (.lst (H.map hT),true),o7,some (.lst (bs.map bxT),false),some (.lst ((bs.map (·.nm)).map T.str),false),none],s9⟩) (Xz cb)]
  obtain ⟨m,hmm,cx⟩:∃ m:List Int,m.length≤63∧Yw (some 3) (some (3 + (k:Int))) (scr cs) = some (.lst (m.map T.int)):=by
    refine ⟨(cs.drop (sIx cs.length 0 (some 3))).take (sIx cs.length cs.length (some (3 + (k:Int))) - sIx cs.length 0 (some 3)),?_,?_⟩
    · rw [List.length_take,List.length_drop]; omega
    · simp only [Yw,a3v,List.length_map,← List.map_drop,← List.map_take]
  have mll:m.length < lim:=by show _ < 1000000; omega
  generalize hN:bs.map (·.nm) = N at *
  obtain ⟨us,s10,ec,ss,e1,e2,w10,k10⟩:=Lk (g:=hName 0) (nv:=1) (ci:=[9,6,2]) (it:=jl (Gs (cg 0) (J4 (aq (.int 3))) (J4 (mOp jr (aq (.int 3)) (cg 1))))) (e:=dj Bd (ak (Fe (ak (cg 0) (ak (cg 3) gq))) (ak (cg 1) (ak (cg 2) gq))))
    (s:=⟨[some (scr cs,false),some (.int (k:Int),false),some (.int w,false),some (.int c,false),some (.obj 0,false),some (.int (1 + r5),false),some (.lst (H.map hT),true),o7,some (.lst (bs.map bxT),false),some (.lst (N.map T.str),false),none],s9⟩) rfl (m.map T.int) ⟨[some (scr cs,false),some (.int (k:Int),false),some (.int w,false),some (.int c,false),some (.obj 0,false),some (.int (1 + r5),false),some (.lst (H.map hT),true),o7,some (.lst (bs.map bxT),false),some (.lst (N.map T.str),false),none],s9⟩
    [some (scr cs,false),some (.int (k:Int),false),some (.int w,false),some (.int c,false),some (.obj 0,false),some (.int (1 + r5),false),some (.lst (H.map hT),false),o7,some (.lst (bs.map bxT),false),some (.lst (N.map T.str),false),none] [some (.lst (N.map T.str),false),some (.lst (H.map hT),false),some (.int w,false)]
    (fun ts acc st=>∃ l:List Sp,acc = l.map spT∧ts.length + l.length≤63∧(∀ t∈ts,∃ i:Int,t = .int i)∧StO st∧∀ s∈l,OkP N H s)
    (by simp [gw,j7,sIf,ji,sNew,je,jk,sNx,dg,sGo,bf,jo,cj,dh,j4,fj,jz,m5,mOr,j5,mIf,mOp,mUn,cg,j8,ak,gq,aq,j6,dj,bh,hName,jt,fu,jl,ltT,leT,ju,jr,jw,jy,iy,m6,m8,iz,iu,au,kh,Gs,J4,cx,mll]) rfl rfl rfl (by rw [List.length_map]; exact Nat.le_of_lt mll) ⟨[],rfl,by rw [List.length_map]; exact hmm,fun t ht=>by obtain ⟨i,_,rfl⟩:=List.mem_map.mp ht; exact ⟨i,rfl⟩,w9,fun s hs=>by cases hs⟩ (by
      rintro t q acc st ⟨l,e1,e2,e0,e3,e4⟩ pre hp
      obtain ⟨a,rfl⟩:=C.p1 pre hp
      obtain ⟨i,rfl⟩:=e0 t List.mem_cons_self
      simp only [List.length_cons] at e2
      have hs':StO (st ++ [.lst [.int i,.int w]]):=e3.add (.inl ⟨_,_,rfl⟩)
      obtain ⟨t5,s6,p6,x,rfl,kx,o6,l6⟩:=step (n:=st.length) (by rw [List.length_append]; simp:st.length < (st ++ [SO.lst [.int i,.int w]]).length) hs' okn okH
      refine ⟨[some (.int i,false)],spT x,s6,rfl,rfl,?_,l ++ [x],by rw [e1]; simp,by rw [List.length_append,List.length_singleton]; omega,fun t ht=>e0 t (List.mem_cons_of_mem _ ht),o6,fun r hr=>?_⟩
      · simp [gw,j7,sIf,ji,sNew,je,jk,sNx,dg,sGo,bf,jo,cj,dh,j4,fj,jz,m5,mOr,j5,mIf,mOp,mUn,cg,j8,ak,gq,aq,j6,dj,bh,hName,jt,fu,jl,ltT,leT,ju,jr,jw,jy,iy,m6,m8,iz,iu,au,kh,Fe,p6]
      · rcases List.mem_append.mp hr with z | z
        · exact e4 r z
        · rw [List.mem_singleton] at z; subst z; exact kx)
  simp only [List.length_nil,Nat.zero_add] at e2
  subst e1
  rw [jq (Xz ec)]
  simp [gw,j7,sIf,ji,sNew,je,jk,sNx,dg,sGo,bf,jo,cj,dh,j4,fj,jz,m5,mOr,j5,mIf,mOp,mUn,cg,j8,ak,gq,aq,j6,dj,bh,hName,jt,fu,jl,ltT,leT,ju,jr,jw,jy,iy,m6,m8,iz,iu,au,kh]
  subst hN
  exact .of ⟨bs,H,ss,rfl,⟨ndB,ndH,okn,bok,okH,k10.2⟩,e2,k10.1⟩
end
end K
end
noncomputable section
set_option linter.all false
set_option maxRecDepth 100000
set_option autoImplicit false
namespace C
open PySem
theorem Yv {q k:Key} {t:T}:∀ kvs:List (Key × T),Eh q (Ku k t kvs) = if q = k then some t else Eh q kvs:=by
  have hmap:∀ kvs:List (Key × T),Eh q (kvs.map fun p=>if p.1 = k then (p.1,t) else p) = if q = k then (if kvs.any fun p=>decide (p.1 = k) then some t else none) else Eh q kvs:=by
    intro kvs
    induction kvs with
    | nil=>simp [Eh]
    | cons p r ih =>
      obtain ⟨a,x⟩:=p
      rw [List.map_cons]
      by_cases ha:a = k
      · subst ha
        by_cases hq:q = a
        · subst hq; simp [Eh]
        · have:¬ a = q:=fun e=>hq e.symm
          simp only [if_true,Eh,if_neg this,ih,if_neg hq]
      · by_cases hq:q = k
        · subst hq
          simp only [if_neg ha,Eh,ih,if_true,List.any_cons,decide_eq_false ha,Bool.false_or]
        · simp only [if_neg ha,Eh,ih,if_neg hq]
  have happ:∀ kvs:List (Key × T),(kvs.any fun p=>decide (p.1 = k)) = false→Eh q (kvs ++ [(k,t)]) = if q = k then some t else Eh q kvs:=by
    intro kvs
    induction kvs with
    | nil =>
      intro _
      by_cases hq:q = k
      · subst hq; simp [Eh]
      · have:¬ k = q:=fun e=>hq e.symm
        simp [Eh,this,hq]
    | cons p r ih =>
      obtain ⟨a,x⟩:=p
      intro h
      simp only [List.any_cons,Bool.or_eq_false_iff,decide_eq_false_iff_not] at h
      rw [List.cons_append,Eh,Eh,ih (by simpa using h.2)]
      by_cases hq:q = k
      · subst hq; simp [h.1]
      · simp [hq]
  intro kvs
  unfold Ku
  by_cases h:(kvs.any fun p=>decide (p.1 = k)) = true
  · rw [if_pos h,hmap,h]; simp
  · rw [if_neg h]; exact happ kvs (eq_false_of_ne_true h)
end C
namespace K
open C PySem
theorem eqC {a b:Str} {c:Bool} (h:(PyData.canLay0 (.str a) && PyData.canLay0 (.str b) && ((a == b) == c)) = true):eqO (.str a) (.str b) = some (.bl c):=by
  simp only [Bool.and_eq_true,beq_iff_eq] at h
  rw [Vr h.1.1 h.1.2,h.2]
theorem neC {a b:Str} {c:Bool} (h:(PyData.canLay0 (.str a) && PyData.canLay0 (.str b) && ((a == b) == !c)) = true):neO (.str a) (.str b) = some (.bl c):=by
  simp only [Bool.and_eq_true,beq_iff_eq] at h
  rw [a2i h.1.1 h.1.2,h.2,Bool.not_not]
theorem inC {w a b:Str} {c:Bool} (h:(PyData.canLay0 (.str w) && PyData.canLay0 (.str a) && PyData.canLay0 (.str b) && ((a == w || b == w) == c)) = true):inT (.str w) (.tup [.str a,.str b]) = some (.bl c):=by
  simp only [Bool.and_eq_true,beq_iff_eq] at h
  obtain ⟨⟨⟨h1,h2⟩,h3⟩,h4⟩:=h -- here
  simp [inT,inL,eqD,dat,h1,h2,h3,PyData.depth,PyData.eqv,← h4]
theorem qw:eqO (.str "most") (.str "most") = some (.bl true):=eqC (by decide +kernel)
theorem rm:eqO (.str "most") (.str "rest") = some (.bl false):=eqC (by decide +kernel)
theorem yr:eqO (.str "most") (.str "at") = some (.bl false):=eqC (by decide +kernel)
theorem uw:eqO (.str "most") (.str "not") = some (.bl false):=eqC (by decide +kernel)
theorem v9:eqO (.str "most") (.str "and") = some (.bl false):=eqC (by decide +kernel)
theorem qz:eqO (.str "rest") (.str "most") = some (.bl false):=eqC (by decide +kernel)
theorem qy:eqO (.str "rest") (.str "rest") = some (.bl true):=eqC (by decide +kernel)
theorem yt:eqO (.str "rest") (.str "at") = some (.bl false):=eqC (by decide +kernel)
theorem v7:eqO (.str "rest") (.str "not") = some (.bl false):=eqC (by decide +kernel)
theorem vf:eqO (.str "rest") (.str "and") = some (.bl false):=eqC (by decide +kernel)
theorem yp:eqO (.str "at") (.str "most") = some (.bl false):=eqC (by decide +kernel)
theorem yw:eqO (.str "at") (.str "rest") = some (.bl false):=eqC (by decide +kernel)
theorem Bv:eqO (.str "at") (.str "at") = some (.bl true):=eqC (by decide +kernel)
theorem Av:eqO (.str "at") (.str "not") = some (.bl false):=eqC (by decide +kernel)
theorem Ak:eqO (.str "at") (.str "and") = some (.bl false):=eqC (by decide +kernel)
theorem uz:eqO (.str "not") (.str "most") = some (.bl false):=eqC (by decide +kernel)
theorem v8:eqO (.str "not") (.str "rest") = some (.bl false):=eqC (by decide +kernel)
theorem Aq:eqO (.str "not") (.str "at") = some (.bl false):=eqC (by decide +kernel)
theorem yj:eqO (.str "not") (.str "not") = some (.bl true):=eqC (by decide +kernel)
theorem zf:eqO (.str "not") (.str "and") = some (.bl false):=eqC (by decide +kernel)
theorem uy:eqO (.str "and") (.str "most") = some (.bl false):=eqC (by decide +kernel)
theorem ux:eqO (.str "and") (.str "rest") = some (.bl false):=eqC (by decide +kernel)
theorem Am:eqO (.str "and") (.str "at") = some (.bl false):=eqC (by decide +kernel)
theorem yx:eqO (.str "and") (.str "not") = some (.bl false):=eqC (by decide +kernel)
theorem yu:eqO (.str "and") (.str "and") = some (.bl true):=eqC (by decide +kernel)
theorem za:eqO (.str "or") (.str "most") = some (.bl false):=eqC (by decide +kernel)
theorem zc:eqO (.str "or") (.str "rest") = some (.bl false):=eqC (by decide +kernel)
theorem Bw:eqO (.str "or") (.str "at") = some (.bl false):=eqC (by decide +kernel)
theorem Al:eqO (.str "or") (.str "not") = some (.bl false):=eqC (by decide +kernel)
theorem Ao:eqO (.str "or") (.str "and") = some (.bl false):=eqC (by decide +kernel)
theorem Du:inT (.str "most") (.tup [.str "and",.str "or"]) = some (.bl false):=inC (by decide +kernel)
theorem Dz:inT (.str "most") (.tup [.str "most",.str "rest"]) = some (.bl true):=inC (by decide +kernel)
theorem Dv:neO (.str "most") (.str "at") = some (.bl true):=neC (by decide +kernel)
theorem Eb:inT (.str "rest") (.tup [.str "and",.str "or"]) = some (.bl false):=inC (by decide +kernel)
theorem Dw:inT (.str "rest") (.tup [.str "most",.str "rest"]) = some (.bl true):=inC (by decide +kernel)
theorem Ec:neO (.str "rest") (.str "at") = some (.bl true):=neC (by decide +kernel)
theorem Ve:inT (.str "at") (.tup [.str "and",.str "or"]) = some (.bl false):=inC (by decide +kernel)
theorem Vg:inT (.str "at") (.tup [.str "most",.str "rest"]) = some (.bl false):=inC (by decide +kernel)
theorem Vi:neO (.str "at") (.str "at") = some (.bl false):=neC (by decide +kernel)
theorem Ip:inT (.str "not") (.tup [.str "and",.str "or"]) = some (.bl false):=inC (by decide +kernel)
theorem J2:inT (.str "not") (.tup [.str "most",.str "rest"]) = some (.bl false):=inC (by decide +kernel)
theorem Il:neO (.str "not") (.str "at") = some (.bl true):=neC (by decide +kernel)
theorem Ik:inT (.str "and") (.tup [.str "and",.str "or"]) = some (.bl true):=inC (by decide +kernel)
theorem Io:inT (.str "and") (.tup [.str "most",.str "rest"]) = some (.bl false):=inC (by decide +kernel)
theorem Iz:neO (.str "and") (.str "at") = some (.bl true):=neC (by decide +kernel)
theorem Vd:inT (.str "or") (.tup [.str "and",.str "or"]) = some (.bl true):=inC (by decide +kernel)
theorem Vh:inT (.str "or") (.tup [.str "most",.str "rest"]) = some (.bl false):=inC (by decide +kernel)
theorem Vc:neO (.str "or") (.str "at") = some (.bl true):=neC (by decide +kernel)
noncomputable def bk (B:List (Key × T)) (x:Str):Int:=match Eh (.inr x) B with
  | some (.int v)=>v
  | _=>0
structure Bk (N:List Str) (B:List (Key × T)):Prop where
  has:∀ x∈N,∃ v:Int,Eh (.inr x) B = some (.int v)
  nums:∀ p∈B,∃ v:Int,p.2 = .int v
  nd:(B.map fun p=>p.1).Nodup
theorem Bk.at {N:List Str} {B:List (Key × T)} (h:Bk N B) {x:Str} (hx:x∈N):Eh (.inr x) B = some (.int (bk B x)):=by
  obtain ⟨v,e⟩:=h.has x hx
  rw [e]; unfold bk; rw [e]
theorem Dk {B:List (Key × T)} {x:Str} {v:T} (h:Eh (.inr x) B = some v):gb (.dic B) (.str x) = some v:=by simp [gb,keyOf,h]
noncomputable def val (B:List (Key × T)) (s:Sm):Int:=s.1 + (s.2.map fun p=>p.2 * bk B p.1).sum
noncomputable section
variable {N:List Str} {H:List Hd} {B G:List (Key × T)} {sto:List SO}
theorem b64 {i:Int} (h0:-4 < i) (h1:i < 4):Kz i = true:=by simp only [Kz,decide_eq_true_eq]; omega
theorem ints_map {α:Type} (f:α→Int):∀ l:List α,Ux (l.map fun a=>T.int (f a)) = some (l.map f)
  | []=>rfl
  | a :: l=>by simp [Ux,ints_map f l]
theorem a1b {s:Sm} (hN:Va N) (hs:Yy N s):s.2.length < lim:=by
  have:=hs.1; have:=hN.1; show _ < 1000000; omega
theorem value {s:Sm} (hN:Va N) (hs:Yy N s) (hB:Bk N B):Br [smT s,.dic B] sto = some (.int (val B s),sto):=by
  have hl:=a1b hN hs
  unfold Br smT
  simp [gw,j7,sIf,ji,sNew,je,jk,sNx,dg,sGo,bf,jo,cj,dh,j4,fj,jz,m5,mOr,j5,mIf,mOp,mUn,cg,j8,ak,gq,aq,j6,dj,bh,hName,jt,fu,jl,ltT,leT,ju,jr,jw,jy,iy,m6,m8,iz,iu,au,kh,qm]
  generalize hF:yq _ _ _ _ _ _ _ = r
  obtain rfl:=Rt hF pT (fun p=>.int (p.2 * bk B p.1)) s.2 ⟨[some (smT s,false),some (.dic B,false)],sto⟩ [some (smT s,false),some (.dic B,false)] [some (.dic B,false)]
    (by unfold smT; simp [gw,j7,sIf,ji,sNew,je,jk,sNx,dg,sGo,bf,jo,cj,dh,j4,fj,jz,m5,mOr,j5,mIf,mOp,mUn,cg,j8,ak,gq,aq,j6,dj,bh,hName,jt,fu,jl,ltT,leT,ju,jr,jw,jy,iy,m6,m8,iz,iu,au,kh,xq,hl]) rfl rfl rfl (Nat.le_of_lt hl) (by
      intro p hp pre hpre
      obtain ⟨a,b,rfl⟩:∃ a b,pre = [a,b]:=by
        match pre,hpre with
        | [a,b],_=>exact ⟨a,b,rfl⟩
      obtain ⟨h1,h2,h3⟩:=hs.2 p hp
      refine ⟨[some (.str p.1,false),some (.int p.2,false)],rfl,by unfold pT; rw [Ml]; rfl,rfl,?_⟩
      simp [gw,j7,sIf,ji,sNew,je,jk,sNx,dg,sGo,bf,jo,cj,dh,j4,fj,jz,m5,mOr,j5,mIf,mOp,mUn,cg,j8,ak,gq,aq,j6,dj,bh,hName,jt,fu,jl,ltT,leT,ju,jr,jw,jy,iy,m6,m8,iz,iu,au,kh,gb,keyOf,hB.at h1,Jj,b64 h2 h3])
  simp [gw,j7,sIf,ji,sNew,je,jk,sNx,dg,sGo,bf,jo,cj,dh,j4,fj,jz,m5,mOr,j5,mIf,mOp,mUn,cg,j8,ak,gq,aq,j6,dj,bh,hName,jt,fu,jl,ltT,leT,ju,jr,jw,jy,iy,m6,m8,iz,iu,au,kh,Ys,ints_map,val]
theorem Jz {s:Sm} (hN:Va N) (hs:Yy N s) (hB:Bk N B):ql [smT s,.dic B] sto = some (.int (val B s),sto):=by
  have hl:=a1b hN hs
  unfold ql smT
  simp [gw,j7,sIf,ji,sNew,je,jk,sNx,dg,sGo,bf,jo,cj,dh,j4,fj,jz,m5,mOr,j5,mIf,mOp,mUn,cg,j8,ak,gq,aq,j6,dj,bh,hName,jt,fu,jl,ltT,leT,ju,jr,jw,jy,iy,m6,m8,iz,iu,au,kh,qm]
  generalize hF:yq _ _ _ _ _ _ _ = r
  obtain rfl:=Rt hF pT (fun p=>.int (p.2 * bk B p.1)) s.2 ⟨[some (smT s,false),some (.dic B,false)],sto⟩ [some (smT s,false),some (.dic B,false)] [some (.dic B,false)]
    (by unfold smT; simp [gw,j7,sIf,ji,sNew,je,jk,sNx,dg,sGo,bf,jo,cj,dh,j4,fj,jz,m5,mOr,j5,mIf,mOp,mUn,cg,j8,ak,gq,aq,j6,dj,bh,hName,jt,fu,jl,ltT,leT,ju,jr,jw,jy,iy,m6,m8,iz,iu,au,kh,xq,hl]) rfl rfl rfl (Nat.le_of_lt hl) (by
      intro p hp pre hpre
      obtain ⟨a,b,rfl⟩:∃ a b,pre = [a,b]:=by
        match pre,hpre with
        | [a,b],_=>exact ⟨a,b,rfl⟩
      obtain ⟨h1,h2,h3⟩:=hs.2 p hp
      refine ⟨[some (.str p.1,false),some (.int p.2,false)],rfl,by unfold pT; rw [Ml]; rfl,rfl,?_⟩
      simp [gw,j7,sIf,ji,sNew,je,jk,sNx,dg,sGo,bf,jo,cj,dh,j4,fj,jz,m5,mOr,j5,mIf,mOp,mUn,cg,j8,ak,gq,aq,j6,dj,bh,hName,jt,fu,jl,ltT,leT,ju,jr,jw,jy,iy,m6,m8,iz,iu,au,kh,gb,keyOf,hB.at h1,Jj,b64 h2 h3])
  simp [gw,j7,sIf,ji,sNew,je,jk,sNx,dg,sGo,bf,jo,cj,dh,j4,fj,jz,m5,mOr,j5,mIf,mOp,mUn,cg,j8,ak,gq,aq,j6,dj,bh,hName,jt,fu,jl,ltT,leT,ju,jr,jw,jy,iy,m6,m8,iz,iu,au,kh,Ys,ints_map,val]
mutual
noncomputable def tv (B G:List (Key × T)):Rem→Bool
  | .most s=>decide (val B s≤0)
  | .rest s m=>val B s % m == 0
  | .pl h p=>bk G h == p
  | .all l=>Z6 B G l
  | .any l=>Yk B G l
  | .no r=>!tv B G r
noncomputable def Z6 (B G:List (Key × T)):List Rem→Bool
  | []=>true
  | r :: l=>tv B G r && Z6 B G l
noncomputable def Yk (B G:List (Key × T)):List Rem→Bool
  | []=>false
  | r :: l=>tv B G r || Yk B G l
end
theorem N5:∀ l:List Rem,Z6 B G l = !(l.any fun r=>tv B G r == false)
  | []=>rfl
  | r :: l=>by rw [Z6,N5 l,List.any_cons]; cases tv B G r <;> simp
theorem Mi:∀ l:List Rem,Yk B G l = l.any fun r=>tv B G r == true
  | []=>rfl
  | r :: l=>by rw [Yk,Mi l,List.any_cons]; cases tv B G r <;> simp
theorem a0q {a b:Bool}:eqO (.bl a) (.bl b) = some (.bl (a == b)):=by simp [eqO,eqT,eqD,dat,PyData.depth,PyData.eqv]
theorem S7 {k:Nat} {w:Bool} {ms:T}:∀ (l:List Rem) (o:Slot),(∀ r∈l,ug k [vq r,.dic B,.dic G] sto = some (.bl (tv B G r),sto)) →
    ∃ o',forL (hName 4) (sIf (fj (mOp eqO (dj (ug k) (ak (cg 4) (ak (cg 2) (ak (cg 3) gq)))) (cg 0))) (je (aq (.bl true))) jk) (l.map vq) ⟨[some (.bl w,false),some (ms,false),some (.dic B,false),some (.dic G,false),o],sto⟩
      = some (if (l.any fun r=>tv B G r == w) then .ret (.bl true) else .next,⟨[some (.bl w,false),some (ms,false),some (.dic B,false),some (.dic G,false),o'],sto⟩)
  | [],o,_=>⟨o,by simp [forL]⟩
  | r :: l,o,h=>by
    have h1:=h r List.mem_cons_self
    obtain ⟨o',e⟩:=S7 (w:=w) (ms:=ms) l (some (vq r,false)) fun q hq=>h q (List.mem_cons_of_mem _ hq)
    cases hw:(tv B G r == w) with
    | true =>
      refine ⟨some (vq r,false),?_⟩
      rw [List.map_cons,forL]
      simp [gw,j7,sIf,ji,sNew,je,jk,sNx,dg,sGo,bf,jo,cj,dh,j4,fj,jz,m5,mOr,j5,mIf,mOp,mUn,cg,j8,ak,gq,aq,j6,dj,bh,hName,jt,fu,jl,ltT,leT,ju,jr,jw,jy,iy,m6,m8,iz,iu,au,kh,h1,a0q,hw]
    | false =>
      refine ⟨o',?_⟩
      rw [List.map_cons,forL]
      simp [gw,j7,sIf,ji,sNew,je,jk,sNx,dg,sGo,bf,jo,cj,dh,j4,fj,jz,m5,mOr,j5,mIf,mOp,mUn,cg,j8,ak,gq,aq,j6,dj,bh,hName,jt,fu,jl,ltT,leT,ju,jr,jw,jy,iy,m6,m8,iz,iu,au,kh,h1,a0q,hw]
      simpa using e
theorem a0v {k:Nat} {w:Bool} {l:List Rem} (hl:l.length≤5) (h:∀ r∈l,ug k [vq r,.dic B,.dic G] sto = some (.bl (tv B G r),sto)) :
    Ce (k + 1) [.bl w,.tup (l.map vq),.dic B,.dic G] sto = some (.bl (l.any fun r=>tv B G r == w),sto):=by
  have lm:l.length < lim:=by show _ < 1000000; omega
  obtain ⟨o',e⟩:=S7 (w:=w) (ms:=.tup (l.map vq)) l none h
  unfold Ce
  cases hw:l.any fun r=>tv B G r == w
  all_goals
    rw [hw] at e
    simp only [if_true,if_false,Bool.false_eq_true] at e
    simp [gw,j7,jo,jl,cg,lm,e,je,aq]
theorem holds (hN:Va N) (hB:Bk N B) (hG:Bk (H.map (·.1)) G) {d:Nat} {r:Rem} (h:OkR N H d r):∀ k,2 * d < k→ug k [vq r,.dic B,.dic G] sto = some (.bl (tv B G r),sto):=by
  induction h with
  | most h =>
    intro k hk
    obtain ⟨k,rfl⟩:∃ j,k = j + 1:=⟨k - 1,by omega⟩
    unfold ug vq tv
    simp [gw,j7,sIf,ji,sNew,je,jk,sNx,dg,sGo,bf,jo,cj,dh,j4,fj,jz,m5,mOr,j5,mIf,mOp,mUn,cg,j8,ak,gq,aq,j6,dj,bh,hName,jt,fu,jl,ltT,leT,ju,jr,jw,jy,iy,m6,m8,iz,iu,au,kh,qm,xq,qw,rm,yr,uw,v9,qz,qy,yt,v7,vf,yp,yw,Bv,Av,Ak,uz,v8,Aq,yj,zf,uy,ux,Am,yx,yu,za,zc,Bw,Al,Ao,Du,Dz,Dv,Eb,Dw,Ec,Ve,Vg,Vi,Ip,J2,Il,Ik,Io,Iz,Vd,Vh,Vc,value hN h hB]
  | rest h a b =>
    rename_i m
    intro k hk
    obtain ⟨k,rfl⟩:∃ j,k = j + 1:=⟨k - 1,by omega⟩
    have hm:0 < m:=by omega
    unfold ug vq tv
    simp [gw,j7,sIf,ji,sNew,je,jk,sNx,dg,sGo,bf,jo,cj,dh,j4,fj,jz,m5,mOr,j5,mIf,mOp,mUn,cg,j8,ak,gq,aq,j6,dj,bh,hName,jt,fu,jl,ltT,leT,ju,jr,jw,jy,iy,m6,m8,iz,iu,au,kh,qm,xq,Ez,qw,rm,yr,uw,v9,qz,qy,yt,v7,vf,yp,yw,Bv,Av,Ak,uz,v8,Aq,yj,zf,uy,ux,Am,yx,yu,za,zc,Bw,Al,Ao,Du,Dz,Dv,Eb,Dw,Ec,Ve,Vg,Vi,Ip,J2,Il,Ik,Io,Iz,Vd,Vh,Vc,value hN h hB,hm,qe]
  | pl h _ _ =>
    intro k hk
    obtain ⟨k,rfl⟩:∃ j,k = j + 1:=⟨k - 1,by omega⟩
    have hi:=hG.at (List.mem_map.mpr ⟨_,h,rfl⟩)
    unfold ug vq tv
    simp [gw,j7,sIf,ji,sNew,je,jk,sNx,dg,sGo,bf,jo,cj,dh,j4,fj,jz,m5,mOr,j5,mIf,mOp,mUn,cg,j8,ak,gq,aq,j6,dj,bh,hName,jt,fu,jl,ltT,leT,ju,jr,jw,jy,iy,m6,m8,iz,iu,au,kh,qm,xq,Ez,qw,rm,yr,uw,v9,qz,qy,yt,v7,vf,yp,yw,Bv,Av,Ak,uz,v8,Aq,yj,zf,uy,ux,Am,yx,yu,za,zc,Bw,Al,Ao,Du,Dz,Dv,Eb,Dw,Ec,Ve,Vg,Vi,Ip,J2,Il,Ik,Io,Iz,Vd,Vh,Vc,qe,Dk hi]
  | all hl _ ih =>
    intro k hk
    obtain ⟨k,rfl⟩:∃ j,k = j + 2:=⟨k - 2,by omega⟩
    have e:=a0v (w:=false) hl fun r hr=>ih r hr k (by omega)
    unfold ug vq tv
    simp [gw,j7,sIf,ji,sNew,je,jk,sNx,dg,sGo,bf,jo,cj,dh,j4,fj,jz,m5,mOr,j5,mIf,mOp,mUn,cg,j8,ak,gq,aq,j6,dj,bh,hName,jt,fu,jl,ltT,leT,ju,jr,jw,jy,iy,m6,m8,iz,iu,au,kh,qm,xq,qw,rm,yr,uw,v9,qz,qy,yt,v7,vf,yp,yw,Bv,Av,Ak,uz,v8,Aq,yj,zf,uy,ux,Am,yx,yu,za,zc,Bw,Al,Ao,Du,Dz,Dv,Eb,Dw,Ec,Ve,Vg,Vi,Ip,J2,Il,Ik,Io,Iz,Vd,Vh,Vc,Bu,e,N5]
  | any hl _ ih =>
    intro k hk
    obtain ⟨k,rfl⟩:∃ j,k = j + 2:=⟨k - 2,by omega⟩
    have e:=a0v (w:=true) hl fun r hr=>ih r hr k (by omega)
    unfold ug vq tv
    simp [gw,j7,sIf,ji,sNew,je,jk,sNx,dg,sGo,bf,jo,cj,dh,j4,fj,jz,m5,mOr,j5,mIf,mOp,mUn,cg,j8,ak,gq,aq,j6,dj,bh,hName,jt,fu,jl,ltT,leT,ju,jr,jw,jy,iy,m6,m8,iz,iu,au,kh,qm,xq,qw,rm,yr,uw,v9,qz,qy,yt,v7,vf,yp,yw,Bv,Av,Ak,uz,v8,Aq,yj,zf,uy,ux,Am,yx,yu,za,zc,Bw,Al,Ao,Du,Dz,Dv,Eb,Dw,Ec,Ve,Vg,Vi,Ip,J2,Il,Ik,Io,Iz,Vd,Vh,Vc,Bu,e,Mi]
  | no _ ih =>
    intro k hk
    obtain ⟨k,rfl⟩:∃ j,k = j + 1:=⟨k - 1,by omega⟩
    unfold ug vq tv
    simp [gw,j7,sIf,ji,sNew,je,jk,sNx,dg,sGo,bf,jo,cj,dh,j4,fj,jz,m5,mOr,j5,mIf,mOp,mUn,cg,j8,ak,gq,aq,j6,dj,bh,hName,jt,fu,jl,ltT,leT,ju,jr,jw,jy,iy,m6,m8,iz,iu,au,kh,qm,xq,qw,rm,yr,uw,v9,qz,qy,yt,v7,vf,yp,yw,Bv,Av,Ak,uz,v8,Aq,yj,zf,uy,ux,Am,yx,yu,za,zc,Bw,Al,Ao,Du,Dz,Dv,Eb,Dw,Ec,Ve,Vg,Vi,Ip,J2,Il,Ik,Io,Iz,Vd,Vh,Vc,ih k (by omega)]
theorem a0i {w:Bool} {α:Type} (f:α→Bool):∀ l:List α,inL (.bl w) (l.map fun a=>T.bl (f a)) = some (l.any fun a=>f a == w)
  | []=>rfl
  | a :: l=>by simp [inL,eqD,dat,PyData.depth,PyData.eqv,a0i f l]
theorem a0k {w:Bool} {α:Type} (f:α→Bool) (l:List α):inT (.bl w) (.lst (l.map fun a=>T.bl (f a))) = some (.bl (l.any fun a=>f a == w)):=by
  simp [inT,dat,a0i]
theorem a0l {k:Nat} {w:Str} {l:List Rem} (hl:l.length≤5) (h:∀ r∈l,jx k [vq r,.dic B,.dic G] sto = some (.bl (tv B G r),sto)) :
    yq 1 [1,2] (hName 0) (jl (mOp gb (cg 0) (aq (.int 1)))) iu (dj (jx k) (ak (cg 0) (ak (cg 1) (ak (cg 2) gq)))) ⟨[some (.tup [.str w,.tup (l.map vq)],false),some (.dic B,false),some (.dic G,false),none],sto⟩
      = some (.lst (l.map fun r=>.bl (tv B G r)),⟨[some (.tup [.str w,.tup (l.map vq)],false),some (.dic B,false),some (.dic G,false),none],sto⟩):=by
  have lm:l.length < lim:=by show _ < 1000000; omega
  refine vm vq (fun r=>.bl (tv B G r)) l (s1:=⟨[some (.tup [.str w,.tup (l.map vq)],false),some (.dic B,false),some (.dic G,false),none],sto⟩) _ [some (.dic B,false),some (.dic G,false)] (by simp [gw,j7,sIf,ji,sNew,je,jk,sNx,dg,sGo,bf,jo,cj,dh,j4,fj,jz,m5,mOr,j5,mIf,mOp,mUn,cg,j8,ak,gq,aq,j6,dj,bh,hName,jt,fu,jl,ltT,leT,ju,jr,jw,jy,iy,m6,m8,iz,iu,au,kh,xq,lm]) rfl rfl rfl (Nat.le_of_lt lm) ?_
  intro r hr pre hpre
  obtain ⟨a,rfl⟩:∃ a,pre = [a]:=by
    match pre,hpre with
    | [a],_=>exact ⟨a,rfl⟩
  refine ⟨[some (vq r,false)],rfl,rfl,rfl,?_⟩
  simp [gw,j7,sIf,ji,sNew,je,jk,sNx,dg,sGo,bf,jo,cj,dh,j4,fj,jz,m5,mOr,j5,mIf,mOp,mUn,cg,j8,ak,gq,aq,j6,dj,bh,hName,jt,fu,jl,ltT,leT,ju,jr,jw,jy,iy,m6,m8,iz,iu,au,kh,h r hr]
theorem Nx (hN:Va N) (hB:Bk N B) (hG:Bk (H.map (·.1)) G) {d:Nat} {r:Rem} (h:OkR N H d r):∀ k,d < k→jx k [vq r,.dic B,.dic G] sto = some (.bl (tv B G r),sto):=by
  induction h with
  | most h =>
    intro k hk
    obtain ⟨k,rfl⟩:∃ j,k = j + 1:=⟨k - 1,by omega⟩
    unfold jx vq tv
    simp [gw,j7,sIf,ji,sNew,je,jk,sNx,dg,sGo,bf,jo,cj,dh,j4,fj,jz,m5,mOr,j5,mIf,mOp,mUn,cg,j8,ak,gq,aq,j6,dj,bh,hName,jt,fu,jl,ltT,leT,ju,jr,jw,jy,iy,m6,m8,iz,iu,au,kh,qm,xq,qw,rm,yr,uw,v9,qz,qy,yt,v7,vf,yp,yw,Bv,Av,Ak,uz,v8,Aq,yj,zf,uy,ux,Am,yx,yu,za,zc,Bw,Al,Ao,Du,Dz,Dv,Eb,Dw,Ec,Ve,Vg,Vi,Ip,J2,Il,Ik,Io,Iz,Vd,Vh,Vc,Jz hN h hB]
  | rest h a b =>
    rename_i m
    intro k hk
    obtain ⟨k,rfl⟩:∃ j,k = j + 1:=⟨k - 1,by omega⟩
    have hm:0 < m:=by omega
    unfold jx vq tv
    simp [gw,j7,sIf,ji,sNew,je,jk,sNx,dg,sGo,bf,jo,cj,dh,j4,fj,jz,m5,mOr,j5,mIf,mOp,mUn,cg,j8,ak,gq,aq,j6,dj,bh,hName,jt,fu,jl,ltT,leT,ju,jr,jw,jy,iy,m6,m8,iz,iu,au,kh,qm,xq,Ez,qw,rm,yr,uw,v9,qz,qy,yt,v7,vf,yp,yw,Bv,Av,Ak,uz,v8,Aq,yj,zf,uy,ux,Am,yx,yu,za,zc,Bw,Al,Ao,Du,Dz,Dv,Eb,Dw,Ec,Ve,Vg,Vi,Ip,J2,Il,Ik,Io,Iz,Vd,Vh,Vc,Jz hN h hB,hm,qe]
  | pl h _ _ =>
    intro k hk
    obtain ⟨k,rfl⟩:∃ j,k = j + 1:=⟨k - 1,by omega⟩
    have hi:=hG.at (List.mem_map.mpr ⟨_,h,rfl⟩)
    unfold jx vq tv
    simp [gw,j7,sIf,ji,sNew,je,jk,sNx,dg,sGo,bf,jo,cj,dh,j4,fj,jz,m5,mOr,j5,mIf,mOp,mUn,cg,j8,ak,gq,aq,j6,dj,bh,hName,jt,fu,jl,ltT,leT,ju,jr,jw,jy,iy,m6,m8,iz,iu,au,kh,qm,xq,Ez,qw,rm,yr,uw,v9,qz,qy,yt,v7,vf,yp,yw,Bv,Av,Ak,uz,v8,Aq,yj,zf,uy,ux,Am,yx,yu,za,zc,Bw,Al,Ao,Du,Dz,Dv,Eb,Dw,Ec,Ve,Vg,Vi,Ip,J2,Il,Ik,Io,Iz,Vd,Vh,Vc,qe,Dk hi]
  | all hl _ ih =>
    intro k hk
    obtain ⟨k,rfl⟩:∃ j,k = j + 1:=⟨k - 1,by omega⟩
    have e:=a0l (w := "and") hl fun r hr=>ih r hr k (by omega)
    unfold jx vq tv
    simp [gw,j7,sIf,ji,sNew,je,jk,sNx,dg,sGo,bf,jo,cj,dh,j4,fj,jz,m5,mOr,j5,mIf,mOp,mUn,cg,j8,ak,gq,aq,j6,dj,bh,hName,jt,fu,jl,ltT,leT,ju,jr,jw,jy,iy,m6,m8,iz,iu,au,kh,qm,qw,rm,yr,uw,v9,qz,qy,yt,v7,vf,yp,yw,Bv,Av,Ak,uz,v8,Aq,yj,zf,uy,ux,Am,yx,yu,za,zc,Bw,Al,Ao,Du,Dz,Dv,Eb,Dw,Ec,Ve,Vg,Vi,Ip,J2,Il,Ik,Io,Iz,Vd,Vh,Vc,Bu,e,N5,Rr,a0k]
  | any hl _ ih =>
    intro k hk
    obtain ⟨k,rfl⟩:∃ j,k = j + 1:=⟨k - 1,by omega⟩
    have e:=a0l (w := "or") hl fun r hr=>ih r hr k (by omega)
    unfold jx vq tv
    simp [gw,j7,sIf,ji,sNew,je,jk,sNx,dg,sGo,bf,jo,cj,dh,j4,fj,jz,m5,mOr,j5,mIf,mOp,mUn,cg,j8,ak,gq,aq,j6,dj,bh,hName,jt,fu,jl,ltT,leT,ju,jr,jw,jy,iy,m6,m8,iz,iu,au,kh,qm,qw,rm,yr,uw,v9,qz,qy,yt,v7,vf,yp,yw,Bv,Av,Ak,uz,v8,Aq,yj,zf,uy,ux,Am,yx,yu,za,zc,Bw,Al,Ao,Du,Dz,Dv,Eb,Dw,Ec,Ve,Vg,Vi,Ip,J2,Il,Ik,Io,Iz,Vd,Vh,Vc,Bu,e,Mi,a0k]
  | no _ ih =>
    intro k hk
    obtain ⟨k,rfl⟩:∃ j,k = j + 1:=⟨k - 1,by omega⟩
    unfold jx vq tv
    simp [gw,j7,sIf,ji,sNew,je,jk,sNx,dg,sGo,bf,jo,cj,dh,j4,fj,jz,m5,mOr,j5,mIf,mOp,mUn,cg,j8,ak,gq,aq,j6,dj,bh,hName,jt,fu,jl,ltT,leT,ju,jr,jw,jy,iy,m6,m8,iz,iu,au,kh,qm,xq,qw,rm,yr,uw,v9,qz,qy,yt,v7,vf,yp,yw,Bv,Av,Ak,uz,v8,Aq,yj,zf,uy,ux,Am,yx,yu,za,zc,Bw,Al,Ao,Du,Dz,Dv,Eb,Dw,Ec,Ve,Vg,Vi,Ip,J2,Il,Ik,Io,Iz,Vd,Vh,Vc,ih k (by omega)]
theorem Tn {o:Sp} (ho:OkP N H o):o.sets.length < lim:=by have:=ho.len; show _ < 1000000; omega
end
end K
end
noncomputable section
set_option linter.all false
set_option maxRecDepth 100000
set_option autoImplicit false
namespace C
open PySem
theorem Yz {k:Key} {t:T} {D:List (Key × T)} (h:k∉D.map (·.1)):Ku k t D = D ++ [(k,t)]:=by
  unfold Ku
  rw [if_neg]
  intro z
  obtain ⟨p,hp,e⟩:=List.any_eq_true.mp z
  exact h (List.mem_map.mpr ⟨p,hp,by simpa using e⟩)
theorem a2s {l:List (Key × T)} (h:(l.map (·.1)).Nodup):l.foldl (fun d p=>Ku p.1 p.2 d) [] = l:=by
  have go:∀ (l D:List (Key × T)),((D ++ l).map (·.1)).Nodup→l.foldl (fun d p=>Ku p.1 p.2 d) D = D ++ l:=by
    intro l
    induction l with
    | nil=>intro D _; simp
    | cons p l ih =>
      intro D h
      have hp:p.1∉D.map (·.1):=by
        rw [List.map_append,List.map_cons] at h
        intro z
        exact (List.nodup_append.mp h).2.2 p.1 z p.1 List.mem_cons_self rfl
      rw [List.foldl_cons,Yz hp,ih _ (by simpa using h)]
      simp
  simpa using go l [] (by simpa using h)
end C
namespace K
open C PySem
noncomputable def dn (N:List Str) (f:Str→Int):List (Key × T):=N.map fun x=>(.inr x,.int (f x))
theorem Gz {f:Str→Int} {x:Str}:∀ {N:List Str},x∈N→Eh (.inr x) (dn N f) = some (.int (f x))
  | [],h=>by cases h
  | y :: N,h=>by
    unfold dn
    rw [List.map_cons,Eh]
    by_cases e:y = x
    · subst e; simp
    · rw [if_neg (by simpa using e)]
      exact Gz ((List.mem_cons.mp h).resolve_left fun z=>e z.symm)
theorem Xq (N:List Str) (f:Str→Int):(dn N f).map (fun p=>p.1) = N.map Sum.inr:=by
  unfold dn; rw [List.map_map]; rfl
theorem a0p {N:List Str} (h:N.Nodup):(N.map (Sum.inr:Str→Key)).Nodup:=List.Pairwise.map _ (fun a b hab e=>hab (Sum.inr.inj e)) h
theorem U8 {N:List Str} {f:Str→Int} (h:N.Nodup):Bk N (dn N f) :=
  ⟨fun x hx=>⟨_,Gz hx⟩,fun p hp=>by obtain ⟨x,_,rfl⟩:=List.mem_map.mp hp; exact ⟨_,rfl⟩,by rw [Xq]; exact a0p h⟩
theorem a79 {N:List Str} {f:Str→Int} {x:Str} (h:x∈N):bk (dn N f) x = f x:=by unfold bk; rw [Gz h]
theorem Ry {N:List Str} {f:Str→Int} (h:N.Nodup) (hl:N.length < lim) {ks:List T} (hk:ks = N.map T.str) {vs:List T} (hv:vs = N.map fun x=>T.int (f x)):Gf (.lst ks) (.tup vs) = some (.dic (dn N f)):=by
  subst hk hv
  have z:∀ N:List Str,a2l (N.map T.str) (N.map fun x=>T.int (f x)) = N.map fun x=>.tup [.str x,.int (f x)]:=by
    intro N
    induction N with
    | nil=>rfl
    | cons x N ih=>unfold a2l at ih ⊢; rw [List.map_cons,List.map_cons,List.zip_cons_cons,List.map_cons,ih]; rfl
  have p:∀ N:List Str,Bg (N.map fun x=>T.tup [.str x,.int (f x)]) = some (dn N f):=by
    intro N
    induction N with
    | nil=>rfl
    | cons x N ih=>rw [List.map_cons,Bg,ih]; rfl
  have l1:(N.map T.str).length < lim:=by rw [List.length_map]; exact hl
  have l2:(N.map fun x=>T.int (f x)).length < lim:=by rw [List.length_map]; exact hl
  unfold Gf
  simp only [iz]
  rw [if_pos ⟨l1,l2⟩,z,p,Option.map_some,a2s (by rw [Xq]; exact a0p h)]
noncomputable def stT (bs:List Bx) (H:List Hd) (g f:Str→Int):T:=.tup [.tup (H.map fun h=>.int (g h.1)),.tup (bs.map fun b=>.int (f b.nm))]
noncomputable section
variable {bs:List Bx} {H:List Hd} {ss:List Sp} {sto:List SO} {g f:Str→Int} {s:Sp}
noncomputable abbrev nB (bs:List Bx):List Str:=bs.map (·.nm)
noncomputable abbrev nH (H:List Hd):List Str:=H.map (·.1)
theorem Kv.lB (ok:Kv bs H ss):bs.length < lim:=by have:=ok.ns.1; rw [List.length_map] at this; show _ < 1000000; omega
theorem Kv.lH (ok:Kv bs H ss):H.length < lim:=by have:=ok.hs.2.1; show _ < 1000000; omega
theorem Wv (ok:Kv bs H ss):Ai [prT bs H ss,stT bs H g f] sto = some (.dic (dn (nB bs) f),sto):=by
  have i0:gb (prT bs H ss) (.int 0) = some (.lst (bs.map bxT)):=qm
  have j1:gb (stT bs H g f) (.int 1) = some (.tup (bs.map fun b=>.int (f b.nm))):=xq
  have lb:=ok.lB
  have c:=vm bxT (fun b=>T.str b.nm) bs (g:=hName 0) (nv:=1) (ci:=[]) (c:=iu) (it:=jl (mOp gb (cg 0) (aq (.int 0)))) (e:=mOp gb (cg 0) (aq (.int 0))) (s:=⟨[some (prT bs H ss,false),some (stT bs H g f,false)],sto⟩) (s1:=⟨[some (prT bs H ss,false),some (stT bs H g f,false)],sto⟩) [some (prT bs H ss,false),some (stT bs H g f,false)] []
    (by simp [gw,j7,sIf,ji,sNew,je,jk,sNx,dg,sGo,bf,jo,cj,dh,j4,fj,jz,m5,mOr,j5,mIf,mOp,mUn,cg,j8,ak,gq,aq,j6,dj,bh,hName,jt,fu,jl,ltT,leT,ju,jr,jw,jy,iy,m6,m8,iz,iu,au,kh,i0,lb]) rfl rfl rfl (Nat.le_of_lt lb) (by
      intro b hb pre hp
      obtain ⟨a,rfl⟩:=C.p1 pre hp
      exact ⟨[some (bxT b,false)],rfl,rfl,rfl,by simp [gw,j7,sIf,ji,sNew,je,jk,sNx,dg,sGo,bf,jo,cj,dh,j4,fj,jz,m5,mOr,j5,mIf,mOp,mUn,cg,j8,ak,gq,aq,j6,dj,bh,hName,jt,fu,jl,ltT,leT,ju,jr,jw,jy,iy,m6,m8,iz,iu,au,kh,bxT,qm]⟩)
  have z:=Ry (f:=f) ok.ndB (by rw [List.length_map]; exact lb) (ks:=bs.map fun b=>T.str b.nm) (by rw [List.map_map]; rfl) (vs:=bs.map fun b=>.int (f b.nm)) (by rw [List.map_map]; rfl)
  unfold Ai
  simp [gw,j7,sIf,ji,sNew,je,jk,sNx,dg,sGo,bf,jo,cj,dh,j4,fj,jz,m5,mOr,j5,mIf,mOp,mUn,cg,j8,ak,gq,aq,j6,dj,bh,hName,jt,fu,jl,ltT,leT,ju,jr,jw,jy,iy,m6,m8,iz,iu,au,kh,c,j1,z]
theorem Px (ok:Kv bs H ss):wg [prT bs H ss,stT bs H g f] sto = some (.dic (dn (nH H) g),sto):=by
  have i1:gb (prT bs H ss) (.int 1) = some (.lst (H.map hT)):=xq
  have j0:gb (stT bs H g f) (.int 0) = some (.tup (H.map fun h=>.int (g h.1))):=qm
  have lb:=ok.lH
  have c:=vm hT (fun b=>T.str b.1) H (g:=hName 0) (nv:=1) (ci:=[]) (c:=iu) (it:=jl (mOp gb (cg 0) (aq (.int 1)))) (e:=mOp gb (cg 0) (aq (.int 0))) (s:=⟨[some (prT bs H ss,false),some (stT bs H g f,false)],sto⟩) (s1:=⟨[some (prT bs H ss,false),some (stT bs H g f,false)],sto⟩) [some (prT bs H ss,false),some (stT bs H g f,false)] []
    (by simp [gw,j7,sIf,ji,sNew,je,jk,sNx,dg,sGo,bf,jo,cj,dh,j4,fj,jz,m5,mOr,j5,mIf,mOp,mUn,cg,j8,ak,gq,aq,j6,dj,bh,hName,jt,fu,jl,ltT,leT,ju,jr,jw,jy,iy,m6,m8,iz,iu,au,kh,i1,lb]) rfl rfl rfl (Nat.le_of_lt lb) (by
      intro b hb pre hp
      obtain ⟨a,rfl⟩:=C.p1 pre hp
      exact ⟨[some (hT b,false)],rfl,rfl,rfl,by simp [gw,j7,sIf,ji,sNew,je,jk,sNx,dg,sGo,bf,jo,cj,dh,j4,fj,jz,m5,mOr,j5,mIf,mOp,mUn,cg,j8,ak,gq,aq,j6,dj,bh,hName,jt,fu,jl,ltT,leT,ju,jr,jw,jy,iy,m6,m8,iz,iu,au,kh,hT,qm]⟩)
  have z:=Ry (f:=g) ok.ndH (by rw [List.length_map]; exact lb) (ks:=H.map fun b=>T.str b.1) (by rw [List.map_map]; rfl) (vs:=H.map fun h=>.int (g h.1)) (by rw [List.map_map]; rfl)
  unfold wg
  simp [gw,j7,sIf,ji,sNew,je,jk,sNx,dg,sGo,bf,jo,cj,dh,j4,fj,jz,m5,mOr,j5,mIf,mOp,mUn,cg,j8,ak,gq,aq,j6,dj,bh,hName,jt,fu,jl,ltT,leT,ju,jr,jw,jy,iy,m6,m8,iz,iu,au,kh,c,j0,z]
noncomputable def lkL (l:List (Str × Sm)) (x:Str):Option Sm:=l.foldl (fun acc p=>if p.1 = x then some p.2 else acc) none
noncomputable def a1c (l:List (Str × Sm)):List (Key × T):=l.foldl (fun d p=>Ku (.inr p.1) (smT p.2) d) []
theorem Yr (x:Str) (l:List (Str × Sm)):Eh (.inr x) (a1c l) = (lkL l x).map smT:=by
  have go:∀ (l:List (Str × Sm)) (D:List (Key × T)) (o:Option Sm),Eh (.inr x) D = o.map smT→Eh (.inr x) (l.foldl (fun d p=>Ku (.inr p.1) (smT p.2) d) D) = (l.foldl (fun acc p=>if p.1 = x then some p.2 else acc) o).map smT:=by
    intro l
    induction l with
    | nil=>intro D o h; exact h
    | cons p l ih =>
      intro D o h
      rw [List.foldl_cons,List.foldl_cons] -- here
      refine ih _ _ ?_
      rw [Yv]
      by_cases e:p.1 = x
      · rw [if_pos (by rw [e]),if_pos e]; rfl
      · rw [if_neg (by simpa using fun z=>e z.symm),if_neg e]; exact h
  exact go l [] none rfl
theorem a1d {x:Str} {l:List (Str × Sm)} {y:Sm} (h:lkL l x = some y):∃ p∈l,p.1 = x∧p.2 = y:=by
  have go:∀ (l:List (Str × Sm)) (o:Option Sm),l.foldl (fun acc p=>if p.1 = x then some p.2 else acc) o = some y→o = some y∨∃ p∈l,p.1 = x∧p.2 = y:=by
    intro l
    induction l with
    | nil=>intro o h; exact .inl h
    | cons p l ih =>
      intro o h
      rw [List.foldl_cons] at h
      rcases ih _ h with z | ⟨q,hq,z⟩
      · by_cases e:p.1 = x
        · rw [if_pos e] at z; exact .inr ⟨p,List.mem_cons_self,e,Option.some.inj z⟩
        · rw [if_neg e] at z; exact .inl z
      · exact .inr ⟨q,List.mem_cons_of_mem _ hq,z⟩
  rcases go l none h with z | z
  · cases z
  · exact z
theorem Xh {l:List (Str × Sm)} (hl:l.length < lim):Dh [.tup (l.map seT)] = some (.dic (a1c l)):=by
  have p:∀ l:List (Str × Sm),Bg (l.map seT) = some (l.map fun p=>((.inr p.1:Key),smT p.2)):=by
    intro l
    induction l with
    | nil=>rfl
    | cons x l ih=>rw [List.map_cons,seT,Bg,ih]; rfl
  have l1:(l.map seT).length < lim:=by rw [List.length_map]; exact hl
  simp only [Dh,if_pos l1,p,Option.map_some,List.foldl_map,a1c]
noncomputable def vl (f:Str→Int) (y:Sm):Int:=y.1 + (y.2.map fun p=>p.2 * f p.1).sum
theorem a0h {N:List Str} {y:Sm} (h:∀ p∈y.2,p.1∈N):val (dn N f) y = vl f y:=by
  unfold val vl
  congr 2
  apply List.map_congr_left
  intro p hp
  rw [a79 (h p hp)]
noncomputable def nv (f:Str→Int) (s:Sp) (x:Str):Int:=match lkL s.sets x with | some y=>vl f y | none=>f x
noncomputable def O9 (f:Str→Int) (s:Sp) (b:Bx):Bool:=match lkL s.sets b.nm with | some y=>decide (b.lo≤vl f y) && decide (vl f y≤b.hi) | none=>true
noncomputable def ng (g:Str→Int) (s:Sp) (x:Str):Int:=if x = s.hand then s.there else g x
theorem Yi {a b c d e:T} {i j k l m:Nat} {s:Sta}:jt [i,j,k,l,m] (.tup [a,b,c,d,e]) s = some (bh m e false (bh l d false (bh k c false (bh j b false (bh i a false s))))):=by simp [jt]
theorem Jt (ok:Kv bs H ss) (hs:OkP (nB bs) H s):∀ (rest:List Bx) (acc:List Int) (o5 o6 o7 o8 o9 o10:Slot),(∀ b∈rest,b∈bs)→acc.length + rest.length≤2→∃ p5 p6 p7 p8 p9 p10:Slot,∃ vs:List Int,(rest.all (O9 f s) = true→vs = acc ++ rest.map fun b=>nv f s b.nm) ∧
    forL (jt [5,6,7,8,9]) (j7 (ji 10 (mIf (fj (mOp inT (cg 5) (cg 3))) (dj Br (ak (mOp gb (cg 3) (cg 5)) (ak (cg 1) gq))) (mOp gb (cg 1) (cg 5))))
      (j7 (sIf (m5 (fj (mOp inT (cg 5) (cg 3))) (mOr (fj (mOp ltT (cg 10) (cg 7))) (fj (mOp gtT (cg 10) (cg 8)))))
      (je (aq .non))
      jk)
      (cj 4 (cg 10)))) (rest.map bxT) ⟨[some (prT bs H ss,false),some (.dic (dn (nB bs) f),false),some (spT s,false),some (.dic (a1c s.sets),false),some (.lst (acc.map T.int),true),o5,o6,o7,o8,o9,o10],sto⟩
      = some (if rest.all (O9 f s) = true then .next else .ret .non,⟨[some (prT bs H ss,false),some (.dic (dn (nB bs) f),false),some (spT s,false),some (.dic (a1c s.sets),false),some (.lst (vs.map T.int),true),p5,p6,p7,p8,p9,p10],sto⟩)
  | [],acc,o5,o6,o7,o8,o9,o10,_,_=>⟨o5,o6,o7,o8,o9,o10,acc,fun _=>by simp,by simp [forL]⟩
  | b :: rest,acc,o5,o6,o7,o8,o9,o10,hb,hl=>by
    have bm:=hb b List.mem_cons_self
    have bn:b.nm∈nB bs:=List.mem_map.mpr ⟨b,bm,rfl⟩
    simp only [List.length_cons] at hl
    have al:acc.length < lim:=by show _ < 1000000; omega
    have g1:=Gz (f:=f) bn
    have sg:=Yr b.nm s.sets
    have i1:=Dk g1
    cases hk:lkL s.sets b.nm with
    | none =>
      rw [hk] at sg
      have it:inT (.str b.nm) (.dic (a1c s.sets)) = some (.bl false):=by simp [inT,keyOf,sg]
      have fb:O9 f s b = true:=by unfold O9; rw [hk]
      have en:nv f s b.nm = f b.nm:=by unfold nv; rw [hk]
      obtain ⟨p5,p6,p7,p8,p9,p10,vs,hv,e⟩:=Jt ok hs rest (acc ++ [f b.nm]) (some (.str b.nm,false)) (some (.str "",false)) (some (.int b.lo,false)) (some (.int b.hi,false)) (some (.int b.st,false)) (some (.int (f b.nm),false)) (fun c hc=>hb c (List.mem_cons_of_mem _ hc)) (by rw [List.length_append,List.length_singleton]; omega)
      refine ⟨p5,p6,p7,p8,p9,p10,vs,fun h=>?_,?_⟩
      · rw [List.all_cons,fb,Bool.true_and] at h
        rw [hv h,List.map_cons,en]; simp
      · rw [List.map_cons,forL]
        dsimp only
        rw [show jt [5,6,7,8,9] (bxT b) _ = _ from Yi]
        rw [List.all_cons,fb,Bool.true_and,← e]
        simp [gw,j7,sIf,ji,sNew,je,jk,sNx,dg,sGo,bf,jo,cj,dh,j4,fj,jz,m5,mOr,j5,mIf,mOp,mUn,cg,j8,ak,gq,aq,j6,dj,bh,hName,jt,fu,jl,ltT,leT,ju,jr,jw,jy,iy,m6,m8,iz,iu,au,kh,it,i1,al]
    | some y =>
      rw [hk] at sg
      obtain ⟨p,hp,e1,e2⟩:=a1d hk
      have oky:=(hs.set p hp).2
      rw [e2] at oky
      have it:inT (.str b.nm) (.dic (a1c s.sets)) = some (.bl true):=by simp [inT,keyOf,sg]
      have i3:gb (.dic (a1c s.sets)) (.str b.nm) = some (smT y):=by simp [gb,keyOf,sg]
      have va:=value (sto:=sto) ok.ns oky (U8 (f:=f) ok.ndB)
      rw [a0h fun p hp=>(oky.2 p hp).1] at va
      have en:nv f s b.nm = vl f y:=by unfold nv; rw [hk]
      by_cases hf:O9 f s b = true
      · have hf':=hf
        unfold O9 at hf'
        rw [hk] at hf'
        simp only [Bool.and_eq_true,decide_eq_true_eq] at hf'
        have c1:decide (vl f y < b.lo) = false:=decide_eq_false (by omega)
        have c2:decide (b.hi < vl f y) = false:=decide_eq_false (by omega)
        have d1:¬ (vl f y < b.lo):=by omega
        have d2:¬ (b.hi < vl f y):=by omega
        obtain ⟨p5,p6,p7,p8,p9,p10,vs,hv,e⟩:=Jt ok hs rest (acc ++ [vl f y]) (some (.str b.nm,false)) (some (.str "",false)) (some (.int b.lo,false)) (some (.int b.hi,false)) (some (.int b.st,false)) (some (.int (vl f y),false)) (fun c hc=>hb c (List.mem_cons_of_mem _ hc)) (by rw [List.length_append,List.length_singleton]; omega)
        refine ⟨p5,p6,p7,p8,p9,p10,vs,fun h=>?_,?_⟩
        · rw [List.all_cons,hf,Bool.true_and] at h
          rw [hv h,List.map_cons,en]; simp
        · rw [List.map_cons,forL]
          dsimp only
          rw [show jt [5,6,7,8,9] (bxT b) _ = _ from Yi]
          rw [List.all_cons,hf,Bool.true_and,← e]
          simp [gw,j7,sIf,ji,sNew,je,jk,sNx,dg,sGo,bf,jo,cj,dh,j4,fj,jz,m5,mOr,j5,mIf,mOp,mUn,cg,j8,ak,gq,aq,j6,dj,bh,hName,jt,fu,jl,ltT,leT,ju,jr,jw,jy,iy,m6,m8,iz,iu,au,kh,it,i3,va,gtT,d1,d2,al]
      · have hf2:O9 f s b = false:=eq_false_of_ne_true hf
        have hf':=hf2
        unfold O9 at hf'
        rw [hk] at hf'
        have out:vl f y < b.lo∨b.hi < vl f y:=by
          by_cases h1:b.lo≤vl f y
          · right
            simp only [decide_eq_true h1,Bool.true_and,decide_eq_false_iff_not] at hf'
            omega
          · left; omega
        refine ⟨some (.str b.nm,false),some (.str "",false),some (.int b.lo,false),some (.int b.hi,false),some (.int b.st,false),some (.int (vl f y),false),acc,fun h=>?_,?_⟩
        · rw [List.all_cons,hf2] at h; cases h
        · rw [List.map_cons,forL]
          dsimp only
          rw [show jt [5,6,7,8,9] (bxT b) _ = _ from Yi]
          rw [List.all_cons,hf2,Bool.false_and]
          by_cases d1:vl f y < b.lo
          · simp [gw,j7,sIf,ji,sNew,je,jk,sNx,dg,sGo,bf,jo,cj,dh,j4,fj,jz,m5,mOr,j5,mIf,mOp,mUn,cg,j8,ak,gq,aq,j6,dj,bh,hName,jt,fu,jl,ltT,leT,ju,jr,jw,jy,iy,m6,m8,iz,iu,au,kh,it,i3,va,gtT,d1]
          · have d2:b.hi < vl f y:=out.resolve_left d1
            simp [gw,j7,sIf,ji,sNew,je,jk,sNx,dg,sGo,bf,jo,cj,dh,j4,fj,jz,m5,mOr,j5,mIf,mOp,mUn,cg,j8,ak,gq,aq,j6,dj,bh,hName,jt,fu,jl,ltT,leT,ju,jr,jw,jy,iy,m6,m8,iz,iu,au,kh,it,i3,va,gtT,d1,d2]
theorem Gj (ok:Kv bs H ss) (hs:OkP (nB bs) H s):mj [prT bs H ss,.dic (dn (nB bs) f),spT s] sto = some (if bs.all (O9 f s) = true then .tup (bs.map fun b=>.int (nv f s b.nm)) else .non,sto):=by
  have i0:gb (prT bs H ss) (.int 0) = some (.lst (bs.map bxT)):=qm
  have i3:gb (spT s) (.int 3) = some (.tup (s.sets.map seT)):=a0r
  have lb:=ok.lB
  have l2:=ok.ns.1
  rw [List.length_map] at l2
  have ds:=Xh (Tn hs)
  obtain ⟨p5,p6,p7,p8,p9,p10,vs,hv,e⟩:=Jt (sto:=sto) (f:=f) ok hs bs [] none none none none none none (fun b hb=>hb) (by simpa using l2)
  simp only [List.map_nil,List.nil_append] at e hv
  unfold mj
  by_cases h:bs.all (O9 f s) = true
  · rw [if_pos h] at e ⊢
    have hv':=hv h
    subst hv'
    simp [gw,j7,sIf,ji,sNew,je,jk,sNx,dg,sGo,bf,jo,cj,dh,j4,fj,jz,m5,mOr,j5,mIf,mOp,mUn,cg,j8,ak,gq,aq,j6,dj,bh,hName,jt,fu,jl,ltT,leT,ju,jr,jw,jy,iy,m6,m8,iz,iu,au,kh,i3,ds,i0,lb,e,wz]
  · rw [if_neg h] at e ⊢
    simp [gw,j7,sIf,ji,sNew,je,jk,sNx,dg,sGo,bf,jo,cj,dh,j4,fj,jz,m5,mOr,j5,mIf,mOp,mUn,cg,j8,ak,gq,aq,j6,dj,bh,hName,jt,fu,jl,ltT,leT,ju,jr,jw,jy,iy,m6,m8,iz,iu,au,kh,i3,ds,i0,lb,e]
theorem Gy (hok:∀ h∈H,okN h.1) (hl:H.length < lim) (hs:okN s.hand):m9 [.dic (dn (nH H) g),spT s] sto = some (.tup (H.map fun h=>.int (ng g s h.1)),sto):=by
  have i0:gb (spT s) (.int 0) = some (.str s.hand):=qm
  have i4:gb (spT s) (.int 4) = some (.int s.there):=Gb (k:=4) rfl
  have it:Nh (cg 0) ⟨[some (.dic (dn (nH H) g),false),some (spT s,false)],sto⟩ = some (H.map fun h=>.tup [.str h.1,.int (g h.1)],⟨[some (.dic (dn (nH H) g),false),some (spT s,false)],sto⟩):=by
    have e:cg 0 ⟨[some (.dic (dn (nH H) g),false),some (spT s,false)],sto⟩ = some (.dic (dn (nH H) g),⟨[some (.dic (dn (nH H) g),false),some (spT s,false)],sto⟩):=rfl
    unfold Nh a5m
    rw [e]
    dsimp only
    rw [if_pos (by unfold dn; rw [List.length_map,List.length_map]; exact hl)]
    unfold Ii dn
    rw [List.map_map,List.map_map]; rfl
  have c:=vm (fun h:Hd=>T.tup [.str h.1,.int (g h.1)]) (fun h=>T.int (ng g s h.1)) H (g:=jt [0,1]) (nv:=2) (ci:=[1]) (c:=iu) (it:=Nh (cg 0)) (e:=mIf (fj (mOp eqO (cg 0) (mOp gb (cg 2) (aq (.int 0))))) (mOp gb (cg 2) (aq (.int 4))) (cg 1)) (s:=⟨[some (.dic (dn (nH H) g),false),some (spT s,false)],sto⟩) (s1:=⟨[some (.dic (dn (nH H) g),false),some (spT s,false)],sto⟩) [some (.dic (dn (nH H) g),false),some (spT s,false)] [some (spT s,false)]
    it rfl rfl rfl (Nat.le_of_lt hl) (by
      intro h hh pre hp
      obtain ⟨a,b,rfl⟩:=C.p2 pre hp
      have eq:=Vr (hok h hh).1 hs.1
      refine ⟨[some (.str h.1,false),some (.int (g h.1),false)],rfl,by rw [Ml]; rfl,rfl,?_⟩
      by_cases e:h.1 = s.hand
      · have eb:(h.1 == s.hand) = true:=by simpa using e
        rw [eb] at eq
        have en:ng g s h.1 = s.there:=if_pos e
        rw [en]
        simp [gw,j7,sIf,ji,sNew,je,jk,sNx,dg,sGo,bf,jo,cj,dh,j4,fj,jz,m5,mOr,j5,mIf,mOp,mUn,cg,j8,ak,gq,aq,j6,dj,bh,hName,jt,fu,jl,ltT,leT,ju,jr,jw,jy,iy,m6,m8,iz,iu,au,kh,i0,eq,i4]
      · have eb:(h.1 == s.hand) = false:=beq_eq_false_iff_ne.mpr e
        rw [eb] at eq
        have en:ng g s h.1 = g h.1:=if_neg e
        rw [en]
        simp [gw,j7,sIf,ji,sNew,je,jk,sNx,dg,sGo,bf,jo,cj,dh,j4,fj,jz,m5,mOr,j5,mIf,mOp,mUn,cg,j8,ak,gq,aq,j6,dj,bh,hName,jt,fu,jl,ltT,leT,ju,jr,jw,jy,iy,m6,m8,iz,iu,au,kh,i0,eq])
  unfold m9
  simp [gw,j7,sIf,ji,sNew,je,jk,sNx,dg,sGo,bf,jo,cj,dh,j4,fj,jz,m5,mOr,j5,mIf,mOp,mUn,cg,j8,ak,gq,aq,j6,dj,bh,hName,jt,fu,jl,ltT,leT,ju,jr,jw,jy,iy,m6,m8,iz,iu,au,kh,c,wz]
end
end K
end
noncomputable section
set_option linter.all false
set_option maxRecDepth 100000
set_option autoImplicit false
namespace K
open C PySem
noncomputable def en (bs:List Bx) (H:List Hd) (g f:Str→Int) (s:Sp):Bool:=(g s.hand == s.here) && tv (dn (nB bs) f) (dn (nH H) g) s.guard && bs.all (O9 f s)
noncomputable def eT (p:Sp × Nat):T:=.tup [.int (p.2:Int),spT p.1]
noncomputable def mvT (bs:List Bx) (H:List Hd) (g f:Str→Int) (p:Sp × Nat):T:=.tup [.int (p.2:Int),stT bs H (ng g p.1) (nv f p.1)]
theorem K4 {α β:Type} (f:α→β):∀ (l:List α) (n:Nat),(l.map f).zipIdx n = (l.zipIdx n).map fun p=>(f p.1,p.2)
  | [],n=>rfl
  | a :: l,n=>by rw [List.map_cons,List.zipIdx_cons,List.zipIdx_cons,List.map_cons,K4 f l]
theorem a02 (ss:List Sp):Ni (ss.map spT) = ss.zipIdx.map eT:=by
  unfold Ni
  rw [K4,List.map_map]; rfl
theorem Fg {α:Type} {p:α × Nat}:∀ {l:List α} {n:Nat},p∈l.zipIdx n→n≤p.2∧l[p.2 - n]? = some p.1
  | [],n,h=>by cases h
  | a :: l,n,h=>by
    rw [List.zipIdx_cons] at h
    rcases List.mem_cons.mp h with rfl | h -- here
    · exact ⟨Nat.le_refl _,by simp⟩
    · obtain ⟨h1,h2⟩:=Fg h
      refine ⟨by omega,?_⟩
      rw [show p.2 - n = (p.2 - (n + 1)) + 1 by omega]
      simpa using h2
noncomputable section
variable {bs:List Bx} {H:List Hd} {ss:List Sp} {sto:List SO} {g f:Str→Int} {s:Sp}
theorem a7r (ok:Kv bs H ss):∀ h∈H,okN h.1:=fun h hh=>(ok.hs.2.2 h hh).1
theorem moves (ok:Kv bs H ss) (hl:ss.length≤63):Em [prT bs H ss,stT bs H g f] sto = some (.lst ((ss.zipIdx.filter fun p=>en bs H g f p.1).map (mvT bs H g f)),sto):=by
  have eb:=Wv (sto:=sto) (g:=g) (f:=f) ok
  have ep:=Px (sto:=sto) (g:=g) (f:=f) ok
  have i2:gb (prT bs H ss) (.int 2) = some (.lst (ss.map spT)):=Ez
  have sl:ss.length < lim:=by show _ < 1000000; omega
  unfold Em gw
  rw [show ([prT bs H ss,stT bs H g f].map (fun t=>some (t,false)) ++ List.replicate (8 - [prT bs H ss,stT bs H g f].length) none:List Slot) = [some (prT bs H ss,false),some (stT bs H g f,false),none,none,none,none,none,none] from rfl]
  rw [jq (s':=⟨[some (prT bs H ss,false),some (stT bs H g f,false),some (.dic (dn (nB bs) f),false),none,none,none,none,none],sto⟩) (by simp [gw,j7,sIf,ji,sNew,je,jk,sNx,dg,sGo,bf,jo,cj,dh,j4,fj,jz,m5,mOr,j5,mIf,mOp,mUn,cg,j8,ak,gq,aq,j6,dj,bh,hName,jt,fu,jl,ltT,leT,ju,jr,jw,jy,iy,m6,m8,iz,iu,au,kh,eb])]
  rw [jq (s':=⟨[some (prT bs H ss,false),some (stT bs H g f,false),some (.dic (dn (nB bs) f),false),some (.dic (dn (nH H) g),false),none,none,none,none],sto⟩) (by simp [gw,j7,sIf,ji,sNew,je,jk,sNx,dg,sGo,bf,jo,cj,dh,j4,fj,jz,m5,mOr,j5,mIf,mOp,mUn,cg,j8,ak,gq,aq,j6,dj,bh,hName,jt,fu,jl,ltT,leT,ju,jr,jw,jy,iy,m6,m8,iz,iu,au,kh,ep])]
  rw [jq (s':=⟨[some (prT bs H ss,false),some (stT bs H g f,false),some (.dic (dn (nB bs) f),false),some (.dic (dn (nH H) g),false),some (.lst [],true),none,none,none],sto⟩) rfl]
  have it:Oe (mOp gb (cg 0) (aq (.int 2))) ⟨[some (prT bs H ss,false),some (stT bs H g f,false),some (.dic (dn (nB bs) f),false),some (.dic (dn (nH H) g),false),some (.lst [],true),none,none,none],sto⟩ = some (ss.zipIdx.map eT,⟨[some (prT bs H ss,false),some (stT bs H g f,false),some (.dic (dn (nB bs) f),false),some (.dic (dn (nH H) g),false),some (.lst [],true),none,none,none],sto⟩):=by
    rw [← a02]
    simp [gw,j7,sIf,ji,sNew,je,jk,sNx,dg,sGo,bf,jo,cj,dh,j4,fj,jz,m5,mOr,j5,mIf,mOp,mUn,cg,j8,ak,gq,aq,j6,dj,bh,hName,jt,fu,jl,ltT,leT,ju,jr,jw,jy,iy,m6,m8,iz,iu,au,kh,Oe,i2,sl]
  obtain ⟨o5,o6,o7,eF⟩:∃ o5 o6 o7:Slot,jo (jt [5,6]) (Oe (mOp gb (cg 0) (aq (.int 2))))
      (sIf (m5 (fj (mOp eqO (mOp gb (cg 3) (mOp gb (cg 6) (aq (.int 0)))) (mOp gb (cg 6) (aq (.int 1))))) (fj (dj (ug 40) (ak (mOp gb (cg 6) (aq (.int 2))) (ak (cg 2) (ak (cg 3) gq))))))
      (j7 (ji 7 (dj mj (ak (cg 0) (ak (cg 2) (ak (cg 6) gq)))))
      (sIf (fj (mOp Gq (cg 7) (aq .non)))
      (cj 4 (j8 (fun l=>some (.tup l)) (ak (cg 5) (ak (j8 (fun l=>some (.tup l)) (ak (dj m9 (ak (cg 3) (ak (cg 6) gq))) (ak (cg 7) gq))) gq))))
      jk))
      jk) ⟨[some (prT bs H ss,false),some (stT bs H g f,false),some (.dic (dn (nB bs) f),false),some (.dic (dn (nH H) g),false),some (.lst [],true),none,none,none],sto⟩
      = some (.next,⟨[some (prT bs H ss,false),some (stT bs H g f,false),some (.dic (dn (nB bs) f),false),some (.dic (dn (nH H) g),false),some (.lst ((ss.zipIdx.filter fun p=>en bs H g f p.1).map (mvT bs H g f)),true),o5,o6,o7],sto⟩):=by
    unfold jo
    rw [it]
    dsimp only
    generalize hF:forL _ _ _ _ = qq
    obtain ⟨s',rfl,P⟩:=Ew hF (fun ts st=>∃ (m:List (Sp × Nat)) (acc:List T) (o5 o6 o7:Slot),ts = m.map eT∧(∀ p∈m,p.1∈ss)∧acc.length + m.length≤63∧st = ⟨[some (prT bs H ss,false),some (stT bs H g f,false),some (.dic (dn (nB bs) f),false),some (.dic (dn (nH H) g),false),some (.lst acc,true),o5,o6,o7],sto⟩∧acc ++ (m.filter fun p=>en bs H g f p.1).map (mvT bs H g f) = (ss.zipIdx.filter fun p=>en bs H g f p.1).map (mvT bs H g f))
      ⟨ss.zipIdx,[],none,none,none,rfl,fun p hp=>List.mem_of_getElem? (Fg hp).2,by simpa using hl,rfl,rfl⟩ (by
        rintro t r st ⟨m,acc,o5,o6,o7,e1,e2,e3,rfl,e4⟩
        cases m with
        | nil=>cases e1
        | cons p m =>
          cases e1
          have ps:=e2 p List.mem_cons_self
          have oks:=ok.ss p.1 ps
          simp only [List.length_cons] at e3
          have al:acc.length < lim:=by show _ < 1000000; omega
          have j0:gb (spT p.1) (.int 0) = some (.str p.1.hand):=qm
          have j1:gb (spT p.1) (.int 1) = some (.int p.1.here):=xq
          have j2:gb (spT p.1) (.int 2) = some (vq p.1.guard):=Ez
          have ig:=Dk (Gz (f:=g) (oks.mem))
          have hh:=holds (sto:=sto) ok.ns (U8 (f:=f) ok.ndB) (U8 (f:=g) ok.ndH) oks.gd 40 (by decide)
          have vb:=Gj (sto:=sto) (f:=f) ok oks
          have pb:=Gy (sto:=sto) (g:=g) (a7r ok) ok.lH oks.hd
          rw [List.filter_cons] at e4
          by_cases h1:g p.1.hand = p.1.here
          · have b1:(g p.1.hand == p.1.here) = true:=by simpa using h1
            cases h2:tv (dn (nB bs) f) (dn (nH H) g) p.1.guard with
            | false =>
              rw [h2] at hh
              have ef:en bs H g f p.1 = false:=by unfold en; rw [b1,h2]; rfl
              rw [if_neg (by rw [ef]; exact Bool.false_ne_true)] at e4
              exact ⟨_,⟨[some (prT bs H ss,false),some (stT bs H g f,false),some (.dic (dn (nB bs) f),false),some (.dic (dn (nH H) g),false),some (.lst acc,true),some (.int (p.2:Int),false),some (spT p.1,false),o7],sto⟩,by unfold eT; exact Ml,by simp [gw,j7,sIf,ji,sNew,je,jk,sNx,dg,sGo,bf,jo,cj,dh,j4,fj,jz,m5,mOr,j5,mIf,mOp,mUn,cg,j8,ak,gq,aq,j6,dj,bh,hName,jt,fu,jl,ltT,leT,ju,jr,jw,jy,iy,m6,m8,iz,iu,au,kh,j0,ig,j1,qe,b1,j2,hh],m,acc,_,_,_,rfl,fun v hv=>e2 v (List.mem_cons_of_mem _ hv),by omega,rfl,e4⟩
            | true =>
              rw [h2] at hh
              by_cases h3:bs.all (O9 f p.1) = true
              · have ef:en bs H g f p.1 = true:=by unfold en; rw [b1,h2,h3]; rfl
                rw [if_pos ef] at e4
                rw [if_pos h3] at vb
                have nn:Gq (.tup (bs.map fun b=>.int (nv f p.1 b.nm))) .non = some (.bl true):=rfl
                refine ⟨_,⟨[some (prT bs H ss,false),some (stT bs H g f,false),some (.dic (dn (nB bs) f),false),some (.dic (dn (nH H) g),false),some (.lst (acc ++ [mvT bs H g f p]),true),some (.int (p.2:Int),false),some (spT p.1,false),some (.tup (bs.map fun b=>.int (nv f p.1 b.nm)),false)],sto⟩,by unfold eT; exact Ml,?_,m,acc ++ [mvT bs H g f p],_,_,_,rfl,fun v hv=>e2 v (List.mem_cons_of_mem _ hv),by rw [List.length_append,List.length_singleton]; omega,rfl,?_⟩
                · simp [gw,j7,sIf,ji,sNew,je,jk,sNx,dg,sGo,bf,jo,cj,dh,j4,fj,jz,m5,mOr,j5,mIf,mOp,mUn,cg,j8,ak,gq,aq,j6,dj,bh,hName,jt,fu,jl,ltT,leT,ju,jr,jw,jy,iy,m6,m8,iz,iu,au,kh,j0,ig,j1,qe,b1,j2,hh,vb,nn,pb,al,mvT,stT]
                · rw [← e4,List.map_cons,List.append_assoc]; rfl
              · have ef:en bs H g f p.1 = false:=by unfold en; rw [b1,h2,eq_false_of_ne_true h3]; rfl
                rw [if_neg (by rw [ef]; exact Bool.false_ne_true)] at e4
                rw [if_neg h3] at vb
                have nn:Gq .non .non = some (.bl false):=rfl
                exact ⟨_,⟨[some (prT bs H ss,false),some (stT bs H g f,false),some (.dic (dn (nB bs) f),false),some (.dic (dn (nH H) g),false),some (.lst acc,true),some (.int (p.2:Int),false),some (spT p.1,false),some (.non,false)],sto⟩,by unfold eT; exact Ml,by simp [gw,j7,sIf,ji,sNew,je,jk,sNx,dg,sGo,bf,jo,cj,dh,j4,fj,jz,m5,mOr,j5,mIf,mOp,mUn,cg,j8,ak,gq,aq,j6,dj,bh,hName,jt,fu,jl,ltT,leT,ju,jr,jw,jy,iy,m6,m8,iz,iu,au,kh,j0,ig,j1,qe,b1,j2,hh,vb,nn],m,acc,_,_,_,rfl,fun v hv=>e2 v (List.mem_cons_of_mem _ hv),by omega,rfl,e4⟩
          · have b1:(g p.1.hand == p.1.here) = false:=beq_eq_false_iff_ne.mpr h1
            have ef:en bs H g f p.1 = false:=by unfold en; rw [b1]; rfl
            rw [if_neg (by rw [ef]; exact Bool.false_ne_true)] at e4
            exact ⟨_,⟨[some (prT bs H ss,false),some (stT bs H g f,false),some (.dic (dn (nB bs) f),false),some (.dic (dn (nH H) g),false),some (.lst acc,true),some (.int (p.2:Int),false),some (spT p.1,false),o7],sto⟩,by unfold eT; exact Ml,by simp [gw,j7,sIf,ji,sNew,je,jk,sNx,dg,sGo,bf,jo,cj,dh,j4,fj,jz,m5,mOr,j5,mIf,mOp,mUn,cg,j8,ak,gq,aq,j6,dj,bh,hName,jt,fu,jl,ltT,leT,ju,jr,jw,jy,iy,m6,m8,iz,iu,au,kh,j0,ig,j1,qe,b1],m,acc,_,_,_,rfl,fun v hv=>e2 v (List.mem_cons_of_mem _ hv),by omega,rfl,e4⟩)
    obtain ⟨m,acc,o5,o6,o7,e1,e2,e3,rfl,e4⟩:=P
    cases m with
    | cons _ _=>cases e1
    | nil =>
      simp only [List.filter_nil,List.map_nil,List.append_nil] at e4
      subst e4
      exact ⟨o5,o6,o7,rfl⟩
  rw [jq eF]
  simp [gw,j7,sIf,ji,sNew,je,jk,sNx,dg,sGo,bf,jo,cj,dh,j4,fj,jz,m5,mOr,j5,mIf,mOp,mUn,cg,j8,ak,gq,aq,j6,dj,bh,hName,jt,fu,jl,ltT,leT,ju,jr,jw,jy,iy,m6,m8,iz,iu,au,kh]
noncomputable def cn (bs:List Bx) (H:List Hd) (ss:List Sp) (g f:Str→Int):List Nat:=(ss.zipIdx.filter fun p=>en bs H g f p.1).map (·.2)
theorem can (ok:Kv bs H ss) (hl:ss.length≤63):Ra [prT bs H ss,stT bs H g f] sto = some (.lst ((cn bs H ss g f).map fun (k:Nat)=>T.int (k:Int)),sto):=by
  have em:=moves (sto:=sto) (g:=g) (f:=f) ok hl
  have l1:(ss.zipIdx.filter fun p=>en bs H g f p.1).length < lim:=by
    have:=List.length_filter_le (fun p:Sp × Nat=>en bs H g f p.1) ss.zipIdx
    rw [List.length_zipIdx] at this
    show _ < 1000000; omega
  have c:=vm (mvT bs H g f) (fun p=>T.int (p.2:Int)) (ss.zipIdx.filter fun p=>en bs H g f p.1) (g:=jt [0,1]) (nv:=2) (ci:=[]) (c:=iu) (it:=jl (dj Em (ak (cg 0) (ak (cg 1) gq)))) (e:=cg 0) (s:=⟨[some (prT bs H ss,false),some (stT bs H g f,false)],sto⟩) (s1:=⟨[some (prT bs H ss,false),some (stT bs H g f,false)],sto⟩) [some (prT bs H ss,false),some (stT bs H g f,false)] []
    (by simp [gw,j7,sIf,ji,sNew,je,jk,sNx,dg,sGo,bf,jo,cj,dh,j4,fj,jz,m5,mOr,j5,mIf,mOp,mUn,cg,j8,ak,gq,aq,j6,dj,bh,hName,jt,fu,jl,ltT,leT,ju,jr,jw,jy,iy,m6,m8,iz,iu,au,kh,em,l1]) rfl rfl rfl (Nat.le_of_lt l1) (by
      intro p hp pre hpre
      obtain ⟨a,b,rfl⟩:=C.p2 pre hpre
      exact ⟨[some (.int (p.2:Int),false),some (stT bs H (ng g p.1) (nv f p.1),false)],rfl,by unfold mvT; rw [Ml]; rfl,rfl,rfl⟩)
  unfold Ra cn
  simp [gw,j7,sIf,ji,sNew,je,jk,sNx,dg,sGo,bf,jo,cj,dh,j4,fj,jz,m5,mOr,j5,mIf,mOp,mUn,cg,j8,ak,gq,aq,j6,dj,bh,hName,jt,fu,jl,ltT,leT,ju,jr,jw,jy,iy,m6,m8,iz,iu,au,kh,c]
theorem a4j {j:Nat} (hj:j < ss.length):j∈cn bs H ss g f↔en bs H g f ss[j] = true:=by
  unfold cn
  constructor
  · intro h
    obtain ⟨p,hp,rfl⟩:=List.mem_map.mp h
    obtain ⟨h1,h2⟩:=List.mem_filter.mp hp
    have:=(Fg h1).2
    rw [Nat.sub_zero,List.getElem?_eq_getElem hj] at this
    rw [Option.some.inj this]; exact h2
  · intro h
    refine List.mem_map.mpr ⟨(ss[j],j),List.mem_filter.mpr ⟨?_,h⟩,rfl⟩
    rw [List.mem_zipIdx_iff_getElem?]
    exact List.getElem?_eq_getElem hj
theorem a6e {j:Nat} (h:j∈cn bs H ss g f):j < ss.length:=by
  unfold cn at h
  obtain ⟨p,hp,rfl⟩:=List.mem_map.mp h
  have:=(Fg (List.mem_filter.mp hp).1).2
  rw [Nat.sub_zero] at this
  exact (List.getElem?_eq_some_iff.mp this).1
theorem done (ok:Kv bs H ss) {i:Nat} (hi:i < ss.length) (hf:bs.all (O9 f ss[i]) = true):Gp [prT bs H ss,stT bs H g f,.int (i:Int)] sto = some (stT bs H (ng g ss[i]) (nv f ss[i]),sto):=by
  have oks:=ok.ss _ (List.getElem_mem hi)
  have i2:gb (prT bs H ss) (.int 2) = some (.lst (ss.map spT)):=Ez
  have a1:=T7 spT ss hi
  have eb:=Wv (sto:=sto) (g:=g) (f:=f) ok
  have ep:=Px (sto:=sto) (g:=g) (f:=f) ok
  have vb:=Gj (sto:=sto) (f:=f) ok oks
  have pb:=Gy (sto:=sto) (g:=g) (a7r ok) ok.lH oks.hd
  rw [if_pos hf] at vb
  generalize ss[i] = a at *
  unfold Gp
  simp [gw,j7,sIf,ji,sNew,je,jk,sNx,dg,sGo,bf,jo,cj,dh,j4,fj,jz,m5,mOr,j5,mIf,mOp,mUn,cg,j8,ak,gq,aq,j6,dj,bh,hName,jt,fu,jl,ltT,leT,ju,jr,jw,jy,iy,m6,m8,iz,iu,au,kh,i2,a1,eb,vb,ep,pb]
  rfl
theorem X6 {s:Sp} (h:en bs H g f s = true):bs.all (O9 f s) = true:=by
  unfold en at h
  simp only [Bool.and_eq_true] at h -- here
  exact h.2
end
end K
end
noncomputable section
set_option linter.all false
set_option maxRecDepth 100000
set_option autoImplicit false
namespace C
open PySem
mutual
theorem Nk:∀ (t:T) {d:PyData},dat t = some d→noObj t = true
  | .non,_,_=>rfl
  | .bl _,_,_=>rfl
  | .int _,_,_=>rfl
  | .str _,_,_=>rfl
  | .tup xs,d,h=>by
    rw [dat] at h
    rw [noObj]
    cases e:Ks xs with
    | none=>rw [e] at h; cases h
    | some ds=>exact Ho xs e
  | .lst xs,d,h=>by
    rw [dat] at h
    rw [noObj]
    cases e:Ks xs with
    | none=>rw [e] at h; cases h
    | some ds=>exact Ho xs e
  | .dic _,d,h=>by rw [dat] at h; cases h
  | .obj _,d,h=>by rw [dat] at h; cases h
theorem Ho:∀ (xs:List T) {ds:List PyData},Ks xs = some ds→Hz xs = true
  | [],_,_=>rfl
  | x :: r,ds,h=>by
    rw [Ks] at h
    rw [Hz]
    cases e:dat x with
    | none=>rw [e] at h; cases h
    | some a =>
      rw [e] at h
      dsimp only at h
      cases e2:Ks r with
      | none=>rw [e2] at h; cases h
      | some b=>rw [Nk x e,Ho r e2]; rfl
end
theorem Jb {n:Nat} {t:T} (h:Pl n t):noObj t = true:=by
  obtain ⟨d,e,_⟩:=h
  exact Nk t e
end C
namespace K
open C PySem
theorem W4 {n m:Nat} {t:T} (h:Pl n t) (hm:n≤m):Pl m t:=by
  obtain ⟨d,e1,e2⟩:=h
  exact ⟨d,e1,Nat.le_trans e2 hm⟩
noncomputable section
variable {N:List Str} {H:List Hd} {sto:List SO} {s o:Sp}
theorem Yj (hN:Va N) {x:Sm} (h:Yy N x):Pl 3 (smT x):=zy (n:=2) fun t ht=>by
  simp only [List.mem_cons,List.not_mem_nil,or_false] at ht
  rcases ht with rfl | rfl
  · exact Dl 2 _
  · exact zy (n:=1) fun t ht=>by
      obtain ⟨p,hp,rfl⟩:=List.mem_map.mp ht
      exact zy (n:=0) fun t ht=>by
        simp only [List.mem_cons,List.not_mem_nil,or_false] at ht
        rcases ht with rfl | rfl
        · exact Cz 0 (hN.2 _ (h.2 p hp).1).1
        · exact Dl 0 _
theorem a7q:okS "most" ∧ okS "rest" ∧ okS "at" ∧ okS "and" ∧ okS "or" ∧ okS "not" ∧ okS "" := by unfold okS; decide +kernel
theorem a0w (hN:Va N) (hH:a3r H) {d:Nat} {r:Rem} (h:OkR N H d r):Pl (2 * d + 4) (vq r):=by
  obtain ⟨w1,w2,w3,w4,w5,w6,_⟩:=a7q
  induction h with
  | most h =>
    unfold vq
    exact zy fun t ht=>by
      simp only [List.mem_cons,List.not_mem_nil,or_false] at ht
      rcases ht with rfl | rfl
      · exact Cz _ w1
      · exact W4 (Yj hN h) (by omega)
  | rest h _ _ =>
    unfold vq
    exact zy fun t ht=>by
      simp only [List.mem_cons,List.not_mem_nil,or_false] at ht
      rcases ht with rfl | rfl | rfl
      · exact Cz _ w2
      · exact W4 (Yj hN h) (by omega)
      · exact Dl _ _
  | pl h _ _ =>
    unfold vq
    exact zy fun t ht=>by
      simp only [List.mem_cons,List.not_mem_nil,or_false] at ht
      rcases ht with rfl | rfl | rfl
      · exact Cz _ w3
      · exact Cz _ (hH.2.2 _ h).1.1
      · exact Dl _ _
  | all _ _ ih =>
    unfold vq
    rw [Bu]
    exact zy fun t ht=>by
      simp only [List.mem_cons,List.not_mem_nil,or_false] at ht
      rcases ht with rfl | rfl
      · exact Cz _ w4
      · exact zy fun t ht=>by
          obtain ⟨r,hr,rfl⟩:=List.mem_map.mp ht
          exact ih r hr
  | any _ _ ih =>
    unfold vq
    rw [Bu]
    exact zy fun t ht=>by
      simp only [List.mem_cons,List.not_mem_nil,or_false] at ht
      rcases ht with rfl | rfl
      · exact Cz _ w5
      · exact zy fun t ht=>by
          obtain ⟨r,hr,rfl⟩:=List.mem_map.mp ht
          exact ih r hr
  | no _ ih =>
    unfold vq
    exact zy fun t ht=>by
      simp only [List.mem_cons,List.not_mem_nil,or_false] at ht
      rcases ht with rfl | rfl
      · exact Cz _ w6
      · exact W4 ih (by omega)
theorem a6d {bs:List Bx} {ss:List Sp} (ok:Kv bs H ss):Pl 14 (prT bs H ss):=by
  obtain ⟨w1,w2,w3,w4,w5,w6,w7⟩:=a7q
  refine zy (n:=13) fun t ht=>?_
  simp only [List.mem_cons,List.not_mem_nil,or_false] at ht
  rcases ht with rfl | rfl | rfl | rfl
  · exact Td (n:=12) fun t ht=>by
      obtain ⟨b,hb,rfl⟩:=List.mem_map.mp ht
      exact zy (n:=11) fun t ht=>by
        simp only [List.mem_cons,List.not_mem_nil,or_false] at ht
        rcases ht with rfl | rfl | rfl | rfl | rfl
        · exact Cz _ (ok.bx b hb).1.1
        · exact Cz _ w7
        · exact Dl _ _
        · exact Dl _ _
        · exact Dl _ _
  · exact Td (n:=12) fun t ht=>by
      obtain ⟨h,hh,rfl⟩:=List.mem_map.mp ht
      exact zy (n:=11) fun t ht=>by
        simp only [List.mem_cons,List.not_mem_nil,or_false] at ht
        rcases ht with rfl | rfl
        · exact Cz _ (ok.hs.2.2 h hh).1.1
        · exact Dl _ _
  · exact Td (n:=12) fun t ht=>by
      obtain ⟨s,hs,rfl⟩:=List.mem_map.mp ht
      have o:=ok.ss s hs
      exact zy (n:=11) fun t ht=>by
        simp only [List.mem_cons,List.not_mem_nil,or_false] at ht
        rcases ht with rfl | rfl | rfl | rfl | rfl
        · exact Cz _ o.hd.1
        · exact Dl _ _
        · exact W4 (a0w ok.ns ok.hs o.gd) (by decide)
        · exact zy (n:=10) fun t ht=>by
            obtain ⟨p,hp,rfl⟩:=List.mem_map.mp ht
            exact zy (n:=9) fun t ht=>by
              simp only [List.mem_cons,List.not_mem_nil,or_false] at ht
              rcases ht with rfl | rfl
              · exact Cz _ (ok.ns.2 _ (o.set p hp).1).1
              · exact W4 (Yj ok.ns (o.set p hp).2) (by decide)
        · exact Dl _ _
  · exact zy (n:=12) fun t ht=>by cases ht
end
noncomputable section
variable {bs:List Bx} {H:List Hd} {ss:List Sp} {sto:List SO} {g f φ:Str→Int} {s:Sp}
theorem a2n:Pl 2 (stT bs H g f):=zy (n:=1) fun t ht=>by
  simp only [List.mem_cons,List.not_mem_nil,or_false] at ht
  rcases ht with rfl | rfl
  · exact zy (n:=0) fun t ht=>by obtain ⟨h,_,rfl⟩:=List.mem_map.mp ht; exact Dl 0 _
  · exact zy (n:=0) fun t ht=>by obtain ⟨h,_,rfl⟩:=List.mem_map.mp ht; exact Dl 0 _
theorem a3q (f:Str→Int):∀ N:List Str,noObj (.dic (dn N f)) = true
  | []=>rfl
  | x :: N=>by
    have:=a3q f N
    unfold dn at this ⊢
    rw [noObj] at this ⊢
    rw [List.map_cons,N7,this]; rfl
theorem a0n {N:List Str} {x:Str} {v:Int} (h:x∈N):Ku (.inr x) (.int v) (dn N φ) = dn N fun y=>if y = x then v else φ y:=by
  unfold Ku
  have hh:((dn N φ).any fun p=>decide (p.1 = Sum.inr x)) = true:=List.any_eq_true.mpr ⟨(.inr x,.int (φ x)),List.mem_map.mpr ⟨x,h,rfl⟩,by simp⟩
  rw [if_pos hh]
  unfold dn
  rw [List.map_map]
  apply List.map_congr_left
  intro y _
  simp only [Function.comp]
  by_cases e:y = x
  · rw [if_pos (by rw [e]),if_pos e]
  · rw [if_neg (by simpa using e),if_neg e]
noncomputable def upd (f:Str→Int) (φ:Str→Int) (p:Str × Sm):Str→Int:=fun y=>if y = p.1 then vl f p.2 else φ y
theorem a4f:s.sets.foldl (upd f) f = nv f s:=by
  funext y
  have go:∀ (l:List (Str × Sm)) (φ:Str→Int) (o:Option Sm),(φ y = match o with | some z=>vl f z | none=>f y)→l.foldl (upd f) φ y = match l.foldl (fun acc p=>if p.1 = y then some p.2 else acc) o with | some z=>vl f z | none=>f y:=by
    intro l
    induction l with
    | nil=>intro φ o h; exact h
    | cons p l ih =>
      intro φ o h
      rw [List.foldl_cons,List.foldl_cons] -- here
      refine ih _ _ ?_
      unfold upd
      by_cases e:p.1 = y
      · rw [if_pos e.symm,if_pos e]
      · rw [if_neg (fun z=>e z.symm),if_neg e]; exact h
  exact go s.sets f none rfl
noncomputable def inB (φ:Str→Int) (b:Bx):Bool:=decide (b.lo≤φ b.nm) && decide (φ b.nm≤b.hi)
theorem a0o (h:bs.all (inB f) = true):bs.all (inB (nv f s)) = bs.all (O9 f s):=by
  have go:∀ l:List Bx,l.all (inB f) = true→l.all (inB (nv f s)) = l.all (O9 f s):=by
    intro l
    induction l with
    | nil=>intro _; rfl
    | cons b l ih =>
      intro h
      rw [List.all_cons,Bool.and_eq_true] at h -- here
      rw [List.all_cons,List.all_cons,ih h.2]
      congr 1
      unfold O9
      unfold inB nv
      cases hk:lkL s.sets b.nm with
      | none=>dsimp only; exact h.1
      | some y=>rfl
  exact go bs h
theorem a1p (ok:Kv bs H ss) {x:Sta} (h:cg 0 x = some (prT bs H ss,x)):yq 1 [] (hName 0) (jl (mOp gb (cg 0) (aq (.int 1)))) iu (mOp gb (cg 0) (aq (.int 0))) x = some (.lst (H.map fun b=>T.str b.1),x):=by
  have i1:gb (prT bs H ss) (.int 1) = some (.lst (H.map hT)):=xq
  have lb:=ok.lH
  exact vm hT (fun b=>T.str b.1) H (g:=hName 0) (nv:=1) (ci:=[]) (c:=iu) (it:=jl (mOp gb (cg 0) (aq (.int 1)))) (e:=mOp gb (cg 0) (aq (.int 0))) (s:=x) (s1:=x) x.env []
    (by simp [jl,mOp,h,aq,i1,lb]) rfl rfl rfl (Nat.le_of_lt lb) (by
      intro b hb pre hp
      obtain ⟨a,rfl⟩:=C.p1 pre hp
      exact ⟨[some (hT b,false)],rfl,rfl,rfl,by simp [gw,j7,sIf,ji,sNew,je,jk,sNx,dg,sGo,bf,jo,cj,dh,j4,fj,jz,m5,mOr,j5,mIf,mOp,mUn,cg,j8,ak,gq,aq,j6,dj,bh,hName,jt,fu,jl,ltT,leT,ju,jr,jw,jy,iy,m6,m8,iz,iu,au,kh,hT,qm]⟩)
theorem a2w (ok:Kv bs H ss) {x:Sta} (h:cg 0 x = some (prT bs H ss,x)):yq 1 [] (hName 0) (jl (mOp gb (cg 0) (aq (.int 0)))) iu (mOp gb (cg 0) (aq (.int 0))) x = some (.lst (bs.map fun b=>T.str b.nm),x):=by
  have i0:gb (prT bs H ss) (.int 0) = some (.lst (bs.map bxT)):=qm
  have lb:=ok.lB
  exact vm bxT (fun b=>T.str b.nm) bs (g:=hName 0) (nv:=1) (ci:=[]) (c:=iu) (it:=jl (mOp gb (cg 0) (aq (.int 0)))) (e:=mOp gb (cg 0) (aq (.int 0))) (s:=x) (s1:=x) x.env []
    (by simp [jl,mOp,h,aq,i0,lb]) rfl rfl rfl (Nat.le_of_lt lb) (by
      intro b hb pre hp
      obtain ⟨a,rfl⟩:=C.p1 pre hp
      exact ⟨[some (bxT b,false)],rfl,rfl,rfl,by simp [gw,j7,sIf,ji,sNew,je,jk,sNx,dg,sGo,bf,jo,cj,dh,j4,fj,jz,m5,mOr,j5,mIf,mOp,mUn,cg,j8,ak,gq,aq,j6,dj,bh,hName,jt,fu,jl,ltT,leT,ju,jr,jw,jy,iy,m6,m8,iz,iu,au,kh,bxT,qm]⟩)
theorem T9 {e0 e1 e2 e3 e4 e5 e6 e7 e8 e9:Slot}:∀ (rest:List Bx) (o11 o12:Slot),(∀ b∈rest,b.nm∈nB bs)→∃ p11:Slot,
    forL (hName 11) (sIf (mOr (fj (mOp ltT (yc 10 (mOp gb (cg 11) (aq (.int 0)))) (mOp gb (cg 11) (aq (.int 2))))) (fj (mOp gtT (yc 10 (mOp gb (cg 11) (aq (.int 0)))) (mOp gb (cg 11) (aq (.int 3))))))
      (je (aq .non))
      jk) (rest.map bxT) ⟨[e0,e1,e2,e3,e4,e5,e6,e7,e8,e9,some (.dic (dn (nB bs) φ),true),o11,o12],sto⟩
      = some (if rest.all (inB φ) = true then .next else .ret .non,⟨[e0,e1,e2,e3,e4,e5,e6,e7,e8,e9,some (.dic (dn (nB bs) φ),true),p11,o12],sto⟩)
  | [],o11,o12,_=>⟨o11,by simp [forL]⟩
  | b :: rest,o11,o12,hb=>by
    have g1:=Gz (f:=φ) (hb b List.mem_cons_self)
    have j0:gb (bxT b) (.int 0) = some (.str b.nm):=qm
    have j2:gb (bxT b) (.int 2) = some (.int b.lo):=Ez
    have j3:gb (bxT b) (.int 3) = some (.int b.hi):=a0r
    obtain ⟨p11,e⟩:=T9 rest (some (bxT b,false)) o12 fun c hc=>hb c (List.mem_cons_of_mem _ hc)
    cases hf:inB φ b with
    | true =>
      have hf':=hf
      unfold inB at hf'
      simp only [Bool.and_eq_true,decide_eq_true_eq] at hf'
      have d1:¬ (φ b.nm < b.lo):=by omega
      have d2:¬ (b.hi < φ b.nm):=by omega
      refine ⟨p11,?_⟩
      rw [List.map_cons,forL]
      rw [List.all_cons,hf,Bool.true_and,← e]
      simp [gw,j7,sIf,ji,sNew,je,jk,sNx,dg,sGo,bf,jo,cj,dh,j4,fj,jz,m5,mOr,j5,mIf,mOp,mUn,cg,j8,ak,gq,aq,j6,dj,bh,hName,jt,fu,jl,ltT,leT,ju,jr,jw,jy,iy,m6,m8,iz,iu,au,kh,yc,Gm,j0,keyOf,g1,j2,j3,gtT,d1,d2]
    | false =>
      have out:φ b.nm < b.lo∨b.hi < φ b.nm:=by
        unfold inB at hf
        simp only [Bool.and_eq_false_iff,decide_eq_false_iff_not] at hf
        omega
      refine ⟨some (bxT b,false),?_⟩
      rw [List.map_cons,forL]
      rw [List.all_cons,hf,Bool.false_and]
      by_cases d1:φ b.nm < b.lo
      · simp [gw,j7,sIf,ji,sNew,je,jk,sNx,dg,sGo,bf,jo,cj,dh,j4,fj,jz,m5,mOr,j5,mIf,mOp,mUn,cg,j8,ak,gq,aq,j6,dj,bh,hName,jt,fu,jl,ltT,leT,ju,jr,jw,jy,iy,m6,m8,iz,iu,au,kh,yc,Gm,j0,keyOf,g1,j2,j3,gtT,d1]
      · have d2:b.hi < φ b.nm:=out.resolve_left d1
        simp [gw,j7,sIf,ji,sNew,je,jk,sNx,dg,sGo,bf,jo,cj,dh,j4,fj,jz,m5,mOr,j5,mIf,mOp,mUn,cg,j8,ak,gq,aq,j6,dj,bh,hName,jt,fu,jl,ltT,leT,ju,jr,jw,jy,iy,m6,m8,iz,iu,au,kh,yc,Gm,j0,keyOf,g1,j2,j3,gtT,d1,d2]
end
end K
end
noncomputable section
set_option linter.all false
set_option maxRecDepth 100000
set_option autoImplicit false
namespace K
open C PySem
noncomputable section
variable {bs:List Bx} {H:List Hd} {ss:List Sp} {sto:List SO} {g f φ:Str→Int} {s:Sp}
theorem Tp (ok:Kv bs H ss) {i:Nat} (hi:i < ss.length) (hR:bs.all (inB f) = true):zj [prT bs H ss,stT bs H g f,.int (i:Int)] sto = some (if en bs H g f ss[i] = true then stT bs H (ng g ss[i]) (nv f ss[i]) else .non,sto):=by
  have oks:=ok.ss _ (List.getElem_mem hi)
  have i2:gb (prT bs H ss) (.int 2) = some (.lst (ss.map spT)):=Ez
  have i0:gb (prT bs H ss) (.int 0) = some (.lst (bs.map bxT)):=qm
  have i1:gb (prT bs H ss) (.int 1) = some (.lst (H.map hT)):=xq
  have a1:=T7 spT ss hi
  have lb:=ok.lB
  have lh:=ok.lH
  have q1:gb (stT bs H g f) (.int 1) = some (.tup (bs.map fun b=>.int (f b.nm))):=xq
  have q0:gb (stT bs H g f) (.int 0) = some (.tup (H.map fun h=>.int (g h.1))):=qm
  have zB:=Ry (f:=f) ok.ndB (by rw [List.length_map]; exact lb) (ks:=bs.map fun b=>T.str b.nm) (by rw [List.map_map]; rfl) (vs:=bs.map fun b=>.int (f b.nm)) (by rw [List.map_map]; rfl)
  have zH:=Ry (f:=g) ok.ndH (by rw [List.length_map]; exact lh) (ks:=H.map fun b=>T.str b.1) (by rw [List.map_map]; rfl) (vs:=H.map fun h=>.int (g h.1)) (by rw [List.map_map]; rfl)
  generalize ss[i] = a at *
  have hh:=Nx (sto:=[]) ok.ns (U8 (f:=f) ok.ndB) (U8 (f:=g) ok.ndH) oks.gd 40 (by decide)
  have ig:=Gz (f:=g) oks.mem
  have n1:=Jb (a6d ok)
  have n2:=Jb (a2n (bs:=bs) (H:=H) (g:=g) (f:=f))
  have n3:=Jb (a0w ok.ns ok.hs oks.gd)
  have n4:noObj (.tup (a.sets.map seT)) = true:=Jb (n:=5) (zy (n:=4) fun t ht=>by
    obtain ⟨p,hp,rfl⟩:=List.mem_map.mp ht
    exact zy (n:=3) fun t ht=>by
      simp only [List.mem_cons,List.not_mem_nil,or_false] at ht
      rcases ht with rfl | rfl
      · exact Cz _ (ok.ns.2 _ (oks.set p hp).1).1
      · exact Yj ok.ns (oks.set p hp).2)
  have n5:=a3q g (nH H)
  have n6:=a3q f (nB bs)
  have el:Mz [8] [some (prT bs H ss,false),some (stT bs H g f,false),some (.int (i:Int),false),some (.str a.hand,false),some (.int a.here,false),some (vq a.guard,false),some (.tup (a.sets.map seT),false),some (.int a.there,false),some (.dic (dn (nH H) g),true),some (.dic (dn (nB bs) f),false),none,none,none] = [some (prT bs H ss,false),some (stT bs H g f,false),some (.int (i:Int),false),some (.str a.hand,false),some (.int a.here,false),some (vq a.guard,false),some (.tup (a.sets.map seT),false),some (.int a.there,false),some (.dic (dn (nH H) g),false),some (.dic (dn (nB bs) f),false),none,none,none]:=by
    simp only [Mz,lend,List.mapIdx_cons,List.mapIdx_nil,List.map_cons,List.map_nil]
    have ni:∀ z:Int,noObj (.int z) = true:=fun _=>rfl
    have nz:∀ z:Str,noObj (.str z) = true:=fun _=>rfl
    simp [n1,n2,n3,n4,n5,n6,ni,nz]
  unfold zj gw
  rw [show ([prT bs H ss,stT bs H g f,.int (i:Int)].map (fun t=>some (t,false)) ++ List.replicate (13 - [prT bs H ss,stT bs H g f,.int (i:Int)].length) none:List Slot) = [some (prT bs H ss,false),some (stT bs H g f,false),some (.int (i:Int),false),none,none,none,none,none,none,none,none,none,none] from rfl]
  rw [jq (s':=⟨[some (prT bs H ss,false),some (stT bs H g f,false),some (.int (i:Int),false),some (.str a.hand,false),some (.int a.here,false),some (vq a.guard,false),some (.tup (a.sets.map seT),false),some (.int a.there,false),none,none,none,none,none],sto⟩) (by simp [gw,j7,sIf,ji,sNew,je,jk,sNx,dg,sGo,bf,jo,cj,dh,j4,fj,jz,m5,mOr,j5,mIf,mOp,mUn,cg,j8,ak,gq,aq,j6,dj,bh,hName,jt,fu,jl,ltT,leT,ju,jr,jw,jy,iy,m6,m8,iz,iu,au,kh,i2,a1,spT,Yi])]
  have c1:=a1p ok (x:=⟨[some (prT bs H ss,false),some (stT bs H g f,false),some (.int (i:Int),false),some (.str a.hand,false),some (.int a.here,false),some (vq a.guard,false),some (.tup (a.sets.map seT),false),some (.int a.there,false),none,none,none,none,none],sto⟩) rfl
  rw [jq (s':=⟨[some (prT bs H ss,false),some (stT bs H g f,false),some (.int (i:Int),false),some (.str a.hand,false),some (.int a.here,false),some (vq a.guard,false),some (.tup (a.sets.map seT),false),some (.int a.there,false),some (.dic (dn (nH H) g),true),none,none,none,none],sto⟩) (by simp [gw,j7,sIf,ji,sNew,je,jk,sNx,dg,sGo,bf,jo,cj,dh,j4,fj,jz,m5,mOr,j5,mIf,mOp,mUn,cg,j8,ak,gq,aq,j6,dj,bh,hName,jt,fu,jl,ltT,leT,ju,jr,jw,jy,iy,m6,m8,iz,iu,au,kh,c1,q0,zH])]
  have c2:=a2w ok (x:=⟨[some (prT bs H ss,false),some (stT bs H g f,false),some (.int (i:Int),false),some (.str a.hand,false),some (.int a.here,false),some (vq a.guard,false),some (.tup (a.sets.map seT),false),some (.int a.there,false),some (.dic (dn (nH H) g),true),none,none,none,none],sto⟩) rfl
  rw [jq (s':=⟨[some (prT bs H ss,false),some (stT bs H g f,false),some (.int (i:Int),false),some (.str a.hand,false),some (.int a.here,false),some (vq a.guard,false),some (.tup (a.sets.map seT),false),some (.int a.there,false),some (.dic (dn (nH H) g),true),some (.dic (dn (nB bs) f),false),none,none,none],sto⟩) (by simp [gw,j7,sIf,ji,sNew,je,jk,sNx,dg,sGo,bf,jo,cj,dh,j4,fj,jz,m5,mOr,j5,mIf,mOp,mUn,cg,j8,ak,gq,aq,j6,dj,bh,hName,jt,fu,jl,ltT,leT,ju,jr,jw,jy,iy,m6,m8,iz,iu,au,kh,c2,q1,zB])]
  have ec:Nb [8] (mOr (fj (mOp neO (yc 8 (cg 3)) (cg 4))) (jz (fj (dj (jx 40) (ak (cg 5) (ak (cg 9) (ak (cg 8) gq))))))) ⟨[some (prT bs H ss,false),some (stT bs H g f,false),some (.int (i:Int),false),some (.str a.hand,false),some (.int a.here,false),some (vq a.guard,false),some (.tup (a.sets.map seT),false),some (.int a.there,false),some (.dic (dn (nH H) g),true),some (.dic (dn (nB bs) f),false),none,none,none],sto⟩ = some (!(g a.hand == a.here) || !(tv (dn (nB bs) f) (dn (nH H) g) a.guard),⟨[some (prT bs H ss,false),some (stT bs H g f,false),some (.int (i:Int),false),some (.str a.hand,false),some (.int a.here,false),some (vq a.guard,false),some (.tup (a.sets.map seT),false),some (.int a.there,false),some (.dic (dn (nH H) g),true),some (.dic (dn (nB bs) f),false),none,none,none],sto⟩):=by
    unfold Nb
    dsimp only
    rw [el]
    cases h1:(g a.hand == a.here) with
    | false=>simp [gw,j7,sIf,ji,sNew,je,jk,sNx,dg,sGo,bf,jo,cj,dh,j4,fj,jz,m5,mOr,j5,mIf,mOp,mUn,cg,j8,ak,gq,aq,j6,dj,bh,hName,jt,fu,jl,ltT,leT,ju,jr,jw,jy,iy,m6,m8,iz,iu,au,kh,yc,Gm,keyOf,ig,Hq,h1]
    | true =>
      cases h2:tv (dn (nB bs) f) (dn (nH H) g) a.guard with
      | false=>rw [h2] at hh; simp [gw,j7,sIf,ji,sNew,je,jk,sNx,dg,sGo,bf,jo,cj,dh,j4,fj,jz,m5,mOr,j5,mIf,mOp,mUn,cg,j8,ak,gq,aq,j6,dj,bh,hName,jt,fu,jl,ltT,leT,ju,jr,jw,jy,iy,m6,m8,iz,iu,au,kh,yc,Gm,keyOf,ig,Hq,h1,hh]
      | true=>rw [h2] at hh; simp [gw,j7,sIf,ji,sNew,je,jk,sNx,dg,sGo,bf,jo,cj,dh,j4,fj,jz,m5,mOr,j5,mIf,mOp,mUn,cg,j8,ak,gq,aq,j6,dj,bh,hName,jt,fu,jl,ltT,leT,ju,jr,jw,jy,iy,m6,m8,iz,iu,au,kh,yc,Gm,keyOf,ig,Hq,h1,hh]
  have ee:en bs H g f a = ((g a.hand == a.here) && tv (dn (nB bs) f) (dn (nH H) g) a.guard && bs.all (inB (nv f a))):=by rw [a0o hR]; rfl
  rw [ee]
  cases h12:((g a.hand == a.here) && tv (dn (nB bs) f) (dn (nH H) g) a.guard) with
  | false =>
    have e12:(!(g a.hand == a.here) || !(tv (dn (nB bs) f) (dn (nH H) g) a.guard)) = true:=by rw [← Bool.not_and,h12]; rfl
    rw [e12] at ec
    rw [Bool.false_and,if_neg Bool.false_ne_true]
    unfold j7 sIf
    rw [ec]
    rfl
  | true =>
    have e12:(!(g a.hand == a.here) || !(tv (dn (nB bs) f) (dn (nH H) g) a.guard)) = false:=by rw [← Bool.not_and,h12]; rfl
    rw [e12] at ec
    rw [Bool.true_and]
    rw [jq (a7h ec)]
    rw [jq (s':=⟨[some (prT bs H ss,false),some (stT bs H g f,false),some (.int (i:Int),false),some (.str a.hand,false),some (.int a.here,false),some (vq a.guard,false),some (.tup (a.sets.map seT),false),some (.int a.there,false),some (.dic (dn (nH H) g),true),some (.dic (dn (nB bs) f),false),some (.dic (dn (nB bs) f),true),none,none],sto⟩) (by simp [gw,j7,sIf,ji,sNew,je,jk,sNx,dg,sGo,bf,jo,cj,dh,j4,fj,jz,m5,mOr,j5,mIf,mOp,mUn,cg,j8,ak,gq,aq,j6,dj,bh,hName,jt,fu,jl,ltT,leT,ju,jr,jw,jy,iy,m6,m8,iz,iu,au,kh,Dh])]
    obtain ⟨o11,o12,eF⟩:∃ o11 o12:Slot,jo (jt [11,12]) (jl (cg 6)) (Es 10 (cg 11) (dj ql (ak (cg 12) (ak (cg 9) gq)))) ⟨[some (prT bs H ss,false),some (stT bs H g f,false),some (.int (i:Int),false),some (.str a.hand,false),some (.int a.here,false),some (vq a.guard,false),some (.tup (a.sets.map seT),false),some (.int a.there,false),some (.dic (dn (nH H) g),true),some (.dic (dn (nB bs) f),false),some (.dic (dn (nB bs) f),true),none,none],sto⟩ = some (.next,⟨[some (prT bs H ss,false),some (stT bs H g f,false),some (.int (i:Int),false),some (.str a.hand,false),some (.int a.here,false),some (vq a.guard,false),some (.tup (a.sets.map seT),false),some (.int a.there,false),some (.dic (dn (nH H) g),true),some (.dic (dn (nB bs) f),false),some (.dic (dn (nB bs) (nv f a)),true),o11,o12],sto⟩):=by
      have it:jl (cg 6) ⟨[some (prT bs H ss,false),some (stT bs H g f,false),some (.int (i:Int),false),some (.str a.hand,false),some (.int a.here,false),some (vq a.guard,false),some (.tup (a.sets.map seT),false),some (.int a.there,false),some (.dic (dn (nH H) g),true),some (.dic (dn (nB bs) f),false),some (.dic (dn (nB bs) f),true),none,none],sto⟩ = some (a.sets.map seT,⟨[some (prT bs H ss,false),some (stT bs H g f,false),some (.int (i:Int),false),some (.str a.hand,false),some (.int a.here,false),some (vq a.guard,false),some (.tup (a.sets.map seT),false),some (.int a.there,false),some (.dic (dn (nH H) g),true),some (.dic (dn (nB bs) f),false),some (.dic (dn (nB bs) f),true),none,none],sto⟩):=by
        have:=Tn oks
        simp [gw,j7,sIf,ji,sNew,je,jk,sNx,dg,sGo,bf,jo,cj,dh,j4,fj,jz,m5,mOr,j5,mIf,mOp,mUn,cg,j8,ak,gq,aq,j6,dj,bh,hName,jt,fu,jl,ltT,leT,ju,jr,jw,jy,iy,m6,m8,iz,iu,au,kh,this]
      unfold jo
      rw [it]
      dsimp only
      generalize hF:forL _ _ _ _ = qq
      obtain ⟨s',rfl,Q⟩:=Ew hF (fun ts st=>∃ (m:List (Str × Sm)) (φ:Str→Int) (o11 o12:Slot),ts = m.map seT∧(∀ p∈m,p∈a.sets)∧m.foldl (upd f) φ = nv f a∧st = ⟨[some (prT bs H ss,false),some (stT bs H g f,false),some (.int (i:Int),false),some (.str a.hand,false),some (.int a.here,false),some (vq a.guard,false),some (.tup (a.sets.map seT),false),some (.int a.there,false),some (.dic (dn (nH H) g),true),some (.dic (dn (nB bs) f),false),some (.dic (dn (nB bs) φ),true),o11,o12],sto⟩)
        ⟨a.sets,f,none,none,rfl,fun p hp=>hp,a4f,rfl⟩ (by
          rintro t r st ⟨m,φ,o11,o12,e1,e2,e3,rfl⟩
          cases m with
          | nil=>cases e1
          | cons p m =>
            cases e1
            have okp:=oks.set p (e2 p List.mem_cons_self)
            have va:=Jz (sto:=sto) ok.ns okp.2 (U8 (f:=f) ok.ndB)
            rw [a0h fun p hp=>(okp.2.2 p hp).1] at va
            have dl:(dn (nB bs) φ).length < lim:=by unfold dn; rw [List.length_map,List.length_map]; exact lb
            have dp:Ku (.inr p.1) (.int (vl f p.2)) (dn (nB bs) φ) = dn (nB bs) (upd f φ p):=a0n okp.1
            refine ⟨_,⟨[some (prT bs H ss,false),some (stT bs H g f,false),some (.int (i:Int),false),some (.str a.hand,false),some (.int a.here,false),some (vq a.guard,false),some (.tup (a.sets.map seT),false),some (.int a.there,false),some (.dic (dn (nH H) g),true),some (.dic (dn (nB bs) f),false),some (.dic (dn (nB bs) (upd f φ p)),true),some (.str p.1,false),some (smT p.2,false)],sto⟩,by rw [show seT p = .tup [.str p.1,smT p.2] from rfl,Ml],?_,m,_,_,_,rfl,fun q hq=>e2 q (List.mem_cons_of_mem _ hq),e3,rfl⟩
            simp [gw,j7,sIf,ji,sNew,je,jk,sNx,dg,sGo,bf,jo,cj,dh,j4,fj,jz,m5,mOr,j5,mIf,mOp,mUn,cg,j8,ak,gq,aq,j6,dj,bh,hName,jt,fu,jl,ltT,leT,ju,jr,jw,jy,iy,m6,m8,iz,iu,au,kh,Es,Gm,va,keyOf,dl,dp])
      obtain ⟨m,φ,o11,o12,e1,e2,e3,rfl⟩:=Q
      cases m with
      | cons _ _=>cases e1
      | nil =>
        rw [List.foldl_nil] at e3
        subst e3
        exact ⟨o11,o12,rfl⟩
    rw [jq eF]
    obtain ⟨p11,eR⟩:=T9 (bs:=bs) (φ:=nv f a) (sto:=sto) (e0:=some (prT bs H ss,false)) (e1:=some (stT bs H g f,false)) (e2:=some (.int (i:Int),false)) (e3:=some (.str a.hand,false)) (e4:=some (.int a.here,false)) (e5:=some (vq a.guard,false)) (e6:=some (.tup (a.sets.map seT),false)) (e7:=some (.int a.there,false)) (e8:=some (.dic (dn (nH H) g),true)) (e9:=some (.dic (dn (nB bs) f),false)) bs o11 o12 fun b hb=>List.mem_map.mpr ⟨b,hb,rfl⟩
    have it:jl (mOp gb (cg 0) (aq (.int 0))) ⟨[some (prT bs H ss,false),some (stT bs H g f,false),some (.int (i:Int),false),some (.str a.hand,false),some (.int a.here,false),some (vq a.guard,false),some (.tup (a.sets.map seT),false),some (.int a.there,false),some (.dic (dn (nH H) g),true),some (.dic (dn (nB bs) f),false),some (.dic (dn (nB bs) (nv f a)),true),o11,o12],sto⟩ = some (bs.map bxT,⟨[some (prT bs H ss,false),some (stT bs H g f,false),some (.int (i:Int),false),some (.str a.hand,false),some (.int a.here,false),some (vq a.guard,false),some (.tup (a.sets.map seT),false),some (.int a.there,false),some (.dic (dn (nH H) g),true),some (.dic (dn (nB bs) f),false),some (.dic (dn (nB bs) (nv f a)),true),o11,o12],sto⟩):=by simp [gw,j7,sIf,ji,sNew,je,jk,sNx,dg,sGo,bf,jo,cj,dh,j4,fj,jz,m5,mOr,j5,mIf,mOp,mUn,cg,j8,ak,gq,aq,j6,dj,bh,hName,jt,fu,jl,ltT,leT,ju,jr,jw,jy,iy,m6,m8,iz,iu,au,kh,i0,lb]
    cases h3:bs.all (inB (nv f a)) with
    | false =>
      rw [h3,if_neg Bool.false_ne_true] at eR
      rw [if_neg Bool.false_ne_true]
      unfold j7 jo
      rw [it]
      dsimp only
      rw [eR]
    | true =>
      rw [h3,if_pos rfl] at eR
      rw [if_pos rfl]
      rw [jq (a5y it eR)]
      have hl:(dn (nH H) g).length < lim:=by unfold dn; rw [List.length_map,List.length_map]; exact lh
      have dp:Ku (.inr a.hand) (.int a.there) (dn (nH H) g) = dn (nH H) (ng g a):=a0n oks.mem
      rw [jq (s':=⟨[some (prT bs H ss,false),some (stT bs H g f,false),some (.int (i:Int),false),some (.str a.hand,false),some (.int a.here,false),some (vq a.guard,false),some (.tup (a.sets.map seT),false),some (.int a.there,false),some (.dic (dn (nH H) (ng g a)),true),some (.dic (dn (nB bs) f),false),some (.dic (dn (nB bs) (nv f a)),true),p11,o12],sto⟩) (by simp [gw,j7,sIf,ji,sNew,je,jk,sNx,dg,sGo,bf,jo,cj,dh,j4,fj,jz,m5,mOr,j5,mIf,mOp,mUn,cg,j8,ak,gq,aq,j6,dj,bh,hName,jt,fu,jl,ltT,leT,ju,jr,jw,jy,iy,m6,m8,iz,iu,au,kh,Es,Gm,keyOf,hl,dp])]
      have d1:=vm hT (fun h=>T.int (ng g a h.1)) H (g:=hName 0) (nv:=1) (ci:=[8]) (c:=iu) (it:=jl (mOp gb (cg 0) (aq (.int 1)))) (e:=mOp gb (cg 1) (mOp gb (cg 0) (aq (.int 0)))) (s:=⟨[some (prT bs H ss,false),some (stT bs H g f,false),some (.int (i:Int),false),some (.str a.hand,false),some (.int a.here,false),some (vq a.guard,false),some (.tup (a.sets.map seT),false),some (.int a.there,false),some (.dic (dn (nH H) (ng g a)),true),some (.dic (dn (nB bs) f),false),some (.dic (dn (nB bs) (nv f a)),true),p11,o12],sto⟩) (s1:=⟨[some (prT bs H ss,false),some (stT bs H g f,false),some (.int (i:Int),false),some (.str a.hand,false),some (.int a.here,false),some (vq a.guard,false),some (.tup (a.sets.map seT),false),some (.int a.there,false),some (.dic (dn (nH H) (ng g a)),true),some (.dic (dn (nB bs) f),false),some (.dic (dn (nB bs) (nv f a)),true),p11,o12],sto⟩) (⟨[some (prT bs H ss,false),some (stT bs H g f,false),some (.int (i:Int),false),some (.str a.hand,false),some (.int a.here,false),some (vq a.guard,false),some (.tup (a.sets.map seT),false),some (.int a.there,false),some (.dic (dn (nH H) (ng g a)),false),some (.dic (dn (nB bs) f),false),some (.dic (dn (nB bs) (nv f a)),true),p11,o12],sto⟩:Sta).env [some (.dic (dn (nH H) (ng g a)),false)]
        (by simp [gw,j7,sIf,ji,sNew,je,jk,sNx,dg,sGo,bf,jo,cj,dh,j4,fj,jz,m5,mOr,j5,mIf,mOp,mUn,cg,j8,ak,gq,aq,j6,dj,bh,hName,jt,fu,jl,ltT,leT,ju,jr,jw,jy,iy,m6,m8,iz,iu,au,kh,i1,lh]) rfl rfl rfl (Nat.le_of_lt lh) (by
          intro b hb pre hp
          obtain ⟨x,rfl⟩:=C.p1 pre hp
          have j0:gb (hT b) (.int 0) = some (.str b.1):=qm
          have ib:=Dk (Gz (f:=ng g a) (List.mem_map.mpr ⟨b,hb,rfl⟩:b.1∈nH H))
          exact ⟨[some (hT b,false)],rfl,rfl,rfl,by simp [gw,j7,sIf,ji,sNew,je,jk,sNx,dg,sGo,bf,jo,cj,dh,j4,fj,jz,m5,mOr,j5,mIf,mOp,mUn,cg,j8,ak,gq,aq,j6,dj,bh,hName,jt,fu,jl,ltT,leT,ju,jr,jw,jy,iy,m6,m8,iz,iu,au,kh,j0,ib]⟩)
      have d2:=vm bxT (fun b=>T.int (nv f a b.nm)) bs (g:=hName 0) (nv:=1) (ci:=[10]) (c:=iu) (it:=jl (mOp gb (cg 0) (aq (.int 0)))) (e:=mOp gb (cg 1) (mOp gb (cg 0) (aq (.int 0)))) (s:=⟨[some (prT bs H ss,false),some (stT bs H g f,false),some (.int (i:Int),false),some (.str a.hand,false),some (.int a.here,false),some (vq a.guard,false),some (.tup (a.sets.map seT),false),some (.int a.there,false),some (.dic (dn (nH H) (ng g a)),false),some (.dic (dn (nB bs) f),false),some (.dic (dn (nB bs) (nv f a)),true),p11,o12],sto⟩) (s1:=⟨[some (prT bs H ss,false),some (stT bs H g f,false),some (.int (i:Int),false),some (.str a.hand,false),some (.int a.here,false),some (vq a.guard,false),some (.tup (a.sets.map seT),false),some (.int a.there,false),some (.dic (dn (nH H) (ng g a)),false),some (.dic (dn (nB bs) f),false),some (.dic (dn (nB bs) (nv f a)),true),p11,o12],sto⟩) (⟨[some (prT bs H ss,false),some (stT bs H g f,false),some (.int (i:Int),false),some (.str a.hand,false),some (.int a.here,false),some (vq a.guard,false),some (.tup (a.sets.map seT),false),some (.int a.there,false),some (.dic (dn (nH H) (ng g a)),false),some (.dic (dn (nB bs) f),false),some (.dic (dn (nB bs) (nv f a)),false),p11,o12],sto⟩:Sta).env [some (.dic (dn (nB bs) (nv f a)),false)]
        (by simp [gw,j7,sIf,ji,sNew,je,jk,sNx,dg,sGo,bf,jo,cj,dh,j4,fj,jz,m5,mOr,j5,mIf,mOp,mUn,cg,j8,ak,gq,aq,j6,dj,bh,hName,jt,fu,jl,ltT,leT,ju,jr,jw,jy,iy,m6,m8,iz,iu,au,kh,i0,lb]) rfl rfl rfl (Nat.le_of_lt lb) (by
          intro b hb pre hp
          obtain ⟨x,rfl⟩:=C.p1 pre hp
          have j0:gb (bxT b) (.int 0) = some (.str b.nm):=qm
          have ib:=Dk (Gz (f:=nv f a) (List.mem_map.mpr ⟨b,hb,rfl⟩:b.nm∈nB bs))
          exact ⟨[some (bxT b,false)],rfl,rfl,rfl,by simp [gw,j7,sIf,ji,sNew,je,jk,sNx,dg,sGo,bf,jo,cj,dh,j4,fj,jz,m5,mOr,j5,mIf,mOp,mUn,cg,j8,ak,gq,aq,j6,dj,bh,hName,jt,fu,jl,ltT,leT,ju,jr,jw,jy,iy,m6,m8,iz,iu,au,kh,j0,ib]⟩)
      simp [gw,j7,sIf,ji,sNew,je,jk,sNx,dg,sGo,bf,jo,cj,dh,j4,fj,jz,m5,mOr,j5,mIf,mOp,mUn,cg,j8,ak,gq,aq,j6,dj,bh,hName,jt,fu,jl,ltT,leT,ju,jr,jw,jy,iy,m6,m8,iz,iu,au,kh,d1,d2,wz]
      rfl
end
end K
end
noncomputable section
set_option linter.all false
set_option maxRecDepth 100000
set_option autoImplicit false
namespace C
open PySem
theorem a0x {g:G} {b:S} (P:List T→Sta→Prop) (H:∀ t r s,P (t :: r) s→∃ s1 s2,g t s = some s1∧(b s1 = some (.next,s2)∨b s1 = some (.brk,s2))∧P r s2):∀ ts s,P ts s→∃ s' r,forL g b ts s = some (.next,s')∧P r s'
  | [],s,h=>⟨s,[],rfl,h⟩
  | t :: r,s,h=>by
    obtain ⟨s1,s2,e1,e2,p⟩:=H t r s h
    rcases e2 with e2 | e2
    · obtain ⟨s',r',e,q⟩:=a0x P H r s2 p
      refine ⟨s',r',?_,q⟩
      rw [forL]; dsimp only; rw [e1]; dsimp only; rw [e2]; exact e
    · refine ⟨s2,r,?_,p⟩
      rw [forL]; dsimp only; rw [e1]; dsimp only; rw [e2]
end C
namespace K
open C PySem
noncomputable section
variable {bs:List Bx} {H:List Hd} {ss:List Sp} {sto:List SO} {g f φ:Str→Int} {s:Sp}
theorem Yh {α:Type} (nm:α→Str) (v:α→Int):∀ l:List α,(l.map nm).Nodup→∃ f:Str→Int,∀ a∈l,f (nm a) = v a
  | [],_=>⟨fun _=>0,fun a h=>by cases h⟩
  | a :: l,h=>by
    rw [List.map_cons,List.nodup_cons] at h
    obtain ⟨f,hf⟩:=Yh nm v l h.2
    refine ⟨fun x=>if x = nm a then v a else f x,fun c hc=>?_⟩
    rcases List.mem_cons.mp hc with rfl | hc -- here
    · simp
    · have:nm c≠nm a:=fun e=>h.1 (e ▸ List.mem_map.mpr ⟨c,hc,rfl⟩)
      simp only [if_neg this]; exact hf c hc
theorem first (ok:Kv bs H ss):∃ f,Af [prT bs H ss] sto = some (stT bs H (fun _=>0) f,sto)∧∀ b∈bs,f b.nm = b.st:=by
  obtain ⟨f,hf⟩:=Yh (fun b:Bx=>b.nm) (fun b=>b.st) bs ok.ndB
  refine ⟨f,?_,hf⟩
  have i0:gb (prT bs H ss) (.int 0) = some (.lst (bs.map bxT)):=qm
  have i1:gb (prT bs H ss) (.int 1) = some (.lst (H.map hT)):=xq
  have lb:=ok.lB
  have lh:=ok.lH
  have c1:=vm hT (fun _=>T.int 0) H (g:=hName 0) (nv:=1) (ci:=[]) (c:=iu) (it:=jl (mOp gb (cg 0) (aq (.int 1)))) (e:=aq (.int 0)) (s:=⟨[some (prT bs H ss,false)],sto⟩) (s1:=⟨[some (prT bs H ss,false)],sto⟩) [some (prT bs H ss,false)] []
    (by simp [gw,j7,sIf,ji,sNew,je,jk,sNx,dg,sGo,bf,jo,cj,dh,j4,fj,jz,m5,mOr,j5,mIf,mOp,mUn,cg,j8,ak,gq,aq,j6,dj,bh,hName,jt,fu,jl,ltT,leT,ju,jr,jw,jy,iy,m6,m8,iz,iu,au,kh,i1,lh]) rfl rfl rfl (Nat.le_of_lt lh) (by
      intro b hb pre hp
      obtain ⟨a,rfl⟩:=C.p1 pre hp
      exact ⟨[some (hT b,false)],rfl,rfl,rfl,rfl⟩)
  have c2:=vm bxT (fun b=>T.int b.st) bs (g:=hName 0) (nv:=1) (ci:=[]) (c:=iu) (it:=jl (mOp gb (cg 0) (aq (.int 0)))) (e:=mOp gb (cg 0) (aq (.int 4))) (s:=⟨[some (prT bs H ss,false)],sto⟩) (s1:=⟨[some (prT bs H ss,false)],sto⟩) [some (prT bs H ss,false)] []
    (by simp [gw,j7,sIf,ji,sNew,je,jk,sNx,dg,sGo,bf,jo,cj,dh,j4,fj,jz,m5,mOr,j5,mIf,mOp,mUn,cg,j8,ak,gq,aq,j6,dj,bh,hName,jt,fu,jl,ltT,leT,ju,jr,jw,jy,iy,m6,m8,iz,iu,au,kh,i0,lb]) rfl rfl rfl (Nat.le_of_lt lb) (by
      intro b hb pre hp
      obtain ⟨a,rfl⟩:=C.p1 pre hp
      have i4:gb (bxT b) (.int 4) = some (.int b.st):=Gb (k:=4) rfl
      exact ⟨[some (bxT b,false)],rfl,rfl,rfl,by simp [gw,j7,sIf,ji,sNew,je,jk,sNx,dg,sGo,bf,jo,cj,dh,j4,fj,jz,m5,mOr,j5,mIf,mOp,mUn,cg,j8,ak,gq,aq,j6,dj,bh,hName,jt,fu,jl,ltT,leT,ju,jr,jw,jy,iy,m6,m8,iz,iu,au,kh,i4]⟩)
  have e:bs.map (fun b=>T.int b.st) = bs.map fun b=>T.int (f b.nm):=List.map_congr_left fun b hb=>by rw [hf b hb]
  rw [e] at c2
  unfold Af
  simp [gw,j7,sIf,ji,sNew,je,jk,sNx,dg,sGo,bf,jo,cj,dh,j4,fj,jz,m5,mOr,j5,mIf,mOp,mUn,cg,j8,ak,gq,aq,j6,dj,bh,hName,jt,fu,jl,ltT,leT,ju,jr,jw,jy,iy,m6,m8,iz,iu,au,kh,c1,c2,wz,stT]
theorem a86 {H:List Hd} (h3:H.length≤3):Uo (.lst [.int 0]) (.int (H.length:Int)) = some (.lst (H.map fun _=>T.int 0)):=by
  have hc:0≤(H.length:Int)∧(H.length:Int) < 1000000∧[T.int 0].length * (H.length:Int).toNat < lim:=by
    rw [Int.toNat_natCast]
    refine ⟨by omega,by omega,?_⟩
    show 1 * H.length < 1000000
    omega
  simp only [Uo]
  rw [if_pos hc,Int.toNat_natCast]
  have:∀ l:List Hd,(List.replicate l.length [T.int 0]).flatten = l.map fun _=>T.int 0:=by
    intro l
    induction l with
    | nil=>rfl
    | cons a l ih=>rw [List.length_cons,List.replicate_succ,List.flatten_cons,ih]; rfl
  rw [this]
theorem Mu (F:T→T→Option T) (m:F (.lst [.int 0]) (.int (H.length:Int)) = some (.lst (H.map fun _=>T.int 0))) (ok:Kv bs H ss) (hf:∀ b∈bs,f b.nm = b.st):(gw 1
  (je (j8 (fun l=>some (.tup l)) (ak (j8 wz (ak (mOp F (j8 (fun l=>some (.lst l)) (ak (aq (.int 0)) gq)) (j8 ju (ak (mOp gb (cg 0) (aq (.int 1))) gq))) gq)) (ak (j8 wz (ak (yq 1 [] (hName 0) (jl (mOp gb (cg 0) (aq (.int 0)))) iu (mOp gb (cg 0) (aq (.int 4)))) gq)) gq)))):Fn) [prT bs H ss] sto = some (stT bs H (fun _=>0) f,sto):=by
  have i0:gb (prT bs H ss) (.int 0) = some (.lst (bs.map bxT)):=qm
  have i1:gb (prT bs H ss) (.int 1) = some (.lst (H.map hT)):=xq
  have lb:=ok.lB
  have lh:=ok.lH
  have c2:=vm bxT (fun b=>T.int b.st) bs (g:=hName 0) (nv:=1) (ci:=[]) (c:=iu) (it:=jl (mOp gb (cg 0) (aq (.int 0)))) (e:=mOp gb (cg 0) (aq (.int 4))) (s:=⟨[some (prT bs H ss,false)],sto⟩) (s1:=⟨[some (prT bs H ss,false)],sto⟩) [some (prT bs H ss,false)] []
    (by simp [gw,j7,sIf,ji,sNew,je,jk,sNx,dg,sGo,bf,jo,cj,dh,j4,fj,jz,m5,mOr,j5,mIf,mOp,mUn,cg,j8,ak,gq,aq,j6,dj,bh,hName,jt,fu,jl,ltT,leT,ju,jr,jw,jy,iy,m6,m8,iz,iu,au,kh,i0,lb]) rfl rfl rfl (Nat.le_of_lt lb) (by
      intro b hb pre hp
      obtain ⟨a,rfl⟩:=C.p1 pre hp
      have i4:gb (bxT b) (.int 4) = some (.int b.st):=Gb (k:=4) rfl
      exact ⟨[some (bxT b,false)],rfl,rfl,rfl,by simp [gw,j7,sIf,ji,sNew,je,jk,sNx,dg,sGo,bf,jo,cj,dh,j4,fj,jz,m5,mOr,j5,mIf,mOp,mUn,cg,j8,ak,gq,aq,j6,dj,bh,hName,jt,fu,jl,ltT,leT,ju,jr,jw,jy,iy,m6,m8,iz,iu,au,kh,i4]⟩)
  have e:bs.map (fun b=>T.int b.st) = bs.map fun b=>T.int (f b.nm):=List.map_congr_left fun b hb=>by rw [hf b hb]
  rw [e] at c2
  simp [gw,j7,sIf,ji,sNew,je,jk,sNx,dg,sGo,bf,jo,cj,dh,j4,fj,jz,m5,mOr,j5,mIf,mOp,mUn,cg,j8,ak,gq,aq,j6,dj,bh,hName,jt,fu,jl,ltT,leT,ju,jr,jw,jy,iy,m6,m8,iz,iu,au,kh,i1,m,c2,wz,stT]
theorem X4 (ok:Kv bs H ss) (hf:∀ b∈bs,f b.nm = b.st):Bo [prT bs H ss] sto = some (stT bs H (fun _=>0) f,sto):=Mu Uo (a86 ok.hs.2.1) ok hf
theorem a1u (ok:Kv bs H ss) (hl:ss.length≤63) (hR:bs.all (inB f) = true):Di [prT bs H ss,stT bs H g f] sto = some (.lst ((cn bs H ss g f).map fun (k:Nat)=>T.int (k:Int)),sto):=by
  have i2:gb (prT bs H ss) (.int 2) = some (.lst (ss.map spT)):=Ez
  have sl:ss.length < lim:=by show _ < 1000000; omega
  have rz:rangeT ss.length = ss.zipIdx.map fun p=>T.int (p.2:Int):=by
    have e:(ss.zipIdx.map fun p=>T.int (p.2:Int)) = (ss.zipIdx.map Prod.snd).map fun (k:Nat)=>T.int (k:Int):=by rw [List.map_map]; rfl
    rw [e,List.zipIdx_map_snd]
    unfold rangeT
    rw [List.range_eq_range']
  unfold Di cn
  simp only [gw,je]
  generalize hF:yq _ _ _ _ _ _ _ = r
  obtain rfl:=Wk hF (fun p:Sp × Nat=>T.int (p.2:Int)) (fun p=>T.int (p.2:Int)) (fun p=>en bs H g f p.1) ss.zipIdx ⟨[some (prT bs H ss,false),some (stT bs H g f,false)],sto⟩ [some (prT bs H ss,false),some (stT bs H g f,false)] [some (prT bs H ss,false),some (stT bs H g f,false)]
    (by rw [← rz]; simp [gw,j7,sIf,ji,sNew,je,jk,sNx,dg,sGo,bf,jo,cj,dh,j4,fj,jz,m5,mOr,j5,mIf,mOp,mUn,cg,j8,ak,gq,aq,j6,dj,bh,hName,jt,fu,jl,ltT,leT,ju,jr,jw,jy,iy,m6,m8,iz,iu,au,kh,i2,sl]) rfl rfl rfl (by rw [List.length_zipIdx]; exact Nat.le_of_lt sl) (by
      intro p hp pre hpre
      obtain ⟨a,rfl⟩:=C.p1 pre hpre
      have h2:=(Fg hp).2
      rw [Nat.sub_zero] at h2
      obtain ⟨h3,h4⟩:=List.getElem?_eq_some_iff.mp h2
      have ln:=Tp (sto:=sto) (g:=g) ok h3 hR
      rw [h4] at ln
      refine ⟨[some (.int (p.2:Int),false)],rfl,rfl,?_,fun _=>rfl⟩
      cases he:en bs H g f p.1 with
      | true =>
        rw [he,if_pos rfl] at ln
        have nn:Gq (stT bs H (ng g p.1) (nv f p.1)) .non = some (.bl true):=rfl
        simp [gw,j7,sIf,ji,sNew,je,jk,sNx,dg,sGo,bf,jo,cj,dh,j4,fj,jz,m5,mOr,j5,mIf,mOp,mUn,cg,j8,ak,gq,aq,j6,dj,bh,hName,jt,fu,jl,ltT,leT,ju,jr,jw,jy,iy,m6,m8,iz,iu,au,kh,ln,nn]
      | false =>
        rw [he,if_neg Bool.false_ne_true] at ln
        have nn:Gq .non .non = some (.bl false):=rfl
        simp [gw,j7,sIf,ji,sNew,je,jk,sNx,dg,sGo,bf,jo,cj,dh,j4,fj,jz,m5,mOr,j5,mIf,mOp,mUn,cg,j8,ak,gq,aq,j6,dj,bh,hName,jt,fu,jl,ltT,leT,ju,jr,jw,jy,iy,m6,m8,iz,iu,au,kh,ln,nn])
  simp [List.map_map]
theorem Hs (ok:Kv bs H ss):qb [stT bs H g f,prT bs H ss] sto = some (.bl true,sto):=by
  have i0:gb (prT bs H ss) (.int 0) = some (.lst (bs.map bxT)):=qm
  have i1:gb (prT bs H ss) (.int 1) = some (.lst (H.map hT)):=xq
  have q1:gb (stT bs H g f) (.int 1) = some (.tup (bs.map fun b=>.int (f b.nm))):=xq
  have q0:gb (stT bs H g f) (.int 0) = some (.tup (H.map fun h=>.int (g h.1))):=qm
  have t0:isTup [stT bs H g f] = some (.bl true):=rfl
  have t1:ju [stT bs H g f] = some (.int 2):=rfl
  have h3:=ok.hs.2.1
  have b2:=ok.ns.1
  rw [List.length_map] at b2
  have ll:H.length + bs.length < lim:=by show _ < 1000000; omega
  have eF:∃ o2:Slot,forL (hName 2) (sIf (mOr (jz (fj (j8 isInt (ak (cg 2) gq)))) (fj (j8 a5z (ak (cg 2) gq)))) (je (aq (.bl false))) jk) (H.map (fun h=>T.int (g h.1)) ++ bs.map fun b=>T.int (f b.nm)) ⟨[some (stT bs H g f,false),some (prT bs H ss,false),none],sto⟩ = some (.next,⟨[some (stT bs H g f,false),some (prT bs H ss,false),o2],sto⟩):=by
    generalize hF:forL _ _ _ _ = qq
    obtain ⟨s',rfl,Q⟩:=Ew hF (fun ts st=>∃ o2:Slot,(∀ t∈ts,∃ i:Int,t = .int i)∧st = ⟨[some (stT bs H g f,false),some (prT bs H ss,false),o2],sto⟩)
      ⟨none,fun t ht=>by
        rcases List.mem_append.mp ht with z | z
        · obtain ⟨h,_,rfl⟩:=List.mem_map.mp z; exact ⟨_,rfl⟩
        · obtain ⟨h,_,rfl⟩:=List.mem_map.mp z; exact ⟨_,rfl⟩,rfl⟩ (by
        rintro t r st ⟨o2,e1,rfl⟩
        obtain ⟨i,rfl⟩:=e1 t List.mem_cons_self
        exact ⟨_,⟨[some (stT bs H g f,false),some (prT bs H ss,false),some (.int i,false)],sto⟩,rfl,rfl,_,fun t ht=>e1 t (List.mem_cons_of_mem _ ht),rfl⟩)
    obtain ⟨o2,_,rfl⟩:=Q
    exact ⟨o2,rfl⟩
  obtain ⟨o2,eF⟩:=eF
  have tu:∀ xs,isTup [.tup xs] = some (.bl true):=fun _=>rfl
  unfold stT at eF ⊢
  unfold qb
  simp [gw,j7,sIf,ji,sNew,je,jk,sNx,dg,sGo,bf,jo,cj,dh,j4,fj,jz,m5,mOr,j5,mIf,mOp,mUn,cg,j8,ak,gq,aq,j6,dj,bh,hName,jt,fu,jl,ltT,leT,ju,jr,jw,jy,iy,m6,m8,iz,iu,au,kh,tu,qm,xq,i0,i1,Hq,ll,eF]
theorem a6s (h:bs.all (inB f) = true) (he:en bs H g f s = true):bs.all (inB (nv f s)) = true:=by
  rw [a0o h]; exact X6 he
theorem Yn (C0:List Nat):Pl 1 (.lst (C0.map fun (k:Nat)=>T.int (k:Int))):=Td (n:=0) fun t ht=>by
  obtain ⟨k,_,rfl⟩:=List.mem_map.mp ht
  exact Dl 0 _
end
end K
end
noncomputable section
set_option linter.all false
set_option maxRecDepth 100000
set_option autoImplicit false
namespace K
open C PySem
noncomputable section
theorem Vv (MF:Fn) {bs:List Bx} {H:List Hd} {ss:List Sp} {st:List SO} {cs:List Int} {f0:Str→Int} (ef:MF [prT bs H ss] st = some (stT bs H (fun _=>0) f0,st)) (is0:qb [stT bs H (fun _=>0) f0,prT bs H ss] st = some (.bl true,st)) (ne0:neO (stT bs H (fun _=>0) f0) (stT bs H (fun _=>0) f0) = some (.bl false)) :
    sIf (mOr (jz (fj (dj qb (ak (cg 3) (ak (cg 1) gq))))) (fj (mOp neO (cg 3) (dj MF (ak (cg 1) gq))))) (je (aq (.bl false))) jk ⟨[some (scr cs,false),some (prT bs H ss,false),some (prT bs H ss,false),some (stT bs H (fun _=>0) (f0),false),none,none,none,none,none,none,none],st⟩ = some (.next,⟨[some (scr cs,false),some (prT bs H ss,false),some (prT bs H ss,false),some (stT bs H (fun _=>0) (f0),false),none,none,none,none,none,none,none],st⟩):=by
  simp [gw,j7,sIf,ji,sNew,je,jk,sNx,dg,sGo,bf,jo,cj,dh,j4,fj,jz,m5,mOr,j5,mIf,mOp,mUn,cg,j8,ak,gq,aq,j6,dj,bh,hName,jt,fu,jl,ltT,leT,ju,jr,jw,jy,iy,m6,m8,iz,iu,au,kh,is0,ef,ne0]
theorem a05 {cs:List Int} (hc:cs.length≤63):∃ st,V8 [scr cs] [] = some (.bl true,st):=by
  obtain ⟨t,st,ep,bs,H,ss,rfl,ok,hl,hst⟩:=program (cs:=cs) (k:=12) hc
  rw [show ((12:Nat):Int) = 12 from rfl] at ep
  have i0:gb (prT bs H ss) (.int 0) = some (.lst (bs.map bxT)):=qm
  have i1:gb (prT bs H ss) (.int 1) = some (.lst (H.map hT)):=xq
  have i2:gb (prT bs H ss) (.int 2) = some (.lst (ss.map spT)):=Ez
  obtain ⟨f0,e0,hf0⟩:=first (sto:=st) ok
  have ef:=X4 (sto:=st) ok hf0
  have r0:bs.all (inB f0) = true:=List.all_eq_true.mpr fun b hb=>by
    obtain ⟨_,k2,k3,_⟩:=ok.bx b hb
    unfold inB
    rw [hf0 b hb]
    simp only [Bool.and_eq_true,decide_eq_true_eq] -- here
    exact ⟨k2,k3⟩
  have is0:=Hs (sto:=st) (g:=fun _=>0) (f:=f0) ok
  have ne0:=Jf (a2n (bs:=bs) (H:=H) (g:=fun _=>0) (f:=f0)) (by decide)
  have nep:=Jf (a6d ok) (by decide)
  have c0:=can (sto:=st) (g:=fun _=>0) (f:=f0) ok hl
  obtain ⟨m,hm,cx⟩:∃ m:List Int,m.length≤63∧Yw (some 15) (some 63) (scr cs) = some (.lst (m.map T.int)):=by
    refine ⟨(cs.drop (sIx cs.length 0 (some 15))).take (sIx cs.length cs.length (some 63) - sIx cs.length 0 (some 15)),?_,?_⟩
    · rw [List.length_take,List.length_drop]; omega
    · simp only [Yw,a3v,List.length_map,← List.map_drop,← List.map_take]
  have ml:1 + m.length < lim:=by show _ < 1000000; omega
  have ml2:m.length + 1 < lim:=by show _ < 1000000; omega
  have h4:(j8 (fun l=>some (.tup l)) (ak (j8 Gd (ak (mOp gb (cg 1) (aq (.int 0))) gq)) (ak (j8 Gd (ak (mOp gb (cg 1) (aq (.int 1))) gq)) (ak (j8 Gd (ak (mOp gb (cg 1) (aq (.int 2))) gq)) (ak (j8 (fun l=>some (.tup l)) gq) gq)))):M T) ⟨[some (scr cs,false),some (prT bs H ss,false),none,none,none,none,none,none,none,none,none],st⟩ = some (prT bs H ss,⟨[some (scr cs,false),some (prT bs H ss,false),none,none,none,none,none,none,none,none,none],st⟩):=by
    simp [gw,j7,sIf,ji,sNew,je,jk,sNx,dg,sGo,bf,jo,cj,dh,j4,fj,jz,m5,mOr,j5,mIf,mOp,mUn,cg,j8,ak,gq,aq,j6,dj,bh,hName,jt,fu,jl,ltT,leT,ju,jr,jw,jy,iy,m6,m8,iz,iu,au,kh,i0,i1,i2,Gd]
    rfl
  generalize hC:cn bs H ss (fun _=>0) f0 = C0 at c0
  unfold V8 gw
  rw [show ([scr cs].map (fun t=>some (t,false)) ++ List.replicate (11 - [scr cs].length) none:List Slot) = [some (scr cs,false),none,none,none,none,none,none,none,none,none,none] from rfl]
  rw [jq (s':=⟨[some (scr cs,false),some (prT bs H ss,false),none,none,none,none,none,none,none,none,none],st⟩) (by simp [gw,j7,sIf,ji,sNew,je,jk,sNx,dg,sGo,bf,jo,cj,dh,j4,fj,jz,m5,mOr,j5,mIf,mOp,mUn,cg,j8,ak,gq,aq,j6,dj,bh,hName,jt,fu,jl,ltT,leT,ju,jr,jw,jy,iy,m6,m8,iz,iu,au,kh,ep])]
  rw [jq (s':=⟨[some (scr cs,false),some (prT bs H ss,false),some (prT bs H ss,false),none,none,none,none,none,none,none,none],st⟩) (Xz h4)]
  rw [jq (s':=⟨[some (scr cs,false),some (prT bs H ss,false),some (prT bs H ss,false),some (stT bs H (fun _=>0) (f0),false),none,none,none,none,none,none,none],st⟩) (by simp [gw,j7,sIf,ji,sNew,je,jk,sNx,dg,sGo,bf,jo,cj,dh,j4,fj,jz,m5,mOr,j5,mIf,mOp,mUn,cg,j8,ak,gq,aq,j6,dj,bh,hName,jt,fu,jl,ltT,leT,ju,jr,jw,jy,iy,m6,m8,iz,iu,au,kh,e0])]
  rw [jq (s':=⟨[some (scr cs,false),some (prT bs H ss,false),some (prT bs H ss,false),some (stT bs H (fun _=>0) (f0),false),none,none,none,none,none,none,none],st⟩) (Vv Bo ef is0 ne0)]
  rw [jq (s':=⟨[some (scr cs,false),some (prT bs H ss,false),some (prT bs H ss,false),some (stT bs H (fun _=>0) (f0),false),some (.lst (C0.map fun (k:Nat)=>T.int (k:Int)),false),none,none,none,none,none,none],st⟩) (by simp [gw,j7,sIf,ji,sNew,je,jk,sNx,dg,sGo,bf,jo,cj,dh,j4,fj,jz,m5,mOr,j5,mIf,mOp,mUn,cg,j8,ak,gq,aq,j6,dj,bh,hName,jt,fu,jl,ltT,leT,ju,jr,jw,jy,iy,m6,m8,iz,iu,au,kh,c0])]
  rw [jq (s':=⟨[some (scr cs,false),some (prT bs H ss,false),some (prT bs H ss,false),some (stT bs H (fun _=>0) (f0),false),some (.lst (C0.map fun (k:Nat)=>T.int (k:Int)),false),some (.lst (C0.map fun (k:Nat)=>T.int (k:Int)),false),none,none,none,none,none],st⟩) (by simp [gw,j7,sIf,ji,sNew,je,jk,sNx,dg,sGo,bf,jo,cj,dh,j4,fj,jz,m5,mOr,j5,mIf,mOp,mUn,cg,j8,ak,gq,aq,j6,dj,bh,hName,jt,fu,jl,ltT,leT,ju,jr,jw,jy,iy,m6,m8,iz,iu,au,kh,Gd])]
  generalize hL:jo (hName 6) _ _ = loop
  obtain ⟨g,f,o6,o7,o8,o9,o10,el⟩:∃ (g f:Str→Int) (o6 o7 o8 o9 o10:Slot),loop ⟨[some (scr cs,false),some (prT bs H ss,false),some (prT bs H ss,false),some (stT bs H (fun _=>0) (f0),false),some (.lst (C0.map fun (k:Nat)=>T.int (k:Int)),false),some (.lst (C0.map fun (k:Nat)=>T.int (k:Int)),false),none,none,none,none,none],st⟩ = some (.next,⟨[some (scr cs,false),some (prT bs H ss,false),some (prT bs H ss,false),some (stT bs H (g) (f),false),some (.lst (C0.map fun (k:Nat)=>T.int (k:Int)),false),some (.lst (C0.map fun (k:Nat)=>T.int (k:Int)),false),o6,o7,o8,o9,o10],st⟩):=by
    rw [← hL]
    have it:jl (mOp jr (j8 (fun l=>some (.lst l)) (ak (aq (.int 0)) gq)) (Gs (cg 0) (J4 (aq (.int 15))) (J4 (aq (.int 63))))) ⟨[some (scr cs,false),some (prT bs H ss,false),some (prT bs H ss,false),some (stT bs H (fun _=>0) (f0),false),some (.lst (C0.map fun (k:Nat)=>T.int (k:Int)),false),some (.lst (C0.map fun (k:Nat)=>T.int (k:Int)),false),none,none,none,none,none],st⟩ = some ((0 :: m).map T.int,⟨[some (scr cs,false),some (prT bs H ss,false),some (prT bs H ss,false),some (stT bs H (fun _=>0) (f0),false),some (.lst (C0.map fun (k:Nat)=>T.int (k:Int)),false),some (.lst (C0.map fun (k:Nat)=>T.int (k:Int)),false),none,none,none,none,none],st⟩):=by
      simp [gw,j7,sIf,ji,sNew,je,jk,sNx,dg,sGo,bf,jo,cj,dh,j4,fj,jz,m5,mOr,j5,mIf,mOp,mUn,cg,j8,ak,gq,aq,j6,dj,bh,hName,jt,fu,jl,ltT,leT,ju,jr,jw,jy,iy,m6,m8,iz,iu,au,kh,Gs,J4,cx,ml,ml2]
    generalize hB:(j7 (ji 7 _) _:S) = body
    unfold jo
    rw [it]
    dsimp only
    obtain ⟨s',r,e,Q⟩:=a0x (g:=hName 6) (b:=body) (fun ts s=>∃ (g f:Str→Int) (o6 o7 o8 o9 o10:Slot),(∀ t∈ts,∃ i:Int,t = .int i)∧bs.all (inB f) = true∧s = ⟨[some (scr cs,false),some (prT bs H ss,false),some (prT bs H ss,false),some (stT bs H (g) (f),false),some (.lst (C0.map fun (k:Nat)=>T.int (k:Int)),false),some (.lst (C0.map fun (k:Nat)=>T.int (k:Int)),false),o6,o7,o8,o9,o10],st⟩) (by
        rintro t q s ⟨g,f,o6,o7,o8,o9,o10,f1,f2,rfl⟩
        obtain ⟨i,rfl⟩:=f1 t List.mem_cons_self
        have lc:=a1u (sto:=st) (g:=g) ok hl f2
        have cc:=can (sto:=st) (g:=g) (f:=f) ok hl
        have mem:∀ k∈cn bs H ss g f,∃ hk:k < ss.length,en bs H g f ss[k] = true:=fun k hk=>⟨a6e hk,(a4j (a6e hk)).mp hk⟩
        have cl:(cn bs H ss g f).length < lim:=by
          have:=List.length_filter_le (fun q:Sp × Nat=>en bs H g f q.1) ss.zipIdx
          rw [List.length_zipIdx] at this
          unfold cn
          rw [List.length_map]
          show _ < 1000000; omega
        generalize cn bs H ss g f = C1 at *
        have ne:=Jf (Yn C1) (by decide)
        obtain ⟨o9',o10',e9⟩:∃ o9' o10':Slot,jo (hName 9) (jl (cg 8))
            (j7 (ji 10 (dj Gp (ak (cg 2) (ak (cg 3) (ak (cg 9) gq)))))
            (sIf (mOr (jz (fj (dj qb (ak (cg 10) (ak (cg 1) gq))))) (fj (mOp neO (cg 10) (dj zj (ak (cg 1) (ak (cg 3) (ak (cg 9) gq)))))))
            (je (aq (.bl false)))
            jk)) ⟨[some (scr cs,false),some (prT bs H ss,false),some (prT bs H ss,false),some (stT bs H (g) (f),false),some (.lst (C0.map fun (k:Nat)=>T.int (k:Int)),false),some (.lst (C0.map fun (k:Nat)=>T.int (k:Int)),false),some (.int i,false),some (.lst (C1.map fun (k:Nat)=>T.int (k:Int)),false),some (.lst (C1.map fun (k:Nat)=>T.int (k:Int)),false),o9,o10],st⟩ = some (.next,⟨[some (scr cs,false),some (prT bs H ss,false),some (prT bs H ss,false),some (stT bs H (g) (f),false),some (.lst (C0.map fun (k:Nat)=>T.int (k:Int)),false),some (.lst (C0.map fun (k:Nat)=>T.int (k:Int)),false),some (.int i,false),some (.lst (C1.map fun (k:Nat)=>T.int (k:Int)),false),some (.lst (C1.map fun (k:Nat)=>T.int (k:Int)),false),o9',o10'],st⟩):=by
          have it2:jl (cg 8) ⟨[some (scr cs,false),some (prT bs H ss,false),some (prT bs H ss,false),some (stT bs H (g) (f),false),some (.lst (C0.map fun (k:Nat)=>T.int (k:Int)),false),some (.lst (C0.map fun (k:Nat)=>T.int (k:Int)),false),some (.int i,false),some (.lst (C1.map fun (k:Nat)=>T.int (k:Int)),false),some (.lst (C1.map fun (k:Nat)=>T.int (k:Int)),false),o9,o10],st⟩ = some (C1.map fun (k:Nat)=>T.int (k:Int),⟨[some (scr cs,false),some (prT bs H ss,false),some (prT bs H ss,false),some (stT bs H (g) (f),false),some (.lst (C0.map fun (k:Nat)=>T.int (k:Int)),false),some (.lst (C0.map fun (k:Nat)=>T.int (k:Int)),false),some (.int i,false),some (.lst (C1.map fun (k:Nat)=>T.int (k:Int)),false),some (.lst (C1.map fun (k:Nat)=>T.int (k:Int)),false),o9,o10],st⟩):=by simp [gw,j7,sIf,ji,sNew,je,jk,sNx,dg,sGo,bf,jo,cj,dh,j4,fj,jz,m5,mOr,j5,mIf,mOp,mUn,cg,j8,ak,gq,aq,j6,dj,bh,hName,jt,fu,jl,ltT,leT,ju,jr,jw,jy,iy,m6,m8,iz,iu,au,kh,cl]
          unfold jo
          rw [it2]
          dsimp only
          generalize hG:forL _ _ _ _ = qq
          obtain ⟨s',rfl,R⟩:=Ew hG (fun ts s=>∃ (m:List Nat) (o9 o10:Slot),ts = m.map (fun (k:Nat)=>T.int (k:Int))∧(∀ k∈m,k∈C1)∧s = ⟨[some (scr cs,false),some (prT bs H ss,false),some (prT bs H ss,false),some (stT bs H (g) (f),false),some (.lst (C0.map fun (k:Nat)=>T.int (k:Int)),false),some (.lst (C0.map fun (k:Nat)=>T.int (k:Int)),false),some (.int i,false),some (.lst (C1.map fun (k:Nat)=>T.int (k:Int)),false),some (.lst (C1.map fun (k:Nat)=>T.int (k:Int)),false),o9,o10],st⟩)
            ⟨C1,o9,o10,rfl,fun k hk=>hk,rfl⟩ (by
              rintro t q s ⟨m,o9,o10,g1,g2,rfl⟩
              cases m with
              | nil=>cases g1
              | cons k m =>
                cases g1
                obtain ⟨hk,he⟩:=mem k (g2 k List.mem_cons_self)
                have d1:=done (sto:=st) (g:=g) (f:=f) ok hk (X6 he)
                have is1:=Hs (sto:=st) (g:=ng g ss[k]) (f:=nv f ss[k]) ok
                have ln:=Tp (sto:=st) (g:=g) ok hk f2
                rw [he,if_pos rfl] at ln
                have ne1:=Jf (a2n (bs:=bs) (H:=H) (g:=ng g ss[k]) (f:=nv f ss[k])) (by decide)
                refine ⟨_,⟨[some (scr cs,false),some (prT bs H ss,false),some (prT bs H ss,false),some (stT bs H (g) (f),false),some (.lst (C0.map fun (k:Nat)=>T.int (k:Int)),false),some (.lst (C0.map fun (k:Nat)=>T.int (k:Int)),false),some (.int i,false),some (.lst (C1.map fun (k:Nat)=>T.int (k:Int)),false),some (.lst (C1.map fun (k:Nat)=>T.int (k:Int)),false),some (.int (k:Int),false),some (stT bs H (ng g ss[k]) (nv f ss[k]),false)],st⟩,rfl,?_,m,_,_,rfl,fun z hz=>g2 z (List.mem_cons_of_mem _ hz),rfl⟩
                show (j7 _ _:S) ⟨[some (scr cs,false),some (prT bs H ss,false),some (prT bs H ss,false),some (stT bs H (g) (f),false),some (.lst (C0.map fun (k:Nat)=>T.int (k:Int)),false),some (.lst (C0.map fun (k:Nat)=>T.int (k:Int)),false),some (.int i,false),some (.lst (C1.map fun (k:Nat)=>T.int (k:Int)),false),some (.lst (C1.map fun (k:Nat)=>T.int (k:Int)),false),some (.int (k:Int),false),o10],st⟩ = _
                rw [jq (s':=⟨[some (scr cs,false),some (prT bs H ss,false),some (prT bs H ss,false),some (stT bs H (g) (f),false),some (.lst (C0.map fun (k:Nat)=>T.int (k:Int)),false),some (.lst (C0.map fun (k:Nat)=>T.int (k:Int)),false),some (.int i,false),some (.lst (C1.map fun (k:Nat)=>T.int (k:Int)),false),some (.lst (C1.map fun (k:Nat)=>T.int (k:Int)),false),some (.int (k:Int),false),some (stT bs H (ng g ss[k]) (nv f ss[k]),false)],st⟩) (by simp [gw,j7,sIf,ji,sNew,je,jk,sNx,dg,sGo,bf,jo,cj,dh,j4,fj,jz,m5,mOr,j5,mIf,mOp,mUn,cg,j8,ak,gq,aq,j6,dj,bh,hName,jt,fu,jl,ltT,leT,ju,jr,jw,jy,iy,m6,m8,iz,iu,au,kh,d1])]
                simp [gw,j7,sIf,ji,sNew,je,jk,sNx,dg,sGo,bf,jo,cj,dh,j4,fj,jz,m5,mOr,j5,mIf,mOp,mUn,cg,j8,ak,gq,aq,j6,dj,bh,hName,jt,fu,jl,ltT,leT,ju,jr,jw,jy,iy,m6,m8,iz,iu,au,kh,is1,ln,ne1])
          obtain ⟨m,o9,o10,g1,g2,rfl⟩:=R
          exact ⟨o9,o10,rfl⟩
        have pre:body ⟨[some (scr cs,false),some (prT bs H ss,false),some (prT bs H ss,false),some (stT bs H (g) (f),false),some (.lst (C0.map fun (k:Nat)=>T.int (k:Int)),false),some (.lst (C0.map fun (k:Nat)=>T.int (k:Int)),false),some (.int i,false),o7,o8,o9,o10],st⟩ = (j7 (sIf (fj (mOp eqO (cg 8) (j8 (fun l=>some (.lst l)) gq))) a6j jk)
            (ji 3 (dj Gp (ak (cg 2) (ak (cg 3) (ak (mOp gb (cg 8) (mOp jy (cg 6) (j8 ju (ak (cg 8) gq)))) gq)))))) ⟨[some (scr cs,false),some (prT bs H ss,false),some (prT bs H ss,false),some (stT bs H (g) (f),false),some (.lst (C0.map fun (k:Nat)=>T.int (k:Int)),false),some (.lst (C0.map fun (k:Nat)=>T.int (k:Int)),false),some (.int i,false),some (.lst (C1.map fun (k:Nat)=>T.int (k:Int)),false),some (.lst (C1.map fun (k:Nat)=>T.int (k:Int)),false),o9',o10'],st⟩:=by
          rw [← hB]
          rw [jq (s':=⟨[some (scr cs,false),some (prT bs H ss,false),some (prT bs H ss,false),some (stT bs H (g) (f),false),some (.lst (C0.map fun (k:Nat)=>T.int (k:Int)),false),some (.lst (C0.map fun (k:Nat)=>T.int (k:Int)),false),some (.int i,false),some (.lst (C1.map fun (k:Nat)=>T.int (k:Int)),false),o8,o9,o10],st⟩) (by simp [gw,j7,sIf,ji,sNew,je,jk,sNx,dg,sGo,bf,jo,cj,dh,j4,fj,jz,m5,mOr,j5,mIf,mOp,mUn,cg,j8,ak,gq,aq,j6,dj,bh,hName,jt,fu,jl,ltT,leT,ju,jr,jw,jy,iy,m6,m8,iz,iu,au,kh,lc])]
          rw [jq (s':=⟨[some (scr cs,false),some (prT bs H ss,false),some (prT bs H ss,false),some (stT bs H (g) (f),false),some (.lst (C0.map fun (k:Nat)=>T.int (k:Int)),false),some (.lst (C0.map fun (k:Nat)=>T.int (k:Int)),false),some (.int i,false),some (.lst (C1.map fun (k:Nat)=>T.int (k:Int)),false),some (.lst (C1.map fun (k:Nat)=>T.int (k:Int)),false),o9,o10],st⟩) (by simp [gw,j7,sIf,ji,sNew,je,jk,sNx,dg,sGo,bf,jo,cj,dh,j4,fj,jz,m5,mOr,j5,mIf,mOp,mUn,cg,j8,ak,gq,aq,j6,dj,bh,hName,jt,fu,jl,ltT,leT,ju,jr,jw,jy,iy,m6,m8,iz,iu,au,kh,cc])]
          rw [jq (s':=⟨[some (scr cs,false),some (prT bs H ss,false),some (prT bs H ss,false),some (stT bs H (g) (f),false),some (.lst (C0.map fun (k:Nat)=>T.int (k:Int)),false),some (.lst (C0.map fun (k:Nat)=>T.int (k:Int)),false),some (.int i,false),some (.lst (C1.map fun (k:Nat)=>T.int (k:Int)),false),some (.lst (C1.map fun (k:Nat)=>T.int (k:Int)),false),o9,o10],st⟩) (by simp [gw,j7,sIf,ji,sNew,je,jk,sNx,dg,sGo,bf,jo,cj,dh,j4,fj,jz,m5,mOr,j5,mIf,mOp,mUn,cg,j8,ak,gq,aq,j6,dj,bh,hName,jt,fu,jl,ltT,leT,ju,jr,jw,jy,iy,m6,m8,iz,iu,au,kh,Y7,ne,nep])]
          rw [jq e9]
        cases C1 with
        | nil =>
          have eq:eqO (.lst []) (.lst []) = some (.bl true):=Sv (n:=1) (Yn []) (by decide)
          refine ⟨_,⟨[some (scr cs,false),some (prT bs H ss,false),some (prT bs H ss,false),some (stT bs H (g) (f),false),some (.lst (C0.map fun (k:Nat)=>T.int (k:Int)),false),some (.lst (C0.map fun (k:Nat)=>T.int (k:Int)),false),some (.int i,false),some (.lst [],false),some (.lst [],false),o9',o10'],st⟩,rfl,.inr ?_,g,f,_,_,_,_,_,fun t ht=>f1 t (List.mem_cons_of_mem _ ht),f2,rfl⟩
          refine pre.trans ?_
          simp only [List.map_nil]
          simp [gw,j7,sIf,ji,sNew,je,jk,sNx,dg,sGo,bf,jo,cj,dh,j4,fj,jz,m5,mOr,j5,mIf,mOp,mUn,cg,j8,ak,gq,aq,j6,dj,bh,hName,jt,fu,jl,ltT,leT,ju,jr,jw,jy,iy,m6,m8,iz,iu,au,kh,eq,a6j]
        | cons k0 C2 =>
          have eq:eqO (.lst ((k0 :: C2).map fun (k:Nat)=>T.int (k:Int))) (.lst []) = some (.bl false):=by
            obtain ⟨d,e1,e2⟩:=Yn (k0 :: C2)
            simp only [List.map_cons] at e1 ⊢
            rw [dat,Ks] at e1
            simp only [dat] at e1
            cases hd:Ks (C2.map fun (k:Nat)=>T.int (k:Int)) with
            | none=>rw [hd] at e1; cases e1
            | some ds =>
              rw [hd] at e1
              simp only [Option.map_some,Option.some.injEq] at e1
              subst e1
              simp only [eqO,eqT,eqD,dat,Ks,hd,Option.map_some]
              simp [PyData.eqv,PyData.eqvAll,Nat.le_trans e2 (by decide:1≤40)]
              try simp [PyData.depth,PyData.depthAll]
          generalize hC1:k0 :: C2 = C1 at *
          have pos:0 < (C1.length:Int):=by rw [← hC1,List.length_cons]; omega
          obtain ⟨k,hk,ik⟩:=P0 (fun (k:Nat)=>T.int (k:Int)) C1 (Int.emod_nonneg i (Int.ne_of_gt pos)) (Int.emod_lt_of_pos i pos)
          obtain ⟨hk,he⟩:=mem k hk
          have d1:=done (sto:=st) (g:=g) (f:=f) ok hk (X6 he)
          refine ⟨_,⟨[some (scr cs,false),some (prT bs H ss,false),some (prT bs H ss,false),some (stT bs H (ng g ss[k]) (nv f ss[k]),false),some (.lst (C0.map fun (k:Nat)=>T.int (k:Int)),false),some (.lst (C0.map fun (k:Nat)=>T.int (k:Int)),false),some (.int i,false),some (.lst (C1.map fun (k:Nat)=>T.int (k:Int)),false),some (.lst (C1.map fun (k:Nat)=>T.int (k:Int)),false),o9',o10'],st⟩,rfl,.inl ?_,ng g ss[k],nv f ss[k],_,_,_,_,_,fun t ht=>f1 t (List.mem_cons_of_mem _ ht),a6s f2 he,rfl⟩
          refine pre.trans ?_
          rw [jq (s':=⟨[some (scr cs,false),some (prT bs H ss,false),some (prT bs H ss,false),some (stT bs H (g) (f),false),some (.lst (C0.map fun (k:Nat)=>T.int (k:Int)),false),some (.lst (C0.map fun (k:Nat)=>T.int (k:Int)),false),some (.int i,false),some (.lst (C1.map fun (k:Nat)=>T.int (k:Int)),false),some (.lst (C1.map fun (k:Nat)=>T.int (k:Int)),false),o9',o10'],st⟩) (by simp [gw,j7,sIf,ji,sNew,je,jk,sNx,dg,sGo,bf,jo,cj,dh,j4,fj,jz,m5,mOr,j5,mIf,mOp,mUn,cg,j8,ak,gq,aq,j6,dj,bh,hName,jt,fu,jl,ltT,leT,ju,jr,jw,jy,iy,m6,m8,iz,iu,au,kh,eq])]
          have pos':0 < C1.length:=by omega
          simp only [ji,dj,ak,gq,cg,mOp,j8,ju,List.length_map]
          simp [gw,j7,sIf,ji,sNew,je,jk,sNx,dg,sGo,bf,jo,cj,dh,j4,fj,jz,m5,mOr,j5,mIf,mOp,mUn,cg,j8,ak,gq,aq,j6,dj,bh,hName,jt,fu,jl,ltT,leT,ju,jr,jw,jy,iy,m6,m8,iz,iu,au,kh,ik,d1,pos']) ((0 :: m).map T.int) ⟨[some (scr cs,false),some (prT bs H ss,false),some (prT bs H ss,false),some (stT bs H (fun _=>0) (f0),false),some (.lst (C0.map fun (k:Nat)=>T.int (k:Int)),false),some (.lst (C0.map fun (k:Nat)=>T.int (k:Int)),false),none,none,none,none,none],st⟩ ⟨_,f0,none,none,none,none,none,fun t ht=>by obtain ⟨i,_,rfl⟩:=List.mem_map.mp ht; exact ⟨i,rfl⟩,r0,rfl⟩
    obtain ⟨g,f,o6,o7,o8,o9,o10,_,_,rfl⟩:=Q
    exact ⟨g,f,o6,o7,o8,o9,o10,e⟩
  rw [jq el]
  have eq:=Sv (Yn C0) (by decide)
  refine ⟨st,?_⟩
  simp [gw,j7,sIf,ji,sNew,je,jk,sNx,dg,sGo,bf,jo,cj,dh,j4,fj,jz,m5,mOr,j5,mIf,mOp,mUn,cg,j8,ak,gq,aq,j6,dj,bh,hName,jt,fu,jl,ltT,leT,ju,jr,jw,jy,iy,m6,m8,iz,iu,au,kh,eq]
end
end K
end
noncomputable section
set_option linter.all false
set_option maxRecDepth 100000
set_option maxHeartbeats 1000000
namespace D
open PySem L2 C
noncomputable def top (i:Nat):Stmt:=PySem.Challenge.pw_calm_k20_steps_done.main.body.getD i (.Pass ⟨0,0,0,0⟩)
noncomputable section
variable {P:Program} {w:World} {K:PySem.W.Frag} {mg:Str→Option Value} {base:Heap} {f:Addr} {fd:FuncData}
noncomputable abbrev G8:Stmt:=top 1
theorem Sx:ou ["one","book"] ["one","book"] (iw G8):=⟨rfl,rfl,rfl,by decide +kernel,rfl,by decide +kernel,by decide +kernel⟩
theorem Zn (F:Fun K "value" "value" G8 f fd) (b_sum:mg "sum" = none):Cv P w K mg base CX0 1 f fd ["one","book"] (spF K (["one","book"]:List Str).length _root_.K.Br):=by
  refine qj (N:=["one","book"]) F Sx (by decide)  fun cdv A outer s H E B hr=>?_
  have hu:=Bq hr
  have hq:=hr.units
  have nd:(["one","book"]:List Str).Nodup:=Sx.nd
  refine j9 ?_
  · refine jm ?_
    · refine nq ?_ ?_ ?_
      · exact wu
      · exact jj hu (ao 0 (pv 0)) cu (fun _ _=>rfl)
      · refine lq ?_
        · refine vo (N8 (by rfl)) ?_ ?_ PyProof.Rows.boot_sum ?_
          · exact by rfl
          · exact b_sum
          · refine aj ?_ ?_
            · refine vh ?_
              · refine Ax (N:=["box","times","book"]) ?_ ?_ ?_ ?_ ?_ ?_ ?_ ?_
                · exact ⟨rfl,fun j k h=>match j,h with | 0,h=>(by cases h; exact ⟨_,rfl,rfl,⟨.inl rfl,.inr (.inl rfl),.inl rfl⟩⟩) | _ + 1,h=>(by cases h)⟩
                · exact ⟨rfl,rfl,by decide +kernel,by decide +kernel⟩
                · exact rfl
                · exact zp (jj hu (ao 0 (pv 0)) cu (fun _ _=>rfl))
                · exact zm
                · exact fun C s₀ H₀ ex pn=>pgE fun B=>(Fw (is:=[0,1]) (G5 rfl (nu (jh (show (["box","times","book"]:List Str).Nodup by decide +kernel) rfl (Or.inl rfl)) (nu (jh (show (["box","times","book"]:List Str).Nodup by decide +kernel) rfl (Or.inl rfl)) Dg))))
                · exact fun C s₀ H₀ ex pn=>vg
                · exact fun C s₀ H₀ ex pn=>peE fun B=>(nq Dq (ao 1 (pv 1)) (jj hu (ao 2 (pv 2)) (ao 0 (pv 0)) (fun _ _=>rfl)))
            · exact dz
theorem Yu (F:Fun K "value" "value" G8 f fd) (hmg:mg "value" = some (.ref f)) (b_sum:mg "sum" = none):jc P w K mg base "value" 1 ["one","book"] _root_.K.Br :=
  ⟨f,fd,Zn F b_sum,F.binds (ps:=["one","book"]) fun _ _ _ _ _ _ us hl=>bd2 (fun _ _=>rfl) us hl,F.kp,hmg⟩
noncomputable abbrev Ej:Stmt:=top 3
theorem U0:ou ["remark","book","places","kind"] ["remark","book","places"] (iw Ej):=⟨rfl,rfl,rfl,by decide +kernel,rfl,by decide +kernel,by decide +kernel⟩
theorem Zj (F:Fun K "holds" "holds" Ej f fd) {nn:Nat} (d_any_is:jc P w K mg base "any_is" (1 + nn) ["wanted","members","book","places"] (_root_.K.Ce nn)) (d_holds:jc P w K mg base "holds" (1 + nn) ["remark","book","places"] (_root_.K.ug nn)) (d_value:jc P w K mg base "value" 1 ["one","book"] (_root_.K.Br)):Cv P w K mg base CX0 (1 + nn + 1) f fd ["remark","book","places"] (spF K (["remark","book","places"]:List Str).length (_root_.K.ug (nn + 1))):=by
  have d_any_is:=d_any_is.mono (show (1 + nn)≤(1 + nn) by first | decide | omega)
  have d_holds:=d_holds.mono (show (1 + nn)≤(1 + nn) by first | decide | omega)
  have d_value:=d_value.mono (show 1≤(1 + nn) by first | decide | omega)
  refine qj (N:=["remark","book","places","kind"]) F U0 (by decide)  fun cdv A outer s H E B hr=>?_
  have hu:=Bq hr
  have hq:=hr.units
  have nd:(["remark","book","places","kind"]:List Str).Nodup:=U0.nd
  refine gj ?_ ?_
  · exact nj 3 (lu nd rfl (Or.inl rfl) (jj hu (ao 0 (pv 0)) cu (fun _ _=>rfl))) (fun _ _ _ h=>h)
  · refine gj ?_ ?_
    · exact wj (m7 (uc hq) (ao 3 (pv 3)) ur (lg _))   (j9 (jm (Hg a0j (gn d_value hr (by rfl) (aj (jj hu (ao 0 (pv 0)) cu (fun _ _=>rfl)) (aj (ao 1 (pv 1)) dz)) (bw (bw eq_nil))) cu (lg _))))   pq
    · refine gj ?_ ?_
      · exact wj (m7 (uc hq) (ao 3 (pv 3)) ur (lg _))   (j9 (jm (Hg (uc hq) (nq Aw (gn d_value hr (by rfl) (aj (jj hu (ao 0 (pv 0)) cu (fun _ _=>rfl)) (aj (ao 1 (pv 1)) dz)) (bw (bw eq_nil))) (jj hu (ao 0 (pv 0)) cu (fun _ _=>rfl))) cu (lg _))))   pq
      · refine gj ?_ ?_
        · exact wj (m7 (uc hq) (ao 3 (pv 3)) ur (lg _))   (j9 (jm (Hg (uc hq) (jj hu (ao 2 (pv 2)) (jj hu (ao 0 (pv 0)) cu (fun _ _=>rfl)) (fun _ _=>rfl)) (jj hu (ao 0 (pv 0)) cu (fun _ _=>rfl)) (lg _))))   pq
        · refine gj ?_ ?_
          · exact wj (m7 (uc hq) (ao 3 (pv 3)) ur (lg _))   (j9 (jm (Vw (gn d_holds hr (by rfl) (aj (jj hu (ao 0 (pv 0)) cu (fun _ _=>rfl)) (aj (ao 1 (pv 1)) (aj (ao 2 (pv 2)) dz))) (bw (bw (bw eq_nil)))))))   pq
          · exact gj (wj (m7 (uc hq) (ao 3 (pv 3)) ur (lg _))   (j9 (jm (Vw (gn d_any_is hr (by rfl) (aj Gw (aj (jj hu (ao 0 (pv 0)) cu (fun _ _=>rfl)) (aj (ao 1 (pv 1)) (aj (ao 2 (pv 2)) dz)))) (bw (bw (bw (bw eq_nil))))))))   pq)   (j9 (jm (gn d_any_is hr (by rfl) (aj Gw (aj (jj hu (ao 0 (pv 0)) cu (fun _ _=>rfl)) (aj (ao 1 (pv 1)) (aj (ao 2 (pv 2)) dz)))) (bw (bw (bw (bw eq_nil)))))))
theorem Zw (F:Fun K "holds" "holds" Ej f fd) (hmg:mg "holds" = some (.ref f)) {nn:Nat} (d_any_is:jc P w K mg base "any_is" (1 + nn) ["wanted","members","book","places"] (_root_.K.Ce nn)) (d_holds:jc P w K mg base "holds" (1 + nn) ["remark","book","places"] (_root_.K.ug nn)) (d_value:jc P w K mg base "value" 1 ["one","book"] (_root_.K.Br)):jc P w K mg base "holds" (1 + nn + 1) ["remark","book","places"] (_root_.K.ug (nn + 1)) :=
  ⟨f,fd,Zj F d_any_is d_holds d_value,F.binds (ps:=["remark","book","places"]) fun _ _ _ _ _ _ us hl=>bd3 (fun _ _ _=>rfl) us hl,F.kp,hmg⟩
noncomputable abbrev Cw:Stmt:=top 4
theorem Oo:ou ["wanted","members","book","places","member"] ["wanted","members","book","places"] (iw Cw):=⟨rfl,rfl,rfl,by decide +kernel,rfl,by decide +kernel,by decide +kernel⟩
theorem Wg (F:Fun K "any_is" "any_is" Cw f fd) {nn:Nat} (d_holds:jc P w K mg base "holds" (1 + nn) ["remark","book","places"] (_root_.K.ug nn)):Cv P w K mg base CX0 (1 + nn + 1) f fd ["wanted","members","book","places"] (spF K (["wanted","members","book","places"]:List Str).length (_root_.K.Ce (nn + 1))):=by
  have d_holds:=d_holds.mono (show (1 + nn)≤(1 + nn) by first | decide | omega)
  refine qj (N:=["wanted","members","book","places","member"]) F Oo (by decide)  fun cdv A outer s H E B hr=>?_
  have hu:=Bq hr
  have hq:=hr.units
  have nd:(["wanted","members","book","places","member"]:List Str).Nodup:=Oo.nd
  exact gj (Dy PassesOwn.never rfl (zp (ao 1 (pv 1))) (ud 4 (jh nd rfl (Or.inl rfl)))   (j9 (wj (m7 (uc hq) (gn d_holds hr (by rfl) (aj (ao 4 (pv 4)) (aj (ao 2 (pv 2)) (aj (ao 3 (pv 3)) dz))) (bw (bw (bw eq_nil)))) (ao 0 (pv 0)) (lg _))   (j9 (jm Gw))   pq)) zm)   (j9 (jm Gw))
theorem Wr (F:Fun K "any_is" "any_is" Cw f fd) (hmg:mg "any_is" = some (.ref f)) {nn:Nat} (d_holds:jc P w K mg base "holds" (1 + nn) ["remark","book","places"] (_root_.K.ug nn)):jc P w K mg base "any_is" (1 + nn + 1) ["wanted","members","book","places"] (_root_.K.Ce (nn + 1)) :=
  ⟨f,fd,Wg F d_holds,F.binds (ps:=["wanted","members","book","places"]) fun _ _ _ _ _ _ us hl=>bd4 (fun _ _ _ _=>rfl) us hl,F.kp,hmg⟩
theorem Ny {f_holds:Addr} {fd_holds:FuncData} {f_any_is:Addr} {fd_any_is:FuncData} (F_holds:Fun K "holds" "holds" Ej f_holds fd_holds) (h_holds:mg "holds" = some (.ref f_holds)) (F_any_is:Fun K "any_is" "any_is" Cw f_any_is fd_any_is) (h_any_is:mg "any_is" = some (.ref f_any_is)) (d_value:jc P w K mg base "value" 1 ["one","book"] _root_.K.Br):∀ nn:Nat,jc P w K mg base "holds" (1 + nn) ["remark","book","places"] (_root_.K.ug nn)∧jc P w K mg base "any_is" (1 + nn) ["wanted","members","book","places"] (_root_.K.Ce nn)
  | 0=>⟨jc.zero F_holds h_holds (F_holds.binds (ps:=["remark","book","places"]) fun _ _ _ _ _ _ us hl=>bd3 (fun _ _ _=>rfl) us hl),jc.zero F_any_is h_any_is (F_any_is.binds (ps:=["wanted","members","book","places"]) fun _ _ _ _ _ _ us hl=>bd4 (fun _ _ _ _=>rfl) us hl)⟩
  | nn + 1=>by
    have ih:=Ny F_holds h_holds F_any_is h_any_is d_value nn
    obtain ⟨d_holds,d_any_is⟩:=ih
    exact ⟨Zw F_holds h_holds d_any_is d_holds d_value,Wr F_any_is h_any_is d_holds⟩
noncomputable abbrev yh:Stmt:=top 6
theorem G6:ou ["program"] ["program"] (iw yh):=⟨rfl,rfl,rfl,by decide +kernel,rfl,by decide +kernel,by decide +kernel⟩
theorem Lf (F:Fun K "first_stand" "first_stand" yh f fd) (b_tuple:mg "tuple" = none):Cv P w K mg base CX0 1 f fd ["program"] (spF K (["program"]:List Str).length _root_.K.Af):=by
  refine qj (N:=["program"]) F G6 (by decide)  fun cdv A outer s H E B hr=>?_
  have hu:=Bq hr
  have hq:=hr.units
  have nd:(["program"]:List Str).Nodup:=G6.nd
  refine j9 ?_
  · refine jm ?_
    · refine qu ?_ ?_
      · refine aj ?_ ?_
        · exact lq (qt uo (by rfl) b_tuple PyProof.Rows.boot_tuple (aj (vh (Ax (N:=["hand"]) ⟨rfl,fun j k h=>match j,h with | _ + 0,h=>(by cases h)⟩ ⟨rfl,rfl,by decide +kernel,by decide +kernel⟩ rfl (zp (jj hu (ao 0 (pv 0)) cu (fun _ _=>rfl))) zm (fun C s₀ H₀ ex pn=>pgE fun B=>(ud 0 (jh (show (["hand"]:List Str).Nodup by decide +kernel) rfl (Or.inl rfl)))) (fun C s₀ H₀ ex pn=>vg) (fun C s₀ H₀ ex pn=>peE fun B=>cu))) dz))
        · exact aj (lq (qt uo (by rfl) b_tuple PyProof.Rows.boot_tuple (aj (vh (Ax (N:=["box"]) ⟨rfl,fun j k h=>match j,h with | _ + 0,h=>(by cases h)⟩ ⟨rfl,rfl,by decide +kernel,by decide +kernel⟩ rfl (zp (jj hu (ao 0 (pv 0)) cu (fun _ _=>rfl))) zm (fun C s₀ H₀ ex pn=>pgE fun B=>(ud 0 (jh (show (["box"]:List Str).Nodup by decide +kernel) rfl (Or.inl rfl)))) (fun C s₀ H₀ ex pn=>vg) (fun C s₀ H₀ ex pn=>peE fun B=>(jj hu (ao 0 (pv 0)) cu (fun _ _=>rfl))))) dz))) dz
      · exact kj (dw (dw jf)) (by decide)
theorem Kw (F:Fun K "first_stand" "first_stand" yh f fd) (hmg:mg "first_stand" = some (.ref f)) (b_tuple:mg "tuple" = none):jc P w K mg base "first_stand" 1 ["program"] _root_.K.Af :=
  ⟨f,fd,Lf F b_tuple,F.binds (ps:=["program"]) fun _ _ _ _ _ _ us hl=>bd1 (fun _=>rfl) us hl,F.kp,hmg⟩
noncomputable abbrev Cp:Stmt:=top 9
theorem Lq:ou ["program","stand"] ["program","stand"] (iw Cp):=⟨rfl,rfl,rfl,by decide +kernel,rfl,by decide +kernel,by decide +kernel⟩
theorem Uu (F:Fun K "book_of" "book_of" Cp f fd) (b_dict:mg "dict" = none) (b_zip:mg "zip" = none):Cv P w K mg base CX0 1 f fd ["program","stand"] (spF K (["program","stand"]:List Str).length _root_.K.Ai):=by
  refine qj (N:=["program","stand"]) F Lq (by decide)  fun cdv A outer s H E B hr=>?_
  have hu:=Bq hr
  have hq:=hr.units
  have nd:(["program","stand"]:List Str).Nodup:=Lq.nd
  exact j9 (jm (Hi rfl (by rfl) b_dict (by rfl) b_zip (vh (Ax (N:=["box"]) ⟨rfl,fun j k h=>match j,h with | _ + 0,h=>(by cases h)⟩ ⟨rfl,rfl,by decide +kernel,by decide +kernel⟩ rfl (zp (jj hu (ao 0 (pv 0)) cu (fun _ _=>rfl))) zm (fun C s₀ H₀ ex pn=>pgE fun B=>(ud 0 (jh (show (["box"]:List Str).Nodup by decide +kernel) rfl (Or.inl rfl)))) (fun C s₀ H₀ ex pn=>vg) (fun C s₀ H₀ ex pn=>peE fun B=>(jj hu (ao 0 (pv 0)) cu (fun _ _=>rfl))))) (jj hu (ao 1 (pv 1)) cu (fun _ _=>rfl))))
theorem V9 (F:Fun K "book_of" "book_of" Cp f fd) (hmg:mg "book_of" = some (.ref f)) (b_dict:mg "dict" = none) (b_zip:mg "zip" = none):jc P w K mg base "book_of" 1 ["program","stand"] _root_.K.Ai :=
  ⟨f,fd,Uu F b_dict b_zip,F.binds (ps:=["program","stand"]) fun _ _ _ _ _ _ us hl=>bd2 (fun _ _=>rfl) us hl,F.kp,hmg⟩
noncomputable abbrev Bb:Stmt:=top 10
theorem Ig:ou ["program","stand"] ["program","stand"] (iw Bb):=⟨rfl,rfl,rfl,by decide +kernel,rfl,by decide +kernel,by decide +kernel⟩
theorem Nv (F:Fun K "places_of" "places_of" Bb f fd) (b_dict:mg "dict" = none) (b_zip:mg "zip" = none):Cv P w K mg base CX0 1 f fd ["program","stand"] (spF K (["program","stand"]:List Str).length _root_.K.wg):=by
  refine qj (N:=["program","stand"]) F Ig (by decide)  fun cdv A outer s H E B hr=>?_
  have hu:=Bq hr
  have hq:=hr.units
  have nd:(["program","stand"]:List Str).Nodup:=Ig.nd
  exact j9 (jm (Hi rfl (by rfl) b_dict (by rfl) b_zip (vh (Ax (N:=["hand"]) ⟨rfl,fun j k h=>match j,h with | _ + 0,h=>(by cases h)⟩ ⟨rfl,rfl,by decide +kernel,by decide +kernel⟩ rfl (zp (jj hu (ao 0 (pv 0)) cu (fun _ _=>rfl))) zm (fun C s₀ H₀ ex pn=>pgE fun B=>(ud 0 (jh (show (["hand"]:List Str).Nodup by decide +kernel) rfl (Or.inl rfl)))) (fun C s₀ H₀ ex pn=>vg) (fun C s₀ H₀ ex pn=>peE fun B=>(jj hu (ao 0 (pv 0)) cu (fun _ _=>rfl))))) (jj hu (ao 1 (pv 1)) cu (fun _ _=>rfl))))
theorem Ot (F:Fun K "places_of" "places_of" Bb f fd) (hmg:mg "places_of" = some (.ref f)) (b_dict:mg "dict" = none) (b_zip:mg "zip" = none):jc P w K mg base "places_of" 1 ["program","stand"] _root_.K.wg :=
  ⟨f,fd,Nv F b_dict b_zip,F.binds (ps:=["program","stand"]) fun _ _ _ _ _ _ us hl=>bd2 (fun _ _=>rfl) us hl,F.kp,hmg⟩
noncomputable abbrev uf:Stmt:=top 12
theorem Ea:ou ["program","book","step","sets","values","box","owner","low","high","start","new"] ["program","book","step"] (iw uf):=⟨rfl,rfl,rfl,by decide +kernel,rfl,by decide +kernel,by decide +kernel⟩
theorem Ir (F:Fun K "values_behind" "values_behind" uf f fd) (d_value:jc P w K mg base "value" 1 ["one","book"] (_root_.K.Br)) (b_dict:mg "dict" = none) (b_tuple:mg "tuple" = none):Cv P w K mg base CX0 2 f fd ["program","book","step"] (spF K (["program","book","step"]:List Str).length _root_.K.mj):=by
  have d_value:=d_value.mono (show 1≤1 by first | decide | omega)
  refine qj (N:=["program","book","step","sets","values","box","owner","low","high","start","new"]) F Ea (by decide)  fun cdv A outer s H E B hr=>?_
  have hu:=Bq hr
  have hq:=hr.units
  have nd:(["program","book","step","sets","values","box","owner","low","high","start","new"]:List Str).Nodup:=Ea.nd
  refine gj ?_ ?_
  · exact nj 3 (lu nd rfl (Or.inl rfl) (lq (qt (Ut (by rfl)) (by rfl) b_dict PyProof.Rows.boot_dict (aj (jj hu (ao 2 (pv 2)) cu (fun _ _=>rfl)) dz)))) (fun _ _ _ h=>h)
  · refine gj ?_ ?_
    · exact Ie 4 (lu nd rfl (Or.inl rfl) (M5 dz (kj jf (by decide)))) (fun _ _ _ h=>h)
    · refine gj ?_ ?_
      · refine Dy ?_ ?_ ?_ ?_ ?_ ?_
        · exact PassesOwn.never
        · exact rfl
        · exact zp (jj hu (ao 0 (pv 0)) cu (fun _ _=>rfl))
        · exact Fw (is:=[5,6,7,8,9]) (G5 rfl (nu (jh nd rfl (Or.inl rfl)) (nu (jh nd rfl (Or.inl rfl)) (nu (jh nd rfl (Or.inl rfl)) (nu (jh nd rfl (Or.inl rfl)) (nu (jh nd rfl (Or.inl rfl)) Dg))))))
        · refine gj ?_ ?_
          · exact nj 10 (lu nd rfl (Or.inl rfl) (Mj (m7 (Sg hq) (ao 5 (pv 5)) (ao 3 (pv 3)) rfl) (gn d_value hr (by rfl) (aj (jj hu (ao 3 (pv 3)) (ao 5 (pv 5)) (fun _ _=>rfl)) (aj (ao 1 (pv 1)) dz)) (bw (bw eq_nil))) (jj hu (ao 1 (pv 1)) (ao 5 (pv 5)) (fun _ _=>rfl)))) (fun _ _ _ h=>h)
          · exact gj (wj (PW.pt (Y8 (m7 (Sg hq) (ao 5 (pv 5)) (ao 3 (pv 3)) rfl) (Qh (PW.pt (Kd (m7 Lx (ao 10 (pv 10)) (ao 7 (pv 7)) (lg _)) (Fy (m7 a0z (ao 10 (pv 10)) (ao 8 (pv 8)) (lg _))))))))   (j9 (jm O4))   pq)   (j9 (Ck 4 (Er (Pq PySem.F.plainAttrs_list PySem.F.slot_list_append PySem.F.type_list_append Bf (pv 4) (Ab (ao 10 (pv 10)) Cm)))))
        · exact zm
      · exact j9 (jm (lq (qt uo (by rfl) b_tuple PyProof.Rows.boot_tuple (aj (ao 4 (pv 4)) dz))))
theorem J5 (F:Fun K "values_behind" "values_behind" uf f fd) (hmg:mg "values_behind" = some (.ref f)) (d_value:jc P w K mg base "value" 1 ["one","book"] (_root_.K.Br)) (b_dict:mg "dict" = none) (b_tuple:mg "tuple" = none):jc P w K mg base "values_behind" 2 ["program","book","step"] _root_.K.mj :=
  ⟨f,fd,Ir F d_value b_dict b_tuple,F.binds (ps:=["program","book","step"]) fun _ _ _ _ _ _ us hl=>bd3 (fun _ _ _=>rfl) us hl,F.kp,hmg⟩
noncomputable abbrev uh:Stmt:=top 13
theorem Ed:ou ["places","step"] ["places","step"] (iw uh):=⟨rfl,rfl,rfl,by decide +kernel,rfl,by decide +kernel,by decide +kernel⟩
theorem Iu (F:Fun K "places_behind" "places_behind" uh f fd) (b_tuple:mg "tuple" = none):Cv P w K mg base CX0 1 f fd ["places","step"] (spF K (["places","step"]:List Str).length _root_.K.m9):=by
  refine qj (N:=["places","step"]) F Ed (by decide)  fun cdv A outer s H E B hr=>?_
  have hu:=Bq hr
  have hq:=hr.units
  have nd:(["places","step"]:List Str).Nodup:=Ed.nd
  refine j9 ?_
  · refine jm ?_
    · refine lq ?_
      · refine qt uo ?_ ?_ PyProof.Rows.boot_tuple ?_
        · exact by rfl
        · exact b_tuple
        · refine aj ?_ ?_
          · refine vh ?_
            · refine a0e (N:=["hand","place","step"]) ?_ ?_ ?_ ?_ ?_ ?_ ?_
              · exact ⟨rfl,fun j k h=>match j,h with | 0,h=>(by cases h; exact ⟨_,rfl,rfl,⟨.inl rfl,.inr (.inl rfl),.inl rfl⟩⟩) | _ + 1,h=>(by cases h)⟩
              · exact ⟨rfl,rfl,by decide +kernel,by decide +kernel⟩
              · exact rfl
              · exact pv 0
              · exact fun C s₀ H₀ ex pn=>pgE fun B=>(Fw (is:=[0,1]) (G5 rfl (nu (jh (show (["hand","place","step"]:List Str).Nodup by decide +kernel) rfl (Or.inl rfl)) (nu (jh (show (["hand","place","step"]:List Str).Nodup by decide +kernel) rfl (Or.inl rfl)) Dg))))
              · exact fun C s₀ H₀ ex pn=>vg
              · exact fun C s₀ H₀ ex pn=>peE fun B=>(Mj (m7 (uc hq) (ao 0 (pv 0)) (jj hu (ao 2 (pv 2)) cu (fun _ _=>rfl)) (lg _)) (jj hu (ao 2 (pv 2)) cu (fun _ _=>rfl)) (ao 1 (pv 1)))
          · exact dz
theorem Iw (F:Fun K "places_behind" "places_behind" uh f fd) (hmg:mg "places_behind" = some (.ref f)) (b_tuple:mg "tuple" = none):jc P w K mg base "places_behind" 1 ["places","step"] _root_.K.m9 :=
  ⟨f,fd,Iu F b_tuple,F.binds (ps:=["places","step"]) fun _ _ _ _ _ _ us hl=>bd2 (fun _ _=>rfl) us hl,F.kp,hmg⟩
noncomputable abbrev G7:Stmt:=top 11
theorem Te:ou ["program","stand","book","places","told","number","step","values"] ["program","stand"] (iw G7):=⟨rfl,rfl,rfl,by decide +kernel,rfl,by decide +kernel,by decide +kernel⟩
theorem Zg (F:Fun K "moves" "moves" G7 f fd) (d_book_of:jc P w K mg base "book_of" 1 ["program","stand"] (_root_.K.Ai)) (d_holds:jc P w K mg base "holds" 41 ["remark","book","places"] (_root_.K.ug 40)) (d_places_behind:jc P w K mg base "places_behind" 1 ["places","step"] (_root_.K.m9)) (d_places_of:jc P w K mg base "places_of" 1 ["program","stand"] (_root_.K.wg)) (d_values_behind:jc P w K mg base "values_behind" 2 ["program","book","step"] (_root_.K.mj)) (b_enumerate:mg "enumerate" = none):Cv P w K mg base CX0 42 f fd ["program","stand"] (spF K (["program","stand"]:List Str).length _root_.K.Em):=by
  have d_book_of:=d_book_of.mono (show 1≤41 by first | decide | omega)
  have d_holds:=d_holds.mono (show 41≤41 by first | decide | omega)
  have d_places_behind:=d_places_behind.mono (show 1≤41 by first | decide | omega)
  have d_places_of:=d_places_of.mono (show 1≤41 by first | decide | omega)
  have d_values_behind:=d_values_behind.mono (show 2≤41 by first | decide | omega)
  refine qj (N:=["program","stand","book","places","told","number","step","values"]) F Te (by decide)  fun cdv A outer s H E B hr=>?_
  have hu:=Bq hr
  have hq:=hr.units
  have nd:(["program","stand","book","places","told","number","step","values"]:List Str).Nodup:=Te.nd
  refine gj ?_ ?_
  · exact nj 2 (lu nd rfl (Or.inl rfl) (gn d_book_of hr (by rfl) (aj (ao 0 (pv 0)) (aj (ao 1 (pv 1)) dz)) (bw (bw eq_nil)))) (fun _ _ _ h=>h)
  · refine gj ?_ ?_
    · exact nj 3 (lu nd rfl (Or.inl rfl) (gn d_places_of hr (by rfl) (aj (ao 0 (pv 0)) (aj (ao 1 (pv 1)) dz)) (bw (bw eq_nil)))) (fun _ _ _ h=>h)
    · refine gj ?_ ?_
      · exact Ie 4 (lu nd rfl (Or.inl rfl) (M5 dz (kj jf (by decide)))) (fun _ _ _ h=>h)
      · refine gj ?_ ?_
        · refine Dy ?_ ?_ ?_ ?_ ?_ ?_
          · exact PassesOwn.never
          · exact rfl
          · exact a1l (by rfl) b_enumerate (jj hu (ao 0 (pv 0)) cu (fun _ _=>rfl))
          · exact Fw (is:=[5,6]) (G5 rfl (nu (jh nd rfl (Or.inl rfl)) (nu (jh nd rfl (Or.inl rfl)) Dg)))
          · refine j9 ?_
            · refine wj ?_ ?_ ?_
              · exact PW.pt (Y8 (m7 (uc hq) (jj hu (ao 3 (pv 3)) (jj hu (ao 6 (pv 6)) cu (fun _ _=>rfl)) (fun _ _=>rfl)) (jj hu (ao 6 (pv 6)) cu (fun _ _=>rfl)) (lg _)) (Qh (G4 (gn d_holds hr (by rfl) (aj (jj hu (ao 6 (pv 6)) cu (fun _ _=>rfl)) (aj (ao 2 (pv 2)) (aj (ao 3 (pv 3)) dz))) (bw (bw (bw eq_nil)))))))
              · refine gj ?_ ?_
                · exact nj 7 (lu nd rfl (Or.inl rfl) (gn d_values_behind hr (by rfl) (aj (ao 0 (pv 0)) (aj (ao 2 (pv 2)) (aj (ao 6 (pv 6)) dz))) (bw (bw (bw eq_nil))))) (fun _ _ _ h=>h)
                · exact j9 (wj (m7 Oa (ao 7 (pv 7)) O4 (lg _))   (j9 (Ck 4 (Er (Pq PySem.F.plainAttrs_list PySem.F.slot_list_append PySem.F.type_list_append Bf (pv 4) (Ab (qu (aj (ao 5 (pv 5)) (aj (qu (aj (gn d_places_behind hr (by rfl) (aj (ao 3 (pv 3)) (aj (ao 6 (pv 6)) dz)) (bw (bw eq_nil))) (aj (ao 7 (pv 7)) dz)) (kj (dw (dw jf)) (by decide))) dz)) (kj (dw (dw jf)) (by decide))) Cm)))))   pq)
              · exact pq
          · exact a3n
        · exact j9 (jm (ao 4 (pv 4)))
theorem a0c (F:Fun K "moves" "moves" G7 f fd) (hmg:mg "moves" = some (.ref f)) (d_book_of:jc P w K mg base "book_of" 1 ["program","stand"] (_root_.K.Ai)) (d_holds:jc P w K mg base "holds" 41 ["remark","book","places"] (_root_.K.ug 40)) (d_places_behind:jc P w K mg base "places_behind" 1 ["places","step"] (_root_.K.m9)) (d_places_of:jc P w K mg base "places_of" 1 ["program","stand"] (_root_.K.wg)) (d_values_behind:jc P w K mg base "values_behind" 2 ["program","book","step"] (_root_.K.mj)) (b_enumerate:mg "enumerate" = none):jc P w K mg base "moves" 42 ["program","stand"] _root_.K.Em :=
  ⟨f,fd,Zg F d_book_of d_holds d_places_behind d_places_of d_values_behind b_enumerate,F.binds (ps:=["program","stand"]) fun _ _ _ _ _ _ us hl=>bd2 (fun _ _=>rfl) us hl,F.kp,hmg⟩
noncomputable abbrev Rg:Stmt:=top 7
theorem a1a:ou ["program","stand"] ["program","stand"] (iw Rg):=⟨rfl,rfl,rfl,by decide +kernel,rfl,by decide +kernel,by decide +kernel⟩
theorem a5j (F:Fun K "can" "can" Rg f fd) (d_moves:jc P w K mg base "moves" 42 ["program","stand"] (_root_.K.Em)):Cv P w K mg base CX0 43 f fd ["program","stand"] (spF K (["program","stand"]:List Str).length _root_.K.Ra):=by
  have d_moves:=d_moves.mono (show 42≤42 by first | decide | omega)
  refine qj (N:=["program","stand"]) F a1a (by decide)  fun cdv A outer s H E B hr=>?_
  have hu:=Bq hr
  have hq:=hr.units
  have nd:(["program","stand"]:List Str).Nodup:=a1a.nd
  exact j9 (jm (vh (Ax (N:=["number","there"]) ⟨rfl,fun j k h=>match j,h with | _ + 0,h=>(by cases h)⟩ ⟨rfl,rfl,by decide +kernel,by decide +kernel⟩ rfl (zp (gn d_moves hr (by rfl) (aj (ao 0 (pv 0)) (aj (ao 1 (pv 1)) dz)) (bw (bw eq_nil)))) zm (fun C s₀ H₀ ex pn=>pgE fun B=>(Fw (is:=[0,1]) (G5 rfl (nu (jh (show (["number","there"]:List Str).Nodup by decide +kernel) rfl (Or.inl rfl)) (nu (jh (show (["number","there"]:List Str).Nodup by decide +kernel) rfl (Or.inl rfl)) Dg))))) (fun C s₀ H₀ ex pn=>vg) (fun C s₀ H₀ ex pn=>peE fun B=>(ao 0 (pv 0))))))
theorem a4k (F:Fun K "can" "can" Rg f fd) (hmg:mg "can" = some (.ref f)) (d_moves:jc P w K mg base "moves" 42 ["program","stand"] (_root_.K.Em)):jc P w K mg base "can" 43 ["program","stand"] _root_.K.Ra :=
  ⟨f,fd,a5j F d_moves,F.binds (ps:=["program","stand"]) fun _ _ _ _ _ _ us hl=>bd2 (fun _ _=>rfl) us hl,F.kp,hmg⟩
noncomputable abbrev K7:Stmt:=top 8
theorem Y9:ou ["program","stand","number","step","values"] ["program","stand","number"] (iw K7):=⟨rfl,rfl,rfl,by decide +kernel,rfl,by decide +kernel,by decide +kernel⟩
theorem a2x (F:Fun K "done" "done" K7 f fd) (d_book_of:jc P w K mg base "book_of" 1 ["program","stand"] (_root_.K.Ai)) (d_places_behind:jc P w K mg base "places_behind" 1 ["places","step"] (_root_.K.m9)) (d_places_of:jc P w K mg base "places_of" 1 ["program","stand"] (_root_.K.wg)) (d_values_behind:jc P w K mg base "values_behind" 2 ["program","book","step"] (_root_.K.mj)):Cv P w K mg base CX0 3 f fd ["program","stand","number"] (spF K (["program","stand","number"]:List Str).length _root_.K.Gp):=by
  have d_book_of:=d_book_of.mono (show 1≤2 by first | decide | omega)
  have d_places_behind:=d_places_behind.mono (show 1≤2 by first | decide | omega)
  have d_places_of:=d_places_of.mono (show 1≤2 by first | decide | omega)
  have d_values_behind:=d_values_behind.mono (show 2≤2 by first | decide | omega)
  refine qj (N:=["program","stand","number","step","values"]) F Y9 (by decide)  fun cdv A outer s H E B hr=>?_
  have hu:=Bq hr
  have hq:=hr.units
  have nd:(["program","stand","number","step","values"]:List Str).Nodup:=Y9.nd
  refine gj ?_ ?_
  · exact nj 3 (lu nd rfl (Or.inl rfl) (jj hu (jj hu (ao 0 (pv 0)) cu (fun _ _=>rfl)) (ao 2 (pv 2)) (fun _ _=>rfl))) (fun _ _ _ h=>h)
  · exact gj (nj 4 (lu nd rfl (Or.inl rfl) (gn d_values_behind hr (by rfl) (aj (ao 0 (pv 0)) (aj (gn d_book_of hr (by rfl) (aj (ao 0 (pv 0)) (aj (ao 1 (pv 1)) dz)) (bw (bw eq_nil))) (aj (ao 3 (pv 3)) dz))) (bw (bw (bw eq_nil))))) (fun _ _ _ h=>h))   (j9 (jm (qu (aj (gn d_places_behind hr (by rfl) (aj (gn d_places_of hr (by rfl) (aj (ao 0 (pv 0)) (aj (ao 1 (pv 1)) dz)) (bw (bw eq_nil))) (aj (ao 3 (pv 3)) dz)) (bw (bw eq_nil))) (aj (ao 4 (pv 4)) dz)) (kj (dw (dw jf)) (by decide)))))
theorem a3a (F:Fun K "done" "done" K7 f fd) (hmg:mg "done" = some (.ref f)) (d_book_of:jc P w K mg base "book_of" 1 ["program","stand"] (_root_.K.Ai)) (d_places_behind:jc P w K mg base "places_behind" 1 ["places","step"] (_root_.K.m9)) (d_places_of:jc P w K mg base "places_of" 1 ["program","stand"] (_root_.K.wg)) (d_values_behind:jc P w K mg base "values_behind" 2 ["program","book","step"] (_root_.K.mj)):jc P w K mg base "done" 3 ["program","stand","number"] _root_.K.Gp :=
  ⟨f,fd,a2x F d_book_of d_places_behind d_places_of d_values_behind,F.binds (ps:=["program","stand","number"]) fun _ _ _ _ _ _ us hl=>bd3 (fun _ _ _=>rfl) us hl,F.kp,hmg⟩
noncomputable abbrev yd:Stmt:=top 15
theorem G3:ou ["_law_script","_law_k"] ["_law_script","_law_k"] (iw yd):=⟨rfl,rfl,rfl,by decide +kernel,rfl,by decide +kernel,by decide +kernel⟩
theorem Lh (F:Fun K "_law_cell_at" "_law_cell_at" yd f fd) (b_len:mg "len" = none):Cv P w K mg base CX0 1 f fd ["_law_script","_law_k"] (spF K (["_law_script","_law_k"]:List Str).length _root_.K.qd):=by
  refine qj (N:=["_law_script","_law_k"]) F G3 (by decide)  fun cdv A outer s H E B hr=>?_
  have hu:=Bq hr
  have hq:=hr.units
  have nd:(["_law_script","_law_k"]:List Str).Nodup:=G3.nd
  exact gj (wj (m7 Lx (ao 1 (pv 1)) (lq (vo zu (by rfl) b_len PySem.boot_len (aj (ao 0 (pv 0)) dz))) (lg _))   (j9 (jm (jj hu (ao 0 (pv 0)) (ao 1 (pv 1)) (fun _ _=>rfl))))   pq)   (j9 (jm cu))
theorem Lg (F:Fun K "_law_cell_at" "_law_cell_at" yd f fd) (hmg:mg "_law_cell_at" = some (.ref f)) (b_len:mg "len" = none):jc P w K mg base "_law_cell_at" 1 ["_law_script","_law_k"] _root_.K.qd :=
  ⟨f,fd,Lh F b_len,F.binds (ps:=["_law_script","_law_k"]) fun _ _ _ _ _ _ us hl=>bd2 (fun _ _=>rfl) us hl,F.kp,hmg⟩
noncomputable abbrev Bt:Stmt:=top 16
theorem K5:ou ["_law_stream","_law_many","_law_found"] ["_law_stream","_law_many"] (iw Bt):=⟨rfl,rfl,rfl,by decide +kernel,rfl,by decide +kernel,by decide +kernel⟩
theorem Qx (F:Fun K "_law_pick" "_law_pick" Bt f fd) (b_len:mg "len" = none):Cv P w K mg base CX0 1 f fd ["_law_stream","_law_many"] (spF K (["_law_stream","_law_many"]:List Str).length _root_.K.gk):=by
  refine qj (N:=["_law_stream","_law_many","_law_found"]) F K5 (by decide)  fun cdv A outer s H E B hr=>?_
  have hu:=Bq hr
  have hq:=hr.units
  have nd:(["_law_stream","_law_many","_law_found"]:List Str).Nodup:=K5.nd
  refine gj ?_ ?_
  · exact wj (m7 (uc hq) (Xa (by rfl) b_len (ao 0 (pv 0))) cu (lg _))   (j9 (Yb 0 (Er (Pq PySem.F.plainAttrs_list PySem.F.slot_list_append PySem.F.type_list_append Bf (pv 0) (Ab (Cd (ao 0 (pv 0)) cu (fun _ _=>rfl)) Cm)))))   pq
  · refine gj ?_ ?_
    · exact wj (PW.pt (Y8 (m7 (uc hq) (Cd (ao 0 (pv 0)) cu (fun _ _=>rfl)) cu (lg _)) (Qh (m7 (Sg hq) (Cd (ao 0 (pv 0)) cu (fun _ _=>rfl)) (Fz (aj cu (aj (a6a Xx cu) dz)) (kj (dw (dw jf)) (by decide))) rfl))))   (gj (J7 (Jw (nq wu (Cd (ao 0 (pv 0)) cu (fun _ _=>rfl)) cu) (Rq (ao 0 (pv 0)) cu set_list)))   (j9 (J7 (Jw cu (Rq (ao 0 (pv 0)) cu set_list)))))   pq
    · refine gj ?_ ?_
      · exact wj (m7 (uc hq) (Cd (ao 0 (pv 0)) cu (fun _ _=>rfl)) cu (lg _))   (gj (nj 2 (lu nd rfl (Or.inl rfl) (nq Aw (Cd (ao 0 (pv 0)) cu (fun _ _=>rfl)) (ao 1 (pv 1)))) (fun _ _ _ h=>h))   (gj (J7 (Jw (nq Fo (Cd (ao 0 (pv 0)) cu (fun _ _=>rfl)) (ao 1 (pv 1))) (Rq (ao 0 (pv 0)) cu set_list)))   (j9 (jm (ao 2 (pv 2))))))   pq
      · exact gj (J7 (Jw (nq Aw (nq wu (nq Dq (nq Aw (Cd (ao 0 (pv 0)) cu (fun _ _=>rfl)) cu) cu) cu) cu) (Rq (ao 0 (pv 0)) cu set_list)))   (j9 (jm (nq Aw (nq Fo (nq Aw (nq Dq (Cd (ao 0 (pv 0)) cu (fun _ _=>rfl)) cu) cu) cu) (ao 1 (pv 1)))))
theorem Qg (F:Fun K "_law_pick" "_law_pick" Bt f fd) (hmg:mg "_law_pick" = some (.ref f)) (b_len:mg "len" = none):jc P w K mg base "_law_pick" 1 ["_law_stream","_law_many"] _root_.K.gk :=
  ⟨f,fd,Qx F b_len,F.binds (ps:=["_law_stream","_law_many"]) fun _ _ _ _ _ _ us hl=>bd2 (fun _ _=>rfl) us hl,F.kp,hmg⟩
noncomputable abbrev Bp:Stmt:=top 17
theorem Jk:ou ["_law_cell","_law_k","_law_size","_law_place"] ["_law_cell","_law_k"] (iw Bp):=⟨rfl,rfl,rfl,by decide +kernel,rfl,by decide +kernel,by decide +kernel⟩
theorem Qo (F:Fun K "_law_name" "_law_name" Bp f fd):Cv P w K mg base CX0 1 f fd ["_law_cell","_law_k"] (spF K (["_law_cell","_law_k"]:List Str).length _root_.K.vd):=by
  refine qj (N:=["_law_cell","_law_k","_law_size","_law_place"]) F Jk (by decide)  fun cdv A outer s H E B hr=>?_
  have hu:=Bq hr
  have hq:=hr.units
  have nd:(["_law_cell","_law_k","_law_size","_law_place"]:List Str).Nodup:=Jk.nd
  refine gj ?_ ?_
  · refine wj ?_ ?_ ?_
    · exact m7 (uc hq) (nq Aw (nq Fo (ao 0 (pv 0)) cu) cu) cu (lg _)
    · refine j9 ?_
      · refine jm ?_
        · refine jj ?_ ?_ ?_ ?_
          · exact hu
          · refine Fz ?_ ?_
            · exact Wx (.cons (.cons (.cons (.cons (.cons (.cons (.cons (.cons (.cons (.cons .nil))))))))))
            · exact kj (len_strs _) (by decide)
          · exact nq Aw (ao 1 (pv 1)) cu
          · exact fun _ _=>rfl
    · exact pq
  · exact gj (nj 2 (lu nd rfl (Or.inl rfl) (nq wu cu (nq Aw (ao 0 (pv 0)) cu))) (fun _ _ _ h=>h))   (gj (nj 3 (lu nd rfl (Or.inl rfl) (nq Aw (nq Fo (ao 0 (pv 0)) cu) (ao 2 (pv 2)))) (fun _ _ _ h=>h))   (j9 (jm (nq wu (nq wu (nq Dq ur (ao 3 (pv 3))) (jj hu ur (nq Aw (nq wu (nq Dq cu (ao 1 (pv 1))) (nq Fo (ao 0 (pv 0)) cu)) cu) (fun _ _=>rfl))) (nq Dq ur (nq Bm (nq Bm (ao 2 (pv 2)) cu) (ao 3 (pv 3))))))))
theorem Qe (F:Fun K "_law_name" "_law_name" Bp f fd) (hmg:mg "_law_name" = some (.ref f)):jc P w K mg base "_law_name" 1 ["_law_cell","_law_k"] _root_.K.vd :=
  ⟨f,fd,Qo F,F.binds (ps:=["_law_cell","_law_k"]) fun _ _ _ _ _ _ us hl=>bd2 (fun _ _=>rfl) us hl,F.kp,hmg⟩
noncomputable abbrev Cu:Stmt:=top 18
theorem M8:ou ["_law_stream","_law_boxes_here","_law_number","_law_parts","_law_box","_law_times_of"] ["_law_stream","_law_boxes_here"] (iw Cu):=⟨rfl,rfl,rfl,by decide +kernel,rfl,by decide +kernel,by decide +kernel⟩
theorem V2 (F:Fun K "_law_sum" "_law_sum" Cu f fd) (d_law_pick:jc P w K mg base "_law_pick" 1 ["_law_stream","_law_many"] (_root_.K.gk)) (b_sorted:mg "sorted" = none) (b_tuple:mg "tuple" = none):Cv P w K mg base CX0 2 f fd ["_law_stream","_law_boxes_here"] (spF K (["_law_stream","_law_boxes_here"]:List Str).length _root_.K.Aj):=by
  have d_law_pick:=d_law_pick.mono (show 1≤1 by first | decide | omega)
  refine qj (N:=["_law_stream","_law_boxes_here","_law_number","_law_parts","_law_box","_law_times_of"]) F M8 (by decide)  fun cdv A outer s H E B hr=>?_
  have hu:=Bq hr
  have hq:=hr.units
  have nd:(["_law_stream","_law_boxes_here","_law_number","_law_parts","_law_box","_law_times_of"]:List Str).Nodup:=M8.nd
  refine gj ?_ ?_
  · exact nj 2 (lu nd rfl (Or.inl rfl) (nq Bm (gn d_law_pick hr (by rfl) (aj (ao 0 (pv 0)) (aj cu dz)) (bw (bw eq_nil))) cu)) (fun _ _ _ h=>h)
  · refine gj ?_ ?_
    · exact wj (m7 (uc hq) (gn d_law_pick hr (by rfl) (aj (ao 0 (pv 0)) (aj cu dz)) (bw (bw eq_nil))) cu (lg _))   (j9 (nj 2 (lu nd rfl (Or.inl rfl) (nq Bm (gn d_law_pick hr (by rfl) (aj (ao 0 (pv 0)) (aj (nq Bm (nq Dq cu (nq Mr cu cu)) cu) dz)) (bw (bw eq_nil))) (nq Bm (nq Mr cu cu) cu))) (fun _ _ _ h=>h)))   pq
    · refine gj ?_ ?_
      · exact Ie 3 (lu nd rfl (Or.inl rfl) (M5 dz (kj jf (by decide)))) (fun _ _ _ h=>h)
      · refine gj ?_ ?_
        · refine Dy ?_ ?_ ?_ ?_ ?_ ?_
          · exact PassesOwn.never
          · exact rfl
          · exact zp (lq (vo (Hx (by rfl)) (by rfl) b_sorted PyProof.Rows.boot_sorted (aj (ao 1 (pv 1)) dz)))
          · exact ud 4 (jh nd rfl (Or.inl rfl))
          · refine gj ?_ ?_
            · exact nj 5 (lu nd rfl (Or.inl rfl) (jj hu (Fz (aj cu (aj cu (aj cu (aj cu (aj (a6a Xx cu) (aj cu (aj (nq Bm (gn d_law_pick hr (by rfl) (aj (ao 0 (pv 0)) (aj cu dz)) (bw (bw eq_nil))) cu) dz))))))) (kj (dw (dw (dw (dw (dw (dw (dw jf))))))) (by decide))) (gn d_law_pick hr (by rfl) (aj (ao 0 (pv 0)) (aj cu dz)) (bw (bw eq_nil))) (fun _ _=>rfl))) (fun _ _ _ h=>h)
            · exact j9 (wj (m7 (Gg hq) (ao 5 (pv 5)) cu (lg _))   (j9 (Ck 3 (Er (Pq PySem.F.plainAttrs_list PySem.F.slot_list_append PySem.F.type_list_append Bf (pv 3) (Ab (qu (aj (ao 4 (pv 4)) (aj (ao 5 (pv 5)) dz)) (kj (dw (dw jf)) (by decide))) Cm)))))   pq)
          · exact zm
        · exact j9 (jm (qu (aj (ao 2 (pv 2)) (aj (lq (qt uo (by rfl) b_tuple PyProof.Rows.boot_tuple (aj (ao 3 (pv 3)) dz))) dz)) (kj (dw (dw jf)) (by decide))))
theorem Uk (F:Fun K "_law_sum" "_law_sum" Cu f fd) (hmg:mg "_law_sum" = some (.ref f)) (d_law_pick:jc P w K mg base "_law_pick" 1 ["_law_stream","_law_many"] (_root_.K.gk)) (b_sorted:mg "sorted" = none) (b_tuple:mg "tuple" = none):jc P w K mg base "_law_sum" 2 ["_law_stream","_law_boxes_here"] _root_.K.Aj :=
  ⟨f,fd,V2 F d_law_pick b_sorted b_tuple,F.binds (ps:=["_law_stream","_law_boxes_here"]) fun _ _ _ _ _ _ us hl=>bd2 (fun _ _=>rfl) us hl,F.kp,hmg⟩
noncomputable abbrev Aa:Stmt:=top 19
theorem Gu:ou ["_law_stream","_law_boxes_here","_law_hands","_law_way","_law_hand","_law_places","_law_one"] ["_law_stream","_law_boxes_here","_law_hands"] (iw Aa):=⟨rfl,rfl,rfl,by decide +kernel,rfl,by decide +kernel,by decide +kernel⟩
theorem Mw (F:Fun K "_law_simple" "_law_simple" Aa f fd) (d_law_pick:jc P w K mg base "_law_pick" 1 ["_law_stream","_law_many"] (_root_.K.gk)) (d_law_sum:jc P w K mg base "_law_sum" 2 ["_law_stream","_law_boxes_here"] (_root_.K.Aj)) (b_len:mg "len" = none):Cv P w K mg base CX0 3 f fd ["_law_stream","_law_boxes_here","_law_hands"] (spF K (["_law_stream","_law_boxes_here","_law_hands"]:List Str).length _root_.K.qp):=by
  have d_law_pick:=d_law_pick.mono (show 1≤2 by first | decide | omega)
  have d_law_sum:=d_law_sum.mono (show 2≤2 by first | decide | omega)
  refine qj (N:=["_law_stream","_law_boxes_here","_law_hands","_law_way","_law_hand","_law_places","_law_one"]) F Gu (by decide)  fun cdv A outer s H E B hr=>?_
  have hu:=Bq hr
  have hq:=hr.units
  have nd:(["_law_stream","_law_boxes_here","_law_hands","_law_way","_law_hand","_law_places","_law_one"]:List Str).Nodup:=Gu.nd
  refine gj ?_ ?_
  · exact nj 3 (lu nd rfl (Or.inl rfl) (gn d_law_pick hr (by rfl) (aj (ao 0 (pv 0)) (aj cu dz)) (bw (bw eq_nil)))) (fun _ _ _ h=>h)
  · refine gj ?_ ?_
    · refine wj ?_ ?_ ?_
      · exact m7 (uc hq) (ao 3 (pv 3)) cu (lg _)
      · exact gj (a3c (Jw (jj hu (ao 2 (pv 2)) (gn d_law_pick hr (by rfl) (aj (ao 0 (pv 0)) (aj (lq (vo zu (by rfl) b_len PySem.boot_len (aj (ao 2 (pv 2)) dz))) dz)) (bw (bw eq_nil))) (fun _ _=>rfl)) (Fw (is:=[4,5]) (G5 rfl (nu (jh nd rfl (Or.inl rfl)) (nu (jh nd rfl (Or.inl rfl)) Dg))))))   (j9 (jm (qu (aj ur (aj (ao 4 (pv 4)) (aj (gn d_law_pick hr (by rfl) (aj (ao 0 (pv 0)) (aj (ao 5 (pv 5)) dz)) (bw (bw eq_nil))) dz))) (kj (dw (dw (dw jf))) (by decide)))))
      · exact pq
    · exact gj (nj 6 (lu nd rfl (Or.inl rfl) (gn d_law_sum hr (by rfl) (aj (ao 0 (pv 0)) (aj (ao 1 (pv 1)) dz)) (bw (bw eq_nil)))) (fun _ _ _ h=>h))   (gj (wj (m7 (uc hq) (ao 3 (pv 3)) cu (lg _))   (j9 (jm (qu (aj ur (aj (ao 6 (pv 6)) (aj (nq wu cu (gn d_law_pick hr (by rfl) (aj (ao 0 (pv 0)) (aj cu dz)) (bw (bw eq_nil)))) dz))) (kj (dw (dw (dw jf))) (by decide)))))   pq)   (j9 (jm (qu (aj ur (aj (ao 6 (pv 6)) dz)) (kj (dw (dw jf)) (by decide))))))
theorem Mf (F:Fun K "_law_simple" "_law_simple" Aa f fd) (hmg:mg "_law_simple" = some (.ref f)) (d_law_pick:jc P w K mg base "_law_pick" 1 ["_law_stream","_law_many"] (_root_.K.gk)) (d_law_sum:jc P w K mg base "_law_sum" 2 ["_law_stream","_law_boxes_here"] (_root_.K.Aj)) (b_len:mg "len" = none):jc P w K mg base "_law_simple" 3 ["_law_stream","_law_boxes_here","_law_hands"] _root_.K.qp :=
  ⟨f,fd,Mw F d_law_pick d_law_sum b_len,F.binds (ps:=["_law_stream","_law_boxes_here","_law_hands"]) fun _ _ _ _ _ _ us hl=>bd3 (fun _ _ _=>rfl) us hl,F.kp,hmg⟩
noncomputable abbrev zx:Stmt:=top 20
theorem Gk:ou ["_law_stream","_law_boxes_here","_law_hands","_law_way","_law_one","_law_two","_law_others"] ["_law_stream","_law_boxes_here","_law_hands"] (iw zx):=⟨rfl,rfl,rfl,by decide +kernel,rfl,by decide +kernel,by decide +kernel⟩
theorem Mv (F:Fun K "_law_remark" "_law_remark" zx f fd) (d_law_pick:jc P w K mg base "_law_pick" 1 ["_law_stream","_law_many"] (_root_.K.gk)) (d_law_simple:jc P w K mg base "_law_simple" 3 ["_law_stream","_law_boxes_here","_law_hands"] (_root_.K.qp)) (b_range:mg "range" = none) (b_tuple:mg "tuple" = none):Cv P w K mg base CX0 4 f fd ["_law_stream","_law_boxes_here","_law_hands"] (spF K (["_law_stream","_law_boxes_here","_law_hands"]:List Str).length _root_.K.Ac):=by
  have d_law_pick:=d_law_pick.mono (show 1≤3 by first | decide | omega)
  have d_law_simple:=d_law_simple.mono (show 3≤3 by first | decide | omega)
  refine qj (N:=["_law_stream","_law_boxes_here","_law_hands","_law_way","_law_one","_law_two","_law_others"]) F Gk (by decide)  fun cdv A outer s H E B hr=>?_
  have hu:=Bq hr
  have hq:=hr.units
  have nd:(["_law_stream","_law_boxes_here","_law_hands","_law_way","_law_one","_law_two","_law_others"]:List Str).Nodup:=Gk.nd
  refine gj ?_ ?_
  · exact nj 3 (lu nd rfl (Or.inl rfl) (gn d_law_pick hr (by rfl) (aj (ao 0 (pv 0)) (aj cu dz)) (bw (bw eq_nil)))) (fun _ _ _ h=>h)
  · refine gj ?_ ?_
    · exact wj (m7 Lx (ao 3 (pv 3)) cu (lg _))   (j9 (jm (qu (aj ur (aj (qu dz (kj jf (by decide))) dz)) (kj (dw (dw jf)) (by decide)))))   pq
    · refine gj ?_ ?_
      · exact nj 4 (lu nd rfl (Or.inl rfl) (gn d_law_simple hr (by rfl) (aj (ao 0 (pv 0)) (aj (ao 1 (pv 1)) (aj (ao 2 (pv 2)) dz))) (bw (bw (bw eq_nil))))) (fun _ _ _ h=>h)
      · refine gj ?_ ?_
        · exact wj (m7 Lx (ao 3 (pv 3)) cu (lg _))   (j9 (jm (ao 4 (pv 4))))   pq
        · refine gj ?_ ?_
          · exact wj (m7 (uc hq) (ao 3 (pv 3)) cu (lg _))   (j9 (jm (qu (aj ur (aj (ao 4 (pv 4)) dz)) (kj (dw (dw jf)) (by decide)))))   pq
          · refine gj ?_ ?_
            · exact nj 5 (lu nd rfl (Or.inl rfl) (qu (aj (jj hu (Fz (aj ur (aj ur dz)) (kj (dw (dw jf)) (by decide))) (nq Aw (ao 3 (pv 3)) cu) (fun _ _=>rfl)) (aj (qu (aj (ao 4 (pv 4)) (aj (gn d_law_simple hr (by rfl) (aj (ao 0 (pv 0)) (aj (ao 1 (pv 1)) (aj (ao 2 (pv 2)) dz))) (bw (bw (bw eq_nil)))) dz)) (kj (dw (dw jf)) (by decide))) dz)) (kj (dw (dw jf)) (by decide)))) (fun _ _ _ h=>h)
            · refine gj ?_ ?_
              · exact wj (m7 Lx (ao 3 (pv 3)) cu (lg _))   (j9 (jm (ao 5 (pv 5))))   pq
              · refine gj ?_ ?_
                · exact wj (m7 (uc hq) (ao 3 (pv 3)) cu (lg _))   (j9 (jm (qu (aj ur (aj (qu (aj (jj hu (Fz (aj ur (aj ur dz)) (kj (dw (dw jf)) (by decide))) (gn d_law_pick hr (by rfl) (aj (ao 0 (pv 0)) (aj cu dz)) (bw (bw eq_nil))) (fun _ _=>rfl)) (aj (jj hu (ao 5 (pv 5)) cu (fun _ _=>rfl)) dz)) (kj (dw (dw jf)) (by decide))) dz)) (kj (dw (dw jf)) (by decide)))))   pq
                · refine gj ?_ ?_
                  · refine wj ?_ ?_ ?_
                    · exact m7 (uc hq) (ao 3 (pv 3)) cu (lg _)
                    · refine j9 ?_
                      · exact jm (qu (aj (jj hu (Fz (aj ur (aj ur dz)) (kj (dw (dw jf)) (by decide))) (gn d_law_pick hr (by rfl) (aj (ao 0 (pv 0)) (aj cu dz)) (bw (bw eq_nil))) (fun _ _=>rfl)) (aj (qu (aj (qu (aj ur (aj (ao 5 (pv 5)) dz)) (kj (dw (dw jf)) (by decide))) (aj (gn d_law_simple hr (by rfl) (aj (ao 0 (pv 0)) (aj (ao 1 (pv 1)) (aj (ao 2 (pv 2)) dz))) (bw (bw (bw eq_nil)))) dz)) (kj (dw (dw jf)) (by decide))) dz)) (kj (dw (dw jf)) (by decide)))
                    · exact pq
                  · refine gj ?_ ?_
                    · refine nj (te:=tOf _ _ _) _ ?_ (fun _ _ _ h=>h)
                      · refine lu ?_ ?_ ?_ ?_
                        · exact nd
                        · exact rfl
                        · exact Or.inl rfl
                        · refine lq ?_
                          · refine qt uo ?_ ?_ PyProof.Rows.boot_tuple ?_
                            · exact by rfl
                            · exact b_tuple
                            · refine aj ?_ ?_
                              · refine vh ?_
                                · refine Ax (N:=["_law_k","_law_stream","_law_boxes_here","_law_hands"]) ?_ ?_ ?_ ?_ ?_ ?_ ?_ ?_
                                  · exact ⟨rfl,fun j k h=>match j,h with | 0,h=>(by cases h; exact ⟨_,rfl,rfl,⟨.inl rfl,.inr (.inl rfl),.inl rfl⟩⟩) | 1,h=>(by cases h; exact ⟨_,rfl,rfl,⟨.inl rfl,.inr (.inl rfl),.inl rfl⟩⟩) | 2,h=>(by cases h; exact ⟨_,rfl,rfl,⟨.inl rfl,.inr (.inl rfl),.inl rfl⟩⟩) | _ + 3,h=>(by cases h)⟩
                                  · exact ⟨rfl,rfl,by decide +kernel,by decide +kernel⟩
                                  · exact rfl
                                  · exact Jc (by rfl) b_range (nq wu cu (gn d_law_pick hr (by rfl) (aj (ao 0 (pv 0)) (aj cu dz)) (bw (bw eq_nil))))
                                  · exact J6
                                  · exact fun C s₀ H₀ ex pn=>pgE fun B=>(ud 0 (jh (show (["_law_k","_law_stream","_law_boxes_here","_law_hands"]:List Str).Nodup by decide +kernel) rfl (Or.inl rfl)))
                                  · exact fun C s₀ H₀ ex pn=>vg
                                  · exact fun C s₀ H₀ ex pn=>peE fun B=>(gn d_law_simple hr (by rfl) (aj (ao 1 (pv 1)) (aj (ao 2 (pv 2)) (aj (ao 3 (pv 3)) dz))) (bw (bw (bw eq_nil))))
                              · exact dz
                    · exact j9 (jm (qu (aj (jj hu (Fz (aj ur (aj ur dz)) (kj (dw (dw jf)) (by decide))) (gn d_law_pick hr (by rfl) (aj (ao 0 (pv 0)) (aj cu dz)) (bw (bw eq_nil))) (fun _ _=>rfl)) (aj (nq wu (jj hu (ao 5 (pv 5)) cu (fun _ _=>rfl)) (ao 6 (pv 6))) dz)) (kj (dw (dw jf)) (by decide))))
theorem Mq (F:Fun K "_law_remark" "_law_remark" zx f fd) (hmg:mg "_law_remark" = some (.ref f)) (d_law_pick:jc P w K mg base "_law_pick" 1 ["_law_stream","_law_many"] (_root_.K.gk)) (d_law_simple:jc P w K mg base "_law_simple" 3 ["_law_stream","_law_boxes_here","_law_hands"] (_root_.K.qp)) (b_range:mg "range" = none) (b_tuple:mg "tuple" = none):jc P w K mg base "_law_remark" 4 ["_law_stream","_law_boxes_here","_law_hands"] _root_.K.Ac :=
  ⟨f,fd,Mv F d_law_pick d_law_simple b_range b_tuple,F.binds (ps:=["_law_stream","_law_boxes_here","_law_hands"]) fun _ _ _ _ _ _ us hl=>bd3 (fun _ _ _=>rfl) us hl,F.kp,hmg⟩
noncomputable abbrev Ay:Stmt:=top 21
theorem Ht:ou ["_law_stream","_law_cell","_law_many","_law_boxes_here","_law_k","_law_low","_law_high"] ["_law_stream","_law_cell","_law_many"] (iw Ay):=⟨rfl,rfl,rfl,by decide +kernel,rfl,by decide +kernel,by decide +kernel⟩
theorem Q0 (F:Fun K "_law_boxes" "_law_boxes" Ay f fd) (d_law_name:jc P w K mg base "_law_name" 1 ["_law_cell","_law_k"] (_root_.K.vd)) (d_law_pick:jc P w K mg base "_law_pick" 1 ["_law_stream","_law_many"] (_root_.K.gk)) (b_range:mg "range" = none):Cv P w K mg base CX0 2 f fd ["_law_stream","_law_cell","_law_many"] (spF K (["_law_stream","_law_cell","_law_many"]:List Str).length _root_.K.Az):=by
  have d_law_name:=d_law_name.mono (show 1≤1 by first | decide | omega)
  have d_law_pick:=d_law_pick.mono (show 1≤1 by first | decide | omega)
  refine qj (N:=["_law_stream","_law_cell","_law_many","_law_boxes_here","_law_k","_law_low","_law_high"]) F Ht (by decide)  fun cdv A outer s H E B hr=>?_
  have hu:=Bq hr
  have hq:=hr.units
  have nd:(["_law_stream","_law_cell","_law_many","_law_boxes_here","_law_k","_law_low","_law_high"]:List Str).Nodup:=Ht.nd
  refine gj ?_ ?_
  · exact Ie 3 (lu nd rfl (Or.inl rfl) (M5 dz (kj jf (by decide)))) (fun _ _ _ h=>h)
  · refine gj ?_ ?_
    · refine Dy ?_ ?_ ?_ ?_ ?_ ?_
      · exact PassesOwn.never
      · exact rfl
      · exact Jc (by rfl) b_range (ao 2 (pv 2))
      · exact ud 4 (jh nd rfl (Or.inl rfl))
      · refine gj ?_ ?_
        · exact nj 5 (lu nd rfl (Or.inl rfl) (nq Bm (gn d_law_pick hr (by rfl) (aj (ao 0 (pv 0)) (aj cu dz)) (bw (bw eq_nil))) cu)) (fun _ _ _ h=>h)
        · refine gj ?_ ?_
          · exact wj (m7 (uc hq) (gn d_law_pick hr (by rfl) (aj (ao 0 (pv 0)) (aj cu dz)) (bw (bw eq_nil))) cu (lg _))   (j9 (nj 5 (lu nd rfl (Or.inl rfl) (nq Bm (gn d_law_pick hr (by rfl) (aj (ao 0 (pv 0)) (aj (nq Bm (nq Dq cu (nq Mr cu cu)) cu) dz)) (bw (bw eq_nil))) (nq Mr cu cu))) (fun _ _ _ h=>h)))   pq
          · refine gj ?_ ?_
            · exact nj 6 (lu nd rfl (Or.inl rfl) (nq wu (ao 5 (pv 5)) (gn d_law_pick hr (by rfl) (aj (ao 0 (pv 0)) (aj cu dz)) (bw (bw eq_nil))))) (fun _ _ _ h=>h)
            · exact j9 (Ck 3 (Er (Pq PySem.F.plainAttrs_list PySem.F.slot_list_append PySem.F.type_list_append Bf (pv 3) (Ab (qu (aj (gn d_law_name hr (by rfl) (aj (ao 1 (pv 1)) (aj (ao 4 (pv 4)) dz)) (bw (bw eq_nil))) (aj ur (aj (ao 5 (pv 5)) (aj (ao 6 (pv 6)) (aj (nq wu (ao 5 (pv 5)) (gn d_law_pick hr (by rfl) (aj (ao 0 (pv 0)) (aj (nq wu (nq Bm (ao 6 (pv 6)) (ao 5 (pv 5))) cu) dz)) (bw (bw eq_nil)))) dz))))) (kj (dw (dw (dw (dw (dw jf))))) (by decide))) Cm))))
      · exact J6
    · exact j9 (jm (ao 3 (pv 3)))
theorem Oi (F:Fun K "_law_boxes" "_law_boxes" Ay f fd) (hmg:mg "_law_boxes" = some (.ref f)) (d_law_name:jc P w K mg base "_law_name" 1 ["_law_cell","_law_k"] (_root_.K.vd)) (d_law_pick:jc P w K mg base "_law_pick" 1 ["_law_stream","_law_many"] (_root_.K.gk)) (b_range:mg "range" = none):jc P w K mg base "_law_boxes" 2 ["_law_stream","_law_cell","_law_many"] _root_.K.Az :=
  ⟨f,fd,Q0 F d_law_name d_law_pick b_range,F.binds (ps:=["_law_stream","_law_cell","_law_many"]) fun _ _ _ _ _ _ us hl=>bd3 (fun _ _ _=>rfl) us hl,F.kp,hmg⟩
noncomputable abbrev Bj:Stmt:=top 22
theorem Jl:ou ["_law_stream","_law_boxes_here","_law_hands","_law_hand","_law_places","_law_here","_law_there","_law_guard","_law_sets","_law_box","_law_way"] ["_law_stream","_law_boxes_here","_law_hands"] (iw Bj):=⟨rfl,rfl,rfl,by decide +kernel,rfl,by decide +kernel,by decide +kernel⟩
theorem Qp (F:Fun K "_law_step" "_law_step" Bj f fd) (d_law_pick:jc P w K mg base "_law_pick" 1 ["_law_stream","_law_many"] (_root_.K.gk)) (d_law_remark:jc P w K mg base "_law_remark" 4 ["_law_stream","_law_boxes_here","_law_hands"] (_root_.K.Ac)) (d_law_sum:jc P w K mg base "_law_sum" 2 ["_law_stream","_law_boxes_here"] (_root_.K.Aj)) (b_len:mg "len" = none) (b_sorted:mg "sorted" = none) (b_tuple:mg "tuple" = none):Cv P w K mg base CX0 5 f fd ["_law_stream","_law_boxes_here","_law_hands"] (spF K (["_law_stream","_law_boxes_here","_law_hands"]:List Str).length _root_.K.Bd):=by
  have d_law_pick:=d_law_pick.mono (show 1≤4 by first | decide | omega)
  have d_law_remark:=d_law_remark.mono (show 4≤4 by first | decide | omega)
  have d_law_sum:=d_law_sum.mono (show 2≤4 by first | decide | omega)
  refine qj (N:=["_law_stream","_law_boxes_here","_law_hands","_law_hand","_law_places","_law_here","_law_there","_law_guard","_law_sets","_law_box","_law_way"]) F Jl (by decide)  fun cdv A outer s H E B hr=>?_
  have hu:=Bq hr
  have hq:=hr.units
  have nd:(["_law_stream","_law_boxes_here","_law_hands","_law_hand","_law_places","_law_here","_law_there","_law_guard","_law_sets","_law_box","_law_way"]:List Str).Nodup:=Jl.nd
  refine gj ?_ ?_
  · exact a3c (Jw (jj hu (ao 2 (pv 2)) (gn d_law_pick hr (by rfl) (aj (ao 0 (pv 0)) (aj (lq (vo zu (by rfl) b_len PySem.boot_len (aj (ao 2 (pv 2)) dz))) dz)) (bw (bw eq_nil))) (fun _ _=>rfl)) (Fw (is:=[3,4]) (G5 rfl (nu (jh nd rfl (Or.inl rfl)) (nu (jh nd rfl (Or.inl rfl)) Dg)))))
  · refine gj ?_ ?_
    · exact nj 5 (lu nd rfl (Or.inl rfl) (gn d_law_pick hr (by rfl) (aj (ao 0 (pv 0)) (aj (ao 4 (pv 4)) dz)) (bw (bw eq_nil)))) (fun _ _ _ h=>h)
    · refine gj ?_ ?_
      · exact nj 6 (lu nd rfl (Or.inl rfl) (gn d_law_pick hr (by rfl) (aj (ao 0 (pv 0)) (aj (ao 4 (pv 4)) dz)) (bw (bw eq_nil)))) (fun _ _ _ h=>h)
      · refine gj ?_ ?_
        · exact nj 7 (lu nd rfl (Or.inl rfl) (gn d_law_remark hr (by rfl) (aj (ao 0 (pv 0)) (aj (ao 1 (pv 1)) (aj (ao 2 (pv 2)) dz))) (bw (bw (bw eq_nil))))) (fun _ _ _ h=>h)
        · refine gj ?_ ?_
          · exact Ie 8 (lu nd rfl (Or.inl rfl) (M5 dz (kj jf (by decide)))) (fun _ _ _ h=>h)
          · refine gj ?_ ?_
            · refine Dy ?_ ?_ ?_ ?_ ?_ ?_
              · exact PassesOwn.never
              · exact rfl
              · exact zp (lq (vo (Hx (by rfl)) (by rfl) b_sorted PyProof.Rows.boot_sorted (aj (ao 1 (pv 1)) dz)))
              · exact ud 9 (jh nd rfl (Or.inl rfl))
              · refine gj ?_ ?_
                · exact nj 10 (lu nd rfl (Or.inl rfl) (gn d_law_pick hr (by rfl) (aj (ao 0 (pv 0)) (aj cu dz)) (bw (bw eq_nil)))) (fun _ _ _ h=>h)
                · refine gj ?_ ?_
                  · exact wj (m7 (uc hq) (ao 10 (pv 10)) cu (lg _))   (j9 (Ck 8 (Er (Pq PySem.F.plainAttrs_list PySem.F.slot_list_append PySem.F.type_list_append Bf (pv 8) (Ab (qu (aj (ao 9 (pv 9)) (aj (gn d_law_sum hr (by rfl) (aj (ao 0 (pv 0)) (aj (ao 1 (pv 1)) dz)) (bw (bw eq_nil))) dz)) (kj (dw (dw jf)) (by decide))) Cm)))))   pq
                  · refine j9 ?_
                    · refine wj ?_ ?_ ?_
                      · exact m7 (uc hq) (ao 10 (pv 10)) cu (lg _)
                      · exact j9 (Ck 8 (Er (Pq PySem.F.plainAttrs_list PySem.F.slot_list_append PySem.F.type_list_append Bf (pv 8) (Ab (qu (aj (ao 9 (pv 9)) (aj (qu (aj (nq Bm (gn d_law_pick hr (by rfl) (aj (ao 0 (pv 0)) (aj cu dz)) (bw (bw eq_nil))) cu) (aj (qu (aj (qu (aj (ao 9 (pv 9)) (aj cu dz)) (kj (dw (dw jf)) (by decide))) dz) (kj (dw jf) (by decide))) dz)) (kj (dw (dw jf)) (by decide))) dz)) (kj (dw (dw jf)) (by decide))) Cm))))
                      · exact pq
              · exact zm
            · exact j9 (jm (qu (aj (ao 3 (pv 3)) (aj (ao 5 (pv 5)) (aj (ao 7 (pv 7)) (aj (lq (qt uo (by rfl) b_tuple PyProof.Rows.boot_tuple (aj (ao 8 (pv 8)) dz))) (aj (ao 6 (pv 6)) dz))))) (kj (dw (dw (dw (dw (dw jf))))) (by decide))))
theorem Qa (F:Fun K "_law_step" "_law_step" Bj f fd) (hmg:mg "_law_step" = some (.ref f)) (d_law_pick:jc P w K mg base "_law_pick" 1 ["_law_stream","_law_many"] (_root_.K.gk)) (d_law_remark:jc P w K mg base "_law_remark" 4 ["_law_stream","_law_boxes_here","_law_hands"] (_root_.K.Ac)) (d_law_sum:jc P w K mg base "_law_sum" 2 ["_law_stream","_law_boxes_here"] (_root_.K.Aj)) (b_len:mg "len" = none) (b_sorted:mg "sorted" = none) (b_tuple:mg "tuple" = none):jc P w K mg base "_law_step" 5 ["_law_stream","_law_boxes_here","_law_hands"] _root_.K.Bd :=
  ⟨f,fd,Qp F d_law_pick d_law_remark d_law_sum b_len b_sorted b_tuple,F.binds (ps:=["_law_stream","_law_boxes_here","_law_hands"]) fun _ _ _ _ _ _ us hl=>bd3 (fun _ _ _=>rfl) us hl,F.kp,hmg⟩
noncomputable abbrev yg:Stmt:=top 23
theorem Fx:ou ["_law_script","_law_most","_law_way","_law_cell","_law_stream","_law_many","_law_hands","_law_k","_law_boxes_here","_law_names","_law_steps"] ["_law_script","_law_most"] (iw yg):=⟨rfl,rfl,rfl,by decide +kernel,rfl,by decide +kernel,by decide +kernel⟩
theorem La (F:Fun K "_law_program" "_law_program" yg f fd) (d_law_boxes:jc P w K mg base "_law_boxes" 2 ["_law_stream","_law_cell","_law_many"] (_root_.K.Az)) (d_law_cell_at:jc P w K mg base "_law_cell_at" 1 ["_law_script","_law_k"] (_root_.K.qd)) (d_law_name:jc P w K mg base "_law_name" 1 ["_law_cell","_law_k"] (_root_.K.vd)) (d_law_pick:jc P w K mg base "_law_pick" 1 ["_law_stream","_law_many"] (_root_.K.gk)) (d_law_step:jc P w K mg base "_law_step" 5 ["_law_stream","_law_boxes_here","_law_hands"] (_root_.K.Bd)) (b_range:mg "range" = none):Cv P w K mg base CX0 6 f fd ["_law_script","_law_most"] (spF K (["_law_script","_law_most"]:List Str).length _root_.K.Ah):=by
  have d_law_boxes:=d_law_boxes.mono (show 2≤5 by first | decide | omega)
  have d_law_cell_at:=d_law_cell_at.mono (show 1≤5 by first | decide | omega)
  have d_law_name:=d_law_name.mono (show 1≤5 by first | decide | omega)
  have d_law_pick:=d_law_pick.mono (show 1≤5 by first | decide | omega)
  have d_law_step:=d_law_step.mono (show 5≤5 by first | decide | omega)
  refine qj (N:=["_law_script","_law_most","_law_way","_law_cell","_law_stream","_law_many","_law_hands","_law_k","_law_boxes_here","_law_names","_law_steps"]) F Fx (by decide)  fun cdv A outer s H E B hr=>?_
  have hu:=Bq hr
  have hq:=hr.units
  have nd:(["_law_script","_law_most","_law_way","_law_cell","_law_stream","_law_many","_law_hands","_law_k","_law_boxes_here","_law_names","_law_steps"]:List Str).Nodup:=Fx.nd
  refine gj ?_ ?_
  · exact nj 2 (lu nd rfl (Or.inr rfl) (nq Aw (nq Fo (gn d_law_cell_at hr (by rfl) (aj (ao 0 (pv 0)) (aj cu dz)) (bw (bw eq_nil))) cu) cu)) (fun _ _ _ h=>h)
  · refine gj ?_ ?_
    · exact nj 3 (lu nd rfl (Or.inl rfl) (gn d_law_cell_at hr (by rfl) (aj (ao 0 (pv 0)) (aj cu dz)) (bw (bw eq_nil)))) (fun _ _ _ h=>h)
    · refine gj ?_ ?_
      · exact nj 4 (lu nd rfl (Or.inl rfl) (Og (aj (gn d_law_cell_at hr (by rfl) (aj (ao 0 (pv 0)) (aj cu dz)) (bw (bw eq_nil))) (aj (ao 2 (pv 2)) dz)) (kj (dw (dw jf)) (by decide)))) (fun _ _ _ h=>h)
      · refine gj ?_ ?_
        · exact nj 5 (lu nd rfl (Or.inl rfl) (nq wu cu (gn d_law_pick hr (by rfl) (aj (ao 4 (pv 4)) (aj cu dz)) (bw (bw eq_nil))))) (fun _ _ _ h=>h)
        · refine gj ?_ ?_
          · exact Ie 6 (lu nd rfl (Or.inr rfl) (M5 dz (kj jf (by decide)))) (fun _ _ _ h=>h)
          · refine gj ?_ ?_
            · refine Dy ?_ ?_ ?_ ?_ ?_ ?_
              · exact PassesOwn.never
              · exact rfl
              · exact Jc (by rfl) b_range (ao 5 (pv 5))
              · exact ud 7 (jh nd rfl (Or.inl rfl))
              · refine j9 ?_
                · exact Ck 6 (Er (Pq PySem.F.plainAttrs_list PySem.F.slot_list_append PySem.F.type_list_append Bf (pv 6) (Ab (qu (aj (gn d_law_name hr (by rfl) (aj (ao 3 (pv 3)) (aj (nq wu cu (ao 7 (pv 7))) dz)) (bw (bw eq_nil))) (aj (nq wu cu (gn d_law_pick hr (by rfl) (aj (ao 4 (pv 4)) (aj (jj hu (Fz (aj cu (aj cu (aj cu dz))) (kj (dw (dw (dw jf))) (by decide))) (nq Bm (ao 5 (pv 5)) cu) (fun _ _=>rfl)) dz)) (bw (bw eq_nil)))) dz)) (kj (dw (dw jf)) (by decide))) Cm)))
              · exact J6
            · refine gj ?_ ?_
              · exact nj 8 (lu nd rfl (Or.inl rfl) (gn d_law_boxes hr (by rfl) (aj (ao 4 (pv 4)) (aj (ao 3 (pv 3)) (aj (gn d_law_pick hr (by rfl) (aj (ao 4 (pv 4)) (aj cu dz)) (bw (bw eq_nil))) dz))) (bw (bw (bw eq_nil))))) (fun _ _ _ h=>h)
              · refine gj ?_ ?_
                · exact nj 9 (lu nd rfl (Or.inr rfl) (vh (Ax (N:=["_law_box"]) ⟨rfl,fun j k h=>match j,h with | _ + 0,h=>(by cases h)⟩ ⟨rfl,rfl,by decide +kernel,by decide +kernel⟩ rfl (zp (ao 8 (pv 8))) zm (fun C s₀ H₀ ex pn=>pgE fun B=>(ud 0 (jh (show (["_law_box"]:List Str).Nodup by decide +kernel) rfl (Or.inl rfl)))) (fun C s₀ H₀ ex pn=>vg) (fun C s₀ H₀ ex pn=>peE fun B=>(jj hu (ao 0 (pv 0)) cu (fun _ _=>rfl)))))) (fun _ _ _ h=>h)
                · refine gj ?_ ?_
                  · exact nj 10 (W2 (N:=["_law_one","_law_names","_law_hands","_law_way"]) ⟨rfl,rfl,by decide +kernel,by decide +kernel⟩ rfl (zp (Sy (ao 0 (pv 0)) (M9 cu) (M9 (nq wu cu (ao 1 (pv 1)))))) (fun C s₀ H₀ ex pn=>pgE fun B=>(ud 0 (jh (show (["_law_one","_law_names","_law_hands","_law_way"]:List Str).Nodup by decide +kernel) rfl (Or.inl rfl)))) (fun C s₀ H₀ ex pn=>vg) (fun C s₀ H₀ ex pn=>peE fun B=>(gn d_law_step hr (by rfl) (aj (Og (aj (ao 0 (pv 0)) (aj (ao 3 (pv 3)) dz)) (kj (dw (dw jf)) (by decide))) (aj (ao 1 (pv 1)) (aj (ao 2 (pv 2)) dz))) (bw (bw (bw eq_nil))))) (jh nd rfl (Or.inl rfl)) rfl) (fun σ H Q h=>W3 ⟨rfl,fun j k h=>match j,h with | 0,h=>(by cases h; exact ⟨_,rfl,rfl,⟨.inl rfl,.inr (.inl rfl),.inl rfl⟩⟩) | 1,h=>(by cases h; exact ⟨_,rfl,rfl,⟨.inl rfl,.inr (.inl rfl),.inl rfl⟩⟩) | 2,h=>(by cases h; exact ⟨_,rfl,rfl,⟨.inl rfl,.inr (.inl rfl),.inl rfl⟩⟩) | _ + 3,h=>(by cases h)⟩ zm (Ww h))
                  · exact j9 (jm (qu (aj (ao 8 (pv 8)) (aj (ao 6 (pv 6)) (aj (ao 10 (pv 10)) (aj (qu dz (kj jf (by decide))) dz)))) (kj (dw (dw (dw (dw jf)))) (by decide))))
theorem Ld (F:Fun K "_law_program" "_law_program" yg f fd) (hmg:mg "_law_program" = some (.ref f)) (d_law_boxes:jc P w K mg base "_law_boxes" 2 ["_law_stream","_law_cell","_law_many"] (_root_.K.Az)) (d_law_cell_at:jc P w K mg base "_law_cell_at" 1 ["_law_script","_law_k"] (_root_.K.qd)) (d_law_name:jc P w K mg base "_law_name" 1 ["_law_cell","_law_k"] (_root_.K.vd)) (d_law_pick:jc P w K mg base "_law_pick" 1 ["_law_stream","_law_many"] (_root_.K.gk)) (d_law_step:jc P w K mg base "_law_step" 5 ["_law_stream","_law_boxes_here","_law_hands"] (_root_.K.Bd)) (b_range:mg "range" = none):jc P w K mg base "_law_program" 6 ["_law_script","_law_most"] _root_.K.Ah :=
  ⟨f,fd,La F d_law_boxes d_law_cell_at d_law_name d_law_pick d_law_step b_range,F.binds (ps:=["_law_script","_law_most"]) fun _ _ _ _ _ _ us hl=>bd2 (fun _ _=>rfl) us hl,F.kp,hmg⟩
noncomputable abbrev Ba:Stmt:=top 24
theorem Ia:ou ["_law_one","_law_book"] ["_law_one","_law_book"] (iw Ba):=⟨rfl,rfl,rfl,by decide +kernel,rfl,by decide +kernel,by decide +kernel⟩
theorem Nz (F:Fun K "_law_value" "_law_value" Ba f fd) (b_sum:mg "sum" = none):Cv P w K mg base CX0 1 f fd ["_law_one","_law_book"] (spF K (["_law_one","_law_book"]:List Str).length _root_.K.ql):=by
  refine qj (N:=["_law_one","_law_book"]) F Ia (by decide)  fun cdv A outer s H E B hr=>?_
  have hu:=Bq hr
  have hq:=hr.units
  have nd:(["_law_one","_law_book"]:List Str).Nodup:=Ia.nd
  refine j9 ?_
  · refine jm ?_
    · refine nq ?_ ?_ ?_
      · exact wu
      · exact jj hu (ao 0 (pv 0)) cu (fun _ _=>rfl)
      · refine lq ?_
        · refine vo (N8 (by rfl)) ?_ ?_ PyProof.Rows.boot_sum ?_
          · exact by rfl
          · exact b_sum
          · refine aj ?_ ?_
            · refine vh ?_
              · refine Ax (N:=["_law_box","_law_times_of","_law_book"]) ?_ ?_ ?_ ?_ ?_ ?_ ?_ ?_
                · exact ⟨rfl,fun j k h=>match j,h with | 0,h=>(by cases h; exact ⟨_,rfl,rfl,⟨.inl rfl,.inr (.inl rfl),.inl rfl⟩⟩) | _ + 1,h=>(by cases h)⟩
                · exact ⟨rfl,rfl,by decide +kernel,by decide +kernel⟩
                · exact rfl
                · exact zp (jj hu (ao 0 (pv 0)) cu (fun _ _=>rfl))
                · exact zm
                · exact fun C s₀ H₀ ex pn=>pgE fun B=>(Fw (is:=[0,1]) (G5 rfl (nu (jh (show (["_law_box","_law_times_of","_law_book"]:List Str).Nodup by decide +kernel) rfl (Or.inl rfl)) (nu (jh (show (["_law_box","_law_times_of","_law_book"]:List Str).Nodup by decide +kernel) rfl (Or.inl rfl)) Dg))))
                · exact fun C s₀ H₀ ex pn=>vg
                · exact fun C s₀ H₀ ex pn=>peE fun B=>(nq Dq (ao 1 (pv 1)) (jj hu (ao 2 (pv 2)) (ao 0 (pv 0)) (fun _ _=>rfl)))
            · exact dz
theorem Nq (F:Fun K "_law_value" "_law_value" Ba f fd) (hmg:mg "_law_value" = some (.ref f)) (b_sum:mg "sum" = none):jc P w K mg base "_law_value" 1 ["_law_one","_law_book"] _root_.K.ql :=
  ⟨f,fd,Nz F b_sum,F.binds (ps:=["_law_one","_law_book"]) fun _ _ _ _ _ _ us hl=>bd2 (fun _ _=>rfl) us hl,F.kp,hmg⟩
noncomputable abbrev Ad:Stmt:=top 25
theorem Hv:ou ["_law_remark_here","_law_book","_law_places","_law_some"] ["_law_remark_here","_law_book","_law_places"] (iw Ad):=⟨rfl,rfl,rfl,by decide +kernel,rfl,by decide +kernel,by decide +kernel⟩
theorem Oq (F:Fun K "_law_holds" "_law_holds" Ad f fd) {nn:Nat} (d_law_holds:jc P w K mg base "_law_holds" (1 + nn) ["_law_remark_here","_law_book","_law_places"] (_root_.K.jx nn)) (d_law_value:jc P w K mg base "_law_value" 1 ["_law_one","_law_book"] (_root_.K.ql)):Cv P w K mg base CX0 (1 + nn + 1) f fd ["_law_remark_here","_law_book","_law_places"] (spF K (["_law_remark_here","_law_book","_law_places"]:List Str).length (_root_.K.jx (nn + 1))):=by
  have d_law_holds:=d_law_holds.mono (show (1 + nn)≤(1 + nn) by first | decide | omega)
  have d_law_value:=d_law_value.mono (show 1≤(1 + nn) by first | decide | omega)
  refine qj (N:=["_law_remark_here","_law_book","_law_places","_law_some"]) F Hv (by decide)  fun cdv A outer s H E B hr=>?_
  have hu:=Bq hr
  have hq:=hr.units
  have nd:(["_law_remark_here","_law_book","_law_places","_law_some"]:List Str).Nodup:=Hv.nd
  refine gj ?_ ?_
  · exact wj (m7 (uc hq) (jj hu (ao 0 (pv 0)) cu (fun _ _=>rfl)) ur (lg _))   (j9 (jm (Hg a0j (gn d_law_value hr (by rfl) (aj (jj hu (ao 0 (pv 0)) cu (fun _ _=>rfl)) (aj (ao 1 (pv 1)) dz)) (bw (bw eq_nil))) cu (lg _))))   pq
  · refine gj ?_ ?_
    · exact wj (m7 (uc hq) (jj hu (ao 0 (pv 0)) cu (fun _ _=>rfl)) ur (lg _))   (j9 (jm (Hg (uc hq) (nq Aw (gn d_law_value hr (by rfl) (aj (jj hu (ao 0 (pv 0)) cu (fun _ _=>rfl)) (aj (ao 1 (pv 1)) dz)) (bw (bw eq_nil))) (jj hu (ao 0 (pv 0)) cu (fun _ _=>rfl))) cu (lg _))))   pq
    · refine gj ?_ ?_
      · exact wj (m7 (uc hq) (jj hu (ao 0 (pv 0)) cu (fun _ _=>rfl)) ur (lg _))   (j9 (jm (Hg (uc hq) (jj hu (ao 2 (pv 2)) (jj hu (ao 0 (pv 0)) cu (fun _ _=>rfl)) (fun _ _=>rfl)) (jj hu (ao 0 (pv 0)) cu (fun _ _=>rfl)) (lg _))))   pq
      · refine gj ?_ ?_
        · exact wj (m7 (uc hq) (jj hu (ao 0 (pv 0)) cu (fun _ _=>rfl)) ur (lg _))   (j9 (jm (Vw (gn d_law_holds hr (by rfl) (aj (jj hu (ao 0 (pv 0)) cu (fun _ _=>rfl)) (aj (ao 1 (pv 1)) (aj (ao 2 (pv 2)) dz))) (bw (bw (bw eq_nil)))))))   pq
        · refine gj ?_ ?_
          · exact nj 3 (W2 (N:=["_law_one","_law_book","_law_places"]) ⟨rfl,rfl,by decide +kernel,by decide +kernel⟩ rfl (zp (jj hu (ao 0 (pv 0)) cu (fun _ _=>rfl))) (fun C s₀ H₀ ex pn=>pgE fun B=>(ud 0 (jh (show (["_law_one","_law_book","_law_places"]:List Str).Nodup by decide +kernel) rfl (Or.inl rfl)))) (fun C s₀ H₀ ex pn=>vg) (fun C s₀ H₀ ex pn=>peE fun B=>(gn d_law_holds hr (by rfl) (aj (ao 0 (pv 0)) (aj (ao 1 (pv 1)) (aj (ao 2 (pv 2)) dz))) (bw (bw (bw eq_nil))))) (jh nd rfl (Or.inl rfl)) rfl) (fun σ H Q h=>W3 ⟨rfl,fun j k h=>match j,h with | 0,h=>(by cases h; exact ⟨_,rfl,rfl,⟨.inl rfl,.inr (.inl rfl),.inl rfl⟩⟩) | 1,h=>(by cases h; exact ⟨_,rfl,rfl,⟨.inl rfl,.inr (.inl rfl),.inl rfl⟩⟩) | _ + 2,h=>(by cases h)⟩ zm (Ww h))
          · exact j9 (jm (Mj (m7 (uc hq) (jj hu (ao 0 (pv 0)) cu (fun _ _=>rfl)) ur (lg _)) (Hg (Wd hq) Gw (ao 3 (pv 3)) rfl) (Hg (Sg hq) Gw (ao 3 (pv 3)) rfl)))
theorem O8 (F:Fun K "_law_holds" "_law_holds" Ad f fd) (hmg:mg "_law_holds" = some (.ref f)) {nn:Nat} (d_law_holds:jc P w K mg base "_law_holds" (1 + nn) ["_law_remark_here","_law_book","_law_places"] (_root_.K.jx nn)) (d_law_value:jc P w K mg base "_law_value" 1 ["_law_one","_law_book"] (_root_.K.ql)):jc P w K mg base "_law_holds" (1 + nn + 1) ["_law_remark_here","_law_book","_law_places"] (_root_.K.jx (nn + 1)) :=
  ⟨f,fd,Oq F d_law_holds d_law_value,F.binds (ps:=["_law_remark_here","_law_book","_law_places"]) fun _ _ _ _ _ _ us hl=>bd3 (fun _ _ _=>rfl) us hl,F.kp,hmg⟩
theorem Gv {f_law_holds:Addr} {fd_law_holds:FuncData} (F_law_holds:Fun K "_law_holds" "_law_holds" Ad f_law_holds fd_law_holds) (h_law_holds:mg "_law_holds" = some (.ref f_law_holds)) (d_law_value:jc P w K mg base "_law_value" 1 ["_law_one","_law_book"] _root_.K.ql):∀ nn:Nat,jc P w K mg base "_law_holds" (1 + nn) ["_law_remark_here","_law_book","_law_places"] (_root_.K.jx nn)
  | 0=>jc.zero F_law_holds h_law_holds (F_law_holds.binds (ps:=["_law_remark_here","_law_book","_law_places"]) fun _ _ _ _ _ _ us hl=>bd3 (fun _ _ _=>rfl) us hl)
  | nn + 1=>by
    have ih:=Gv F_law_holds h_law_holds d_law_value nn
    have d_law_holds:=ih
    exact O8 F_law_holds h_law_holds d_law_holds d_law_value
noncomputable abbrev Bc:Stmt:=top 26
theorem Ib:ou ["_law_program_here"] ["_law_program_here"] (iw Bc):=⟨rfl,rfl,rfl,by decide +kernel,rfl,by decide +kernel,by decide +kernel⟩
theorem Nt (F:Fun K "_law_first" "_law_first" Bc f fd) (b_len:mg "len" = none) (b_tuple:mg "tuple" = none):Cv P w K mg base CX0 1 f fd ["_law_program_here"] (spF K (["_law_program_here"]:List Str).length _root_.K.Bo):=by
  refine qj (N:=["_law_program_here"]) F Ib (by decide)  fun cdv A outer s H E B hr=>?_
  have hu:=Bq hr
  have hq:=hr.units
  have nd:(["_law_program_here"]:List Str).Nodup:=Ib.nd
  refine j9 ?_
  · refine jm ?_
    · refine qu ?_ ?_
      · refine aj ?_ ?_
        · exact lq (qt uo (by rfl) b_tuple PyProof.Rows.boot_tuple (aj (a1y (aj cu dz) (kj (dw jf) (by decide)) (fun B=>(lq (vo zu (by rfl) b_len PySem.boot_len (aj (jj hu (ao 0 (pv 0)) cu (fun _ _=>rfl)) dz))))) dz))
        · exact aj (lq (qt uo (by rfl) b_tuple PyProof.Rows.boot_tuple (aj (vh (Ax (N:=["_law_box"]) ⟨rfl,fun j k h=>match j,h with | _ + 0,h=>(by cases h)⟩ ⟨rfl,rfl,by decide +kernel,by decide +kernel⟩ rfl (zp (jj hu (ao 0 (pv 0)) cu (fun _ _=>rfl))) zm (fun C s₀ H₀ ex pn=>pgE fun B=>(ud 0 (jh (show (["_law_box"]:List Str).Nodup by decide +kernel) rfl (Or.inl rfl)))) (fun C s₀ H₀ ex pn=>vg) (fun C s₀ H₀ ex pn=>peE fun B=>(jj hu (ao 0 (pv 0)) cu (fun _ _=>rfl))))) dz))) dz
      · exact kj (dw (dw jf)) (by decide)
theorem Ol (F:Fun K "_law_first" "_law_first" Bc f fd) (hmg:mg "_law_first" = some (.ref f)) (b_len:mg "len" = none) (b_tuple:mg "tuple" = none):jc P w K mg base "_law_first" 1 ["_law_program_here"] _root_.K.Bo :=
  ⟨f,fd,Nt F b_len b_tuple,F.binds (ps:=["_law_program_here"]) fun _ _ _ _ _ _ us hl=>bd1 (fun _=>rfl) us hl,F.kp,hmg⟩
noncomputable abbrev Bh:Stmt:=top 27
theorem Ko:ou ["_law_program_here","_law_stand","_law_number","_law_hand","_law_here","_law_guard","_law_sets","_law_there","_law_places","_law_book","_law_then","_law_box","_law_one"] ["_law_program_here","_law_stand","_law_number"] (iw Bh):=⟨rfl,rfl,rfl,by decide +kernel,rfl,by decide +kernel,by decide +kernel⟩
theorem Rh (F:Fun K "_law_next" "_law_next" Bh f fd) (d_law_holds:jc P w K mg base "_law_holds" 41 ["_law_remark_here","_law_book","_law_places"] (_root_.K.jx 40)) (d_law_value:jc P w K mg base "_law_value" 1 ["_law_one","_law_book"] (_root_.K.ql)) (b_dict:mg "dict" = none) (b_tuple:mg "tuple" = none) (b_zip:mg "zip" = none):Cv P w K mg base CX0 42 f fd ["_law_program_here","_law_stand","_law_number"] (spF K (["_law_program_here","_law_stand","_law_number"]:List Str).length _root_.K.zj):=by
  have d_law_holds:=d_law_holds.mono (show 41≤41 by first | decide | omega)
  have d_law_value:=d_law_value.mono (show 1≤41 by first | decide | omega)
  refine qj (N:=["_law_program_here","_law_stand","_law_number","_law_hand","_law_here","_law_guard","_law_sets","_law_there","_law_places","_law_book","_law_then","_law_box","_law_one"]) F Ko (by decide)  fun cdv A outer s H E B hr=>?_
  have hu:=Bq hr
  have hq:=hr.units
  have nd:(["_law_program_here","_law_stand","_law_number","_law_hand","_law_here","_law_guard","_law_sets","_law_there","_law_places","_law_book","_law_then","_law_box","_law_one"]:List Str).Nodup:=Ko.nd
  refine gj ?_ ?_
  · exact a3c (Jw (jj hu (jj hu (ao 0 (pv 0)) cu (fun _ _=>rfl)) (ao 2 (pv 2)) (fun _ _=>rfl)) (Fw (is:=[3,4,5,6,7]) (G5 rfl (nu (jh nd rfl (Or.inl rfl)) (nu (jh nd rfl (Or.inl rfl)) (nu (jh nd rfl (Or.inl rfl)) (nu (jh nd rfl (Or.inl rfl)) (nu (jh nd rfl (Or.inl rfl)) Dg))))))))
  · refine gj ?_ ?_
    · exact Ie 8 (lu nd rfl (Or.inr rfl) (Lz rfl (by rfl) b_dict (by rfl) b_zip (vh (Ax (N:=["_law_one"]) ⟨rfl,fun j k h=>match j,h with | _ + 0,h=>(by cases h)⟩ ⟨rfl,rfl,by decide +kernel,by decide +kernel⟩ rfl (zp (jj hu (ao 0 (pv 0)) cu (fun _ _=>rfl))) zm (fun C s₀ H₀ ex pn=>pgE fun B=>(ud 0 (jh (show (["_law_one"]:List Str).Nodup by decide +kernel) rfl (Or.inl rfl)))) (fun C s₀ H₀ ex pn=>vg) (fun C s₀ H₀ ex pn=>peE fun B=>(jj hu (ao 0 (pv 0)) cu (fun _ _=>rfl))))) (jj hu (ao 1 (pv 1)) cu (fun _ _=>rfl)))) (fun _ _ _ h=>h)
    · refine gj ?_ ?_
      · exact nj 9 (lu nd rfl (Or.inl rfl) (Hi rfl (by rfl) b_dict (by rfl) b_zip (vh (Ax (N:=["_law_one"]) ⟨rfl,fun j k h=>match j,h with | _ + 0,h=>(by cases h)⟩ ⟨rfl,rfl,by decide +kernel,by decide +kernel⟩ rfl (zp (jj hu (ao 0 (pv 0)) cu (fun _ _=>rfl))) zm (fun C s₀ H₀ ex pn=>pgE fun B=>(ud 0 (jh (show (["_law_one"]:List Str).Nodup by decide +kernel) rfl (Or.inl rfl)))) (fun C s₀ H₀ ex pn=>vg) (fun C s₀ H₀ ex pn=>peE fun B=>(jj hu (ao 0 (pv 0)) cu (fun _ _=>rfl))))) (jj hu (ao 1 (pv 1)) cu (fun _ _=>rfl)))) (fun _ _ _ h=>h)
      · refine gj ?_ ?_
        · exact wj (Yq [8] (fun B=>(PW.pt (Kd (m7 (Gg hq) (Hr 8 hu (pv 8) (ao 3 (pv 3)) (fun _ _=>rfl)) (ao 4 (pv 4)) (lg _)) (Fy (Hy (G4 (gn d_law_holds hr (by rfl) (aj (ao 5 (pv 5)) (aj (ao 9 (pv 9)) (aj (ao 8 (pv 8)) dz))) (bw (bw (bw eq_nil)))))))))))   (j9 (jm O4))   pq
        · refine gj ?_ ?_
          · exact Ie 10 (lu nd rfl (Or.inr rfl) (a3e rfl (by rfl) b_dict (ao 9 (pv 9)))) (fun _ _ _ h=>h)
          · refine gj ?_ ?_
            · exact Dy PassesOwn.never rfl (zp (ao 6 (pv 6))) (Fw (is:=[11,12]) (G5 rfl (nu (jh nd rfl (Or.inl rfl)) (nu (jh nd rfl (Or.inl rfl)) Dg))))   (j9 (Pb 10 hu (pv 10) (ao 11 (pv 11)) (gn d_law_value hr (by rfl) (aj (ao 12 (pv 12)) (aj (ao 9 (pv 9)) dz)) (bw (bw eq_nil))) rfl)) zm
            · refine gj ?_ ?_
              · exact Dy PassesOwn.never rfl (zp (jj hu (ao 0 (pv 0)) cu (fun _ _=>rfl))) (ud 11 (jh nd rfl (Or.inl rfl)))   (j9 (wj (PW.pt (Kd (m7 Lx (Hr 10 hu (pv 10) (jj hu (ao 11 (pv 11)) cu (fun _ _=>rfl)) (fun _ _=>rfl)) (jj hu (ao 11 (pv 11)) cu (fun _ _=>rfl)) (lg _)) (Fy (m7 a0z (Hr 10 hu (pv 10) (jj hu (ao 11 (pv 11)) cu (fun _ _=>rfl)) (fun _ _=>rfl)) (jj hu (ao 11 (pv 11)) cu (fun _ _=>rfl)) (lg _)))))   (j9 (jm O4))   pq)) zm
              · refine gj ?_ ?_
                · exact Pb 8 hu (pv 8) (ao 3 (pv 3)) (ao 7 (pv 7)) rfl
                · refine j9 ?_
                  · refine jm ?_
                    · refine qu ?_ ?_
                      · refine aj ?_ ?_
                        · refine lq ?_
                          · refine qt uo ?_ ?_ PyProof.Rows.boot_tuple ?_
                            · exact by rfl
                            · exact b_tuple
                            · exact aj (vh (Ax (N:=["_law_one","_law_places"]) ⟨rfl,fun j k h=>match j,h with | 0,h=>(by cases h; exact ⟨_,rfl,rfl,⟨.inl rfl,.inr (.inl rfl),.inl rfl⟩⟩) | _ + 1,h=>(by cases h)⟩ ⟨rfl,rfl,by decide +kernel,by decide +kernel⟩ rfl (zp (jj hu (ao 0 (pv 0)) cu (fun _ _=>rfl))) zm (fun C s₀ H₀ ex pn=>pgE fun B=>(ud 0 (jh (show (["_law_one","_law_places"]:List Str).Nodup by decide +kernel) rfl (Or.inl rfl)))) (fun C s₀ H₀ ex pn=>vg) (fun C s₀ H₀ ex pn=>peE fun B=>(jj hu (ao 1 (pv 1)) (jj hu (ao 0 (pv 0)) cu (fun _ _=>rfl)) (fun _ _=>rfl))))) dz
                        · refine aj ?_ ?_
                          · refine lq ?_
                            · refine qt uo ?_ ?_ PyProof.Rows.boot_tuple ?_
                              · exact by rfl
                              · exact b_tuple
                              · exact aj (vh (Ax (N:=["_law_one","_law_then"]) ⟨rfl,fun j k h=>match j,h with | 0,h=>(by cases h; exact ⟨_,rfl,rfl,⟨.inl rfl,.inr (.inl rfl),.inl rfl⟩⟩) | _ + 1,h=>(by cases h)⟩ ⟨rfl,rfl,by decide +kernel,by decide +kernel⟩ rfl (zp (jj hu (ao 0 (pv 0)) cu (fun _ _=>rfl))) zm (fun C s₀ H₀ ex pn=>pgE fun B=>(ud 0 (jh (show (["_law_one","_law_then"]:List Str).Nodup by decide +kernel) rfl (Or.inl rfl)))) (fun C s₀ H₀ ex pn=>vg) (fun C s₀ H₀ ex pn=>peE fun B=>(jj hu (ao 1 (pv 1)) (jj hu (ao 0 (pv 0)) cu (fun _ _=>rfl)) (fun _ _=>rfl))))) dz
                          · exact dz
                      · exact kj (dw (dw jf)) (by decide)
theorem R7 (F:Fun K "_law_next" "_law_next" Bh f fd) (hmg:mg "_law_next" = some (.ref f)) (d_law_holds:jc P w K mg base "_law_holds" 41 ["_law_remark_here","_law_book","_law_places"] (_root_.K.jx 40)) (d_law_value:jc P w K mg base "_law_value" 1 ["_law_one","_law_book"] (_root_.K.ql)) (b_dict:mg "dict" = none) (b_tuple:mg "tuple" = none) (b_zip:mg "zip" = none):jc P w K mg base "_law_next" 42 ["_law_program_here","_law_stand","_law_number"] _root_.K.zj :=
  ⟨f,fd,Rh F d_law_holds d_law_value b_dict b_tuple b_zip,F.binds (ps:=["_law_program_here","_law_stand","_law_number"]) fun _ _ _ _ _ _ us hl=>bd3 (fun _ _ _=>rfl) us hl,F.kp,hmg⟩
noncomputable abbrev Cj:Stmt:=top 28
theorem Lw:ou ["_law_program_here","_law_stand"] ["_law_program_here","_law_stand"] (iw Cj):=⟨rfl,rfl,rfl,by decide +kernel,rfl,by decide +kernel,by decide +kernel⟩
theorem Ua (F:Fun K "_law_can" "_law_can" Cj f fd) (d_law_next:jc P w K mg base "_law_next" 42 ["_law_program_here","_law_stand","_law_number"] (_root_.K.zj)) (b_len:mg "len" = none) (b_range:mg "range" = none):Cv P w K mg base CX0 43 f fd ["_law_program_here","_law_stand"] (spF K (["_law_program_here","_law_stand"]:List Str).length _root_.K.Di):=by
  have d_law_next:=d_law_next.mono (show 42≤42 by first | decide | omega)
  refine qj (N:=["_law_program_here","_law_stand"]) F Lw (by decide)  fun cdv A outer s H E B hr=>?_
  have hu:=Bq hr
  have hq:=hr.units
  have nd:(["_law_program_here","_law_stand"]:List Str).Nodup:=Lw.nd
  refine j9 ?_
  · refine jm ?_
    · refine vh ?_
      · refine Ax (N:=["_law_k","_law_program_here","_law_stand"]) ?_ ?_ ?_ ?_ ?_ ?_ ?_ ?_
        · exact ⟨rfl,fun j k h=>match j,h with | 0,h=>(by cases h; exact ⟨_,rfl,rfl,⟨.inl rfl,.inr (.inl rfl),.inl rfl⟩⟩) | 1,h=>(by cases h; exact ⟨_,rfl,rfl,⟨.inl rfl,.inr (.inl rfl),.inl rfl⟩⟩) | _ + 2,h=>(by cases h)⟩
        · exact ⟨rfl,rfl,by decide +kernel,by decide +kernel⟩
        · exact rfl
        · exact Jc (by rfl) b_range (lq (vo zu (by rfl) b_len PySem.boot_len (aj (jj hu (ao 0 (pv 0)) cu (fun _ _=>rfl)) dz)))
        · exact J6
        · exact fun C s₀ H₀ ex pn=>pgE fun B=>(ud 0 (jh (show (["_law_k","_law_program_here","_law_stand"]:List Str).Nodup by decide +kernel) rfl (Or.inl rfl)))
        · exact fun C s₀ H₀ ex pn=>(Zb fun B=>(m7 Oa (gn d_law_next hr (by rfl) (aj (ao 1 (pv 1)) (aj (ao 2 (pv 2)) (aj (ao 0 (pv 0)) dz))) (bw (bw (bw eq_nil)))) O4 (lg _)))
        · exact fun C s₀ H₀ ex pn=>peE fun B=>(ao 0 (pv 0))
theorem V6 (F:Fun K "_law_can" "_law_can" Cj f fd) (hmg:mg "_law_can" = some (.ref f)) (d_law_next:jc P w K mg base "_law_next" 42 ["_law_program_here","_law_stand","_law_number"] (_root_.K.zj)) (b_len:mg "len" = none) (b_range:mg "range" = none):jc P w K mg base "_law_can" 43 ["_law_program_here","_law_stand"] _root_.K.Di :=
  ⟨f,fd,Ua F d_law_next b_len b_range,F.binds (ps:=["_law_program_here","_law_stand"]) fun _ _ _ _ _ _ us hl=>bd2 (fun _ _=>rfl) us hl,F.kp,hmg⟩
noncomputable abbrev vp:Stmt:=top 29
theorem Fb:ou ["_law_found","_law_program_here","_law_number"] ["_law_found","_law_program_here"] (iw vp):=⟨rfl,rfl,rfl,by decide +kernel,rfl,by decide +kernel,by decide +kernel⟩
theorem K8 (F:Fun K "_law_is_stand" "_law_is_stand" vp f fd) (b_bool:mg "bool" = none) (b_int:mg "int" = none) (b_isinstance:mg "isinstance" = none) (b_len:mg "len" = none) (b_tuple:mg "tuple" = none):Cv P w K mg base CX0 1 f fd ["_law_found","_law_program_here"] (spF K (["_law_found","_law_program_here"]:List Str).length _root_.K.qb):=by
  refine qj (N:=["_law_found","_law_program_here","_law_number"]) F Fb (by decide)  fun cdv A outer s H E B hr=>?_
  have hu:=Bq hr
  have hq:=hr.units
  have nd:(["_law_found","_law_program_here","_law_number"]:List Str).Nodup:=Fb.nd
  refine gj ?_ ?_
  · exact wj (PW.pt (Kd (Hy (G4 (Ep (by rfl) b_isinstance (by rfl) b_tuple (ao 0 (pv 0))))) (Fy (m7 (Gg hq) (lq (vo zu (by rfl) b_len PySem.boot_len (aj (ao 0 (pv 0)) dz))) cu (lg _)))))   (j9 (jm Gw))   pq
  · refine gj ?_ ?_
    · exact wj (PW.pt (Kd (Hy (G4 (Ep (by rfl) b_isinstance (by rfl) b_tuple (jj hu (ao 0 (pv 0)) cu (fun _ _=>rfl))))) (Fy (Hy (G4 (Ep (by rfl) b_isinstance (by rfl) b_tuple (jj hu (ao 0 (pv 0)) cu (fun _ _=>rfl))))))))   (j9 (jm Gw))   pq
    · refine gj ?_ ?_
      · exact wj (PW.pt (Kd (m7 (Gg hq) (lq (vo zu (by rfl) b_len PySem.boot_len (aj (jj hu (ao 0 (pv 0)) cu (fun _ _=>rfl)) dz))) (lq (vo zu (by rfl) b_len PySem.boot_len (aj (jj hu (ao 1 (pv 1)) cu (fun _ _=>rfl)) dz))) (lg _)) (Fy (m7 (Gg hq) (lq (vo zu (by rfl) b_len PySem.boot_len (aj (jj hu (ao 0 (pv 0)) cu (fun _ _=>rfl)) dz))) (lq (vo zu (by rfl) b_len PySem.boot_len (aj (jj hu (ao 1 (pv 1)) cu (fun _ _=>rfl)) dz))) (lg _)))))   (j9 (jm Gw))   pq
      · exact gj (Dy PassesOwn.never rfl (zp (nq wu (jj hu (ao 0 (pv 0)) cu (fun _ _=>rfl)) (jj hu (ao 0 (pv 0)) cu (fun _ _=>rfl)))) (ud 2 (jh nd rfl (Or.inl rfl)))   (j9 (wj (PW.pt (Kd (Hy (G4 (U7 (by rfl) b_isinstance (by rfl) b_int (ao 2 (pv 2))))) (Fy (G4 (Rc (by rfl) b_isinstance (by rfl) b_bool (ao 2 (pv 2)))))))   (j9 (jm Gw))   pq)) zm)   (j9 (jm Gw))
theorem Kc (F:Fun K "_law_is_stand" "_law_is_stand" vp f fd) (hmg:mg "_law_is_stand" = some (.ref f)) (b_bool:mg "bool" = none) (b_int:mg "int" = none) (b_isinstance:mg "isinstance" = none) (b_len:mg "len" = none) (b_tuple:mg "tuple" = none):jc P w K mg base "_law_is_stand" 1 ["_law_found","_law_program_here"] _root_.K.qb :=
  ⟨f,fd,K8 F b_bool b_int b_isinstance b_len b_tuple,F.binds (ps:=["_law_found","_law_program_here"]) fun _ _ _ _ _ _ us hl=>bd2 (fun _ _=>rfl) us hl,F.kp,hmg⟩
noncomputable abbrev Ma:Stmt:=top 30
theorem a0u:ou ["_law_script","_law_program_here","_law_handed","_law_stand","_law_kept","_law_first_here","_law_cell","_law_due","_law_found","_law_number","_law_there"] ["_law_script"] (iw Ma):=⟨rfl,rfl,rfl,by decide +kernel,rfl,by decide +kernel,by decide +kernel⟩
theorem a4z (F:Fun K "law" "law" Ma f fd) (d_law_can:jc P w K mg base "_law_can" 43 ["_law_program_here","_law_stand"] (_root_.K.Di)) (d_law_first:jc P w K mg base "_law_first" 1 ["_law_program_here"] (_root_.K.Bo)) (d_law_is_stand:jc P w K mg base "_law_is_stand" 1 ["_law_found","_law_program_here"] (_root_.K.qb)) (d_law_next:jc P w K mg base "_law_next" 42 ["_law_program_here","_law_stand","_law_number"] (_root_.K.zj)) (d_law_program:jc P w K mg base "_law_program" 6 ["_law_script","_law_most"] (_root_.K.Ah)) (d_can:jc P w K mg base "can" 43 ["program","stand"] (_root_.K.Ra)) (d_done:jc P w K mg base "done" 3 ["program","stand","number"] (_root_.K.Gp)) (d_first_stand:jc P w K mg base "first_stand" 1 ["program"] (_root_.K.Af)) (b_isinstance:mg "isinstance" = none) (b_len:mg "len" = none) (b_list:mg "list" = none):Cv P w K mg base CX0 44 f fd ["_law_script"] (spF K (["_law_script"]:List Str).length _root_.K.V8):=by
  have d_law_can:=d_law_can.mono (show 43≤43 by first | decide | omega)
  have d_law_first:=d_law_first.mono (show 1≤43 by first | decide | omega)
  have d_law_is_stand:=d_law_is_stand.mono (show 1≤43 by first | decide | omega)
  have d_law_next:=d_law_next.mono (show 42≤43 by first | decide | omega)
  have d_law_program:=d_law_program.mono (show 6≤43 by first | decide | omega)
  have d_can:=d_can.mono (show 43≤43 by first | decide | omega)
  have d_done:=d_done.mono (show 3≤43 by first | decide | omega)
  have d_first_stand:=d_first_stand.mono (show 1≤43 by first | decide | omega)
  refine qj (N:=["_law_script","_law_program_here","_law_handed","_law_stand","_law_kept","_law_first_here","_law_cell","_law_due","_law_found","_law_number","_law_there"]) F a0u (by decide)  fun cdv A outer s H E B hr=>?_
  have hu:=Bq hr
  have hq:=hr.units
  have nd:(["_law_script","_law_program_here","_law_handed","_law_stand","_law_kept","_law_first_here","_law_cell","_law_due","_law_found","_law_number","_law_there"]:List Str).Nodup:=a0u.nd
  refine gj ?_ ?_
  · exact nj 1 (lu nd rfl (Or.inl rfl) (gn d_law_program hr (by rfl) (aj (ao 0 (pv 0)) (aj cu dz)) (bw (bw eq_nil)))) (fun _ _ _ h=>h)
  · refine gj ?_ ?_
    · exact nj 2 (lu nd rfl (Or.inl rfl) (qu (aj (lq (qt Fl (by rfl) b_list PyProof.Rows.boot_list (aj (jj hu (ao 1 (pv 1)) cu (fun _ _=>rfl)) dz))) (aj (lq (qt Fl (by rfl) b_list PyProof.Rows.boot_list (aj (jj hu (ao 1 (pv 1)) cu (fun _ _=>rfl)) dz))) (aj (lq (qt Fl (by rfl) b_list PyProof.Rows.boot_list (aj (jj hu (ao 1 (pv 1)) cu (fun _ _=>rfl)) dz))) (aj (qu dz (kj jf (by decide))) dz)))) (kj (dw (dw (dw (dw jf)))) (by decide)))) (fun _ _ _ h=>h)
    · refine gj ?_ ?_
      · exact nj 3 (lu nd rfl (Or.inl rfl) (gn d_first_stand hr (by rfl) (aj (ao 2 (pv 2)) dz) (bw eq_nil))) (fun _ _ _ h=>h)
      · refine gj ?_ ?_
        · exact wj (PW.pt (Kd (Hy (G4 (gn d_law_is_stand hr (by rfl) (aj (ao 3 (pv 3)) (aj (ao 1 (pv 1)) dz)) (bw (bw eq_nil))))) (Fy (m7 (Gg hq) (ao 3 (pv 3)) (gn d_law_first hr (by rfl) (aj (ao 1 (pv 1)) dz) (bw eq_nil)) (lg _)))))   (j9 (jm Gw))   pq
        · refine gj ?_ ?_
          · exact nj 4 (lu nd rfl (Or.inl rfl) (gn d_can hr (by rfl) (aj (ao 2 (pv 2)) (aj (ao 3 (pv 3)) dz)) (bw (bw eq_nil)))) (fun _ _ _ h=>h)
          · refine gj ?_ ?_
            · exact nj 5 (lu nd rfl (Or.inl rfl) (lq (qt Fl (by rfl) b_list PyProof.Rows.boot_list (aj (ao 4 (pv 4)) dz)))) (fun _ _ _ h=>h)
            · refine gj ?_ ?_
              · refine Dy ?_ ?_ ?_ ?_ ?_ ?_
                · exact PassesOwn.never
                · exact rfl
                · exact zp (nq wu (Fz (aj cu dz) (kj (dw jf) (by decide))) (Sy (ao 0 (pv 0)) (M9 cu) (M9 cu)))
                · exact ud 6 (jh nd rfl (Or.inl rfl))
                · refine gj ?_ ?_
                  · exact nj 7 (lu nd rfl (Or.inl rfl) (gn d_law_can hr (by rfl) (aj (ao 1 (pv 1)) (aj (ao 3 (pv 3)) dz)) (bw (bw eq_nil)))) (fun _ _ _ h=>h)
                  · refine gj ?_ ?_
                    · exact nj 8 (lu nd rfl (Or.inl rfl) (gn d_can hr (by rfl) (aj (ao 2 (pv 2)) (aj (ao 3 (pv 3)) dz)) (bw (bw eq_nil)))) (fun _ _ _ h=>h)
                    · refine gj ?_ ?_
                      · exact wj (PW.pt (Kd (Hy (G4 (Qi (by rfl) b_isinstance (by rfl) b_list (ao 8 (pv 8))))) (Kd (m7 (Gg hq) (ao 8 (pv 8)) (ao 7 (pv 7)) (lg _)) (Fy (m7 (Gg hq) (ao 2 (pv 2)) (ao 1 (pv 1)) (lg _))))))   (j9 (jm Gw))   pq
                      · refine gj ?_ ?_
                        · refine Dy ?_ ?_ ?_ ?_ ?_ ?_
                          · exact PassesOwn.never
                          · exact rfl
                          · exact zp (ao 8 (pv 8))
                          · exact ud 9 (jh nd rfl (Or.inl rfl))
                          · exact gj (nj 10 (lu nd rfl (Or.inl rfl) (gn d_done hr (by rfl) (aj (ao 2 (pv 2)) (aj (ao 3 (pv 3)) (aj (ao 9 (pv 9)) dz))) (bw (bw (bw eq_nil))))) (fun _ _ _ h=>h))   (j9 (wj (PW.pt (Kd (Hy (G4 (gn d_law_is_stand hr (by rfl) (aj (ao 10 (pv 10)) (aj (ao 1 (pv 1)) dz)) (bw (bw eq_nil))))) (Fy (m7 (Gg hq) (ao 10 (pv 10)) (gn d_law_next hr (by rfl) (aj (ao 1 (pv 1)) (aj (ao 3 (pv 3)) (aj (ao 9 (pv 9)) dz))) (bw (bw (bw eq_nil)))) (lg _)))))   (j9 (jm Gw))   pq))
                          · exact zm
                        · exact gj (wj (m7 (uc hq) (ao 8 (pv 8)) (Fz dz (kj jf (by decide))) (lg _))   (j9 a5v)   pq)   (j9 (nj 3 (lu nd rfl (Or.inl rfl) (gn d_done hr (by rfl) (aj (ao 2 (pv 2)) (aj (ao 3 (pv 3)) (aj (jj hu (ao 8 (pv 8)) (nq Aw (ao 6 (pv 6)) (lq (vo zu (by rfl) b_len PySem.boot_len (aj (ao 8 (pv 8)) dz)))) (fun _ _=>rfl)) dz))) (bw (bw (bw eq_nil))))) (fun _ _ _ h=>h)))
                · exact zm
              · exact j9 (jm (Hg (uc hq) (ao 4 (pv 4)) (ao 5 (pv 5)) (lg _)))
end
end D
end
noncomputable section
set_option linter.all false
set_option maxRecDepth 100000
set_option maxHeartbeats 1000000
namespace D
open PySem L2 C
theorem all_mk {l:PySem.W.OpenLaw} {w:World} {K:PySem.W.Frag} {h:Heap} {mg:Str→Option Value} {fa f1 f2 f3 f4 f5 f6 f7 f8 f9 f10 f11 f12 f13 f14 f15 f16 f17 f18 f19 f20 f21 f22 f23 f24 f25 f26 f27:Addr} (X:K.In h) (G:h.Ns mainGlobals mg) (hfa:mg "law" = some (.ref fa))
    {od1 an1 od2 an2 od3 an3 od4 an4 od5 an5 od6 an6 od7 an7 od8 an8 od9 an9 od10 an10 od11 an11 od12 an12 od13 an13 od14 an14 od15 an15 od16 an16 od17 an17 od18 an18 od19 an19 od20 an20 od21 an21 od22 an22 od23 an23 od24 an24 od25 an25 od26 an26 od27 an27:Option Addr} {sl1 sl2 sl3 sl4 sl5 sl6 sl7 sl8 sl9 sl10 sl11 sl12 sl13 sl14 sl15 sl16 sl17 sl18 sl19 sl20 sl21 sl22 sl23 sl24 sl25 sl26 sl27:Array (Option Value)} {oc1 kV1 dc1 pm1 cd1 ct1 oc2 kV2 dc2 pm2 cd2 ct2 oc3 kV3 dc3 pm3 cd3 ct3 oc4 kV4 dc4 pm4 cd4 ct4 oc5 kV5 dc5 pm5 cd5 ct5 oc6 kV6 dc6 pm6 cd6 ct6 oc7 kV7 dc7 pm7 cd7 ct7 oc8 kV8 dc8 pm8 cd8 ct8 oc9 kV9 dc9 pm9 cd9 ct9 oc10 kV10 dc10 pm10 cd10 ct10 oc11 kV11 dc11 pm11 cd11 ct11 oc12 kV12 dc12 pm12 cd12 ct12 oc13 kV13 dc13 pm13 cd13 ct13 oc14 kV14 dc14 pm14 cd14 ct14 oc15 kV15 dc15 pm15 cd15 ct15 oc16 kV16 dc16 pm16 cd16 ct16 oc17 kV17 dc17 pm17 cd17 ct17 oc18 kV18 dc18 pm18 cd18 ct18 oc19 kV19 dc19 pm19 cd19 ct19 oc20 kV20 dc20 pm20 cd20 ct20 oc21 kV21 dc21 pm21 cd21 ct21 oc22 kV22 dc22 pm22 cd22 ct22 oc23 kV23 dc23 pm23 cd23 ct23 oc24 kV24 dc24 pm24 cd24 ct24 oc25 kV25 dc25 pm25 cd25 ct25 oc26 kV26 dc26 pm26 cd26 ct26 oc27 kV27 dc27 pm27 cd27 ct27:Value}
    (a1:PySem.W.nsIn K mainGlobals "value" = some (some (.ref f1))) (l1:K.lookup f1 = some ⟨oc1,od1,.func (PySem.W.fnOf "value" "value" (oh G8) (mz G8) (iw G8) .none kV1 dc1 pm1 an1 cd1 ct1),sl1⟩) (c1:PySem.W.codeIn K cd1 "value" = true) (k1:PySem.W.keepIn K (.ref f1) = true)
    (a2:PySem.W.nsIn K mainGlobals "holds" = some (some (.ref f2))) (l2:K.lookup f2 = some ⟨oc2,od2,.func (PySem.W.fnOf "holds" "holds" (oh Ej) (mz Ej) (iw Ej) .none kV2 dc2 pm2 an2 cd2 ct2),sl2⟩) (c2:PySem.W.codeIn K cd2 "holds" = true) (k2:PySem.W.keepIn K (.ref f2) = true)
    (a3:PySem.W.nsIn K mainGlobals "any_is" = some (some (.ref f3))) (l3:K.lookup f3 = some ⟨oc3,od3,.func (PySem.W.fnOf "any_is" "any_is" (oh Cw) (mz Cw) (iw Cw) .none kV3 dc3 pm3 an3 cd3 ct3),sl3⟩) (c3:PySem.W.codeIn K cd3 "any_is" = true) (k3:PySem.W.keepIn K (.ref f3) = true)
    (a4:PySem.W.nsIn K mainGlobals "first_stand" = some (some (.ref f4))) (l4:K.lookup f4 = some ⟨oc4,od4,.func (PySem.W.fnOf "first_stand" "first_stand" (oh yh) (mz yh) (iw yh) .none kV4 dc4 pm4 an4 cd4 ct4),sl4⟩) (c4:PySem.W.codeIn K cd4 "first_stand" = true) (k4:PySem.W.keepIn K (.ref f4) = true)
    (a5:PySem.W.nsIn K mainGlobals "book_of" = some (some (.ref f5))) (l5:K.lookup f5 = some ⟨oc5,od5,.func (PySem.W.fnOf "book_of" "book_of" (oh Cp) (mz Cp) (iw Cp) .none kV5 dc5 pm5 an5 cd5 ct5),sl5⟩) (c5:PySem.W.codeIn K cd5 "book_of" = true) (k5:PySem.W.keepIn K (.ref f5) = true)
    (a6:PySem.W.nsIn K mainGlobals "places_of" = some (some (.ref f6))) (l6:K.lookup f6 = some ⟨oc6,od6,.func (PySem.W.fnOf "places_of" "places_of" (oh Bb) (mz Bb) (iw Bb) .none kV6 dc6 pm6 an6 cd6 ct6),sl6⟩) (c6:PySem.W.codeIn K cd6 "places_of" = true) (k6:PySem.W.keepIn K (.ref f6) = true)
    (a7:PySem.W.nsIn K mainGlobals "values_behind" = some (some (.ref f7))) (l7:K.lookup f7 = some ⟨oc7,od7,.func (PySem.W.fnOf "values_behind" "values_behind" (oh uf) (mz uf) (iw uf) .none kV7 dc7 pm7 an7 cd7 ct7),sl7⟩) (c7:PySem.W.codeIn K cd7 "values_behind" = true) (k7:PySem.W.keepIn K (.ref f7) = true)
    (a8:PySem.W.nsIn K mainGlobals "places_behind" = some (some (.ref f8))) (l8:K.lookup f8 = some ⟨oc8,od8,.func (PySem.W.fnOf "places_behind" "places_behind" (oh uh) (mz uh) (iw uh) .none kV8 dc8 pm8 an8 cd8 ct8),sl8⟩) (c8:PySem.W.codeIn K cd8 "places_behind" = true) (k8:PySem.W.keepIn K (.ref f8) = true)
    (a9:PySem.W.nsIn K mainGlobals "moves" = some (some (.ref f9))) (l9:K.lookup f9 = some ⟨oc9,od9,.func (PySem.W.fnOf "moves" "moves" (oh G7) (mz G7) (iw G7) .none kV9 dc9 pm9 an9 cd9 ct9),sl9⟩) (c9:PySem.W.codeIn K cd9 "moves" = true) (k9:PySem.W.keepIn K (.ref f9) = true)
    (a10:PySem.W.nsIn K mainGlobals "can" = some (some (.ref f10))) (l10:K.lookup f10 = some ⟨oc10,od10,.func (PySem.W.fnOf "can" "can" (oh Rg) (mz Rg) (iw Rg) .none kV10 dc10 pm10 an10 cd10 ct10),sl10⟩) (c10:PySem.W.codeIn K cd10 "can" = true) (k10:PySem.W.keepIn K (.ref f10) = true)
    (a11:PySem.W.nsIn K mainGlobals "done" = some (some (.ref f11))) (l11:K.lookup f11 = some ⟨oc11,od11,.func (PySem.W.fnOf "done" "done" (oh K7) (mz K7) (iw K7) .none kV11 dc11 pm11 an11 cd11 ct11),sl11⟩) (c11:PySem.W.codeIn K cd11 "done" = true) (k11:PySem.W.keepIn K (.ref f11) = true)
    (a12:PySem.W.nsIn K mainGlobals "_law_cell_at" = some (some (.ref f12))) (l12:K.lookup f12 = some ⟨oc12,od12,.func (PySem.W.fnOf "_law_cell_at" "_law_cell_at" (oh yd) (mz yd) (iw yd) .none kV12 dc12 pm12 an12 cd12 ct12),sl12⟩) (c12:PySem.W.codeIn K cd12 "_law_cell_at" = true) (k12:PySem.W.keepIn K (.ref f12) = true)
    (a13:PySem.W.nsIn K mainGlobals "_law_pick" = some (some (.ref f13))) (l13:K.lookup f13 = some ⟨oc13,od13,.func (PySem.W.fnOf "_law_pick" "_law_pick" (oh Bt) (mz Bt) (iw Bt) .none kV13 dc13 pm13 an13 cd13 ct13),sl13⟩) (c13:PySem.W.codeIn K cd13 "_law_pick" = true) (k13:PySem.W.keepIn K (.ref f13) = true)
    (a14:PySem.W.nsIn K mainGlobals "_law_name" = some (some (.ref f14))) (l14:K.lookup f14 = some ⟨oc14,od14,.func (PySem.W.fnOf "_law_name" "_law_name" (oh Bp) (mz Bp) (iw Bp) .none kV14 dc14 pm14 an14 cd14 ct14),sl14⟩) (c14:PySem.W.codeIn K cd14 "_law_name" = true) (k14:PySem.W.keepIn K (.ref f14) = true)
    (a15:PySem.W.nsIn K mainGlobals "_law_sum" = some (some (.ref f15))) (l15:K.lookup f15 = some ⟨oc15,od15,.func (PySem.W.fnOf "_law_sum" "_law_sum" (oh Cu) (mz Cu) (iw Cu) .none kV15 dc15 pm15 an15 cd15 ct15),sl15⟩) (c15:PySem.W.codeIn K cd15 "_law_sum" = true) (k15:PySem.W.keepIn K (.ref f15) = true)
    (a16:PySem.W.nsIn K mainGlobals "_law_simple" = some (some (.ref f16))) (l16:K.lookup f16 = some ⟨oc16,od16,.func (PySem.W.fnOf "_law_simple" "_law_simple" (oh Aa) (mz Aa) (iw Aa) .none kV16 dc16 pm16 an16 cd16 ct16),sl16⟩) (c16:PySem.W.codeIn K cd16 "_law_simple" = true) (k16:PySem.W.keepIn K (.ref f16) = true)
    (a17:PySem.W.nsIn K mainGlobals "_law_remark" = some (some (.ref f17))) (l17:K.lookup f17 = some ⟨oc17,od17,.func (PySem.W.fnOf "_law_remark" "_law_remark" (oh zx) (mz zx) (iw zx) .none kV17 dc17 pm17 an17 cd17 ct17),sl17⟩) (c17:PySem.W.codeIn K cd17 "_law_remark" = true) (k17:PySem.W.keepIn K (.ref f17) = true)
    (a18:PySem.W.nsIn K mainGlobals "_law_boxes" = some (some (.ref f18))) (l18:K.lookup f18 = some ⟨oc18,od18,.func (PySem.W.fnOf "_law_boxes" "_law_boxes" (oh Ay) (mz Ay) (iw Ay) .none kV18 dc18 pm18 an18 cd18 ct18),sl18⟩) (c18:PySem.W.codeIn K cd18 "_law_boxes" = true) (k18:PySem.W.keepIn K (.ref f18) = true)
    (a19:PySem.W.nsIn K mainGlobals "_law_step" = some (some (.ref f19))) (l19:K.lookup f19 = some ⟨oc19,od19,.func (PySem.W.fnOf "_law_step" "_law_step" (oh Bj) (mz Bj) (iw Bj) .none kV19 dc19 pm19 an19 cd19 ct19),sl19⟩) (c19:PySem.W.codeIn K cd19 "_law_step" = true) (k19:PySem.W.keepIn K (.ref f19) = true)
    (a20:PySem.W.nsIn K mainGlobals "_law_program" = some (some (.ref f20))) (l20:K.lookup f20 = some ⟨oc20,od20,.func (PySem.W.fnOf "_law_program" "_law_program" (oh yg) (mz yg) (iw yg) .none kV20 dc20 pm20 an20 cd20 ct20),sl20⟩) (c20:PySem.W.codeIn K cd20 "_law_program" = true) (k20:PySem.W.keepIn K (.ref f20) = true)
    (a21:PySem.W.nsIn K mainGlobals "_law_value" = some (some (.ref f21))) (l21:K.lookup f21 = some ⟨oc21,od21,.func (PySem.W.fnOf "_law_value" "_law_value" (oh Ba) (mz Ba) (iw Ba) .none kV21 dc21 pm21 an21 cd21 ct21),sl21⟩) (c21:PySem.W.codeIn K cd21 "_law_value" = true) (k21:PySem.W.keepIn K (.ref f21) = true)
    (a22:PySem.W.nsIn K mainGlobals "_law_holds" = some (some (.ref f22))) (l22:K.lookup f22 = some ⟨oc22,od22,.func (PySem.W.fnOf "_law_holds" "_law_holds" (oh Ad) (mz Ad) (iw Ad) .none kV22 dc22 pm22 an22 cd22 ct22),sl22⟩) (c22:PySem.W.codeIn K cd22 "_law_holds" = true) (k22:PySem.W.keepIn K (.ref f22) = true)
    (a23:PySem.W.nsIn K mainGlobals "_law_first" = some (some (.ref f23))) (l23:K.lookup f23 = some ⟨oc23,od23,.func (PySem.W.fnOf "_law_first" "_law_first" (oh Bc) (mz Bc) (iw Bc) .none kV23 dc23 pm23 an23 cd23 ct23),sl23⟩) (c23:PySem.W.codeIn K cd23 "_law_first" = true) (k23:PySem.W.keepIn K (.ref f23) = true)
    (a24:PySem.W.nsIn K mainGlobals "_law_next" = some (some (.ref f24))) (l24:K.lookup f24 = some ⟨oc24,od24,.func (PySem.W.fnOf "_law_next" "_law_next" (oh Bh) (mz Bh) (iw Bh) .none kV24 dc24 pm24 an24 cd24 ct24),sl24⟩) (c24:PySem.W.codeIn K cd24 "_law_next" = true) (k24:PySem.W.keepIn K (.ref f24) = true)
    (a25:PySem.W.nsIn K mainGlobals "_law_can" = some (some (.ref f25))) (l25:K.lookup f25 = some ⟨oc25,od25,.func (PySem.W.fnOf "_law_can" "_law_can" (oh Cj) (mz Cj) (iw Cj) .none kV25 dc25 pm25 an25 cd25 ct25),sl25⟩) (c25:PySem.W.codeIn K cd25 "_law_can" = true) (k25:PySem.W.keepIn K (.ref f25) = true)
    (a26:PySem.W.nsIn K mainGlobals "_law_is_stand" = some (some (.ref f26))) (l26:K.lookup f26 = some ⟨oc26,od26,.func (PySem.W.fnOf "_law_is_stand" "_law_is_stand" (oh vp) (mz vp) (iw vp) .none kV26 dc26 pm26 an26 cd26 ct26),sl26⟩) (c26:PySem.W.codeIn K cd26 "_law_is_stand" = true) (k26:PySem.W.keepIn K (.ref f26) = true)
    (a27:PySem.W.nsIn K mainGlobals "law" = some (some (.ref f27))) (l27:K.lookup f27 = some ⟨oc27,od27,.func (PySem.W.fnOf "law" "law" (oh Ma) (mz Ma) (iw Ma) .none kV27 dc27 pm27 an27 cd27 ct27),sl27⟩) (c27:PySem.W.codeIn K cd27 "law" = true) (k27:PySem.W.keepIn K (.ref f27) = true)
    (z_bool:PySem.W.nsIn K mainGlobals "bool" = some none)
    (z_dict:PySem.W.nsIn K mainGlobals "dict" = some none)
    (z_enumerate:PySem.W.nsIn K mainGlobals "enumerate" = some none)
    (z_int:PySem.W.nsIn K mainGlobals "int" = some none)
    (z_isinstance:PySem.W.nsIn K mainGlobals "isinstance" = some none)
    (z_len:PySem.W.nsIn K mainGlobals "len" = some none)
    (z_list:PySem.W.nsIn K mainGlobals "list" = some none)
    (z_range:PySem.W.nsIn K mainGlobals "range" = some none)
    (z_sorted:PySem.W.nsIn K mainGlobals "sorted" = some none)
    (z_sum:PySem.W.nsIn K mainGlobals "sum" = some none)
    (z_tuple:PySem.W.nsIn K mainGlobals "tuple" = some none)
    (z_zip:PySem.W.nsIn K mainGlobals "zip" = some none)
    : ∃ fd:FuncData,(∀ (s:Shared) (v:Value),BindsTo s fd ⟨[v],[]⟩ [("_law_script",v)])∧∀ base:Heap,K.In base→base.Ns mainGlobals mg→Cv l.prog w K mg base CX0 44 fa fd ["_law_script"] (spF K 1 _root_.K.V8):=by
  have e:=hfa.symm.trans (PySem.W.mg_of X G a27)
  cases e
  have F1:=xr (st:=G8) l1 c1 k1
  have F2:=xr (st:=Ej) l2 c2 k2
  have F3:=xr (st:=Cw) l3 c3 k3
  have F4:=xr (st:=yh) l4 c4 k4
  have F5:=xr (st:=Cp) l5 c5 k5
  have F6:=xr (st:=Bb) l6 c6 k6
  have F7:=xr (st:=uf) l7 c7 k7
  have F8:=xr (st:=uh) l8 c8 k8
  have F9:=xr (st:=G7) l9 c9 k9
  have F10:=xr (st:=Rg) l10 c10 k10
  have F11:=xr (st:=K7) l11 c11 k11
  have F12:=xr (st:=yd) l12 c12 k12
  have F13:=xr (st:=Bt) l13 c13 k13
  have F14:=xr (st:=Bp) l14 c14 k14
  have F15:=xr (st:=Cu) l15 c15 k15
  have F16:=xr (st:=Aa) l16 c16 k16
  have F17:=xr (st:=zx) l17 c17 k17
  have F18:=xr (st:=Ay) l18 c18 k18
  have F19:=xr (st:=Bj) l19 c19 k19
  have F20:=xr (st:=yg) l20 c20 k20
  have F21:=xr (st:=Ba) l21 c21 k21
  have F22:=xr (st:=Ad) l22 c22 k22
  have F23:=xr (st:=Bc) l23 c23 k23
  have F24:=xr (st:=Bh) l24 c24 k24
  have F25:=xr (st:=Cj) l25 c25 k25
  have F26:=xr (st:=vp) l26 c26 k26
  have F27:=xr (st:=Ma) l27 c27 k27
  have b_bool:=PySem.W.mg_none_of X G z_bool
  have b_dict:=PySem.W.mg_none_of X G z_dict
  have b_enumerate:=PySem.W.mg_none_of X G z_enumerate
  have b_int:=PySem.W.mg_none_of X G z_int
  have b_isinstance:=PySem.W.mg_none_of X G z_isinstance
  have b_len:=PySem.W.mg_none_of X G z_len
  have b_list:=PySem.W.mg_none_of X G z_list
  have b_range:=PySem.W.mg_none_of X G z_range
  have b_sorted:=PySem.W.mg_none_of X G z_sorted
  have b_sum:=PySem.W.mg_none_of X G z_sum
  have b_tuple:=PySem.W.mg_none_of X G z_tuple
  have b_zip:=PySem.W.mg_none_of X G z_zip
  refine ⟨PySem.W.fnOf "law" "law" (oh Ma) (mz Ma) (iw Ma) .none kV27 dc27 pm27 an27 cd27 ct27,fun s v=>.of_eq rfl,fun base _ _=>?_⟩
  have d_value:=Yu (P:=l.prog) (w:=w) (base:=base) F1 (PySem.W.mg_of X G a1) b_sum
  have g_holds:=Ny (P:=l.prog) (w:=w) (base:=base) F2 (PySem.W.mg_of X G a2) F3 (PySem.W.mg_of X G a3) d_value 40
  have d_holds:=g_holds.1
  have d_any_is:=g_holds.2
  have d_first_stand:=Kw (P:=l.prog) (w:=w) (base:=base) F4 (PySem.W.mg_of X G a4) b_tuple
  have d_book_of:=V9 (P:=l.prog) (w:=w) (base:=base) F5 (PySem.W.mg_of X G a5) b_dict b_zip
  have d_places_of:=Ot (P:=l.prog) (w:=w) (base:=base) F6 (PySem.W.mg_of X G a6) b_dict b_zip
  have d_values_behind:=J5 (P:=l.prog) (w:=w) (base:=base) F7 (PySem.W.mg_of X G a7) d_value b_dict b_tuple
  have d_places_behind:=Iw (P:=l.prog) (w:=w) (base:=base) F8 (PySem.W.mg_of X G a8) b_tuple
  have d_moves:=a0c (P:=l.prog) (w:=w) (base:=base) F9 (PySem.W.mg_of X G a9) d_book_of d_holds d_places_behind d_places_of d_values_behind b_enumerate
  have d_can:=a4k (P:=l.prog) (w:=w) (base:=base) F10 (PySem.W.mg_of X G a10) d_moves
  have d_done:=a3a (P:=l.prog) (w:=w) (base:=base) F11 (PySem.W.mg_of X G a11) d_book_of d_places_behind d_places_of d_values_behind
  have d_law_cell_at:=Lg (P:=l.prog) (w:=w) (base:=base) F12 (PySem.W.mg_of X G a12) b_len
  have d_law_pick:=Qg (P:=l.prog) (w:=w) (base:=base) F13 (PySem.W.mg_of X G a13) b_len
  have d_law_name:=Qe (P:=l.prog) (w:=w) (base:=base) F14 (PySem.W.mg_of X G a14)
  have d_law_sum:=Uk (P:=l.prog) (w:=w) (base:=base) F15 (PySem.W.mg_of X G a15) d_law_pick b_sorted b_tuple
  have d_law_simple:=Mf (P:=l.prog) (w:=w) (base:=base) F16 (PySem.W.mg_of X G a16) d_law_pick d_law_sum b_len
  have d_law_remark:=Mq (P:=l.prog) (w:=w) (base:=base) F17 (PySem.W.mg_of X G a17) d_law_pick d_law_simple b_range b_tuple
  have d_law_boxes:=Oi (P:=l.prog) (w:=w) (base:=base) F18 (PySem.W.mg_of X G a18) d_law_name d_law_pick b_range
  have d_law_step:=Qa (P:=l.prog) (w:=w) (base:=base) F19 (PySem.W.mg_of X G a19) d_law_pick d_law_remark d_law_sum b_len b_sorted b_tuple
  have d_law_program:=Ld (P:=l.prog) (w:=w) (base:=base) F20 (PySem.W.mg_of X G a20) d_law_boxes d_law_cell_at d_law_name d_law_pick d_law_step b_range
  have d_law_value:=Nq (P:=l.prog) (w:=w) (base:=base) F21 (PySem.W.mg_of X G a21) b_sum
  have g_law_holds:=Gv (P:=l.prog) (w:=w) (base:=base) F22 (PySem.W.mg_of X G a22) d_law_value 40
  have d_law_holds:=g_law_holds
  have d_law_first:=Ol (P:=l.prog) (w:=w) (base:=base) F23 (PySem.W.mg_of X G a23) b_len b_tuple
  have d_law_next:=R7 (P:=l.prog) (w:=w) (base:=base) F24 (PySem.W.mg_of X G a24) d_law_holds d_law_value b_dict b_tuple b_zip
  have d_law_can:=V6 (P:=l.prog) (w:=w) (base:=base) F25 (PySem.W.mg_of X G a25) d_law_next b_len b_range
  have d_law_is_stand:=Kc (P:=l.prog) (w:=w) (base:=base) F26 (PySem.W.mg_of X G a26) b_bool b_int b_isinstance b_len b_tuple
  exact a4z F27 d_law_can d_law_first d_law_is_stand d_law_next d_law_program d_can d_done d_first_stand b_isinstance b_len b_list
theorem walk {l:PySem.W.OpenLaw} {q:Program} {loose:List Str} {XP:(Str→Option Value)→Heap→Prop} {YP:World→Heap→Prop} {d:DefRec} {K:Params→PySem.W.Frag} (hn:l.most = some 63) (hdf:d.params.defaults = [])
    (hY:∀ (w:World) (h:Heap),YP w h→(K w.params).In h)
    (F:∀ (w:World) (mg:Str→Option Value) (fa:Addr) (h:Heap),(K w.params).In h→h.Ns mainGlobals mg→mg d.name = some (.ref fa) →
      ∃ fd:FuncData,(∀ (s:Shared) (u:Value),BindsTo s fd ⟨[u],[]⟩ [("_law_script",u)])∧∀ base:Heap,(K w.params).In base→base.Ns mainGlobals mg→Cv l.prog w (K w.params) mg base CX0 44 fa fd ["_law_script"] (spF (K w.params) 1 _root_.K.V8)) :
    PySem.W.WalkO q loose XP YP l.row.toRowW d [] (fun f vs=>PySem.call f vs) :=
  L2.a3h (n:=63) (k:=44) (x := "_law_script") (CX:=fun _=>CX0) (sp:=fun w=>spF (K w.params) 1 _root_.K.V8) hn (by decide) hdf ⟨rfl,by decide,by decide⟩ hY F (fun w H a ns hl _ hS=>a3g hS (_root_.K.a05 (cs:=ns) hl)) fun _ _ _ _ _ z=>z
end D
open PySem PySem.W PyProof.Rows
set_option maxRecDepth 100000 in
set_option maxHeartbeats 0 in
theorem PySem.Challenge.cw_calm_k20_steps_done_holds : PySem.Challenge.rw_calm_k20_steps_done.Holds := by
  w_on; o_law; k_head; (case hw=>w_witness2)
  k_fill
  refine D.walk (l:=PySem.Challenge.rw_calm_k20_steps_done) rfl rfl (fun w h Y=>PySem.W.kIn_of Y) ?F
  case F =>
    intro w mg fa h KX G hmg
    refine' D.all_mk KX G hmg ?a1 ?l1 ?c1 ?k1 ?a2 ?l2 ?c2 ?k2 ?a3 ?l3 ?c3 ?k3 ?a4 ?l4 ?c4 ?k4 ?a5 ?l5 ?c5 ?k5 ?a6 ?l6 ?c6 ?k6 ?a7 ?l7 ?c7 ?k7 ?a8 ?l8 ?c8 ?k8 ?a9 ?l9 ?c9 ?k9 ?a10 ?l10 ?c10 ?k10 ?a11 ?l11 ?c11 ?k11 ?a12 ?l12 ?c12 ?k12 ?a13 ?l13 ?c13 ?k13 ?a14 ?l14 ?c14 ?k14 ?a15 ?l15 ?c15 ?k15 ?a16 ?l16 ?c16 ?k16 ?a17 ?l17 ?c17 ?k17 ?a18 ?l18 ?c18 ?k18 ?a19 ?l19 ?c19 ?k19 ?a20 ?l20 ?c20 ?k20 ?a21 ?l21 ?c21 ?k21 ?a22 ?l22 ?c22 ?k22 ?a23 ?l23 ?c23 ?k23 ?a24 ?l24 ?c24 ?k24 ?a25 ?l25 ?c25 ?k25 ?a26 ?l26 ?c26 ?k26 ?a27 ?l27 ?c27 ?k27 ?z_bool ?z_dict ?z_enumerate ?z_int ?z_isinstance ?z_len ?z_list ?z_range ?z_sorted ?z_sum ?z_tuple ?z_zip
    (case a1=>k_is)
    (case l1=>k_is)
    (case c1=>k_is)
    (case k1=>k_is)
    (case a2=>k_is)
    (case l2=>k_is)
    (case c2=>k_is)
    (case k2=>k_is)
    (case a3=>k_is)
    (case l3=>k_is)
    (case c3=>k_is)
    (case k3=>k_is)
    (case a4=>k_is)
    (case l4=>k_is)
    (case c4=>k_is)
    (case k4=>k_is)
    (case a5=>k_is)
    (case l5=>k_is)
    (case c5=>k_is)
    (case k5=>k_is)
    (case a6=>k_is)
    (case l6=>k_is)
    (case c6=>k_is)
    (case k6=>k_is)
    (case a7=>k_is)
    (case l7=>k_is)
    (case c7=>k_is)
    (case k7=>k_is)
    (case a8=>k_is)
    (case l8=>k_is)
    (case c8=>k_is)
    (case k8=>k_is)
    (case a9=>k_is)
    (case l9=>k_is)
    (case c9=>k_is)
    (case k9=>k_is)
    (case a10=>k_is)
    (case l10=>k_is)
    (case c10=>k_is)
    (case k10=>k_is)
    (case a11=>k_is)
    (case l11=>k_is)
    (case c11=>k_is)
    (case k11=>k_is)
    (case a12=>k_is)
    (case l12=>k_is)
    (case c12=>k_is)
    (case k12=>k_is)
    (case a13=>k_is)
    (case l13=>k_is)
    (case c13=>k_is)
    (case k13=>k_is)
    (case a14=>k_is)
    (case l14=>k_is)
    (case c14=>k_is)
    (case k14=>k_is)
    (case a15=>k_is)
    (case l15=>k_is)
    (case c15=>k_is)
    (case k15=>k_is)
    (case a16=>k_is)
    (case l16=>k_is)
    (case c16=>k_is)
    (case k16=>k_is)
    (case a17=>k_is)
    (case l17=>k_is)
    (case c17=>k_is)
    (case k17=>k_is)
    (case a18=>k_is)
    (case l18=>k_is)
    (case c18=>k_is)
    (case k18=>k_is)
    (case a19=>k_is)
    (case l19=>k_is)
    (case c19=>k_is)
    (case k19=>k_is)
    (case a20=>k_is)
    (case l20=>k_is)
    (case c20=>k_is)
    (case k20=>k_is)
    (case a21=>k_is)
    (case l21=>k_is)
    (case c21=>k_is)
    (case k21=>k_is)
    (case a22=>k_is)
    (case l22=>k_is)
    (case c22=>k_is)
    (case k22=>k_is)
    (case a23=>k_is)
    (case l23=>k_is)
    (case c23=>k_is)
    (case k23=>k_is)
    (case a24=>k_is)
    (case l24=>k_is)
    (case c24=>k_is)
    (case k24=>k_is)
    (case a25=>k_is)
    (case l25=>k_is)
    (case c25=>k_is)
    (case k25=>k_is)
    (case a26=>k_is)
    (case l26=>k_is)
    (case c26=>k_is)
    (case k26=>k_is)
    (case a27=>k_is)
    (case l27=>k_is)
    (case c27=>k_is)
    (case k27=>k_is)
    (case z_bool=>k_is)
    (case z_dict=>k_is)
    (case z_enumerate=>k_is)
    (case z_int=>k_is)
    (case z_isinstance=>k_is)
    (case z_len=>k_is)
    (case z_list=>k_is)
    (case z_range=>k_is)
    (case z_sorted=>k_is)
    (case z_sum=>k_is)
    (case z_tuple=>k_is)
    (case z_zip=>k_is)
#print axioms PySem.Challenge.cw_calm_k20_steps_done_holds
end
