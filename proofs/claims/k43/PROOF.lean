import PyProof.Rows.All
import Wide.All
import OpenK.AllK
import Wide.FinOn
import Lean
import PyProof.EqAt
import PyProof.EqKinds
import PyProof.TupleCall
import PyProof.P3Statements
import PyProof.Lay0
import PyProof.P3Eq
import PyProof.NeData
import KE.KEqDict
import PyProof.ListRange
import KE.KDictSum
import PyProof.AttrMissHeap
import PyProof.WalksS
import KE.KDictOf
import KE.KRevSl
import PyProof.ZipIter
import PyProof.WalksMore
import PyProof.Rows.FactsT2
import PyProof.Rows.SetFrom
import PyProof.Rows.SortStr
import KE.KDictList
import PyProof.FactsAll.set
import PyProof.CollectWalk
import KE.KSortTup
import KE.KRevIter
import PyProof.TupleOfGen
import PyProof.CollectIter
import PySem.Challenge.RW_calm_k43_the_start_and_all_stands
set_option Elab.async false
noncomputable section
set_option linter.all false
set_option maxRecDepth 100000
namespace L2
open PySem PySem.Spec PyProof.Rows
noncomputable abbrev Key:=Sum Int Str
noncomputable def T3:Key→Value→Bool
  | .inl k,v=>Value.isInt k v
  | .inr x,v=>Value.isStrOf x v
noncomputable def ad6 (w:World):Key→Int
  | .inl k=>hashInt k
  | .inr x=>hashStr w x
theorem qw:∀ {k:Key} {v:Value},T3 k v=true→(∃ i t,k=Sum.inl i∧v=Value.int i t)∨(∃ x t,k=Sum.inr x∧v=Value.str x t)
  | .inl i,v,h=>by
    obtain ⟨t,e⟩:=Value.isInt_shape (k:=i) (v:=v) h
    exact .inl ⟨i,t,rfl,e⟩
  | .inr x,v,h=>by
    obtain ⟨t,e⟩:=Value.isStrOf_shape (x:=x) (v:=v) h
    exact .inr ⟨x,t,rfl,e⟩
theorem Wz (i:Int) (t:Tok):T3 (.inl i) (.int i t)=true:=by simp [T3,Value.isInt]
theorem Jy (x:Str) (t:Tok):T3 (.inr x) (.str x t)=true:=by simp [T3,Value.isStrOf]
theorem a9a (a b:Int):decide ((Sum.inl a:Key)=Sum.inl b)=(a==b):=by
  by_cases e:a=b
  · subst e; simp
  · have h:¬ (Sum.inl a:Key)=Sum.inl b:=fun q=>e (Sum.inl.inj q)
    rw [decide_eq_false h]
    exact (beq_eq_false_iff_ne.mpr e).symm
theorem a9f (a b:Str):decide ((Sum.inr a:Key)=Sum.inr b)=decide (a=b):=by
  by_cases e:a=b
  · subst e; simp
  · have h:¬ (Sum.inr a:Key)=Sum.inr b:=fun q=>e (Sum.inr.inj q)
    rw [decide_eq_false h,decide_eq_false e]
theorem a7r (a:Int) (b:Str):decide ((Sum.inl a:Key)=Sum.inr b)=false:=decide_eq_false (fun q=>nomatch q)
theorem a7v (a:Str) (b:Int):decide ((Sum.inr a:Key)=Sum.inl b)=false:=decide_eq_false (fun q=>nomatch q)
noncomputable def kj (prog:Program) (w:World):PySem.KeyKind prog w Key where
  is:=T3
  hash:=ad6 w
  inj:=fun v a b ha hb=>by
    rcases qw ha with ⟨i,t,rfl,rfl⟩ | ⟨x,t,rfl,rfl⟩
    · rcases qw hb with ⟨j,u,rfl,e⟩ | ⟨y,u,rfl,e⟩
      · injection e with e1 _; rw [e1]
      · exact nomatch e
    · rcases qw hb with ⟨j,u,rfl,e⟩ | ⟨y,u,rfl,e⟩
      · exact nomatch e
      · injection e with e1 _; rw [e1]
  byValue:=fun k v h=>by
    rcases qw h with ⟨i,t,rfl,rfl⟩ | ⟨x,t,rfl,rfl⟩ <;> rfl
  pyHash:=fun hv h=>by
    rcases qw hv with ⟨i,t,rfl,rfl⟩ | ⟨x,t,rfl,rfl⟩
    · exact wpAny_pyHash_int h
    · exact wpAny_pyHash_str h
  eqBool:=fun hu hv h=>by
    rcases qw hu with ⟨i,t,rfl,rfl⟩ | ⟨x,t,rfl,rfl⟩
    · rcases qw hv with ⟨j,u,rfl,rfl⟩ | ⟨y,u,rfl,rfl⟩
      · rw [a9a] at h; exact wpAny_eqBool_int h
      · rw [a7r] at h; exact SeqAt.EqAt.int_str i t y u _ _ _ _ h
    · rcases qw hv with ⟨j,u,rfl,rfl⟩ | ⟨y,u,rfl,rfl⟩
      · rw [a7v] at h; exact SeqAt.EqAt.str_int x t j u _ _ _ _ h
      · rw [a9f] at h; exact wpAny_eqBool_str h
  «strs»:=fun k x t v h=>by
    rcases qw h with ⟨i,u,rfl,e⟩ | ⟨y,u,rfl,e⟩
    · exact nomatch e
    · injection e with e1 _
      subst e1
      cases v <;> rfl
theorem Vh (prog:Program) (w:World) (k:Key) (v:Value):(kj prog w).is k v=T3 k v:=rfl
theorem Rg (prog:Program) (w:World) (i:Int) (t:Tok):(kj prog w).is (.inl i) (.int i t)=true:=Wz i t
theorem S7 (prog:Program) (w:World) (x:Str) (t:Tok):(kj prog w).is (.inr x) (.str x t)=true:=Jy x t
end L2
namespace L2
open PySem PySem.Spec PyProof.Rows
inductive V where
  | non | bl (b:Bool) | int (i:Int) | str (x:Str) | byt (b:Array UInt8) | flt (b:UInt64) | ref (a:Addr) | ty (n:String)
  deriving DecidableEq
noncomputable def RelV:V→Value→Prop
  | .non,u=>u=Value.none
  | .bl b,u=>u=Value.bool b
  | .int i,u=>∃ t,u=Value.int i t
  | .str x,u=>∃ t,u=Value.str x t
  | .byt b,u=>∃ t,u=Value.bytes b t
  | .flt b,u=>∃ t,u=Value.float b t
  | .ref a,u=>u=Value.ref a
  | .ty n,u=>u=Value.type n
noncomputable abbrev Vals:List V→List Value→Prop:=Paired RelV
theorem Vals.length {xs:List V} {us:List Value} (r:Vals xs us):xs.length=us.length:=Paired.length r
theorem Vals.get:∀ {xs:List V} {us:List Value} {i:Nat} {x:V},Vals xs us→xs[i]? = some x→∃ u,us[i]? = some u∧RelV x u
  | _,_,_,_,.nil,e=>by simp at e
  | _,_,0,_,.cons r _,e=>by simp at e; subst e; exact ⟨_,rfl,r⟩
  | _,_,i+1,x,.cons _ t,e=>by
    obtain ⟨u,h1,h2⟩:=Vals.get (i:=i) (x:=x) t (by simpa using e)
    exact ⟨u,by simpa using h1,h2⟩
theorem Vals.set {x:V} {u:Value} (r:RelV x u):∀ {xs:List V} {us:List Value} (i:Nat),Vals xs us→Vals (xs.set i x) (us.set i u)
  | _,_,_,.nil=>.nil
  | _,_,0,.cons _ t=>.cons r t
  | _,_,i+1,.cons q t=>.cons q (Vals.set r i t)
theorem Vals.append {xs ys:List V} {us ws:List Value} (r:Vals xs us) (s:Vals ys ws):Vals (xs++ys) (us++ws):=by
  induction r with
  | nil=>exact s
  | cons r _ ih=>exact .cons r ih
theorem Vals.take:∀ {xs:List V} {us:List Value} (n:Nat),Vals xs us→Vals (xs.take n) (us.take n)
  | _,_,0,_=>.nil
  | _,_,_+1,.nil=>.nil
  | _,_,n+1,.cons r t=>.cons r (Vals.take n t)
theorem Vals.drop:∀ {xs:List V} {us:List Value} (n:Nat),Vals xs us→Vals (xs.drop n) (us.drop n)
  | _,_,0,r=>r
  | _,_,_+1,.nil=>.nil
  | _,_,n+1,.cons _ t=>Vals.drop n t
noncomputable def R7:Option V→Option Value→Prop
  | some v,some u=>RelV v u
  | none,none=>True
  | _,_=>False
noncomputable def KV {κ:Type}:List (κ × V)→List (κ × Value)→Prop:=Paired fun (p:κ × V) (q:κ × Value)=>p.1=q.1∧RelV p.2 q.2
noncomputable def kV:Key→V
  | .inl i=>.int i
  | .inr x=>.str x
inductive HO where
  /-- a list -/
  | lst (xs:List V)
  /-- a tuple (never changes) -/
  | tup (xs:List V)
  /-- a dict whose keys are ints and texts; one whose keys are tuples of ints and texts (the empty one is both) -/
  | dK (kvs:List (Key × V)) | dT (kvs:List (List Key × V))
  /-- a set of ints: its members,its size -/
  | set (S:Int→Bool) (n:Nat)
  /-- an instance of the class at C,its dict at dx,its attributes -/
  | ins (C dx:Addr) (fs:List (Str × V))
  /-- the dict of the instance at x -/
  | own (x:Addr)
  /-- the dict of an exception -/
  | xd (fs:List (Str × V))
  /-- a bound method,f of x -/
  | met (f x:Addr)
  /-- a range object lo,lo+1,.. below hi -/
  | rng (lo hi:Int)
  /-- a thing that is known to the object (the script; a dict while a loop walks it): read,never written while it is so -/
  | frz (o:Obj) (u:HO)
  /-- a code object's table -/
  | tbl (ps:Array Value)
  /-- any other thing,by what is true of its one object (a def of one's own: SetO a S n:=HO.ext fun h=>..) -/
  | ext (φ:Heap→Prop)
noncomputable abbrev Hp:=Addr→Option HO
noncomputable def upd (H:Hp) (a:Addr) (o:HO):Hp:=fun b=>if b=a then some o else H b
theorem j5 {H:Hp} {a:Addr} {o:HO}:upd H a o a=some o:=by unfold upd; rw [if_pos rfl]
theorem jt {H:Hp} {a b:Addr} {o:HO} (h:b≠a):upd H a o b=H b:=by unfold upd; rw [if_neg h]
theorem aa0 {H:Hp} {a b:Addr} {o u:HO} (h:H a=some o) (h':H b=some u) (d:o≠u):a≠b:=by
  intro e; subst e; rw [h] at h'; exact d (Option.some.inj h')
theorem Ac {H:Hp} {a b:Addr} {o:HO} (h:H a=some o) (h':H b=none):a≠b:=by
  intro e; subst e; rw [h] at h'; cases h'
noncomputable def a1b (h:Heap) (a:Addr) (items:Array Value):Prop:=∃ o,h.get? a=some o∧o.cls=.type "tuple" ∧ o.dict=none∧∃ n,o.data=.seq items n
theorem a1b.is {h:Heap} {a:Addr} {items:Array Value} (x:a1b h a items):IsTup h a items:=let ⟨o,e,c,_,d⟩:=x; ⟨o,e,c,d⟩
theorem a1b.new (h:Heap) (items:Array Value):a1b (h.push { cls:=.type "tuple",data:=.seq items }) h.objs.size items:=⟨_,Heap.get?_push_size _ rfl,rfl,rfl,0,rfl⟩
noncomputable section
variable (P:Program) (w:World)
noncomputable def Bf (H:Hp) (h:Heap) (a:Addr):HO→Prop
  | .lst xs=>xs.length≤sizeLine∧∃ (its:List Value) (n:Nat),Vals xs its∧h.get? a=some { cls:=.type "list",data:=.seq its.toArray n }
  | .tup xs=>xs.length≤sizeLine∧∃ its:List Value,Vals xs its∧a1b h a its.toArray
  | .dK kvs=>kvs.length≤sizeLine∧(a==sysModules)=false∧∃ vs,KV kvs vs∧h.DictOf (kj P w) a vs
  | .dT kvs=>kvs.length≤sizeLine∧(a==sysModules)=false∧∃ xs:List (List Key × Addr × Value),
      Paired (fun (p:List Key × V) (q:List Key × Addr × Value)=>p.1=q.1∧H q.2.1=some (.tup (p.1.map kV))∧RelV p.2 q.2.2) kvs xs ∧
      ∃ o es ep,h.get? a=some o∧o.ExactDict∧o.data=.dict es ep∧es.toList=xs.map (entryOfKey (tupleKind (kj P w)))∧(xs.map (·.1)).Nodup
  | .set S n=>h.SetOf (intKind P w) a S n
  | .ins C dx fs=>H dx=some (.own a)∧fs.length≤1000∧dx≠a∧h.get? a=some (PySem.W.instObj C dx) ∧
      ∃ mA,h.Ns1 dx mA∧(∀ f,R7 (fs.lookup f) (mA f))∧PySem.Within mA (fs.map (·.1))
  | .own _=>∃ o,h.get? a=some o
  | .xd fs=>∃ mA,h.Ns1 a mA∧∀ f,R7 (fs.lookup f) (mA f)
  | .rng lo hi=>∃ t u v,h.get? a=some { cls:=.type "range",data:=.fields #[.int lo t,.int hi u,.int 1 v] }
  | .frz o u=>h.get? a=some o∧Bf H h a u
  | .tbl ps=>h.get? a=some { cls:=.none,data:=.fields ps }
  | .met f x=>h.get? a=some (PySem.W.methodObj (.ref f) (.ref x))
  | .ext φ=>φ h∧(∃ o,h.get? a=some o)∧∀ h1 h2:Heap,φ h1→(∀ o,h1.get? a=some o→h2.get? a=some o)→φ h2
noncomputable def HOk (H:Hp) (h:Heap):Prop:=∀ a o,H a=some o→Bf P w H h a o
end
noncomputable section
variable {P:Program} {w:World} {H H':Hp} {h h':Heap} {a:Addr} {o:HO}
theorem Bf.lt (x:Bf P w H h a o):a<h.objs.size:=by
  cases o with
  | lst xs=>obtain ⟨_,_,_,_,e⟩:=x; exact Heap.lt_size e
  | tup xs=>obtain ⟨_,_,_,p⟩:=x; exact p.is.lt
  | dK kvs=>obtain ⟨_,_,_,_,o,_,_,e,_⟩:=x; exact Heap.lt_size e
  | dT kvs=>obtain ⟨_,_,_,_,o,_,_,e,_⟩:=x; exact Heap.lt_size e
  | set S n=>obtain ⟨o,_,_,_,e,_⟩:=x; exact Heap.lt_size e
  | ins C dx fs=>obtain ⟨_,_,_,e,_⟩:=x; exact Heap.lt_size e
  | own y=>obtain ⟨_,e⟩:=x; exact Heap.lt_size e
  | xd fs=>obtain ⟨_,⟨_,_,_,e,_⟩,_⟩:=x; exact Heap.lt_size e
  | rng lo hi=>obtain ⟨_,_,_,e⟩:=x; exact Heap.lt_size e
  | frz ob u=>obtain ⟨e,_⟩:=x; exact Heap.lt_size e
  | tbl ps=>exact Heap.lt_size (show h.get? a=some _ from x)
  | met f y=>exact Heap.lt_size (show h.get? a=some _ from x)
  | ext φ=>obtain ⟨_,⟨_,e⟩,_⟩:=x; exact Heap.lt_size e
theorem Paired.abp {α β:Type} {F G:α→β→Prop} {l₁:List α} {l₂:List β} (r:Paired F l₁ l₂) (f:∀ a b,F a b→G a b):Paired G l₁ l₂:=by
  induction r with
  | nil=>exact .nil
  | cons r _ ih=>exact .cons (f _ _ r) ih
theorem Bf.stay (x:Bf P w H h a o) (k:∀ b u,(b=a∨H b=some (.own a))→h.get? b=some u→h'.get? b=some u)
    (ho:∀ b,H b=some (.own a)→H' b=some (.own a)) (ht:∀ b xs,H b=some (.tup xs)→H' b=some (.tup xs)):Bf P w H' h' a o:=by
  induction o with
  | lst xs=>obtain ⟨z,its,n,r,e⟩:=x; exact ⟨z,its,n,r,k _ _ (.inl rfl) e⟩
  | tup xs=>obtain ⟨z,its,r,ob,e,c⟩:=x; exact ⟨z,its,r,ob,k _ _ (.inl rfl) e,c⟩
  | dK kvs=>obtain ⟨z,y,vs,r,ob,es,ep,e,c⟩:=x; exact ⟨z,y,vs,r,ob,es,ep,k _ _ (.inl rfl) e,c⟩
  | dT kvs =>
    obtain ⟨z,y,xs,r,ob,es,ep,e,c⟩:=x
    exact ⟨z,y,xs,Paired.abp r fun p q z=>⟨z.1,ht _ _ z.2.1,z.2.2⟩,ob,es,ep,k _ _ (.inl rfl) e,c⟩
  | set S n=>obtain ⟨ob,es,ep,t,e,c⟩:=x; exact ⟨ob,es,ep,t,k _ _ (.inl rfl) e,c⟩
  | ins C dx fs =>
    obtain ⟨d,z,ne,e,mA,⟨od,es,ep,e2,c⟩,r⟩:=x
    exact ⟨ho _ d,z,ne,k _ _ (.inl rfl) e,mA,⟨od,es,ep,k _ _ (.inr d) e2,c⟩,r⟩
  | own y=>obtain ⟨ob,e⟩:=x; exact ⟨ob,k _ _ (.inl rfl) e⟩
  | xd fs=>obtain ⟨mA,⟨od,es,ep,e,c⟩,r⟩:=x; exact ⟨mA,⟨od,es,ep,k _ _ (.inl rfl) e,c⟩,r⟩
  | rng lo hi=>obtain ⟨t,u,v,e⟩:=x; exact ⟨t,u,v,k _ _ (.inl rfl) e⟩
  | frz ob u ih=>obtain ⟨e,q⟩:=x; exact ⟨k _ _ (.inl rfl) e,ih q⟩
  | tbl ps =>
    have e:h.get? a=some { cls:=.none,data:=.fields ps }:=x
    show h'.get? a=some { cls:=.none,data:=.fields ps }
    exact k a _ (.inl rfl) e
  | met f y =>
    have e:h.get? a=some (PySem.W.methodObj (.ref f) (.ref y)):=x
    show h'.get? a=some (PySem.W.methodObj (.ref f) (.ref y))
    exact k a _ (.inl rfl) e
  | ext φ=>obtain ⟨p,⟨o,e⟩,st⟩:=x; exact ⟨st _ _ p fun o q=>k _ _ (.inl rfl) q,⟨o,k _ _ (.inl rfl) e⟩,st⟩
theorem HOk.lt (x:HOk P w H h) (e:H a=some o):a<h.objs.size:=(x a o e).lt
theorem HOk.fresh (x:HOk P w H h) (e:h.objs.size≤a):H a=none:=by
  cases q:H a with
  | none=>rfl
  | some u=>exact absurd (Nat.lt_of_lt_of_le (x.lt q) e) (Nat.lt_irrefl _)
theorem HOk.kept (x:HOk P w H h) (k:∀ b u,h.get? b=some u→h'.get? b=some u):HOk P w H h':=fun a o e =>
  (x a o e).stay (fun b u _ q=>k b u q) (fun _ q=>q) fun _ _ q=>q
theorem HOk.laid (x:HOk P w H h) (k:∀ b u,h.get? b=some u→h'.get? b=some u) (hp:h.objs.size≤a) (new:Bf P w (upd H a o) h' a o):HOk P w (upd H a o) h':=fun b u e=>by
  have hn:=x.fresh hp
  by_cases hb:b=a
  · subst hb; rw [j5] at e; cases e; exact new
  · rw [jt hb] at e
    exact (x b u e).stay (fun c v _ q=>k c v q) (fun c q=>by rw [jt (Ac q hn)]; exact q) fun c xs q=>by rw [jt (Ac q hn)]; exact q
end
noncomputable def Rd (H:Hp) (a:Addr) (u:HO):Prop:=H a=some u∨∃ o,H a=some (.frz o u)
theorem Rd.ok {P:Program} {w:World} {H:Hp} {h:Heap} {a:Addr} {u:HO} (r:Rd H a u) (x:HOk P w H h):Bf P w H h a u:=by
  rcases r with r | ⟨o,r⟩
  · exact x a u r
  · obtain ⟨_,q⟩:=x a _ r
    exact q
noncomputable def Mut:Option HO→Prop
  | some (.lst _)=>True
  | some (.dK _)=>True
  | some (.dT _)=>True
  | some (.set _ _)=>True
  | some (.ins _ _ _)=>True
  | some (.ext _)=>True
  | _=>False
noncomputable section
variable {P:Program} {w:World} {H:Hp} {h h':Heap} {x e:Addr} {o':HO}
theorem HOk.write (ok:HOk P w H h) (mu:Mut (H x)) (he:e=x∨H e=some (.own x)) (k:∀ b u,b≠e→h.get? b=some u→h'.get? b=some u) (heo:∃ u,h'.get? e=some u)
    (new:Bf P w (upd H x o') h' x o'):HOk P w (upd H x o') h':=fun b u q=>by
  have nown:∀ c y,H c=some (.own y)→c≠x:=fun c y r z=>by subst z; rw [r] at mu; exact mu
  have ntup:∀ c xs,H c=some (.tup xs)→c≠x:=fun c xs r z=>by subst z; rw [r] at mu; exact mu
  by_cases hb:b=x
  · subst hb; rw [j5] at q; cases q; exact new
  · rw [jt hb] at q
    by_cases hbe:b=e
    · have q':H b=some (.own x):=by
        rcases he with z | z
        · exact absurd (hbe.trans z) hb
        · rw [hbe]; exact z
      rw [q] at q'; cases q'
      obtain ⟨v,hv⟩:=heo
      exact ⟨v,by rw [hbe]; exact hv⟩
    · refine (ok b u q).stay (fun c v hc r=>k c v ?_ r) (fun c r=>by rw [jt (nown c b r)]; exact r) fun c xs r=>by rw [jt (ntup c xs r)]; exact r
      rcases hc with rfl | hc
      · exact hbe
      · rintro rfl
        rcases he with z | z
        · exact nown c b hc z
        · rw [hc] at z; cases z; exact hb rfl
end
structure Un (fs ex:List Addr) (H H':Hp) (h h':Heap):Prop where
  keep:∀ b o,h.get? b=some o→H b=none→b∉fs→b∉ex→h'.get? b=some o
  slot:∀ b o,h.get? b=some o→H b=none→b∈fs→b∉ex→∃ sl,h'.get? b=some { o with slots:=sl }
  free:∀ b o,h.get? b=some o→H b=none→b∉ex→H' b=none
  there:∀ b o,h.get? b=some o→b∉ex→∃ o',h'.get? b=some o'
  tups:∀ b xs,H b=some (.tup xs)→H' b=some (.tup xs)
  frzs:∀ b o u,H b=some (.frz o u)→H' b=some (.frz o u)
  tbls:∀ b ps,H b=some (.tbl ps)→∃ more,H' b=some (.tbl (ps++more))
noncomputable section
variable {fs fs' ex ex':List Addr} {H H1 H2:Hp} {h h1 h2 h':Heap} {a x e:Addr} {o:HO}
theorem Un.any (u:Un fs ex H H1 h h1) {b:Addr} {ob:Obj} (q:h.get? b=some ob) (n:H b=none) (hx:b∉ex):∃ sl,h1.get? b=some { ob with slots:=sl }:=by
  by_cases hb:b∈fs
  · exact u.slot b ob q n hb hx
  · exact ⟨ob.slots,u.keep b ob q n hb hx⟩
theorem Un.trans (a:Un fs ex H H1 h h1) (b:Un fs ex H1 H2 h1 h2):Un fs ex H H2 h h2 where
  keep:=fun c ob q n hc hx=>b.keep c ob (a.keep c ob q n hc hx) (a.free c ob q n hx) hc hx
  slot:=fun c ob q n hc hx=>by
    obtain ⟨sl,e1⟩:=a.slot c ob q n hc hx
    obtain ⟨sl',e2⟩:=b.slot c _ e1 (a.free c ob q n hx) hc hx
    exact ⟨sl',e2⟩
  free:=fun c ob q n hx=>by
    obtain ⟨o',e1⟩:=a.there c ob q hx
    exact b.free c o' e1 (a.free c ob q n hx) hx
  there:=fun c ob q hx=>by
    obtain ⟨o',e1⟩:=a.there c ob q hx
    exact b.there c o' e1 hx
  tups:=fun c xs q=>b.tups c xs (a.tups c xs q)
  frzs:=fun c ob xs q=>b.frzs c ob xs (a.frzs c ob xs q)
  tbls:=fun c ps q=>by
    obtain ⟨m1,e1⟩:=a.tbls c ps q
    obtain ⟨m2,e2⟩:=b.tbls c _ e1
    exact ⟨m1++m2,by rw [e2,Array.append_assoc]⟩
theorem Un.kept (k:∀ b u,h.get? b=some u→h'.get? b=some u):Un fs ex H H h h' :=
  ⟨fun b ob q _ _ _=>k b ob q,fun b ob q _ _ _=>⟨ob.slots,k b ob q⟩,fun _ _ _ n _=>n,fun b ob q _=>⟨ob,k b ob q⟩,fun _ _ q=>q,fun _ _ _ q=>q,fun _ ps q=>⟨#[],by rw [q]; simp⟩⟩
theorem Un.refl:Un fs ex H H h h:=Un.kept fun _ _ q=>q
theorem Un.laid (k:∀ b u,h.get? b=some u→h'.get? b=some u) (hp:h.objs.size≤a) (hn:H a=none):Un fs ex H (upd H a o) h h' where
  keep:=fun b u q _ _ _=>k b u q
  slot:=fun b u q _ _ _=>⟨u.slots,k b u q⟩
  free:=fun b u q n _=>by rw [jt (Nat.ne_of_lt (Nat.lt_of_lt_of_le (Heap.lt_size q) hp))]; exact n
  there:=fun b u q _=>⟨u,k b u q⟩
  tups:=fun b xs q=>by rw [jt (Ac q hn)]; exact q
  frzs:=fun b u xs q=>by rw [jt (Ac q hn)]; exact q
  tbls:=fun b ps q=>⟨#[],by rw [jt (Ac q hn),q]; simp⟩
theorem Un.write (mu:Mut (H x)) (he:e=x∨H e=some (.own x)) (k:∀ b u,b≠e→h.get? b=some u→h'.get? b=some u) (heo:∃ u,h'.get? e=some u):Un fs ex H (upd H x o) h h':=by
  have hx:∀ b,H b=none→b≠x:=fun b n z=>by subst z; rw [n] at mu; exact mu
  have hb:∀ b,H b=none→b≠e:=fun b n z=>by
    subst z
    rcases he with r | r
    · exact hx b n r
    · rw [n] at r; cases r
  have hm:∀ b u,H b=some u→¬ Mut (some u)→b≠x:=fun b u q nm z=>by subst z; rw [q] at mu; exact nm mu
  refine ⟨fun b u q n _ _=>k b u (hb b n) q,fun b u q n _ _=>⟨u.slots,k b u (hb b n) q⟩,fun b u q n _=>by rw [jt (hx b n)]; exact n,fun b u q _=>?_,
    fun b xs q=>by rw [jt (hm b _ q fun z=>z)]; exact q,fun b u xs q=>by rw [jt (hm b _ q fun z=>z)]; exact q,fun b ps q=>⟨#[],by rw [jt (hm b _ q fun z=>z),q]; simp⟩⟩
  by_cases hbe:b=e
  · subst hbe; exact heo
  · exact ⟨u,k b u hbe q⟩
theorem Un.mono (u:Un fs ex H H1 h h1) (hs:∀ b∈fs,b∈fs') (hx:∀ b∈ex,b∈ex'):Un fs' ex' H H1 h h1 :=
  ⟨fun b ob q n hb he=>u.keep b ob q n (fun z=>hb (hs b z)) fun z=>he (hx b z),fun _ _ q n _ he=>u.any q n fun z=>he (hx _ z),fun b ob q n he=>u.free b ob q n fun z=>he (hx b z),fun b ob q he=>u.there b ob q fun z=>he (hx b z),u.tups,u.frzs,u.tbls⟩
end
noncomputable def trk (h:Heap) (H:Hp):List Addr:=(List.range h.objs.size).filter fun a=>(H a).isSome
noncomputable def a2a (h:Heap) (H:Hp):Heap:=PySem.W.hideAll h (trk h H)
theorem Wo (h:Heap) (H:Hp):(a2a h H).objs.size=h.objs.size:=PySem.W.hideAll_size _ _
theorem a1x {h:Heap} {H:Hp} {b:Addr} {o:Obj} (e:h.get? b=some o) (n:H b=none):(a2a h H).get? b=some o :=
  PySem.W.hideAll_get _ e fun hm=>by
    have q:(H b).isSome=true:=(List.mem_filter.mp hm).2
    rw [n] at q; simp at q
theorem a74 {h:Heap} {H:Hp} {b:Addr} {o:Obj} (e:(a2a h H).get? b=some o):h.get? b=some o∧H b=none:=by
  have e':h.get? b=some o:=PySem.W.of_hideAll (trk h H) e
  refine ⟨e',?_⟩
  cases q:H b with
  | none=>rfl
  | some x =>
    have hm:b∈trk h H:=List.mem_filter.mpr ⟨List.mem_range.mpr (Heap.lt_size e'),by simp [q]⟩
    have z:(a2a h H).get? b=none:=PySem.W.hideAll_none (trk h H) hm
    rw [z] at e; cases e
noncomputable def a6e (g h:Heap) (L:Addr):List (Addr × Obj):=(List.range h.objs.size).filterMap fun a=>if a=L∨(g.get? a).isSome=true then none else (h.get? a).map fun o=>(a,o)
noncomputable def rest (g h:Heap) (L d:Addr):List (Addr × Obj):=(a6e g h L).filter fun p=>decide (p.1≠d)
end L2
namespace L2
open PySem PySem.Spec PyProof.Rows
structure Mod (K:PySem.W.Frag) (mg:Str→Option Value) (base:Heap):Prop where
  kin:K.In base
  glob:base.Ns mainGlobals mg
  blt:∃ mb,base.Ns builtinsNs mb∧∀ x:Str,x ≠ "__name__" → mb x=bootBuiltins x
  nolimit:base.NoLimit
structure Cx where
  prog:Program
  w:World
  K:PySem.W.Frag
  mg:Str→Option Value
  base:Heap
  A:Around
  N:List Str
  s₀:Shared
  H₀:Hp
  env:Env
  outer:List Env
  stack:List Env
  ex:List Addr
  fn:Str→Bool
  calm:Bool
  pn:List (Addr × Obj)
  xe:Value→Shared→Prop
noncomputable def frs (l:List Env):List Addr:=l.filterMap (·.frame)
noncomputable abbrev Cx.fs (X:Cx):List Addr:=frs X.outer
noncomputable def Vis (sc:Scope) (x:Str):Prop:=sc.names.lookup x=some .local∨sc.names.lookup x=some .cell∨sc.names.lookup x=some .free
noncomputable def Loc (sc:Scope) (x:Str):Prop:=sc.names.lookup x=some .local∨sc.names.lookup x=some .cell
noncomputable def Look (env:Env) (h:Heap) (m:Str→Option Value) (x:Str) (u:Value):Prop :=
  (env.kindOf x=some .local∧m x=some u)∨((env.kindOf x=some .cell∨env.kindOf x=some .free)∧∃ c,env.cells.lookup x=some c∧h.IsCell c (some u))
structure Cx.Ok (X:Cx):Prop where
  mod:Mod X.K X.mg X.base
  kind:X.env.scope.kind=.function
  glob:X.env.globals=mainGlobals
  blt:X.env.builtins=builtinsNs
  above:X.s₀.heap.objs.size≤X.env.locals
  inj:∀ x y c,X.env.cells.lookup x=some c→X.env.cells.lookup y=some c→x=y
  has:∀ x,(X.env.kindOf x=some .cell∨X.env.kindOf x=some .free)→∃ c,X.env.cells.lookup x=some c
  cab:∀ x c,X.fn x=true→X.env.cells.lookup x=some c→X.s₀.heap.objs.size≤c
  hd:X.calm=true→X.A.handled=none
  frames:X.A.frames=some X.stack
  stk:X.stack=X.outer∨(X.stack=X.env::X.outer∧X.env.frame=some X.env.locals)
  exf:∀ b∈X.ex,b≠X.env.locals∧∀ x c,X.env.cells.lookup x=some c→c≠b
  bs:∀ b o,X.base.get? b=some o→X.s₀.heap.get? b=some o∧X.H₀ b=none
  bsz:X.base.objs.size≤X.s₀.heap.objs.size
  noex:∀ b o,X.base.get? b=some o→b∉X.ex
  exfs:∀ b∈X.ex,b∉X.fs
  Wk:X.s₀.heap.FunFrames X.base X.outer
  frf:∀ b∈X.fs,X.H₀ b=none
structure Inv (X:Cx) (pins:List (Addr × Obj)) (σ:List (Option V)) (H:Hp) (s:Shared):Prop where
  ok:X.Ok
  os:s.os=X.s₀.os
  bare:AllBare s.gens
  base:Un X.fs X.ex X.H₀ H X.s₀.heap s.heap
  loc:∃ m,s.heap.Ns X.env.locals m∧∀ (i:Nat) (x:Str) (v:V),X.N[i]? = some x→σ[i]? = some (some v)→Vis X.env.scope x→∃ u,RelV v u∧Look X.env s.heap m x u
  cell:∀ x c,X.env.cells.lookup x=some c→∃ v,s.heap.IsCell c v
  free:H X.env.locals=none
  freeC:∀ x c,X.env.cells.lookup x=some c→H c=none
  pin:∀ p∈X.pn++pins,s.heap.get? p.1=some p.2∧H p.1=none∧p.1≠X.env.locals∧p.1∉X.fs∧∀ v,p.2.data≠.cell v
  hok:HOk X.prog X.w H s.heap
  len:σ.length=X.N.length
noncomputable section
variable {X:Cx} {pins:List (Addr × Obj)} {σ:List (Option V)} {H H':Hp} {s:Shared} {h':Heap}
theorem Cx.Ok.acw (ok:X.Ok) {b:Addr} {o:Obj} (e:X.base.get? b=some o):b∉X.fs:=fun hb=>by
  have:=(ok.Wk.mem hb).1
  rw [e] at this; cases this
theorem Inv.bs (I:Inv X pins σ H s):∀ b o,X.base.get? b=some o→s.heap.get? b=some o∧H b=none:=fun b o e =>
  ⟨I.base.keep b o (I.ok.bs b o e).1 (I.ok.bs b o e).2 (I.ok.acw e) (I.ok.noex b o e),I.base.free b o (I.ok.bs b o e).1 (I.ok.bs b o e).2 (I.ok.noex b o e)⟩
theorem Inv.bk (I:Inv X pins σ H s):∀ b o,X.base.get? b=some o→s.heap.get? b=some o:=fun b o e=>(I.bs b o e).1
theorem Inv.mod (I:Inv X pins σ H s):Mod X.K X.mg X.base:=I.ok.mod
theorem Inv.kIn (I:Inv X pins σ H s):X.K.In s.heap:=I.ok.mod.kin.keeps I.bk
theorem Inv.fr (I:Inv X pins σ H s):∃ m,Fr X.base X.env.locals s.heap m :=
  let ⟨m,hn,_⟩:=I.loc
  ⟨m,hn,I.bk,Nat.le_trans I.ok.bsz I.ok.above⟩
theorem Inv.lt (I:Inv X pins σ H s):X.env.locals<s.heap.objs.size:=let ⟨_,hn,_⟩:=I.loc; hn.lt
theorem Inv.sz (I:Inv X pins σ H s):X.s₀.heap.objs.size≤s.heap.objs.size:=Nat.le_trans I.ok.above (Nat.le_of_lt I.lt)
theorem Inv.ad3 (I:Inv X pins σ H s) {a:Addr} (h:s.heap.objs.size≤a):a∉X.fs:=fun hb=>by
  obtain ⟨_,o,ho,_⟩:=I.ok.Wk.mem hb
  exact absurd (Nat.lt_of_lt_of_le (Heap.lt_size ho) (Nat.le_trans I.sz h)) (Nat.lt_irrefl _)
theorem Inv.cne (I:Inv X pins σ H s):∀ x c,X.env.cells.lookup x=some c→c≠X.env.locals:=fun x c e z=>by
  obtain ⟨v,o,ho,hd⟩:=I.cell x c e
  obtain ⟨m,⟨o',es,ep,ho',hd',_⟩,_⟩:=I.loc
  rw [z,ho'] at ho; cases ho; rw [hd'] at hd; cases hd
theorem Inv.Wk (I:Inv X pins σ H s):s.heap.FunFrames X.base X.outer:=by
  have all:∀ (l:List Env),(∀ b∈frs l,b∈X.fs)→X.s₀.heap.FunFrames X.base l→s.heap.FunFrames X.base l:=by
    intro l
    induction l with
    | nil=>intro _ _; trivial
    | cons env r ih =>
      intro hs hl
      obtain ⟨hk,⟨L,o,hf,hn,ho,hd⟩,hr⟩:=hl
      have hL:L∈X.fs:=hs L (by unfold frs; rw [List.filterMap_cons,hf]; exact List.mem_cons_self)
      obtain ⟨sl,e⟩:=I.base.slot L o ho (I.ok.frf L hL) hL fun z=>I.ok.exfs L z hL
      exact ⟨hk,⟨L,_,hf,hn,e,hd⟩,ih (fun b hb=>hs b (by unfold frs; rw [List.filterMap_cons,hf]; exact List.mem_cons_of_mem _ hb)) hr⟩
  exact all X.outer (fun _ hb=>hb) I.ok.Wk
theorem Inv.stack (I:Inv X pins σ H s):s.heap.FunFrames X.base X.stack:=by
  rcases I.ok.stk with e | ⟨e,hf⟩
  · rw [e]; exact I.Wk
  · rw [e]
    obtain ⟨m,hn,_⟩:=I.loc
    refine .cons (by rw [I.ok.kind]; decide) hf hn ?_ I.Wk
    exact Heap.get?_none_of_le (Nat.le_trans I.ok.bsz I.ok.above)
theorem Inv.Vb (I:Inv X pins σ H s):∀ b∈frs X.stack,b∈X.env.locals::X.fs:=fun b hb=>by
  rcases I.ok.stk with e | ⟨e,hf⟩
  · rw [e] at hb; exact List.mem_cons_of_mem _ hb
  · rw [e] at hb
    unfold frs at hb
    rw [List.filterMap_cons,hf] at hb
    exact hb
theorem Inv.Wr (I:Inv X pins σ H s):∀ b∈frs X.stack,H b=none:=fun b hb=>by
  rcases List.mem_cons.mp (I.Vb b hb) with e | hb
  · rw [e]; exact I.free
  · obtain ⟨_,o,ho,_⟩:=I.ok.Wk.mem hb
    exact I.base.free b o ho (I.ok.frf b hb) fun z=>I.ok.exfs b z hb
theorem Inv.step {g':Array GenState} {t':Nat} {d':Drawn} {ch:List Addr} (I:Inv X pins σ H s)
    (hch:∀ b∈ch,(b∈X.ex∨X.s₀.heap.objs.size≤b)∧b≠X.env.locals∧(∀ x c,X.env.cells.lookup x=some c→c≠b)∧∀ p∈X.pn++pins,p.1≠b)
    (keep:∀ b o,b≠X.env.locals→b∉X.fs→b∉ch→s.heap.get? b=some o→H b=none→h'.get? b=some o)
    (slot:∀ b o,b≠X.env.locals→b∈X.fs→b∉ch→s.heap.get? b=some o→H b=none→∃ sl,h'.get? b=some { o with slots:=sl }) (free:∀ b o,b∉ch→s.heap.get? b=some o→H b=none→H' b=none)
    (there:∀ b o,b∉ch→s.heap.get? b=some o→∃ o',h'.get? b=some o')
    (tups:∀ b xs,H b=some (.tup xs)→H' b=some (.tup xs)) (frzs:∀ b o u,H b=some (.frz o u)→H' b=some (.frz o u)) (tbls:∀ b ps,H b=some (.tbl ps)→∃ more,H' b=some (.tbl (ps++more)))
    (ns:∀ m,s.heap.Ns X.env.locals m→h'.Ns X.env.locals m) (hok:HOk X.prog X.w H' h') (hg:AllBare g') :
    Inv X pins σ H' { s with heap:=h',gens:=g',drawn:=d',toks:=t' }:=by
  have neL:∀ b o,X.s₀.heap.get? b=some o→b≠X.env.locals:=fun b o e=>Nat.ne_of_lt (Nat.lt_of_lt_of_le (Heap.lt_size e) I.ok.above)
  have neC:∀ b o,X.s₀.heap.get? b=some o→b∉X.ex→b∉ch:=fun b o e hx hb=>by
    rcases (hch b hb).1 with z | z
    · exact hx z
    · exact absurd (Nat.lt_of_lt_of_le (Heap.lt_size e) z) (Nat.lt_irrefl _)
  have cellK:∀ x c,X.env.cells.lookup x=some c→∀ v,s.heap.IsCell c v→h'.IsCell c v:=fun x c e v z9=>by
    obtain ⟨o,ho,hd⟩:=z9
    have nch:c∉ch:=fun z=>(hch c z).2.2.1 x c e rfl
    by_cases hc:c∈X.fs
    · obtain ⟨sl,q⟩:=slot c o (I.cne x c e) hc nch ho (I.freeC x c e)
      exact ⟨_,q,hd⟩
    · exact ⟨o,keep c o (I.cne x c e) hc nch ho (I.freeC x c e),hd⟩
  refine ⟨I.ok,I.os,hg,⟨fun b o e n hb hx=>?_,fun b o e n hb hx=>?_,fun b o e n hx=>?_,fun b o e hx=>?_,fun b xs e=>tups b xs (I.base.tups b xs e),fun b o xs e=>frzs b o xs (I.base.frzs b o xs e),fun b ps e=>?_⟩,?_,fun x c e=>?_,?_,fun x c e=>?_,fun p hp=>?_,hok,I.len⟩
  · exact keep b o (neL b o e) hb (neC b o e hx) (I.base.keep b o e n hb hx) (I.base.free b o e n hx)
  · obtain ⟨sl,e1⟩:=I.base.slot b o e n hb hx
    obtain ⟨sl',e2⟩:=slot b _ (neL b o e) hb (neC b o e hx) e1 (I.base.free b o e n hx)
    exact ⟨sl',e2⟩
  · obtain ⟨o',e1⟩:=I.base.there b o e hx
    exact free b o' (neC b o e hx) e1 (I.base.free b o e n hx)
  · obtain ⟨o',e1⟩:=I.base.there b o e hx
    exact there b o' (neC b o e hx) e1
  · obtain ⟨m1,e1⟩:=I.base.tbls b ps e
    obtain ⟨m2,e2⟩:=tbls b _ e1
    exact ⟨m1++m2,by rw [e2,Array.append_assoc]⟩
  · obtain ⟨m,hn,hl⟩:=I.loc
    refine ⟨m,ns m hn,fun i x v e1 e2 e3=>?_⟩
    obtain ⟨u,r,l⟩:=hl i x v e1 e2 e3
    refine ⟨u,r,?_⟩
    rcases l with l | ⟨k,c,e,z⟩
    · exact .inl l
    · exact .inr ⟨k,c,e,cellK x c e _ z⟩
  · obtain ⟨v,z⟩:=I.cell x c e
    exact ⟨v,cellK x c e v z⟩
  · obtain ⟨m,⟨o,_,_,ho,_⟩,_⟩:=I.loc
    exact free _ o (fun z=>(hch _ z).2.1 rfl) ho I.free
  · obtain ⟨v,o,ho,hd⟩:=I.cell x c e
    exact free c o (fun z=>(hch c z).2.2.1 x c e rfl) ho (I.freeC x c e)
  · obtain ⟨e,n,ne,nf,d⟩:=I.pin p hp
    have nch:p.1∉ch:=fun z=>(hch p.1 z).2.2.2 p hp rfl
    exact ⟨keep p.1 p.2 ne nf nch e n,free p.1 p.2 nch e n,ne,nf,d⟩
theorem Inv.un {t':Nat} (I:Inv X pins σ H s) (u:Un X.fs [] H H' s.heap h') (hok:HOk X.prog X.w H' h'):Inv X pins σ H' { s with heap:=h',toks:=t' }:=by
  obtain ⟨m,⟨o,es,ep,ho,r⟩,_⟩:=id I.loc
  obtain ⟨sl,hL⟩:=u.any ho I.free (by simp)
  exact I.step (g':=s.gens) (d':=s.drawn) (ch:=[]) (fun _ z=>nomatch z) (fun b o _ hb _ e n=>u.keep b o e n hb (by simp)) (fun b o _ hb _ e n=>u.slot b o e n hb (by simp)) (fun b o _ e n=>u.free b o e n (by simp)) (fun b o _ e=>u.there b o e (by simp)) u.tups u.frzs u.tbls (fun m' hm=>by
    obtain ⟨o',es',ep',ho',r'⟩:=hm
    rw [ho] at ho'; cases ho'
    exact ⟨_,es',ep',hL,r'⟩) hok I.bare
theorem Inv.call {g':Array GenState} {t':Nat} {d':Drawn} {ch:List Addr} (I:Inv X pins σ H s) (u:Un (frs X.stack) ch H H' s.heap h') (hok:HOk X.prog X.w H' h') (hg:AllBare g')
    (hch:∀ b∈ch,(b∈X.ex∨X.s₀.heap.objs.size≤b)∧b≠X.env.locals∧(∀ x c,X.env.cells.lookup x=some c→c≠b)∧∀ p∈X.pn++pins,p.1≠b) :
    Inv X pins σ H' { s with heap:=h',gens:=g',drawn:=d',toks:=t' }:=by
  obtain ⟨m,⟨o,es,ep,ho,r⟩,_⟩:=id I.loc
  obtain ⟨sl,hL⟩:=u.any ho I.free fun z=>(hch _ z).2.1 rfl
  exact I.step (ch:=ch) hch (fun b o hL hb hc e n=>u.keep b o e n (fun z=>(List.mem_cons.mp (I.Vb b z)).elim hL hb) hc) (fun b o _ _ hc e n=>u.any e n hc) (fun b o hc e n=>u.free b o e n hc) (fun b o hc e=>u.there b o e hc) u.tups u.frzs u.tbls (fun m' hm=>by
    obtain ⟨o',es',ep',ho',r'⟩:=hm
    rw [ho] at ho'; cases ho'
    exact ⟨_,es',ep',hL,r'⟩) hok hg
theorem Inv.turned {t':Nat} {it:Addr} (I:Inv X pins σ H s) (k:∀ b o,b≠it→s.heap.get? b=some o→h'.get? b=some o) (hn:H it=none) (hL:it≠X.env.locals)
    (h1:it∈X.ex∨X.s₀.heap.objs.size≤it) (h2:∀ x c,X.env.cells.lookup x=some c→c≠it) (h3:∀ p∈X.pn++pins,p.1≠it):Inv X pins σ H { s with heap:=h',toks:=t' }:=by
  have nit:∀ b u,H b=some u→b≠it:=fun b u e z=>by rw [z,hn] at e; cases e
  refine I.step (g':=s.gens) (d':=s.drawn) (ch:=[it]) (fun b hb=>?_) (fun b o _ _ hc e _=>k b o (fun z=>hc (by simp [z])) e) (fun b o _ _ hc e _=>⟨o.slots,k b o (fun z=>hc (by simp [z])) e⟩) (fun _ _ _ _ n=>n)
    (fun b o hc e=>⟨o,k b o (fun z=>hc (by simp [z])) e⟩) (fun _ _ e=>e) (fun _ _ _ e=>e) (fun b ps e=>⟨#[],by rw [e]; simp⟩) (fun m hm=>?_) (fun b u e=>?_) I.bare
  · have e:b=it:=by simpa using hb
    subst e
    exact ⟨h1,hL,h2,h3⟩
  · obtain ⟨o,es,ep,ho,r⟩:=hm
    exact ⟨o,es,ep,k _ o (Ne.symm hL) ho,r⟩
  · refine (I.hok b u e).stay (fun c v hc q=>k c v ?_ q) (fun _ q=>q) fun _ _ q=>q
    rcases hc with z | z
    · rw [z]; exact nit b u e
    · exact nit c _ z
theorem Inv.tok (I:Inv X pins σ H s) (t:Nat):Inv X pins σ H { s with toks:=t }:=I.un (h':=s.heap) (t':=t) Un.refl I.hok
theorem Inv.kept {t':Nat} (I:Inv X pins σ H s) (k:∀ b u,s.heap.get? b=some u→h'.get? b=some u):Inv X pins σ H { s with heap:=h',toks:=t' }:=I.un (Un.kept k) (I.hok.kept k)
theorem Inv.laid {a:Addr} {o:HO} {t':Nat} (I:Inv X pins σ H s) (k:∀ b u,s.heap.get? b=some u→h'.get? b=some u) (hp:s.heap.objs.size≤a) (new:Bf X.prog X.w (upd H a o) h' a o) :
    Inv X pins σ (upd H a o) { s with heap:=h',toks:=t' }:=I.un (Un.laid k hp (I.hok.fresh hp)) (I.hok.laid k hp new)
theorem Inv.write {x e:Addr} {o:HO} {t':Nat} (I:Inv X pins σ H s) (mu:Mut (H x)) (he:e=x∨H e=some (.own x)) (k:∀ b u,b≠e→s.heap.get? b=some u→h'.get? b=some u) (heo:∃ u,h'.get? e=some u)
    (new:Bf X.prog X.w (upd H x o) h' x o):Inv X pins σ (upd H x o) { s with heap:=h',toks:=t' }:=I.un (Un.write mu he k heo) (I.hok.write mu he k heo new)
theorem Inv.Yj {pins':List (Addr × Obj)} (I:Inv X pins σ H s) (h:∀ p∈pins',s.heap.get? p.1=some p.2∧H p.1=none∧p.1≠X.env.locals∧p.1∉X.fs∧∀ v,p.2.data≠.cell v):Inv X pins' σ H s :=
  ⟨I.ok,I.os,I.bare,I.base,I.loc,I.cell,I.free,I.freeC,fun p hp=>(List.mem_append.mp hp).elim (fun z=>I.pin p (List.mem_append_left _ z)) (h p),I.hok,I.len⟩
theorem U9 {N:List Str} (hN:N.Nodup) {i j:Nat} {x:Str} (a:N[i]? = some x) (b:N[j]? = some x):i=j:=by
  obtain ⟨h1,e1⟩:=List.getElem?_eq_some_iff.mp a
  obtain ⟨h2,e2⟩:=List.getElem?_eq_some_iff.mp b
  exact (List.getElem_inj hN).mp (e1.trans e2.symm)
theorem Zr {M:Model} {A:Around} {E:Value→Shared→Prop} {i:Nat} {x:Str} {v:V} {u:Value} {Q:Unit→Shared→Prop} (I:Inv X pins σ H s) (hN:X.N.Nodup) (hi:X.N[i]? = some x) (hx:Loc X.env.scope x) (r:RelV v u)
    (h:∀ s',Inv X pins (σ.set i (some v)) H s'→(∃ a,Heap.SameBut a s.heap s'.heap∧(a=X.env.locals∨X.env.cells.lookup x=some a))→Q () s') (hf:X.fn x=true∨X.env.scope.names.lookup x=some .local:=by first | exact .inl rfl | exact .inr rfl | assumption):wpAny M A (storeName X.env x u) Q E s:=by
  obtain ⟨m,hn,hl⟩:=id I.loc
  have hcls:(X.env.scope.kind == .class||(X.env.scope.kind == .module&&X.env.locals != X.env.globals))=false:=by rw [I.ok.kind]; rfl
  have hiσ:i<σ.length:=by rw [I.len]; exact (List.getElem?_eq_some_iff.mp hi).1
  have cne:=I.cne
  have tracked:∀ {a:Addr} {h':Heap},(∃ o,s.heap.get? a=some o∧H a=none)→Heap.SameBut a s.heap h'→HOk X.prog X.w H h':=fun {a h'} ha hs b ob e=>by
    obtain ⟨_,_,hfree⟩:=ha
    refine (I.hok b ob e).stay (fun c w' hc q=>(hs.2 c ?_).trans q) (fun _ q=>q) fun _ _ q=>q
    rintro rfl
    rcases hc with rfl | hc
    · rw [hfree] at e; cases e
    · rw [hfree] at hc; cases hc
  rcases hx with hk | hk
  · refine wpAny_storeName_local hk hn (fun h' hn' hs=>?_) hcls
    obtain ⟨oL,_,_,hoL,_⟩:=id hn
    refine h _ ⟨I.ok,I.os,I.bare,⟨fun b o e n hb hx=>?_,fun b o e n hb hx=>?_,I.base.free,fun b o e hx=>?_,I.base.tups,I.base.frzs,I.base.tbls⟩,⟨_,hn',fun j y v' e1 e2 e3=>?_⟩,fun y c e=>?_,I.free,I.freeC,fun p hp=>?_,tracked ⟨oL,hoL,I.free⟩ hs,by simpa using I.len⟩ ⟨_,hs,.inl rfl⟩
    · exact (hs.2 b (Nat.ne_of_lt (Nat.lt_of_lt_of_le (Heap.lt_size e) I.ok.above))).trans (I.base.keep b o e n hb hx)
    · obtain ⟨sl,e1⟩:=I.base.slot b o e n hb hx
      exact ⟨sl,(hs.2 b (Nat.ne_of_lt (Nat.lt_of_lt_of_le (Heap.lt_size e) I.ok.above))).trans e1⟩
    · obtain ⟨o',e1⟩:=I.base.there b o e hx
      exact ⟨o',(hs.2 b (Nat.ne_of_lt (Nat.lt_of_lt_of_le (Heap.lt_size e) I.ok.above))).trans e1⟩
    · by_cases hj:j=i
      · subst hj
        rw [hi] at e1; cases e1
        rw [List.getElem?_set_self hiσ] at e2
        cases e2
        exact ⟨u,r,.inl ⟨hk,by simp⟩⟩
      · rw [List.getElem?_set_ne (Ne.symm hj)] at e2
        obtain ⟨u',r',q⟩:=hl j y v' e1 e2 e3
        refine ⟨u',r',?_⟩
        rcases q with ⟨k,e⟩ | ⟨k,c,e,z⟩
        · refine .inl ⟨k,?_⟩
          have:y≠x:=fun e=>hj (U9 hN e1 (e ▸ hi))
          simp [this,e]
        · exact .inr ⟨k,c,e,z.sameBut hs (cne y c e)⟩
    · obtain ⟨w',z⟩:=I.cell y c e
      exact ⟨w',z.sameBut hs (cne y c e)⟩
    · obtain ⟨e,n,ne,nf,d⟩:=I.pin p hp
      exact ⟨(hs.2 p.1 ne).trans e,n,ne,nf,d⟩
  · have hfn:X.fn x=true:=by
      rcases hf with z | z
      · exact z
      · rw [z] at hk; cases hk
    obtain ⟨c,hc⟩:=I.ok.has x (.inl hk)
    obtain ⟨w',z⟩:=I.cell x c hc
    refine wpAny_storeName_cell I.ok.kind hk hc z (fun h' hc' hs=>?_)
    obtain ⟨oc,hoc,hocd⟩:=id z
    refine h { s with heap:=h' } ⟨I.ok,I.os,I.bare,⟨fun b o e n hb hx=>?_,fun b o e n hb hx=>?_,I.base.free,fun b o e hx=>?_,I.base.tups,I.base.frzs,I.base.tbls⟩,⟨m,hn.sameBut hs (Ne.symm (cne x c hc)),fun j y v' e1 e2 e3=>?_⟩,fun y c' e=>?_,I.free,I.freeC,fun p hp=>?_,tracked ⟨oc,hoc,I.freeC x c hc⟩ hs,by simpa using I.len⟩ ⟨c,hs,.inr hc⟩
    · exact (hs.2 b (Nat.ne_of_lt (Nat.lt_of_lt_of_le (Heap.lt_size e) (I.ok.cab x c hfn hc)))).trans (I.base.keep b o e n hb hx)
    · obtain ⟨sl,e1⟩:=I.base.slot b o e n hb hx
      exact ⟨sl,(hs.2 b (Nat.ne_of_lt (Nat.lt_of_lt_of_le (Heap.lt_size e) (I.ok.cab x c hfn hc)))).trans e1⟩
    · obtain ⟨o',e1⟩:=I.base.there b o e hx
      exact ⟨o',(hs.2 b (Nat.ne_of_lt (Nat.lt_of_lt_of_le (Heap.lt_size e) (I.ok.cab x c hfn hc)))).trans e1⟩
    · by_cases hj:j=i
      · subst hj
        rw [hi] at e1; cases e1
        rw [List.getElem?_set_self hiσ] at e2
        cases e2
        exact ⟨u,r,.inr ⟨.inl hk,c,hc,hc'⟩⟩
      · rw [List.getElem?_set_ne (Ne.symm hj)] at e2
        obtain ⟨u',r',q⟩:=hl j y v' e1 e2 e3
        refine ⟨u',r',?_⟩
        rcases q with q | ⟨k,c',e,z'⟩
        · exact .inl q
        · refine .inr ⟨k,c',e,z'.sameBut hs ?_⟩
          rintro rfl
          exact hj (U9 hN e1 (I.ok.inj _ _ _ e hc ▸ hi))
    · by_cases hcc:c'=c
      · subst hcc; exact ⟨_,hc'⟩
      · obtain ⟨w2,z2⟩:=I.cell y c' e
        exact ⟨w2,z2.sameBut hs hcc⟩
    · obtain ⟨e,n,ne,nf,d⟩:=I.pin p hp
      refine ⟨(hs.2 p.1 ?_).trans e,n,ne,nf,d⟩
      intro q
      rw [q,hoc] at e
      have q':oc=p.2:=Option.some.inj e
      exact d w' (by rw [← q']; exact hocd)
theorem V2 {M:Model} {A:Around} {E:Value→Shared→Prop} {i:Nat} {x:Str} {v:V} {u:Value} {Q:Unit→Shared→Prop} (I:Inv X pins σ H s) (hN:X.N.Nodup) (hi:X.N[i]? = some x) (hx:Loc X.env.scope x) (r:RelV v u)
    (h:∀ s',Inv X pins (σ.set i (some v)) H s'→Q () s') (hf:X.fn x=true∨X.env.scope.names.lookup x=some .local:=by first | exact .inl rfl | exact .inr rfl | assumption):wpAny M A (storeName X.env x u) Q E s :=
  Zr I hN hi hx r (fun s' I' _=>h s' I') hf
end
noncomputable abbrev XK:=Value→Option Addr→Hp→Prop
noncomputable abbrev St:=List (Option V)
noncomputable abbrev VK:=V→Hp→Prop
noncomputable abbrev TE:=St→Hp→VK→Prop
noncomputable abbrev TT:=St→Hp→(Bool→Hp→Prop)→Prop
noncomputable abbrev TA:=St→Hp→(List V→Hp→Prop)→Prop
structure Ends where
  nx:St→Hp→Prop
  rt:VK
  bk:St→Hp→Prop:=fun _ _=>False
  ct:St→Hp→Prop:=fun _ _=>False
noncomputable abbrev TS:=Ends→St→Hp→Prop
inductive EP (X:Cx) (pins:List (Addr × Obj)) (σ:St) (Q:VK) (u:Value) (s':Shared):Prop
  | mk (v:V) (H':Hp) (I:Inv X pins σ H' s') (r:RelV v u) (q:Q v H')
noncomputable def TP (X:Cx) (pins:List (Addr × Obj)) (σ:St) (Q:Bool→Hp→Prop) (b:Bool) (s':Shared):Prop:=∃ H',Inv X pins σ H' s'∧Q b H'
inductive AP (X:Cx) (pins:List (Addr × Obj)) (σ:St) (Q:List V→Hp→Prop) (us:List Value) (s':Shared):Prop
  | mk (vs:List V) (H':Hp) (I:Inv X pins σ H' s') (r:Vals vs us) (q:Q vs H')
noncomputable def SP (X:Cx) (pins:List (Addr × Obj)) (D:Ends) (f:Flow) (s':Shared):Prop :=
  match f with
  | .next=>∃ σ' H',Inv X pins σ' H' s'∧D.nx σ' H'
  | .brk=>∃ σ' H',Inv X pins σ' H' s'∧D.bk σ' H'
  | .cont=>∃ σ' H',Inv X pins σ' H' s'∧D.ct σ' H'
  | .ret u=>∃ v σ' H',Inv X pins σ' H' s'∧RelV v u∧D.rt v H'
noncomputable def PE (X:Cx) (e:Expr) (t:TE):Prop :=
  ∀ (pins:List (Addr × Obj)) (s:Shared) (σ:St) (H:Hp) (Q:VK),Inv X pins σ H s→t σ H Q→wpAny (model X.prog X.w) X.A (eval e X.env) (EP X pins σ Q) X.xe s
noncomputable def PT (X:Cx) (e:Expr) (t:TT):Prop :=
  ∀ (pins:List (Addr × Obj)) (s:Shared) (σ:St) (H:Hp) (Q:Bool→Hp→Prop),Inv X pins σ H s→t σ H Q→wpAny (model X.prog X.w) X.A (isTrue e X.env (eval e X.env)) (TP X pins σ Q) X.xe s
noncomputable def PW (X:Cx) (e:Expr) (t:TT):Prop :=
  ∀ (whole:Sem Value) (pins:List (Addr × Obj)) (s:Shared) (σ:St) (H:Hp) (Q:Bool→Hp→Prop),Inv X pins σ H s→t σ H Q→wpAny (model X.prog X.w) X.A (isTrue e X.env whole) (TP X pins σ Q) X.xe s
theorem PW.pt {X:Cx} {e:Expr} {t:TT} (h:PW X e t):PT X e t:=h _
noncomputable def PA (X:Cx) (es:List Expr) (t:TA):Prop :=
  ∀ (pos:Pos) (pins:List (Addr × Obj)) (s:Shared) (σ:St) (H:Hp) (Q:List V→Hp→Prop),Inv X pins σ H s→t σ H Q→wpAny (model X.prog X.w) X.A (spliced (backTo pos (starEach es X.env))) (AP X pins σ Q) X.xe s
noncomputable def PS (X:Cx) (st:Stmt) (t:TS):Prop :=
  ∀ (pins:List (Addr × Obj)) (s:Shared) (σ:St) (H:Hp) (D:Ends),Inv X pins σ H s→t D σ H→wpAny (model X.prog X.w) X.A (exec st X.env) (SP X pins D) X.xe s
noncomputable def PSs (X:Cx) (st:List Stmt) (t:TS):Prop :=
  ∀ (pins:List (Addr × Obj)) (s:Shared) (σ:St) (H:Hp) (D:Ends),Inv X pins σ H s→t D σ H→wpAny (model X.prog X.w) X.A (execs st X.env) (SP X pins D) X.xe s
theorem thn {α:Type} {t:Sem α} {Q Q':α→Shared→Prop} {M:Model} {A:Around} {E:Value→Shared→Prop} {s:Shared} (h:wpAny M A t Q E s) (hQ:∀ a s,Q a s→Q' a s):wpAny M A t Q' E s:=wpAny_mono h hQ fun _ _ x=>x
end L2
namespace L2
open PySem PySem.Spec PyProof.Rows
noncomputable section
variable {X:Cx}
noncomputable def a3c (i:Nat):TE:=fun σ H Q=>∃ v,σ[i]? = some (some v)∧Q v H
noncomputable def tC (v:V):TE:=fun _ H Q=>Q v H
theorem a86 {i:Nat} {x:Str} {pos:Pos} (hN:X.N[i]? = some x) (hv:Vis X.env.scope x) (hd:(x==("__debug__" : Str))=false:=by decide) (hcd:(x==("__classdict__" : Str))=false:=by decide):PE X (.Name x pos) (a3c i):=by
  intro pins s σ H Q I h
  obtain ⟨v,e,h⟩:=h
  obtain ⟨m,hn,hl⟩:=I.loc
  obtain ⟨u,r,l⟩:=hl i x v hN e hv
  have fin:EP X pins σ Q u s:=⟨v,H,I,r,h⟩
  rcases l with ⟨hk,hm⟩ | ⟨hk,c,hc,hcell⟩
  · exact wpAny_Name (wpAny_loadName_local I.ok.kind hk hn hm fin) hd
  · rcases hk with hk | hk
    · exact wpAny_Name (wpAny_loadName_cell I.ok.kind hk hc hcell fin) hd
    · exact wpAny_Name (wpAny_loadName_free I.ok.kind hk hc hcell fin hcd) hd
theorem a9g {i j pos}:PE X (.Constant (.int i) j pos) (tC (.int i)):=fun _ _ _ H _ I h=>wpAny_Constant_int ⟨.int i,H,I.tok _,⟨_,rfl⟩,h⟩
theorem aav {b j pos}:PE X (.Constant (.bool b) j pos) (tC (.bl b)):=fun _ _ _ H _ I h=>Constant_bool ⟨.bl b,H,I,rfl,h⟩
theorem Yx {x j pos}:PE X (.Constant (.str x) j pos) (tC (.str x)):=fun _ _ _ H _ I h=>Calls.Constant_str ⟨.str x,H,I.tok _,⟨_,rfl⟩,h⟩
noncomputable def Gl (X:Cx) (x:Str):Prop:=X.env.kindOf x=some .globalImplicit
theorem a0i {E:Value→Shared→Prop} {pins:List (Addr × Obj)} {s:Shared} {σ:St} {H:Hp} {x:Str} {u:Value} {pos:Pos} {Q:Value→Shared→Prop} (I:Inv X pins σ H s) (hg:Gl X x) (hm:X.mg x=some u) (h:Q u s)
    (hd:(x==("__debug__" : Str))=false:=by decide):wpAny (model X.prog X.w) X.A (eval (.Name x pos) X.env) Q E s :=
  Calls.Name_function_global I.ok.kind hg (Calls.loadGlobal_global (by rw [I.ok.glob]; exact I.mod.glob.keeps I.bk) hm h) hd
theorem Ly {E:Value→Shared→Prop} {pins:List (Addr × Obj)} {s:Shared} {σ:St} {H:Hp} {x:Str} {u:Value} {pos:Pos} {Q:Value→Shared→Prop} (I:Inv X pins σ H s) (hg:Gl X x) (hm:X.mg x=none) (hv:bootBuiltins x=some u) (h:Q u s)
    (hn:x ≠ "__name__" := by decide) (hd:(x==("__debug__" : Str))=false:=by decide):wpAny (model X.prog X.w) X.A (eval (.Name x pos) X.env) Q E s:=by
  obtain ⟨mb,h1,h2⟩:=I.mod.blt
  exact Calls.Name_function_global I.ok.kind hg (Calls.loadGlobal_builtin (by rw [I.ok.glob]; exact I.mod.glob.keeps I.bk) hm (by rw [I.ok.blt]; exact h1.keeps I.bk) ((h2 x hn).trans hv) h) hd
theorem Zi {x:Str} {v:V} {u:Value} {pos:Pos} (hg:Gl X x) (hm:X.mg x=some u) (r:RelV v u) (hd:(x==("__debug__" : Str))=false:=by decide):PE X (.Name x pos) (tC v) :=
  fun _ _ _ H _ I h=>a0i I hg hm ⟨v,H,I,r,h⟩ hd
variable {a b:Expr} {ta tb:TE} {pos:Pos}
noncomputable def tB (t:TE):TT:=fun σ H Q=>t σ H fun x H1=>∃ c,x=.bl c∧Q c H1
theorem a90 {e:Expr} {t:TE} (h:PE X e t) (he:∀ whole,isTrue e X.env whole=(do let v ← whole; standAt e.pos; holding [v] (truthy v)):=by intro _; rfl):PT X e (tB t):=by
  intro pins s σ H Q I hw
  refine isTrue_plain (thn (h pins s σ H _ I hw) fun v s1 z0=>?_) (he _)
  obtain ⟨x,H1,I1,r1,q1⟩:=z0
  obtain ⟨d,rfl,q⟩:=q1
  cases r1
  exact wpAny_truthy_bool ⟨H1,I1,q⟩
variable {tA tB':TT} {rest:List Expr}
noncomputable def tOr (t u:TT):TT:=fun σ H Q=>t σ H fun c H1=>if c=true then Q true H1 else u σ H1 Q
noncomputable def ad0 (t:TT):TT:=fun σ H Q=>t σ H fun c H1=>Q (!c) H1
theorem pw_or1 (ha:PT X a tA):PW X (.BoolOp .Or [a] pos) tA:=by
  intro wh pins s σ H Q I h
  refine isTrue_or (thn (ha pins s σ H Q I h) fun c s1 e=>?_)
  cases c with
  | false=>exact isTrue_or_nil e
  | true=>exact e
theorem pw_or (ha:PT X a tA) (hb:PW X (.BoolOp .Or (b::rest) pos) tB'):PW X (.BoolOp .Or (a::b::rest) pos) (tOr tA tB'):=by
  intro wh pins s σ H Q I h
  refine isTrue_or (thn (ha pins s σ H _ I h) fun c s1 z0=>?_)
  obtain ⟨H1,I1,q1⟩:=z0
  cases c with
  | true=>exact ⟨H1,I1,q1⟩
  | false=>exact hb wh pins s1 σ H1 Q I1 q1
theorem a7q (ha:PT X a tA):PT X (.UnaryOp .Not a pos) (ad0 tA):=by
  intro pins s σ H Q I h
  exact isTrue_not (ha pins s σ H (fun c H1=>Q (!c) H1) I h)
noncomputable def aa7 (ta tb:TE):TE:=fun σ H Q=>ta σ H fun x H1=>∃ c,x=.bl c∧if c=true then tb σ H1 Q else Q (.bl false) H1
noncomputable def aaq (ta:TE):TE:=fun σ H Q=>ta σ H fun x H1=>∃ c,x=.bl c∧Q (.bl (!c)) H1
theorem a80 {op} {t:TE} (h:PE X a t):PE X (.BoolOp op [a] pos) t:=fun pins s σ H Q I hw=>BoolOp_one (h pins s σ H Q I hw)
theorem a7a (ha:PE X a ta) (hb:PE X (.BoolOp .And (b::rest) pos) tb):PE X (.BoolOp .And (a::b::rest) pos) (aa7 ta tb):=by
  intro pins s σ H Q I h
  refine BoolOp_and (thn (ha pins s σ H _ I h) fun v s1 z0=>?_)
  obtain ⟨x,H1,I1,r1,q1⟩:=z0
  obtain ⟨c,rfl,q1⟩:=q1
  cases r1
  refine wpAny_truthy_bool ?_
  cases c with
  | true=>exact hb pins s1 σ H1 Q I1 q1
  | false=>exact ⟨.bl false,H1,I1,rfl,q1⟩
theorem a95 (ha:PE X a ta):PE X (.UnaryOp .Not a pos) (aaq ta):=by
  intro pins s σ H Q I h
  refine UnaryOp_ (thn (ha pins s σ H _ I h) fun v s1 z0=>?_)
  obtain ⟨x,H1,I1,r1,q1⟩:=z0
  obtain ⟨c,rfl,q1⟩:=q1
  cases r1
  exact not_of (wpAny_truthy_bool ⟨.bl (!c),H1,I1,rfl,q1⟩)
noncomputable def tIf (t:TT) (ta tb:TE):TE:=fun σ H Q=>t σ H fun c H1=>if c=true then ta σ H1 Q else tb σ H1 Q
theorem a1v {c:Expr} (hc:PT X c tA) (ha:PE X a ta) (hb:PE X b tb):PE X (.IfExp c a b pos) (tIf tA ta tb):=by
  intro pins s σ H Q I h
  refine wpAny_IfExp (thn (hc pins s σ H _ I h) fun d s1 z0=>?_)
  obtain ⟨H1,I1,q1⟩:=z0
  cases d with
  | true=>exact ha pins s1 σ H1 Q I1 q1
  | false=>exact hb pins s1 σ H1 Q I1 q1
end
end L2
namespace L2
open PySem PySem.Spec PyProof.Rows
noncomputable def SqL (K:PySem.W.Frag) (H:Hp) (a:Addr) (xs:List V):Prop :=
  Rd H a (.lst xs) ∨
    ∃ (o:Obj) (its:Array Value) (n:Nat),K.lookup a=some o∧o.cls=.type "list" ∧ o.dict=none∧o.data=.seq its n∧its.size≤sizeLine∧Vals xs its.toList
noncomputable def SqT (K:PySem.W.Frag) (H:Hp) (a:Addr) (xs:List V):Prop :=
  Rd H a (.tup xs) ∨
    ∃ (o:Obj) (its:Array Value) (n:Nat),K.lookup a=some o∧o.cls=.type "tuple" ∧ o.dict=none∧o.data=.seq its n∧its.size≤sizeLine∧Vals xs its.toList
noncomputable def ad8:Value→Option V
  | .none=>some .non
  | .bool b=>some (.bl b)
  | .int i _=>some (.int i)
  | .str x _=>some (.str x)
  | .bytes b _=>some (.byt b)
  | .float b _=>some (.flt b)
  | .ref a=>some (.ref a)
  | .type n=>some (.ty n)
  | _=>none
theorem RelV.abs {x:V} {u:Value} (r:RelV x u):ad8 u=some x:=by
  cases x with
  | non=>cases r; rfl
  | bl _=>cases r; rfl
  | int _=>obtain ⟨t,rfl⟩:=r; rfl
  | str _=>obtain ⟨t,rfl⟩:=r; rfl
  | byt _=>obtain ⟨t,rfl⟩:=r; rfl
  | flt _=>obtain ⟨t,rfl⟩:=r; rfl
  | ref _=>cases r; rfl
  | ty _=>cases r; rfl
theorem RelV.inj {x y:V} {u:Value} (r:RelV x u) (q:RelV y u):x=y:=Option.some.inj (r.abs.symm.trans q.abs)
theorem Vals.inj {xs ys:List V} {us:List Value} (h:Vals xs us):Vals ys us→xs=ys:=by
  induction h generalizing ys with
  | nil=>intro k; cases k; rfl
  | cons r t ih=>intro k; cases k with | cons r' t'=>rw [r.inj r',ih t']
noncomputable section
variable {X:Cx} {pins:List (Addr × Obj)} {σ:St} {H:Hp} {s:Shared} {a:Addr} {xs ys:List V}
theorem SqL.of {K:PySem.W.Frag} (h:H a=some (.lst xs)):SqL K H a xs:=.inl (.inl h)
theorem SqT.of {K:PySem.W.Frag} (h:H a=some (.tup xs)):SqT K H a xs:=.inl (.inl h)
theorem Inv.list (I:Inv X pins σ H s) (h:SqL X.K H a xs):∃ its:List Value,Vals xs its∧PlainL s.heap a its.toArray∧xs.length≤sizeLine:=by
  rcases h with h | ⟨o,its,n,hk,hc,hd,hs,hz,r⟩
  · obtain ⟨z,its,n,r,e⟩:=h.ok I.hok
    exact ⟨its,r,⟨_,n,e,rfl,rfl,rfl⟩,z⟩
  · refine ⟨its.toList,r,⟨o,n,I.kIn a o hk,hc,hd,by simpa using hs⟩,?_⟩
    have e:=r.length
    simp only [Array.length_toList] at e
    omega
theorem Inv.tuple (I:Inv X pins σ H s) (h:SqT X.K H a xs):∃ its:List Value,Vals xs its∧IsTup s.heap a its.toArray∧xs.length≤sizeLine:=by
  rcases h with h | ⟨o,its,n,hk,hc,hdn,hs,hz,r⟩
  · obtain ⟨z,its,r,p⟩:=h.ok I.hok
    exact ⟨its,r,p.is,z⟩
  · refine ⟨its.toList,r,⟨o,I.kIn a o hk,hc,n,by simpa using hs⟩,?_⟩
    have e:=r.length
    simp only [Array.length_toList] at e
    omega
theorem Inv.a8u (I:Inv X pins σ H s) (h:SqT X.K H a xs):∃ its:List Value,Vals xs its∧a1b s.heap a its.toArray∧xs.length≤sizeLine:=by
  rcases h with h | ⟨o,its,n,hk,hc,hdn,hs,hz,r⟩
  · obtain ⟨z,its,r,p⟩:=h.ok I.hok
    exact ⟨its,r,p,z⟩
  · refine ⟨its.toList,r,⟨o,I.kIn a o hk,hc,hdn,n,by simpa using hs⟩,?_⟩
    have e:=r.length
    simp only [Array.length_toList] at e
    omega
theorem Inv.Nr (I:Inv X pins σ H s) (h:SqL X.K H a xs) (h':SqL X.K H a ys):xs=ys:=by
  obtain ⟨its,r,⟨o,n,e,_,_,d⟩,_⟩:=I.list h
  obtain ⟨its',r',⟨o',n',e',_,_,d'⟩,_⟩:=I.list h'
  rw [e] at e'; cases e'
  rw [d] at d'
  injection d' with d1 _
  have:its=its':=by simpa using congrArg Array.toList d1
  subst this
  exact r.inj r'
theorem Inv.Ob (I:Inv X pins σ H s) (h:SqT X.K H a xs) (h':SqT X.K H a ys):xs=ys:=by
  obtain ⟨its,r,⟨o,e,_,n,d⟩,_⟩:=I.tuple h
  obtain ⟨its',r',⟨o',e',_,n',d'⟩,_⟩:=I.tuple h'
  rw [e] at e'; cases e'
  rw [d] at d'
  injection d' with d1 _
  have:its=its':=by simpa using congrArg Array.toList d1
  subst this
  exact r.inj r'
end
noncomputable abbrev Cx.wish (X:Cx) (E:Value→Shared→Prop):Cx:={ X with xe:=E }
noncomputable abbrev Cx.nox (X:Cx):Cx:=X.wish fun _ _=>False
theorem Cx.Ok.wish {X:Cx} (ok:X.Ok) (E:Value→Shared→Prop):(X.wish E).Ok :=
  ⟨ok.mod,ok.kind,ok.glob,ok.blt,ok.above,ok.inj,ok.has,ok.cab,ok.hd,ok.frames,ok.stk,ok.exf,ok.bs,ok.bsz,ok.noex,ok.exfs,ok.Wk,ok.frf⟩
theorem Cx.Ok.Eh {X:Cx} {E:Value→Shared→Prop} (ok:(X.wish E).Ok):X.Ok :=
  ⟨ok.mod,ok.kind,ok.glob,ok.blt,ok.above,ok.inj,ok.has,ok.cab,ok.hd,ok.frames,ok.stk,ok.exf,ok.bs,ok.bsz,ok.noex,ok.exfs,ok.Wk,ok.frf⟩
noncomputable section
variable {X:Cx} {pins:List (Addr × Obj)} {σ:St} {H:Hp} {s:Shared} {E:Value→Shared→Prop}
theorem Inv.wish (I:Inv X pins σ H s) (E:Value→Shared→Prop):Inv (X.wish E) pins σ H s:=⟨I.ok.wish E,I.os,I.bare,I.base,I.loc,I.cell,I.free,I.freeC,I.pin,I.hok,I.len⟩
theorem Inv.Eh (I:Inv (X.wish E) pins σ H s):Inv X pins σ H s:=⟨I.ok.Eh,I.os,I.bare,I.base,I.loc,I.cell,I.free,I.freeC,I.pin,I.hok,I.len⟩
theorem SP.Eh {D:Ends} {f:Flow} {s':Shared} (h:SP (X.wish E) pins D f s'):SP X pins D f s':=by
  cases f with
  | next=>obtain ⟨σ',H',I,q⟩:=h; exact ⟨σ',H',I.Eh,q⟩
  | brk=>obtain ⟨σ',H',I,q⟩:=h; exact ⟨σ',H',I.Eh,q⟩
  | cont=>obtain ⟨σ',H',I,q⟩:=h; exact ⟨σ',H',I.Eh,q⟩
  | ret u=>obtain ⟨v,σ',H',I,r,q⟩:=h; exact ⟨v,σ',H',I.Eh,r,q⟩
theorem PE.nox {e:Expr} {t:TE} (h:PE X.nox e t):PE X e t:=fun pins s σ H Q I hw =>
  wpAny_mono (h pins s σ H Q (I.wish _) hw) (fun _ _ z7=>by obtain ⟨v,H',I',r,q⟩:=z7; exact ⟨v,H',I'.Eh,r,q⟩) fun _ _ z=>False.elim z
theorem PT.nox {e:Expr} {t:TT} (h:PT X.nox e t):PT X e t:=fun pins s σ H Q I hw =>
  wpAny_mono (h pins s σ H Q (I.wish _) hw) (fun _ _ z7=>by obtain ⟨H',I',q⟩:=z7; exact ⟨H',I'.Eh,q⟩) fun _ _ z=>False.elim z
theorem PSs.nox {st:List Stmt} {t:TS} (h:PSs X.nox st t):PSs X st t:=fun pins s σ H D I hw =>
  wpAny_mono (h pins s σ H D (I.wish _) hw) (fun _ _ q=>q.Eh) fun _ _ z=>False.elim z
end
noncomputable section
variable {X:Cx} {st:Stmt} {rest:List Stmt} {t u:TS} {e:Expr} {te:TE} {pos:Pos}
noncomputable def aak:TS:=fun D σ H=>D.nx σ H
noncomputable def acd (t u:TS):TS:=fun D σ H=>t { D with nx:=u D } σ H
theorem a5g:PSs X [] aak:=fun _ _ σ H _ I h=>wpAny_execs_nil ⟨σ,H,I,h⟩
theorem U0 (h1:PS X st t) (h2:PSs X rest u):PSs X (st::rest) (acd t u):=by
  intro pins s σ H D I h
  refine wpAny_execs_cons (thn (h1 pins s σ H { D with nx:=u D } I h) fun f s1 q=>?_)
  cases f with
  | next =>
    obtain ⟨σ',H',I',q⟩:=q
    exact h2 pins s1 σ' H' D I' q
  | ret v=>exact q
  | brk=>exact q
  | cont=>exact q
theorem Xb (h1:PS X st t):PSs X [st] t:=by
  intro pins s σ H D I h
  refine wpAny_execs_cons (thn (h1 pins s σ H D I h) fun f s1 q=>?_)
  cases f with
  | next=>exact wpAny_execs_nil q
  | ret v=>exact q
  | brk=>exact q
  | cont=>exact q
theorem Inv.quiet {pins:List (Addr × Obj)} {σ:St} {H:Hp} {s:Shared} (I:Inv X pins σ H s):interactive X.env=false:=by simp [interactive,I.ok.kind]
noncomputable def a67 (te:TE):TS:=fun D σ H=>te σ H fun _ H1=>D.nx σ H1
theorem yx (he:PE X e te) (hs:swapsWith e none pos.line X.env=pure false:=by rfl):PS X (.Expr e pos) (a67 te):=by
  intro pins s σ H D I h
  exact wpAny_Expr_any (thn (he pins s σ H _ I h) fun v s1 z7=>by obtain ⟨x,H1,I1,r1,q1⟩:=z7; exact ⟨σ,H1,I1,q1⟩) I.quiet hs
noncomputable def acj (te:TE):TS:=fun D σ H=>te σ H D.rt
theorem a3o (he:PE X e te):PS X (.Return (some e) pos) (acj te):=by
  intro pins s σ H D I h
  exact wpAny_Return_some (thn (he pins s σ H _ I h) fun v s1 z7=>by obtain ⟨x,H1,I1,r1,q1⟩:=z7; exact ⟨x,σ,H1,I1,r1,q1⟩)
noncomputable def ad2 (c:TT) (t u:TS):TS:=fun D σ H=>c σ H fun b H1=>if b=true then t D σ H1 else u D σ H1
theorem abg {c:Expr} {a b:List Stmt} {tc:TT} (hc:PT X c tc) (ha:PSs X a t) (hb:PSs X b u):PS X (.If c a b pos) (ad2 tc t u):=by
  intro pins s σ H D I h
  refine wpAny_If (thn (hc pins s σ H _ I h) fun d s1 z0=>?_)
  obtain ⟨H1,I1,q1⟩:=z0
  cases d with
  | true=>exact ha pins s1 σ H1 D I1 q1
  | false=>exact hb pins s1 σ H1 D I1 q1
end
noncomputable abbrev TG:=V→St→Hp→(St→Hp→Prop)→Prop
noncomputable abbrev TGs:=List V→St→Hp→(St→Hp→Prop)→Prop
noncomputable def PG (X:Cx) (target:Expr) (t:TG):Prop :=
  ∀ (pins:List (Addr × Obj)) (s:Shared) (σ:St) (H:Hp) (v:V) (u:Value) (Q:St→Hp→Prop),Inv X pins σ H s→RelV v u→t v σ H Q →
    wpAny (model X.prog X.w) X.A (assign target X.env u) (fun _ s'=>∃ σ' H',Inv X pins σ' H' s'∧Q σ' H') X.xe s
noncomputable def PGs (X:Cx) (ts:List Expr) (t:TGs):Prop :=
  ∀ (pins:List (Addr × Obj)) (s:Shared) (σ:St) (H:Hp) (vs:List V) (us:List Value) (Q:St→Hp→Prop),Inv X pins σ H s→Vals vs us→t vs σ H Q →
    wpAny (model X.prog X.w) X.A (assignInOrder ((assignEach ts X.env).map (·.2)) us) (fun _ s'=>∃ σ' H',Inv X pins σ' H' s'∧Q σ' H') X.xe s
noncomputable section
variable {X:Cx} {pos:Pos}
noncomputable def Oa (i:Nat):TG:=fun v σ H Q=>Q (σ.set i (some v)) H
theorem dz {i:Nat} {x:Str} (hN:X.N.Nodup) (hi:X.N[i]? = some x) (hx:Loc X.env.scope x) (hf:X.fn x=true∨X.env.scope.names.lookup x=some .local:=by first | exact .inl rfl | exact .inr rfl | assumption):PG X (.Name x pos) (Oa i):=by
  intro pins s σ H v u Q I r h
  exact wpAny_assign_Name (V2 I hN hi hx r (fun s' I'=>⟨_,H,I',h⟩) hf)
noncomputable def abr:TGs:=fun vs σ H Q=>vs=[]∧Q σ H
noncomputable def a8i (t:TG) (u:TGs):TGs:=fun vs σ H Q=>∃ v r,vs=v::r∧t v σ H fun σ' H'=>u r σ' H' Q
theorem qg:PGs X [] abr:=by
  intro pins s σ H vs us Q I r h
  obtain ⟨e,h⟩:=h
  subst e
  cases r
  exact assignInOrder_nil ⟨σ,H,I,h⟩
theorem gn {e:Expr} {es:List Expr} {t:TG} {u:TGs} (h1:PG X e t) (h2:PGs X es u)
    (hs:(assignEach (e::es) X.env).map (·.2)=assign e X.env::(assignEach es X.env).map (·.2):=by rfl):PGs X (e::es) (a8i t u):=by
  intro pins s σ H vs us Q I r h
  obtain ⟨v,vr,e1,h⟩:=h
  subst e1
  cases r with
  | cons r rr =>
    rw [hs]
    refine assignInOrder_cons (thn (h1 pins s σ H _ _ _ I r h) fun _ s1 z0=>?_)
    obtain ⟨σ1,H1,I1,q1⟩:=z0
    exact h2 pins s1 σ1 H1 _ _ Q I1 rr q1
noncomputable def aby (K:PySem.W.Frag) (n:Nat) (t:TGs):TG:=fun v σ H Q=>∃ a xs,v=.ref a∧SqT K H a xs∧xs.length=n∧t xs σ H Q
theorem v9 {es:List Expr} {k:Nat} {t:TGs} {n:Nat} (hc:X.calm=true) (h:PGs X es t)
    (hn:(assignEach es X.env).length=n:=by rfl) (hst:(assignEach es X.env).findIdx? (·.1)=none:=by rfl):PG X (.Tuple es k pos) (aby X.K n t):=by
  intro pins s σ H v u Q I r hw
  obtain ⟨a,xs,e1,hq,hl,hw⟩:=hw
  subst e1
  cases r
  obtain ⟨its,rv,ht,hz⟩:=I.tuple hq
  refine assign_Tuple_tuple (I.ok.hd hc) ht (by simp [hn,← hl,rv.length]) hst fun h' hx=>?_
  have I1:Inv X pins σ H { s with heap:=h' }:=I.kept (t':=s.toks) fun b o e=>hx b o (Nat.ne_of_lt (Heap.lt_size e)) e
  exact h pins _ σ H xs _ Q I1 (by simpa using rv) hw
noncomputable def a77 (te:TE) (g:TG):TS:=fun D σ H=>te σ H fun x H1=>g x σ H1 D.nx
theorem a3t {tg e:Expr} {te:TE} {g:TG} (he:PE X e te) (hg:PG X tg g) (hs:swapsWithSole [tg] e pos.line X.env=pure false:=by rfl) (hw:swappedStores [tg] e X.env=pure none:=by rfl)
    (h1:(assignEach [tg] X.env).map (·.2)=[assign tg X.env]:=by rfl):PS X (.Assign [tg] e pos) (a77 te g):=by
  intro pins s σ H D I h
  refine wpAny_Assign_stores (thn (he pins s σ H _ I h) fun v s1 z0=>?_) hs hw
  obtain ⟨x,H1,I1,r1,q1⟩:=z0
  rw [h1]
  exact thn (hg pins s1 σ H1 x v _ I1 r1 q1) fun _ s2 q=>q
theorem jk {i:Nat} {x:Str} {e:Expr} {te:TE} {pos':Pos} (hN:X.N.Nodup) (hi:X.N[i]? = some x) (hx:Loc X.env.scope x) (he:PE X e te) (hs:swapsWith e (some (.Name x pos')) pos.line X.env=pure false:=by rfl) (hf:X.fn x=true∨X.env.scope.names.lookup x=some .local:=by first | exact .inl rfl | exact .inr rfl | assumption) :
    PS X (.Assign [.Name x pos'] e pos) (a77 te (Oa i)):=by
  intro pins s σ H D I h
  refine wpAny_Assign_Name (thn (he pins s σ H _ I h) fun v s1 z0=>?_) hs
  obtain ⟨y,H1,I1,r1,q1⟩:=z0
  exact V2 I1 hN hi hx r1 (fun s2 I2=>⟨_,H1,I2,q1⟩) hf
end
noncomputable section
variable {X:Cx} {pos:Pos}
end
structure It where
  go:Nat→Hp→Prop
  yld:Nat→Hp→V→Hp→Prop
  stop:Nat→Hp→Prop
noncomputable def Vf (X:Cx) (pins:List (Addr × Obj)) (H:Hp) (b:Addr):Prop :=
  H b=none∧b≠X.env.locals∧b∉X.fs∧(b∈X.ex∨X.s₀.heap.objs.size≤b)∧(∀ x c,X.env.cells.lookup x=some c→c≠b)∧∀ p∈X.pn++pins,p.1≠b
theorem Inv.a84 {X:Cx} {pins:List (Addr × Obj)} {σ:St} {H H':Hp} {s:Shared} {b:Addr} (I:Inv X pins σ H s) (hb:s.heap.objs.size≤b) (hn:H' b=none):Vf X pins H' b:=by
  refine ⟨hn,Nat.ne_of_gt (Nat.lt_of_lt_of_le I.lt hb),I.ad3 hb,.inr (Nat.le_trans I.sz hb),fun x c e z=>?_,fun p hp z=>?_⟩
  · obtain ⟨v,q⟩:=I.cell x c e
    exact absurd (Nat.lt_of_lt_of_le q.lt (by rw [z]; exact hb)) (Nat.lt_irrefl _)
  · exact absurd (Nat.lt_of_lt_of_le (Heap.lt_size (I.pin p hp).1) (by rw [z]; exact hb)) (Nat.lt_irrefl _)
structure Turn (P:Program) (w:World) (K:PySem.W.Frag) (tg:Expr) (J:It) (fp:List Addr) (it:Addr) (tn:Nat→Heap→Prop):Prop where
  mem:it∈fp
  obj:∀ i h,tn i h→∀ b∈fp,∃ o,h.get? b=some o∧∀ v,o.data≠.cell v
  keep:∀ i h h',tn i h→(∀ b∈fp,∀ o,h.get? b=some o→h'.get? b=some o)→tn i h'
  item:∀ (X:Cx),X.prog=P→X.w=w→X.K=K→X.calm=true→∀ (i:Nat) (pins:List (Addr × Obj)) (s:Shared) (σ:St) (H:Hp) (E:Value→Shared→Prop),Inv X pins σ H s→(∀ b∈fp,Vf X pins H b)→tn i s.heap→J.go i H →
    wpAny (model P w) X.A (pyNext (.ref it)) (fun r s1=>∃ u,r=some u ∧
      wpAny (model P w) X.A (letOwnedTupleGo tg (.ref it) u) (fun _ s2=>∃ x H',Inv X pins σ H' s2∧RelV x u∧J.yld i H x H'∧tn (i+1) s2.heap∧∀ b∈fp,H' b=none) E s1) E s
  done:∀ (X:Cx),X.prog=P→X.w=w→X.K=K→X.calm=true→∀ (i:Nat) (pins:List (Addr × Obj)) (s:Shared) (σ:St) (H:Hp) (E:Value→Shared→Prop),Inv X pins σ H s→(∀ b∈fp,Vf X pins H b)→tn i s.heap→J.stop i H →
    wpAny (model P w) X.A (pyNext (.ref it)) (fun r s1=>r=none∧Inv X pins σ H s1) E s
  self:∀ (A:Around) (i:Nat) (s:Shared) (Q:Value→Shared→Prop) (E:Value→Shared→Prop),tn i s.heap→Q (.ref it) s→wpAny (model P w) A (pyIter (.ref it)) Q E s
noncomputable abbrev TI:=St→Hp→(It→Hp→Prop)→Prop
noncomputable def PIE (X:Cx) (pins:List (Addr × Obj)) (σ:St) (tg:Expr) (R:It→Hp→Prop) (itv:Value) (s2:Shared):Prop :=
  ∃ (it:Addr) (fp:List Addr) (tn:Nat→Heap→Prop) (J:It) (H':Hp),itv=.ref it∧Inv X pins σ H' s2∧Turn X.prog X.w X.K tg J fp it tn∧tn 0 s2.heap∧(∀ b∈fp,Vf X pins H' b)∧R J H'
noncomputable def PI (X:Cx) (tg iter:Expr) (wi:TI):Prop :=
  ∀ (pins:List (Addr × Obj)) (s:Shared) (σ:St) (H:Hp) (R:It→Hp→Prop),Inv X pins σ H s→wi σ H R →
    wpAny (model X.prog X.w) X.A (eval iter X.env) (fun v s1=>wpAny (model X.prog X.w) X.A (pyIter v) (PIE X pins σ tg R) X.xe s1) X.xe s
theorem a1d {M:Model} {A:Around} {E:Value→Shared→Prop} {s:Shared} {tg:Expr} {it:Addr} {u:Value} {o:Obj} {n:String} {vs:Array Value} {Q:Unit→Shared→Prop} (ho:s.heap.get? it=some o) (hc:o.cls=.type n) (hd:o.data=.fields vs)
    (hn:["enumerate","zip","dict_itemiterator","dict_reverseitemiterator","odict_iterator","itertools.zip_longest","itertools.pairwise"].contains n=false) (hQ:Q () s):wpAny M A (letOwnedTupleGo tg (.ref it) u) Q E s:=by
  unfold letOwnedTupleGo
  cases tg <;> first
    | exact wpAny_pure hQ
    | (cases u <;> first
        | exact wpAny_pure hQ
        | (refine wpAny_bind (wpAny_load ho ?_)
           rw [hc,hd]
           show wpAny M A (if (["enumerate","zip","dict_itemiterator","dict_reverseitemiterator","odict_iterator","itertools.zip_longest","itertools.pairwise"].contains n&&vs[0]? == some (rawInt _))=true then _ else _) Q E s
           rw [if_neg (by intro h; rw [hn,Bool.false_and] at h; cases h)]
           exact wpAny_pure hQ))
noncomputable def Itl (K:PySem.W.Frag) (a:Addr):It :=
  ⟨fun i H=>∃ xs x,SqL K H a xs∧xs[i]? = some x,fun i H x H'=>H'=H∧∀ xs,SqL K H a xs→xs[i]? = some x,fun i H=>∃ xs,SqL K H a xs∧xs.length≤i⟩
noncomputable def Itt (K:PySem.W.Frag) (a:Addr):It :=
  ⟨fun i H=>∃ xs x,SqT K H a xs∧xs[i]? = some x,fun i H x H'=>H'=H∧∀ xs,SqT K H a xs→xs[i]? = some x,fun i H=>∃ xs,SqT K H a xs∧xs.length≤i⟩
noncomputable def Itr (lo:Int) (n:Nat):It:=⟨fun i _=>i<n,fun i H x H'=>H'=H∧x=.int (lo+i),fun i _=>n≤i⟩
theorem Z4 {P:Program} {w:World} {K:PySem.W.Frag} {tg:Expr} (a it:Addr):Turn P w K tg (Itl K a) [it] it (fun i h=>h.IsListIter it a i) where
  mem:=by simp
  obj:=fun i h st b hb=>by
    have e:b=it:=by simpa using hb
    subst e
    obtain ⟨o,e,c,d⟩:=st
    exact ⟨o,e,fun v z=>by rw [d] at z; cases z⟩
  keep:=fun i h h' st k=>st.at fun o e=>k it (by simp) o e
  item:=by
    intro X hP hw hK hc i pins s σ H E I hf st hg
    subst hP hw hK
    obtain ⟨xs,x,hq,hx⟩:=hg
    obtain ⟨its,rv,p,hz⟩:=I.list hq
    obtain ⟨u,hu,ru⟩:=rv.get hx
    obtain ⟨f0,f1,f2,f3,f4,f5⟩:=hf it (by simp)
    refine wpAny_pyNext_list_item st p.isList (x:=u) (by simpa using hu) fun h' st' sb=>?_
    have I1:Inv X pins σ H { s with heap:=h' }:=I.turned (t':=s.toks) (fun b o hb e=>(sb.2 b hb).trans e) f0 f1 f3 f4 f5
    obtain ⟨o,e,c,d⟩:=id st'
    exact ⟨u,rfl,a1d (s:={ s with heap:=h' }) e c d (by decide) ⟨x,H,I1,ru,⟨rfl,fun ys hy=>by rw [I.Nr hy hq]; exact hx⟩,st',fun b hb=>(hf b hb).1⟩⟩
  done:=by
    intro X hP hw hK hc i pins s σ H E I hf st hg
    subst hP hw hK
    obtain ⟨xs,hq,hx⟩:=hg
    obtain ⟨its,rv,p,hz⟩:=I.list hq
    obtain ⟨f0,f1,f2,f3,f4,f5⟩:=hf it (by simp)
    have hl:=rv.length
    exact wpAny_pyNext_list_end (I.ok.hd hc) st p.isList (by simp; omega) fun h' eb=>⟨rfl,I.turned (t':=s.toks) (fun b o hb e=>eb b o hb e) f0 f1 f3 f4 f5⟩
  self:=fun _ _ _ _ _ st h=>wpAny_pyIter_listiter st h
theorem Wb {P:Program} {w:World} {K:PySem.W.Frag} {tg:Expr} (a it:Addr):Turn P w K tg (Itt K a) [it] it (fun i h=>h.IsTupleIter it a i) where
  mem:=by simp
  obj:=fun i h st b hb=>by
    have e:b=it:=by simpa using hb
    subst e
    obtain ⟨o,e,c,d⟩:=st
    exact ⟨o,e,fun v z=>by rw [d] at z; cases z⟩
  keep:=fun i h h' st k=>st.at fun o e=>k it (by simp) o e
  item:=by
    intro X hP hw hK hc i pins s σ H E I hf st hg
    subst hP hw hK
    obtain ⟨xs,x,hq,hx⟩:=hg
    obtain ⟨its,rv,p,hz⟩:=I.tuple hq
    obtain ⟨u,hu,ru⟩:=rv.get hx
    obtain ⟨f0,f1,f2,f3,f4,f5⟩:=hf it (by simp)
    refine wpAny_pyNext_tuple_item st (show s.heap.IsTuple a its.toArray from p) (x:=u) (by simpa using hu) fun h' st' sb=>?_
    have I1:Inv X pins σ H { s with heap:=h' }:=I.turned (t':=s.toks) (fun b o hb e=>(sb.2 b hb).trans e) f0 f1 f3 f4 f5
    obtain ⟨o,e,c,d⟩:=id st'
    exact ⟨u,rfl,a1d (s:={ s with heap:=h' }) e c d (by decide) ⟨x,H,I1,ru,⟨rfl,fun ys hy=>by rw [I.Ob hy hq]; exact hx⟩,st',fun b hb=>(hf b hb).1⟩⟩
  done:=by
    intro X hP hw hK hc i pins s σ H E I hf st hg
    subst hP hw hK
    obtain ⟨xs,hq,hx⟩:=hg
    obtain ⟨its,rv,p,hz⟩:=I.tuple hq
    obtain ⟨f0,f1,f2,f3,f4,f5⟩:=hf it (by simp)
    have hl:=rv.length
    exact wpAny_pyNext_tuple_end (I.ok.hd hc) st (show s.heap.IsTuple a its.toArray from p) (by simp; omega) fun h' eb=>⟨rfl,I.turned (t':=s.toks) (fun b o hb e=>eb b o hb e) f0 f1 f3 f4 f5⟩
  self:=fun _ _ _ _ _ st h=>wpAny_pyIter_tupleiter st h
theorem Vw {P:Program} {w:World} {K:PySem.W.Frag} {tg:Expr} (it:Addr) (lo:Int) (n:Nat):Turn P w K tg (Itr lo n) [it] it (fun i h=>IsRangeIter h it (lo+(i:Nat) * 1) ((n:Int) - (i:Nat)) 1) where
  mem:=by simp
  obj:=fun i h st b hb=>by
    have e:b=it:=by simpa using hb
    subst e
    exact ⟨_,st,fun v z=>by
      have z':Data.fields _=Data.cell v:=z
      cases z'⟩
  keep:=fun i h h' st k=>k it (by simp) _ st
  item:=by
    intro X hP hw hK hc i pins s σ H E I hf st hg
    subst hP hw hK
    obtain ⟨f0,f1,f2,f3,f4,f5⟩:=hf it (by simp)
    have W:=Walks.range (prog:=X.prog) (w:=X.w) (I.ok.hd hc) it lo 1 n
    refine W.item i s _ _ hg st fun v h' tk hv st' kk=>?_
    obtain ⟨t,rfl⟩:=hv
    have I1:Inv X pins σ H { s with heap:=h',toks:=tk }:=I.turned (fun b o hb e=>kk b o (by simpa using hb) e) f0 f1 f3 f4 f5
    refine ⟨_,rfl,a1d (s:={ s with heap:=h',toks:=tk }) (n := "range_iterator") st' rfl rfl (by decide) ⟨.int (lo+i),H,I1,⟨t,?_⟩,⟨rfl,rfl⟩,st',fun b hb=>(hf b hb).1⟩⟩
    rw [Int.mul_one]
  done:=by
    intro X hP hw hK hc i pins s σ H E I hf st hg
    subst hP hw hK
    obtain ⟨f0,f1,f2,f3,f4,f5⟩:=hf it (by simp)
    exact wpAny_pyNext_range_end (I.ok.hd hc) st (by have:n≤i:=hg; omega) fun h' eb=>⟨rfl,I.turned (t':=s.toks) (fun b o hb e=>eb b o hb e) f0 f1 f3 f4 f5⟩
  self:=fun _ _ _ _ _ st h=>wpAny_pyIter_rangeiter st h
end L2
namespace L2
open PySem PySem.Spec PyProof.Rows
noncomputable section
variable {X:Cx} {tg:Expr}
theorem U4 {pins:List (Addr × Obj)} {σ:St} {H:Hp} {s:Shared} {R:It→Hp→Prop} {E:Value→Shared→Prop} {lo hi:Int} {t u v:Tok} {tk:Nat} (I:Inv X pins σ H s) (h1:-(2 ^ 62)≤lo) (h2:lo<2 ^ 62) (h3:-(2 ^ 62)≤hi) (h4:hi<2 ^ 62)
    (q:R (Itr lo (hi - lo).toNat) H):wpAny (model X.prog X.w) X.A (pyIter (.ref s.heap.objs.size)) (PIE X pins σ tg R) E { s with heap:=s.heap.push { cls:=.type "range",data:=.fields #[.int lo t,.int hi u,.int 1 v] },toks:=tk }:=by
  refine wpAny_pyIter_range (IsRange.new ..) (small_one h1 h2 h3 h4) ?_
  have I1:Inv X pins σ H { s with heap:=s.heap.push { cls:=.type "range",data:=.fields #[.int lo t,.int hi u,.int 1 v] },toks:=tk }:=I.kept fun b o e=>Heap.get?_push_of_some _ e
  refine ⟨(s.heap.push { cls:=.type "range",data:=.fields #[.int lo t,.int hi u,.int 1 v] }).objs.size,[(s.heap.push { cls:=.type "range",data:=.fields #[.int lo t,.int hi u,.int 1 v] }).objs.size],_,_,H,rfl,
    I1.kept (t':=tk) fun b o e=>Heap.get?_push_of_some _ e,Vw _ lo (hi - lo).toNat,?_,fun b hb=>?_,q⟩
  · have e1:lo+((0:Nat):Int) * 1=lo:=by simp
    have e2:(((hi - lo).toNat:Nat):Int) - ((0:Nat):Int)=Builtin.Range.rangeSize lo hi 1:=by rw [rangeSize_one]; split <;> omega
    show IsRangeIter _ _ (lo+((0:Nat):Int) * 1) ((((hi - lo).toNat:Nat):Int) - ((0:Nat):Int)) 1
    rw [e1,e2]
    exact Heap.get?_push_size _ rfl
  · have e:b=(s.heap.push { cls:=.type "range",data:=.fields #[.int lo t,.int hi u,.int 1 v] }).objs.size:=by simpa using hb
    subst e
    exact I1.a84 (Nat.le_refl _) (I1.hok.fresh (Nat.le_refl _))
noncomputable def aa2 (ta:TA):TI:=fun σ H R=>ta σ H fun vs H1=>∃ j:Int,vs=[.int j]∧-(2 ^ 62)≤j∧j<2 ^ 62∧R (Itr 0 j.toNat) H1
noncomputable def aam (ta:TA):TI:=fun σ H R=>ta σ H fun vs H1=>∃ i j:Int,vs=[.int i,.int j]∧(-(2 ^ 62)≤i∧i<2 ^ 62∧-(2 ^ 62)≤j∧j<2 ^ 62)∧R (Itr i (j - i).toNat) H1
theorem a0g {a:Expr} {ta:TA} {p pos:Pos} (hg:Gl X "range") (hm:X.mg "range" = none) (ha:PA X [a] ta) (hs:starEach [a] X.env=[(false,eval a X.env)]:=by rfl):PI X tg (.Call (.Name "range" p) [a] [] pos) (aa2 ta):=by
  intro pins s σ H R I h
  refine Call_ (Ly I hg hm boot_range (PyProof.Rows.callWith_type1 (thn (ha pos pins s σ H _ I h) fun us s1 z0=>?_) hs rfl))
  obtain ⟨vs,H1,I1,r1,q1⟩:=z0
  obtain ⟨j,e,q1,q2,q⟩:=q1
  subst e
  cases r1 with
  | cons r rr =>
    cases rr
    obtain ⟨t,rfl⟩:=r
    exact call_range_1 (U4 I1 (by omega) (by omega) q1 q2 (by simpa using q))
theorem Y5 {a b:Expr} {ta:TA} {p pos:Pos} (hg:Gl X "range") (hm:X.mg "range" = none) (ha:PA X [a,b] ta) (hs:starEach [a,b] X.env=[(false,eval a X.env),(false,eval b X.env)]:=by rfl) (hs2:starEach [b] X.env=[(false,eval b X.env)]:=by rfl) :
    PI X tg (.Call (.Name "range" p) [a,b] [] pos) (aam ta):=by
  intro pins s σ H R I h
  refine Call_ (Ly I hg hm boot_range (PyProof.Rows.callWith_type1 (thn (ha pos pins s σ H _ I h) fun us s1 z0=>?_) (by rw [hs,hs2]) (by rw [hs2]; rfl)))
  obtain ⟨vs,H1,I1,r1,q1⟩:=z0
  obtain ⟨i,j,e,⟨q1,q2,q3,q4⟩,q⟩:=q1
  subst e
  cases r1 with
  | cons r rr =>
    cases rr with
    | cons r' rr =>
      cases rr
      obtain ⟨t,rfl⟩:=r
      obtain ⟨t',rfl⟩:=r'
      exact call_range_2 (U4 I1 q1 q2 q3 q4 q)
noncomputable def acz (wi:TI) (g:TG) (tb:TS):TS:=fun D σ H=>wi σ H fun J H1=>∃ W:Nat→Nat→St→Hp→Prop,(∃ m,W 0 m σ H1)∧∀ i m σ H,W i m σ H →
  (J.stop i H∧D.nx σ H)∨(J.go i H∧∃ N:St→Hp→Prop,(∀ σ' H',N σ' H'→∃ m',m'<m∧W (i+1) m' σ' H')∧∀ x H',J.yld i H x H'→g x σ H' fun σ2 H2=>tb { D with nx:=N,ct:=N,bk:=D.nx } σ2 H2)
noncomputable def Qi (fp:List Addr) (h:Heap):List (Addr × Obj):=fp.filterMap fun b=>(h.get? b).map fun o=>(b,o)
theorem Bq {fp:List Addr} {h:Heap} {b:Addr} {o:Obj} (hb:b∈fp) (e:h.get? b=some o):(b,o)∈Qi fp h:=List.mem_filterMap.mpr ⟨b,hb,by rw [e]; rfl⟩
theorem Yq {fp:List Addr} {h:Heap} {p:Addr × Obj} (hp:p∈Qi fp h):p.1∈fp∧h.get? p.1=some p.2:=by
  obtain ⟨b,hb,e⟩:=List.mem_filterMap.mp hp
  cases q:h.get? b with
  | none=>rw [q] at e; cases e
  | some o =>
    rw [q] at e
    have e':(b,o)=p:=Option.some.inj e
    subst e'
    exact ⟨hb,q⟩
theorem Inv.pinned {pins:List (Addr × Obj)} {σ:St} {H:Hp} {s:Shared} {fp:List Addr} (I:Inv X pins σ H s) (hf:∀ b∈fp,Vf X pins H b) (ho:∀ b∈fp,∃ o,s.heap.get? b=some o∧∀ v,o.data≠.cell v):Inv X (pins++Qi fp s.heap) σ H s :=
  I.Yj fun p hp=>(List.mem_append.mp hp).elim (fun z=>I.pin p (List.mem_append_right _ z)) fun z=>by
    obtain ⟨hb,e⟩:=Yq z
    obtain ⟨f0,f1,f2,_⟩:=hf p.1 hb
    obtain ⟨o,e',d⟩:=ho p.1 hb
    rw [e] at e'; cases e'
    exact ⟨e,f0,f1,f2,d⟩
theorem Inv.G3 {pins pl:List (Addr × Obj)} {σ:St} {H:Hp} {s:Shared} (I:Inv X (pins++pl) σ H s):Inv X pins σ H s:=I.Yj fun p hp=>I.pin p (List.mem_append_right _ (List.mem_append_left _ hp))
theorem a8h {iter:Expr} {body:List Stmt} {wi:TI} {g:TG} {tb:TS} {pos:Pos} (hp:PassesOwn (model X.prog X.w) X.A X.env X.xe) (hc:X.calm=true) (hi:PI X tg iter wi) (hg:PG X tg g) (hb:PSs X body tb)
    (hs:∀ x,foldedSetIterable iter X.env x=pure x:=by intro _; rfl):PS X (.For tg iter body [] pos) (acz wi g tb):=by
  intro pins s σ H D I h
  refine wpAny_For (thn (hi pins s σ H _ I h) fun v s1 h1=>thn h1 fun itv s2 h2=>?_) hs
  obtain ⟨it,fp,tn,J,H2,e,I2,T,st2,f2,W,⟨m0,w0⟩,turn⟩:=h2
  subst e
  have stat:∀ {H':Hp},(∀ b∈fp,H' b=none)→∀ b∈fp,Vf X pins H' b:=fun hn b hb=>⟨hn b hb,(f2 b hb).2⟩
  refine codeAny_forLoop_any (fun n s'=>∃ i σ' H',Inv X pins σ' H' s'∧tn i s'.heap∧(∀ b∈fp,H' b=none)∧W i n σ' H') ?_ m0 ⟨0,σ,H2,I2,st2,fun b hb=>(f2 b hb).1,w0⟩
  rintro n s3 ⟨i,σ3,H3,I3,st3,fr3,w3⟩
  rcases turn i n σ3 H3 w3 with ⟨stop,qn⟩ | ⟨go,N,hN,step⟩
  · refine wpAny_passesOwn hp (thn (T.done X rfl rfl rfl hc i pins s3 σ3 H3 X.xe I3 (stat fr3) st3 stop) fun r s4 z0=>?_)
    obtain ⟨hr,I4⟩:=z0
    subst hr
    exact wpAny_execs_nil ⟨σ3,H3,I4,qn⟩
  · refine wpAny_passesOwn hp (thn (T.item X rfl rfl rfl hc i pins s3 σ3 H3 X.xe I3 (stat fr3) st3 go) fun r s4 z0=>?_)
    obtain ⟨u,hr,h4⟩:=z0
    subst hr
    refine wpAny_passesOwn hp (thn h4 fun _ s5 z0=>?_)
    obtain ⟨x,H5,I5,r5,y5,st5,fr5⟩:=z0
    have I5':=I5.pinned (stat fr5) (T.obj _ _ st5)
    refine wpAny_passesOwn hp (thn (hg _ s5 σ3 H5 x u _ I5' r5 (step x H5 y5)) fun _ s6 z0=>?_)
    obtain ⟨σ6,H6,I6,q6⟩:=z0
    refine wpAny_passesOwn hp (thn (hb _ s6 σ6 H6 _ I6 q6) fun f s7 q7=>?_)
    have again:∀ {σ7:St} {H7:Hp},Inv X (pins++Qi fp s5.heap) σ7 H7 s7→N σ7 H7→∃ m,m<n∧∃ i σ' H',Inv X pins σ' H' s7∧tn i s7.heap∧(∀ b∈fp,H' b=none)∧W i m σ' H':=fun {σ7 H7} I7 n7=>by
      obtain ⟨m',hm,w7⟩:=hN σ7 H7 n7
      refine ⟨m',hm,i+1,σ7,H7,I7.G3,T.keep _ _ _ st5 fun b hb o e=>(I7.pin (b,o) (List.mem_append_right _ (List.mem_append_right _ (Bq hb e)))).1,fun b hb=>?_,w7⟩
      obtain ⟨o,e,d⟩:=T.obj _ _ st5 b hb
      exact (I7.pin (b,o) (List.mem_append_right _ (List.mem_append_right _ (Bq hb e)))).2.1
    cases f with
    | next=>obtain ⟨σ7,H7,I7,n7⟩:=q7; exact again I7 n7
    | cont=>obtain ⟨σ7,H7,I7,n7⟩:=q7; exact again I7 n7
    | brk=>obtain ⟨σ7,H7,I7,q7⟩:=q7; exact ⟨σ7,H7,I7.G3,q7⟩
    | ret v=>obtain ⟨x7,σ7,H7,I7,r7,q7⟩:=q7; exact ⟨x7,σ7,H7,I7.G3,r7,q7⟩
end
end L2
namespace L2
open PySem PySem.Spec PyProof.Rows
noncomputable abbrev R2:=V→V→Hp→VK→Prop
noncomputable def OpR (X:Cx) (f:Value→Value→Sem Value) (r:R2):Prop :=
  ∀ (pins:List (Addr × Obj)) (s:Shared) (σ:St) (H:Hp) (x y:V) (v u:Value) (Q:VK),Inv X pins σ H s→RelV x v→RelV y u→r x y H Q →
    wpAny (model X.prog X.w) X.A (f v u) (EP X pins σ Q) X.xe s
noncomputable def UnR (X:Cx) (f:Value→Sem Value) (r:V→Hp→VK→Prop):Prop :=
  ∀ (pins:List (Addr × Obj)) (s:Shared) (σ:St) (H:Hp) (x:V) (v:Value) (Q:VK),Inv X pins σ H s→RelV x v→r x H Q →
    wpAny (model X.prog X.w) X.A (f v) (EP X pins σ Q) X.xe s
noncomputable def Ey (X:Cx) (f:Value) (r:List V→Hp→VK→Prop):Prop :=
  ∀ (pins:List (Addr × Obj)) (s:Shared) (σ:St) (H:Hp) (xs:List V) (us:List Value) (Q:VK),Inv X pins σ H s→Vals xs us→r xs H Q →
    wpAny (model X.prog X.w) X.A (call f us) (EP X pins σ Q) X.xe s
noncomputable def tOp (r:R2) (ta tb:TE):TE:=fun σ H Q=>ta σ H fun x H1=>tb σ H1 fun y H2=>r x y H2 Q
noncomputable def tUn (r:V→Hp→VK→Prop) (ta:TE):TE:=fun σ H Q=>ta σ H fun x H1=>r x H1 Q
noncomputable def rI (C:Int→Int→Prop) (g:Int→Int→V):R2:=fun x y H Q=>∃ i j,x=.int i∧y=.int j∧C i j∧Q (g i j) H
noncomputable def rI0 (g:Int→Int→V):R2:=fun x y H Q=>∃ i j,x=.int i∧y=.int j∧Q (g i j) H
noncomputable def rU (g:Int→V):V→Hp→VK→Prop:=fun x H Q=>∃ i,x=.int i∧Q (g i) H
noncomputable section
variable {X:Cx} {a b c:Expr} {ta tb tc:TE} {pos:Pos}
theorem abf (ha:PE X a ta) (hb:PE X b tb) {pins:List (Addr × Obj)} {s:Shared} {σ:St} {H:Hp} {R:V→V→Hp→Prop} (I:Inv X pins σ H s)
    (h:ta σ H fun x H1=>tb σ H1 fun y H2=>R x y H2) {Q:Value→Shared→Prop} {f:Value→Value→Sem Value}
    (hf:∀ v u s2 x y H2,Inv X pins σ H2 s2→RelV x v→RelV y u→R x y H2→wpAny (model X.prog X.w) X.A (f v u) Q X.xe s2) :
    wpAny (model X.prog X.w) X.A (eval a X.env) (fun v s₁=>wpAny (model X.prog X.w) X.A (eval b X.env) (fun u s₂=>wpAny (model X.prog X.w) X.A (f v u) Q X.xe s₂) X.xe s₁) X.xe s:=by
  refine thn (ha pins s σ H _ I h) fun v s1 z0=>?_
  obtain ⟨x,H1,I1,r1,q1⟩:=z0
  refine thn (hb pins s1 σ H1 _ I1 q1) fun u s2 z0=>?_
  obtain ⟨y,H2,I2,r2,q2⟩:=z0
  exact hf v u s2 x y H2 I2 r1 r2 q2
theorem a9v {op:Operator} {r:R2} (ho:OpR X (binaryOp op) r) (ha:PE X a ta) (hb:PE X b tb):PE X (.BinOp a op b pos) (tOp r ta tb):=by
  intro pins s σ H Q I h
  exact wpAny_BinOp (abf ha hb I h fun v u s2 x y H2 I2 rx ry q=>ho pins s2 σ H2 x y v u Q I2 rx ry q)
theorem ab7 {op:UnaryOp} {r:V→Hp→VK→Prop} (ho:UnR X (unaryOp op) r) (ha:PE X a ta):PE X (.UnaryOp op a pos) (tUn r ta):=by
  intro pins s σ H Q I h
  exact UnaryOp_ (thn (ha pins s σ H _ I h) fun v s1 z7=>by obtain ⟨x,H1,I1,r1,q1⟩:=z7; exact ho pins s1 σ H1 x v Q I1 r1 q1)
theorem opI {f:Value→Value→Sem Value} {C:Int→Int→Prop} {g:Int→Int→Int}
    (rule:∀ (i j:Int) (t u:Tok) (s:Shared) (Q:Value→Shared→Prop) (E:Value→Shared→Prop),C i j→Q (.int (g i j) s.toks) { s with toks:=s.toks+1 }→wpAny (model X.prog X.w) X.A (f (.int i t) (.int j u)) Q E s) :
    OpR X f (rI C fun i j=>.int (g i j)):=by
  intro pins s σ H x y v u Q I rx ry h
  obtain ⟨i,j,rfl,rfl,hc,q⟩:=h
  obtain ⟨t,rfl⟩:=rx
  obtain ⟨t',rfl⟩:=ry
  exact rule i j t t' s _ _ hc ⟨.int (g i j),H,I.tok _,⟨_,rfl⟩,q⟩
theorem abu {f:Value→Value→Sem Value} {g:Int→Int→Int}
    (rule:∀ (i j:Int) (t u:Tok) (s:Shared) (Q:Value→Shared→Prop) (E:Value→Shared→Prop),Q (.int (g i j) s.toks) { s with toks:=s.toks+1 }→wpAny (model X.prog X.w) X.A (f (.int i t) (.int j u)) Q E s) :
    OpR X f (rI0 fun i j=>.int (g i j)):=by
  intro pins s σ H x y v u Q I rx ry h
  obtain ⟨i,j,rfl,rfl,q⟩:=h
  obtain ⟨t,rfl⟩:=rx
  obtain ⟨t',rfl⟩:=ry
  exact rule i j t t' s _ _ ⟨.int (g i j),H,I.tok _,⟨_,rfl⟩,q⟩
theorem ac0 {f:Value→Value→Sem Value} {g:Int→Int→Bool}
    (rule:∀ (i j:Int) (t u:Tok) (s:Shared) (Q:Value→Shared→Prop) (E:Value→Shared→Prop),Q (.bool (g i j)) s→wpAny (model X.prog X.w) X.A (f (.int i t) (.int j u)) Q E s) :
    OpR X f (rI0 fun i j=>.bl (g i j)):=by
  intro pins s σ H x y v u Q I rx ry h
  obtain ⟨i,j,rfl,rfl,q⟩:=h
  obtain ⟨t,rfl⟩:=rx
  obtain ⟨t',rfl⟩:=ry
  exact rule i j t t' s _ _ ⟨.bl (g i j),H,I,rfl,q⟩
noncomputable def aax (i j:Int):Prop:=(-(2 ^ 64)<i∧i<2 ^ 64)∨(-(2 ^ 64)<j∧j<2 ^ 64)
theorem aax.ok {i j:Int} (h:aax i j):IntMulOk i j:=by
  rcases h with ⟨h1,h2⟩ | ⟨h1,h2⟩
  · exact .of_left (intBits_le_64 h1 h2)
  · exact .of_right (intBits_le_64 h1 h2)
theorem a8f:OpR X (binaryOp .Add) (rI0 fun i j=>.int (i+j)):=abu fun _ _ _ _ _ _ _ q=>add_int q
theorem a7d:OpR X (binaryOp .Sub) (rI0 fun i j=>.int (i - j)):=abu fun _ _ _ _ _ _ _ q=>sub_int q
theorem a7b:OpR X (binaryOp .Mult) (rI aax fun i j=>.int (i * j)):=opI fun _ _ _ _ _ _ _ hc q=>mul_int q hc.ok
theorem a7k:OpR X (binaryOp .Mod) (rI (fun _ j=>0<j) fun i j=>.int (i%j)):=opI fun i j _ _ _ _ _ hc q=>by
  have h1:(0:Int)<j:=hc
  exact mod_int' (by omega) (by rw [Int.fmod_eq_emod_of_nonneg i (by omega)]; exact q)
theorem unI {f:Value→Sem Value} {g:Int→Int}
    (rule:∀ (i:Int) (t:Tok) (s:Shared) (Q:Value→Shared→Prop) (E:Value→Shared→Prop),Q (.int (g i) s.toks) { s with toks:=s.toks+1 }→wpAny (model X.prog X.w) X.A (f (.int i t)) Q E s) :
    UnR X f (rU fun i=>.int (g i)):=by
  intro pins s σ H x v Q I rx h
  obtain ⟨i,rfl,q⟩:=h
  obtain ⟨t,rfl⟩:=rx
  exact rule i t s _ _ ⟨.int (g i),H,I.tok _,⟨_,rfl⟩,q⟩
theorem a82:UnR X (unaryOp .USub) (rU fun i=>.int (-i)):=unI fun _ _ _ _ _ q=>neg_int q
end
noncomputable def Wi:V→V→Bool
  | .non,.non=>true | .non,.int _=>true | .int _,.non=>true | .non,.bl _=>true | .bl _,.non=>true | .non,.str _=>true | .str _,.non=>true
  | .int _,.int _=>true | .bl _,.bl _=>true | .str _,.str _=>true | .byt _,.byt _=>true
  | .int _,.str _=>true | .str _,.int _=>true | .bl _,.str _=>true | .str _,.bl _=>true
  | _,_=>false
noncomputable section
variable {X:Cx} {a b c:Expr} {ta tb tc:TE} {pos:Pos}
theorem abb:OpR X (compareOp .Lt) (rI0 fun i j=>.bl (decide (i<j))):=ac0 fun _ _ _ _ _ _ _ q=>lt_int q
theorem a9x:OpR X (compareOp .LtE) (rI0 fun i j=>.bl (decide (i≤j))):=ac0 fun _ _ _ _ _ _ _ q=>le_int q
theorem OpR.or {f:Value→Value→Sem Value} {r r':R2} (h:OpR X f r) (h':OpR X f r'):OpR X f (fun x y H Q=>r x y H Q∨r' x y H Q):=by
  intro pins s σ H x y v u Q I rx ry q
  rcases q with q | q
  · exact h pins s σ H x y v u Q I rx ry q
  · exact h' pins s σ H x y v u Q I rx ry q
theorem jr (b:Expr) {op:CmpOp} (h:op≠.In:=by decide) (h2:op≠.NotIn:=by decide):behindInMarks op b=false:=by
  have e1:(op==CmpOp.In)=false:=by cases op <;> first | rfl | exact absurd rfl h
  have e2:(op==CmpOp.NotIn)=false:=by cases op <;> first | rfl | exact absurd rfl h2
  cases b <;> simp [behindInMarks,e1,e2]
theorem a6j {op:CmpOp} {r:R2} (ho:OpR X (compareOp op) r) (ha:PE X a ta) (hb:PE X b tb) (hm:behindInMarks op b=false):PE X (.Compare a [op] [b] pos) (tOp r ta tb):=by
  intro pins s σ H Q I h
  exact wpAny_Compare1 (abf ha hb I h fun v u s2 x y H2 I2 rx ry q=>ho pins s2 σ H2 x y v u Q I2 rx ry q) hm
noncomputable def a8b (t:TE):TT:=fun σ H Q=>t σ H fun x H'=>∃ k,x=.bl k∧Q k H'
theorem a5p {op:CmpOp} {r:R2} (ho:OpR X (compareOp op) r) (ha:PE X a ta) (hb:PE X b tb) (hm:behindInMarks op b=false):PT X (.Compare a [op] [b] pos) (a8b (tOp r ta tb)):=by
  intro pins s σ H Q I h
  refine wpAny_isTrue_Compare1 (thn (ha pins s σ H _ I h) fun v s1 ⟨x,H1,I1,r1,q1⟩=>thn (hb pins s1 σ H1 _ I1 q1) fun u s2 ⟨y,H2,I2,r2,q2⟩ =>
    thn (ho pins s2 σ H2 x y v u _ I2 r1 r2 q2) fun c s3 ⟨z,H3,I3,r3,k,e,q3⟩=>?_) hm
  subst e
  cases r3
  exact wpAny_truthy_bool ⟨H3,I3,q3⟩
theorem Pa:(sizeLine:Nat)<2 ^ 63:=by rw [sizeLine_eq]; decide
theorem Vq:OpR X (binaryOp .Add) (fun x y H Q=>∃ i j,x=.str i∧y=.str j∧i.length+j.length≤sizeLine∧Q (.str (i++j)) H):=by
  intro pins s σ H x y v u Q I rx ry h
  obtain ⟨i,j,rfl,rfl,hz,q⟩:=h
  obtain ⟨t,rfl⟩:=rx
  obtain ⟨t',rfl⟩:=ry
  exact add_str (fun t' tk=>⟨.str (i++j),H,I.tok _,⟨_,rfl⟩,q⟩) hz
theorem vals1 {x:V} {us:List Value} (r:Vals [x] us):∃ u,us=[u]∧RelV x u:=by
  cases r with
  | cons r1 r2=>cases r2; exact ⟨_,rfl,r1⟩
theorem Pz:Ey X (.type "int") (fun xs H Q=>(∃ i,xs=[.int i]∧Q (.int i) H)∨∃ k,xs=[.bl k]∧Q (.int (if k then 1 else 0)) H):=by
  intro pins s σ H xs us Q I r h
  rcases h with ⟨i,rfl,q⟩ | ⟨k,rfl,q⟩
  · obtain ⟨u,rfl,t,rfl⟩:=vals1 r
    exact call_int_int ⟨.int i,H,I,⟨_,rfl⟩,q⟩
  · obtain ⟨u,rfl,r1⟩:=vals1 r
    cases r1
    exact call_int_bool ⟨.int (if k then 1 else 0),H,I.tok _,⟨_,rfl⟩,q⟩
end
end L2
namespace L2
open PySem PySem.Spec PyProof.Rows
structure ad9 (h:Heap) (x dx C:Addr) (mA:Str→Option Value):Prop where
  obj:h.get? x=some (PySem.W.instObj C dx)
  ns:h.Ns1 dx mA
  ne:dx≠x
noncomputable section
variable {prog:Program} {w:World} {A:Around} {E:Value→Shared→Prop} {s:Shared} {K:PySem.W.Frag} {x dx C f:Addr} {mA:Str→Option Value} {name:Str} {v:Value}
end
theorem R7.some_of {v:V} {o:Option Value} (r:R7 (some v) o):∃ u,o=some u∧RelV v u:=by
  cases o with
  | none=>exact (show False from r).elim
  | some u=>exact ⟨u,rfl,r⟩
theorem R7.none_of {o:Option Value} (r:R7 none o):o=none:=by
  cases o with
  | none=>rfl
  | some u=>exact (show False from r).elim
noncomputable section
variable {P:Program} {w:World} {H H':Hp} {h h':Heap} {a C dx:Addr} {fs fs':List (Str × V)}
end
structure Cls (K:PySem.W.Frag) (C:Addr):Prop where
  pg:PySem.W.plainGet K C Str.empty=true
  hd:PySem.W.hasDictIn K C=true
  po:PySem.W.plainOver K C=true
  sa:PySem.W.findIn K (.ref C) "__setattr__" = some (some (.builtin "object.__setattr__"))
theorem Cls.get {K:PySem.W.Frag} {C:Addr} (c:Cls K C) (f:Str):PySem.W.plainGet K C f=true:=c.pg
structure Con (K:PySem.W.Frag) (C:Addr) (f:Str) (v:V) (u:Value):Prop where
  at_:PySem.W.findIn K (.ref C) f=some (some u)
  rel:RelV v u
  get:PySem.W.specialIn K u "__get__" = some none
  cp:PySem.W.copiedNames.contains f=false
structure Meth (K:PySem.W.Frag) (C:Addr) (m:Str) (f:Addr):Prop where
  at_:PySem.W.findIn K (.ref C) m=some (some (.ref f))
  fn:PySem.W.isFn K (.ref f)=true
  kp:PySem.W.keepIn K (.ref f)=true
noncomputable section
variable {X:Cx} {pins:List (Addr × Obj)} {σ:St} {H:Hp} {s:Shared} {a C dx:Addr} {fs:List (Str × V)} {f:Str} {v:V} {A:Around} {E:Value→Shared→Prop}
end
noncomputable section
variable {X:Cx} {o e value:Expr} {f:Str} {pos pos' tpos:Pos} {ta tv:TE}
end
noncomputable section
variable {X:Cx} {pins:List (Addr × Obj)} {σ:St} {H:Hp} {s:Shared} {A:Around} {E:Value→Shared→Prop} {Q:Value→Shared→Prop} {c:Value} {b:Bool}
inductive a0o (K:PySem.W.Frag) (H:Hp):V→Value→Prop where
  | non:a0o K H .non (.type "NoneType")
  | bl (x:Bool):a0o K H (.bl x) (.type "bool")
  | int (i:Int):a0o K H (.int i) (.type "int")
  | str (x:Str):a0o K H (.str x) (.type "str")
  | flt (x:UInt64):a0o K H (.flt x) (.type "float")
  | lst {a:Addr} {xs:List V} (e:H a=some (.lst xs)):a0o K H (.ref a) (.type "list")
  | frz {a:Addr} {o:Obj} {xs:List V} (e:H a=some (.frz o (.lst xs))):a0o K H (.ref a) (.type "list")
  | tup {a:Addr} {xs:List V} (e:H a=some (.tup xs)):a0o K H (.ref a) (.type "tuple")
  | dK {a:Addr} {kvs:List (Key × V)} (e:H a=some (.dK kvs)):a0o K H (.ref a) (.type "dict")
  | dT {a:Addr} {kvs:List (List Key × V)} (e:H a=some (.dT kvs)):a0o K H (.ref a) (.type "dict")
  | ins {a C dx:Addr} {fs:List (Str × V)} (e:H a=some (.ins C dx fs)) (cl:Cls K C) (ha:PySem.W.findIn K (.ref C) "__class__" = some (some (.builtin "object.__class__")))
      (hn:PySem.W.specialIn K (.builtin "object.__class__") "__get__" = some (some (.builtin "getset_descriptor.__get__"))) (htk:PySem.W.takesIn K (.builtin "object.__class__")=some true)
      (hm:PySem.W.mroIn K C (.type "object")=some true):a0o K H (.ref a) (.ref C)
end
end L2
namespace L2
open PySem PySem.Spec PyProof.Rows
structure Jr (k:Nat) (A:Around):Prop where
  hd:A.handled=none
  dp:A.depth+3 * k+5<recursionLimit
  un:A.units+16 * k+200<cLine
theorem Jr.mono {j k:Nat} {A:Around} (r:Jr k A) (h:j≤k):Jr j A:=⟨r.hd,by have:=r.dp; omega,by have:=r.un; omega⟩
theorem Jr.deeper {k:Nat} {A:Around} (r:Jr (k+1) A) (env:Env):Jr k (A.deeper env) :=
  ⟨r.hd,by have:=r.dp; show A.depth+1+3 * k+5<_; omega,by have:=r.un; show A.units+3+16 * k+200<_; omega⟩
theorem Jr.depth {k:Nat} {A:Around} (r:Jr k A):A.depth<recursionLimit:=by have:=r.dp; omega
theorem Jr.units {k:Nat} {A:Around} (r:Jr k A):A.units+64<cLine:=by have:=r.un; omega
noncomputable def a81:TA:=fun _ H Q=>Q [] H
noncomputable def Vr (ta:TE) (tr:TA):TA:=fun σ H Q=>ta σ H fun x H1=>tr σ H1 fun xs H2=>Q (x::xs) H2
noncomputable section
variable {X:Cx} {e:Expr} {es:List Expr} {te:TE} {t:TA} {pos:Pos}
theorem wz:PA X [] a81:=fun _ _ _ _ H Q I h=>Calls.spliced_nil ⟨[],H,I,.nil,h⟩
theorem su (ha:PE X e te) (hr:PA X es t) (hs:starEach (e::es) X.env=(false,eval e X.env)::starEach es X.env:=by rfl):PA X (e::es) (Vr te t):=by
  intro pos pins s σ H Q I h
  rw [hs]
  show wpAny _ _ (spliced ((false,eval e X.env)::backTo pos (starEach es X.env))) _ _ s
  refine Calls.spliced_cons (thn (ha pins s σ H _ I h) fun u s1 z0=>?_)
  obtain ⟨x,H1,I1,r1,q1⟩:=z0
  exact thn (hr pos pins s1 σ H1 _ I1 q1) fun us s2 ⟨xs,H2,I2,r2,q2⟩=>⟨x::xs,H2,I2,.cons r1 r2,q2⟩
noncomputable def acn (t:TA):TE:=fun σ H Q=>t σ H fun xs H1=>xs.length≤sizeLine∧∀ p,H1 p=none→Q (.ref p) (upd H1 p (.tup xs))
noncomputable def ac4 (t:TA):TE:=fun σ H Q=>t σ H fun xs H1=>xs.length≤sizeLine∧∀ p,H1 p=none→Q (.ref p) (upd H1 p (.lst xs))
theorem a3n {x1} (h:PA X es t):PE X (.Tuple es x1 pos) (acn t):=by
  intro pins s σ H Q I hq
  refine wpAny_Tuple_spliced (thn (h pos pins s σ H _ I hq) fun us s1 ⟨xs,H1,I1,r,z,q⟩=>⟨by rw [← r.length]; exact z,?_⟩)
  have hf:H1 s1.heap.objs.size=none:=I1.hok.fresh (Nat.le_refl _)
  refine ⟨.ref s1.heap.objs.size,upd H1 s1.heap.objs.size (.tup xs),I1.laid (t':=s1.toks) (fun b u e=>Heap.get?_push_of_some _ e) (Nat.le_refl _) ?_,rfl,q _ hf⟩
  exact ⟨z,us,r,⟨_,Heap.get?_push_size _ rfl,rfl,rfl,_,rfl⟩⟩
theorem a4k (h:PA X es t):PE X (.List es pos) (ac4 t):=by
  intro pins s σ H Q I hq
  refine wpAny_List_spliced (thn (h pos pins s σ H _ I hq) fun us s1 ⟨xs,H1,I1,r,z,q⟩=>⟨by rw [← r.length]; exact z,?_⟩)
  have hf:H1 s1.heap.objs.size=none:=I1.hok.fresh (Nat.le_refl _)
  refine ⟨.ref s1.heap.objs.size,upd H1 s1.heap.objs.size (.lst xs),I1.laid (t':=s1.toks) (fun b u e=>Heap.get?_push_of_some _ e) (Nat.le_refl _) ?_,rfl,q _ hf⟩
  exact ⟨z,us,0,r,Heap.get?_push_size _ rfl⟩
end
noncomputable abbrev Sp:=List V→Hp→VK→XK→Prop
noncomputable abbrev CXT:=List Env→Hp→Shared→XK→Value→Shared→Prop
structure a9q (P:Program) (w:World) (K:PySem.W.Frag) (mg:Str→Option Value) (base:Heap) (A:Around) (outer:List Env) (s:Shared) (H:Hp):Prop where
  frames:A.frames=some outer
  mod:Mod K mg base
  bs:∀ b o,base.get? b=some o→s.heap.get? b=some o∧H b=none
  bsz:base.objs.size≤s.heap.objs.size
  Wk:s.heap.FunFrames base outer
  frf:∀ b∈frs outer,H b=none
  hok:HOk P w H s.heap
  bare:AllBare s.gens
noncomputable def CE (outer:List Env) (P:Program) (w:World) (H:Hp) (s:Shared) (Q:VK) (u:Value) (s':Shared):Prop :=
  ∃ v H',s'.os=s.os∧AllBare s'.gens∧Un (frs outer) [] H H' s.heap s'.heap∧HOk P w H' s'.heap∧RelV v u∧Q v H'
noncomputable def CR (CX:CXT) (outer:List Env) (P:Program) (w:World) (H:Hp) (s:Shared) (Q:VK) (E:XK) (r:Result) (s':Shared):Prop :=
  match r with
  | .ok (.ret u)=>CE outer P w H s Q u s'
  | .ok _=>False
  | .error e=>CX outer H s E e s'
structure yc (P:Program) (w:World) (K:PySem.W.Frag) (mg:Str→Option Value) (base:Heap) (CX:CXT) (k:Nat) (f:Addr) (fd:FuncData) (ps:List Str) (sp:Sp):Prop where
  len:∀ vs H Q E,sp vs H Q E→vs.length=ps.length
  run:∀ (A:Around) (outer:List Env) (s:Shared) (H:Hp) (args:Args) (us:List Value) (vs:List V) (Q:VK) (E:XK),Jr k A→a9q P w K mg base A outer s H→BindsTo s fd args (ps.zip us)→Vals vs us→sp vs H Q E →
    codeAny (model P w) A (.call (.ref f) args) (CR CX outer P w H s Q E) s
theorem yc.mono {P:Program} {w:World} {K:PySem.W.Frag} {mg:Str→Option Value} {base:Heap} {CX:CXT} {j k:Nat} {f:Addr} {fd:FuncData} {ps:List Str} {sp:Sp} (F:yc P w K mg base CX j f fd ps sp) (h:j≤k) :
    yc P w K mg base CX k f fd ps sp:=⟨F.len,fun A outer s H args us vs Q E hr=>F.run A outer s H args us vs Q E (hr.mono h)⟩
theorem yc.imp {P:Program} {w:World} {K:PySem.W.Frag} {mg:Str→Option Value} {base:Heap} {CX:CXT} {k:Nat} {f:Addr} {fd:FuncData} {ps:List Str} {sp sp':Sp} (F:yc P w K mg base CX k f fd ps sp)
    (h:∀ vs H Q E,sp' vs H Q E→sp vs H Q E):yc P w K mg base CX k f fd ps sp' :=
  ⟨fun vs H Q E q=>F.len vs H Q E (h _ _ _ _ q),fun A outer s H args us vs Q E hr he hb hv hs=>F.run A outer s H args us vs Q E hr he hb hv (h _ _ _ _ hs)⟩
noncomputable section
variable {X:Cx} {pins:List (Addr × Obj)} {σ:St} {H:Hp} {s s':Shared}
theorem Inv.env0 (I:Inv X pins σ H s):a9q X.prog X.w X.K X.mg X.base X.A X.stack s H :=
  ⟨I.ok.frames,I.ok.mod,I.bs,Nat.le_trans I.ok.bsz I.sz,I.stack,I.Wr,I.hok,I.bare⟩
theorem Inv.after {Q:VK} {u:Value} (I:Inv X pins σ H s) (h:CE X.stack X.prog X.w H s Q u s'):EP X pins σ Q u s':=by
  obtain ⟨v,H',os,bare,un,hok,r,q⟩:=h
  obtain ⟨hh,g,d,t,os'⟩:=s'
  obtain rfl:os'=s.os:=os
  exact ⟨v,H',I.call (h':=hh) (g':=g) (d':=d) (t':=t) (ch:=[]) un hok bare (fun b z=>absurd z (by simp)),r,q⟩
end
noncomputable def aad (sp:Sp) (dvs:List V) (E:XK) (t:TA):TE:=fun σ H Q=>t σ H fun vs H1=>sp (vs++dvs) H1 Q E
noncomputable def Binds (K:PySem.W.Frag) (fd:FuncData) (ps:List Str) (ds:List Value):Prop :=
  ∀ (s:Shared) (us:List Value),K.In s.heap→(us++ds).length=ps.length→BindsTo s fd ⟨us,[]⟩ (ps.zip (us++ds))
theorem Binds.all {K:PySem.W.Frag} {fd:FuncData} {ps:List Str} (h:∀ us:List Value,us.length=ps.length→bindArgs fd ⟨us,[]⟩=pure (ps.zip us)):Binds K fd ps []:=fun s us _ hl=>by
  rw [List.append_nil] at hl ⊢
  exact .of_eq (h us hl)
noncomputable def Passes (CX:CXT) (X:Cx) (E:XK):Prop:=∀ (pins:List (Addr × Obj)) (σ:St) (H:Hp) (s:Shared) (e:Value) (s':Shared),Inv X pins σ H s→CX X.stack H s E e s'→X.xe e s'
noncomputable section
variable {X:Cx} {CX:CXT} {k:Nat} {f C:Addr} {fd:FuncData} {ps:List Str} {sp:Sp} {dvs:List V} {ds:List Value} {E:XK} {x m:Str} {p pos apos:Pos} {e o:Expr} {es:List Expr} {ta:TE} {t:TA}
theorem a9m {pins:List (Addr × Obj)} {σ:St} {H:Hp} {s:Shared} {Q:VK} {us:List Value} {vs:List V} (F:yc X.prog X.w X.K X.mg X.base CX k f fd ps sp) (hr:Jr k X.A) (hb:Binds X.K fd ps ds) (hd:Vals dvs ds) (hx:Passes CX X E)
    (I:Inv X pins σ H s) (r:Vals vs us) (h:sp (vs++dvs) H Q E):wpAny (model X.prog X.w) X.A (call (.ref f) us) (EP X pins σ Q) X.xe s:=by
  have r2:Vals (vs++dvs) (us++ds):=r.append hd
  have hl:(us++ds).length=ps.length:=by rw [← r2.length]; exact F.len _ _ _ _ h
  refine wpAny_call (codeAny_mono (F.run X.A X.stack s H ⟨us,[]⟩ (us++ds) (vs++dvs) Q E hr I.env0 (hb s us I.kIn hl) r2 h) fun r s' hq=>?_)
  cases r with
  | error e=>exact hx pins σ H s e s' I hq
  | ok fl =>
    cases fl with
    | ret u=>exact I.after hq
    | next=>exact False.elim hq
    | brk=>exact False.elim hq
    | cont=>exact False.elim hq
theorem Xq (F:yc X.prog X.w X.K X.mg X.base CX k f fd ps sp) (hr:Jr k X.A) (hg:Gl X x) (hm:X.mg x=some (.ref f)) (hk:PySem.W.keepIn X.K (.ref f)=true) (hb:Binds X.K fd ps ds) (hd:Vals dvs ds) (hx:Passes CX X E)
    (ha:PA X (e::es) t) (hdb:(x==("__debug__" : Str))=false:=by decide) (he:starEach (e::es) X.env=(false,eval e X.env)::starEach es X.env:=by rfl) (hpl:(backTo pos (starEach es X.env)).any (·.1)=false:=by rfl) :
    PE X (.Call (.Name x p) (e::es) [] pos) (aad sp dvs E t):=by
  intro pins s σ H Q I h
  refine wpAny_Call_Name_kw (a0i I hg hm ?_ hdb)
  refine PySem.W.callWith_K (h₀:=X.base) I.ok.mod.kin hk (thn (ha pos pins s σ H _ I h) fun us s1 ⟨vs,H1,I1,r,q⟩=>⟨I1.kIn,?_⟩) he hpl
  exact a9m F hr hb hd hx I1 r q
structure Mk (K:PySem.W.Frag) (C f:Addr):Prop where
  makes:PySem.W.makesIn K C=true
  init:PySem.W.findIn K (.ref C) "__init__" = some (some (.ref f))
  fn:PySem.W.isFn K (.ref f)=true
  kp:PySem.W.keepIn K (.ref C)=true
end
noncomputable section
variable {X:Cx} {CX:CXT} {k:Nat} {f C:Addr} {fd:FuncData} {ps ks:List Str} {sp:Sp} {E:XK} {x m:Str} {p pos apos kpos:Pos} {e o:Expr} {es:List Expr} {kws:List Keyword} {te ta:TE} {t tk:TA} {nm:Option Str}
structure abz (K:PySem.W.Frag) (fd:FuncData) (ps ks:List Str) (g:List Value→List Value→List Value) (gV:List V→List V→List V):Prop where
  to:∀ (s:Shared) (us ws:List Value),K.In s.heap→(g us ws).length=ps.length→BindsTo s fd ⟨us,ks.zip ws⟩ (ps.zip (g us ws))
  rel:∀ {vs:List V} {us:List Value} {zs:List V} {ws:List Value},Vals vs us→Vals zs ws→Vals (gV vs zs) (g us ws)
variable {g:List Value→List Value→List Value} {gV:List V→List V→List V}
end
structure jc (N P:List Str) (sc:Scope):Prop where
  kind:sc.kind=.function
  co:sc.isCoroutine=false
  gen:sc.isGenerator=false
  nd:N.Nodup
  pre:N.take P.length=P
  par:∀ x∈P,sc.names.lookup x=some .local∨sc.names.lookup x=some .cell
  nofree:∀ y∈sc.names,y.2≠.free
theorem Py {kindOf:Str→Option NameKind} {x:Str}:∀ {binds:List (Str × Value)} {m:Str→Option Value},(∀ v,(x,v)∉binds)→bindL kindOf binds m x=m x
  | [],_,_=>rfl
  | (n,v)::r,m,h=>by
    unfold bindL
    rw [Py fun w hw=>h w (List.mem_cons_of_mem _ hw)]
    split
    · have:x≠n:=by rintro rfl; exact h v List.mem_cons_self
      simp [this]
    · rfl
theorem Qt {kindOf:Str→Option NameKind} {x:Str}:∀ {binds:List (Str × Value)} {m:Str→Option Value},(∀ v,(x,v)∉binds)→bindC kindOf binds m x=m x
  | [],_,_=>rfl
  | (n,v)::r,m,h=>by
    unfold bindC
    rw [Qt fun w hw=>h w (List.mem_cons_of_mem _ hw)]
    split
    · rfl
    · have:x≠n:=by rintro rfl; exact h v List.mem_cons_self
      simp [this]
theorem Om {kindOf:Str→Option NameKind} {x:Str} {v:Value}:∀ {P:List Str} {vs:List Value} {i:Nat} {m:Str→Option Value},P.Nodup→P[i]? = some x→vs[i]? = some v→kindOf x=some .local →
    bindL kindOf (P.zip vs) m x=some v
  | [],_,_,_,_,h,_,_=>by simp at h
  | _::_,[],_,_,_,_,h,_=>by simp at h
  | p::P,w::vs,0,m,nd,h1,h2,hk=>by
    simp at h1 h2; subst h1; subst h2
    show bindL kindOf ((p,w)::P.zip vs) m p=_
    unfold bindL
    rw [Py fun v hv=>(List.nodup_cons.mp nd).1 (List.of_mem_zip hv).1,if_pos hk]
    simp
  | p::P,w::vs,i+1,m,nd,h1,h2,hk=>by
    show bindL kindOf ((p,w)::P.zip vs) m x=_
    unfold bindL
    exact Om (i:=i) (List.nodup_cons.mp nd).2 (by simpa using h1) (by simpa using h2) hk
theorem Qp {kindOf:Str→Option NameKind} {x:Str} {v:Value}:∀ {P:List Str} {vs:List Value} {i:Nat} {m:Str→Option Value},P.Nodup→P[i]? = some x→vs[i]? = some v→kindOf x≠some .local →
    bindC kindOf (P.zip vs) m x=some v
  | [],_,_,_,_,h,_,_=>by simp at h
  | _::_,[],_,_,_,_,h,_=>by simp at h
  | p::P,w::vs,0,m,nd,h1,h2,hk=>by
    simp at h1 h2; subst h1; subst h2
    show bindC kindOf ((p,w)::P.zip vs) m p=_
    unfold bindC
    rw [Qt fun v hv=>(List.nodup_cons.mp nd).1 (List.of_mem_zip hv).1,if_neg hk]
    simp
  | p::P,w::vs,i+1,m,nd,h1,h2,hk=>by
    show bindC kindOf ((p,w)::P.zip vs) m x=_
    unfold bindC
    exact Qp (i:=i) (List.nodup_cons.mp nd).2 (by simpa using h1) (by simpa using h2) hk
noncomputable def start (N:List Str) (vs:List V):St:=vs.map some++List.replicate (N.length - vs.length) none
noncomputable def a3v (CX:CXT) (P:Program) (w:World) (K:PySem.W.Frag) (mg:Str→Option Value) (base:Heap) (N:List Str) (qual:Str) (scope:Scope) (f:Addr) (cd:Value) (A:Around) (outer:List Env) (s:Shared) (H:Hp) (E:XK):Cx where
  prog:=P
  w:=w
  K:=K
  mg:=mg
  base:=base
  A:=A.deeper (envOfC qual scope s.heap.objs.size f cd)
  N:=N
  s₀:=s
  H₀:=H
  env:=envOfC qual scope s.heap.objs.size f cd
  outer:=outer
  stack:=envOfC qual scope s.heap.objs.size f cd::outer
  ex:=[]
  calm:=true
  fn:=fun _=>true
  pn:=[]
  xe:=fun e s'=>wpAny (model P w) (A.deeper (envOfC qual scope s.heap.objs.size f cd)) (leaving (envOfC qual scope s.heap.objs.size f cd) e) (fun _ s''=>CX outer H s E e s'') (fun e' s''=>CX outer H s E e' s'') s'
theorem Uc {sc:Scope} {n:Nat} {x:Str} (h:sc.names.lookup x=some .cell):∃ c,(cellsFrom n sc.names []).lookup x=some c:=by
  have q:=PySem.W.cellsFrom_some sc.names n [] (.inl h)
  exact Option.isSome_iff_exists.mp q
theorem Yv {CX:CXT} {P:Program} {w:World} {K:PySem.W.Frag} {mg:Str→Option Value} {base:Heap} {N ps:List Str} {qual:Str} {scope:Scope} {f:Addr} {cd:Value} {A:Around} {outer:List Env} {s s1:Shared} {H:Hp} {E:XK} {us:List Value} {vs:List V}
    (S:jc N ps scope) (hd:A.handled=none) (e0:a9q P w K mg base A outer s H) (hl:vs.length=ps.length) (r:Vals vs us)
    (x:InCallC s s.heap.objs.size (bindL (envOfC qual scope s.heap.objs.size f cd).kindOf (ps.zip us) fun _=>none) (cellsFrom (s.heap.objs.size+1) scope.names []) (bindC (envOfC qual scope s.heap.objs.size f cd).kindOf (ps.zip us) fun _=>none) s1) :
    Inv (a3v CX P w K mg base N qual scope f cd A outer s H E) [] (start N vs) H s1:=by
  have hpl:ps.length≤N.length:=by have:=congrArg List.length S.pre; rw [List.length_take] at this; omega
  obtain ⟨h1,tk,rfl,hk⟩:=x.done
  have noA:∀ b:Addr,b∉(a3v CX P w K mg base N qual scope f cd A outer s H E).ex:=fun b z=>absurd (show b∈([]:List Addr) from z) (by simp)
  refine ⟨⟨e0.mod,S.kind,rfl,rfl,Nat.le_refl _,fun y z c h1 h2=>?_,fun y hy=>?_,fun y c _ h=>?_,fun _=>hd,Around.frames_deeper e0.frames,.inr ⟨rfl,rfl⟩,fun b z=>absurd z (noA b),e0.bs,e0.bsz,fun b _ _=>noA b,fun b z=>absurd z (noA b),e0.Wk,e0.frf⟩,
    rfl,e0.bare,Un.kept hk,⟨_,x.toInCall.ns,fun i y v h1 h2 h3=>?_⟩,fun y c h=>⟨_,x.cell y c h⟩,e0.hok.fresh (Nat.le_refl _),fun y c h=>?_,fun p hp=>absurd (show p∈([]:List (Addr × Obj)) from hp) (by simp),e0.hok.kept hk,?_⟩
  · exact name_of_addr x.apart (PySem.mem_of_lookup h1) (PySem.mem_of_lookup h2)
  · have hy:scope.names.lookup y=some .cell∨scope.names.lookup y=some .free:=hy
    rcases hy with hy | hy
    · exact Uc hy
    · exact absurd rfl (S.nofree _ (PySem.mem_of_lookup hy))
  · exact Nat.le_of_lt (x.above y c (PySem.mem_of_lookup h))
  · have hi:i<vs.length:=by
      unfold start at h2
      by_cases hi:i<vs.length
      · exact hi
      · rw [List.getElem?_append_right (by simpa using hi)] at h2
        rw [List.getElem?_replicate] at h2
        split at h2 <;> cases h2
    have ha:vs[i]? = some v:=by
      unfold start at h2
      rw [List.getElem?_append_left (by simpa using hi),List.getElem?_map] at h2
      cases e:vs[i]? with
      | none=>rw [e] at h2; cases h2
      | some a=>rw [e] at h2; cases h2; rfl
    obtain ⟨u,hu,rv⟩:=r.get ha
    have hp:ps[i]? = some y:=by
      rw [← S.pre,List.getElem?_take_of_lt (by omega)]; exact h1
    have ndP:ps.Nodup:=by rw [← S.pre]; exact S.nd.sublist (List.take_sublist _ _)
    refine ⟨u,rv,?_⟩
    rcases S.par y (List.mem_of_getElem? hp) with k | k
    · exact .inl ⟨k,Om ndP hp hu k⟩
    · obtain ⟨c,e⟩:=Uc (n:=s.heap.objs.size+1) k
      refine .inr ⟨.inl k,c,e,?_⟩
      have q:=x.cell y c e
      rw [Qp ndP hp hu (by show scope.names.lookup y≠_; rw [k]; decide)] at q
      exact q
  · exact e0.hok.fresh (Nat.le_of_lt (x.above y c (PySem.mem_of_lookup h)))
  · unfold start
    show _=N.length
    rw [List.length_append,List.length_map,List.length_replicate]
    omega
theorem a9y {CX:CXT} {P:Program} {w:World} {K:PySem.W.Frag} {mg:Str→Option Value} {base:Heap} {k:Nat} {f:Addr} {name qual:Str} {params:Arguments} {body:List Stmt} {scope:Scope} {dV kV doc pm cdv ct oc:Value} {an od:Option Addr}
    {osl:Array (Option Value)} {N ps:List Str} {sp:Sp} (lk:K.lookup f=some ⟨oc,od,.func (PySem.W.fnOf name qual params body scope dV kV doc pm an cdv ct),osl⟩) (hcd:PySem.W.codeIn K cdv qual=true) (S:jc N ps scope)
    (len:∀ vs H Q E,sp vs H Q E→vs.length=ps.length)
    (hbody:∀ (A:Around) (outer:List Env) (s:Shared) (H:Hp) (vs:List V) (Q:VK) (E:XK),Jr k (A.deeper (envOfC qual scope s.heap.objs.size f cdv))→sp vs H Q E →
      ∃ t,PSs (a3v CX P w K mg base N qual scope f cdv A outer s H E) body t∧t { nx:=fun _ H'=>Q .non H',rt:=Q } (start N vs) H) :
    yc P w K mg base CX (k+1) f (PySem.W.fnOf name qual params body scope dV kV doc pm an cdv ct) ps sp:=by
  refine ⟨len,fun A outer s H args us vs Q E hr e0 hb r hsp=>?_⟩
  have hl:=len _ _ _ _ hsp
  have KX:K.In s.heap:=e0.mod.kin.keeps fun b o e=>(e0.bs b o e).1
  have lim:s.heap.NoLimit:=e0.mod.nolimit.keeps fun b o e=>(e0.bs b o e).1
  have hkind:∀ y∈ps.zip us,scope.names.lookup y.1=some .local∨(scope.names.lookup y.1=some .cell∧((cellsFrom (s.heap.objs.size+1) scope.names []).lookup y.1).isSome=true):=fun ⟨n,v⟩ hy=>by
    rcases S.par n (List.of_mem_zip hy).1 with q | q
    · exact .inl q
    · exact .inr ⟨q,PySem.W.cellsFrom_some _ _ _ (.inl q)⟩
  refine codeAny_call_function hr.depth (KX _ _ lk) rfl S.co S.gen rfl (PySem.W.codeRec_of KX hcd) (hb _ _ _ _ ?_)
  refine wpAny_newFunctionEnv_cells S.kind hkind fun env he s1 x=>?_
  subst he
  refine ⟨lim.keeps x.toInCall.keep,codeAny_func ?_⟩
  obtain ⟨t,ht,hq⟩:=hbody A outer s H vs Q E (hr.deeper _) hsp
  have I:Inv (a3v CX P w K mg base N qual scope f cdv A outer s H E) [] (start N vs) H s1:=Yv S hr.hd e0 hl r x
  refine wpAny_mono (ht [] s1 (start N vs) H _ I hq) (fun fl s' hs=>?_) fun e s' hs=>hs
  have fin:∀ {σ':St} {H':Hp} {v:V} {u:Value},Inv (a3v CX P w K mg base N qual scope f cdv A outer s H E) [] σ' H' s'→RelV v u→Q v H'→CE outer P w H s Q u s' :=
    fun {σ' H' v u} J rv q=>⟨v,H',J.os,J.bare,J.base,J.hok,rv,q⟩
  cases fl with
  | ret u =>
    obtain ⟨v,σ',H',J,rv,q⟩:=hs
    exact fin J rv q
  | next =>
    obtain ⟨σ',H',J,q⟩:=hs
    exact fin (v:=V.non) (u:=Value.none) J rfl q
  | brk =>
    obtain ⟨_,_,_,q⟩:=hs
    exact False.elim q
  | cont =>
    obtain ⟨_,_,_,q⟩:=hs
    exact False.elim q
end L2
namespace L2
open PySem PySem.Spec PyProof.Rows
noncomputable section
variable {X:Cx} {x:Str} {p pos:Pos} {e:Expr} {es:List Expr} {t:TA} {id T:String} {r:List V→Hp→VK→Prop}
noncomputable def tCB (r:List V→Hp→VK→Prop) (t:TA):TE:=fun σ H Q=>t σ H fun vs H1=>r vs H1 Q
theorem vp (hc:Ey X (.builtin id) r) (hg:Gl X x) (hm:X.mg x=none) (hv:bootBuiltins x=some (.builtin id)) (ha:PA X (e::es) t) (hn:x ≠ "__name__" := by decide) (hdb:(x==("__debug__" : Str))=false:=by decide)
    (he:starEach (e::es) X.env=(false,eval e X.env)::starEach es X.env:=by rfl) (hpl:(backTo pos (starEach es X.env)).any (·.1)=false:=by rfl):PE X (.Call (.Name x p) (e::es) [] pos) (tCB r t):=by
  intro pins s σ H Q I h
  refine wpAny_Call_Name_kw (Ly I hg hm hv ?_ hn hdb)
  exact PyProof.Rows.callWith_builtin1 (thn (ha pos pins s σ H _ I h) fun us s1 z7=>by obtain ⟨vs,H1,I1,r1,q1⟩:=z7; exact hc pins s1 σ H1 vs us Q I1 r1 q1) he hpl
theorem vh (hc:Ey X (.type T) r) (hg:Gl X x) (hm:X.mg x=none) (hv:bootBuiltins x=some (.type T)) (ha:PA X (e::es) t) (hn:x ≠ "__name__" := by decide) (hdb:(x==("__debug__" : Str))=false:=by decide)
    (he:starEach (e::es) X.env=(false,eval e X.env)::starEach es X.env:=by rfl) (hpl:(backTo pos (starEach es X.env)).any (·.1)=false:=by rfl):PE X (.Call (.Name x p) (e::es) [] pos) (tCB r t):=by
  intro pins s σ H Q I h
  refine wpAny_Call_Name_kw (Ly I hg hm hv ?_ hn hdb)
  exact PyProof.Rows.callWith_type1 (thn (ha pos pins s σ H _ I h) fun us s1 z7=>by obtain ⟨vs,H1,I1,r1,q1⟩:=z7; exact hc pins s1 σ H1 vs us Q I1 r1 q1) he hpl
end
end L2
end
noncomputable section
set_option linter.all false
set_option maxRecDepth 100000
namespace HT
open PySem PyProof.Rows
noncomputable section
open PySem.SeqAt
open PySem.AutoSeq1 (wpAny_loadPart')
open PySem.MeetsSeq PySem.MeetsSeq2 PySem.MeetsSeq3
end
noncomputable section
variable {prog:Program} {w:World} {A:Around} {E:Value→Shared→Prop} {s:Shared}
theorem a69 {t b:Addr} {vs ws:List Value} {Q:Value→Shared→Prop} (ht:IsTup s.heap t vs.toArray) (hb:IsTup s.heap b ws.toArray) (hv:vs≠[])
    (h1:ws=[]→Q (.ref t) s) (h2:ws≠[]→Q (.ref s.heap.objs.size) { s with heap:=s.heap.push { cls:=.type "tuple",data:=.seq (vs++ws).toArray } })
    (hsz:vs.length+ws.length≤sizeLine):wpAny (model prog w) A (binaryOp .Add (.ref t) (.ref b)) Q E s:=by
  obtain ⟨⟨cls,dd,data,sl⟩,ho,hc,n,hd⟩:=id ht
  obtain ⟨⟨cls2,dd2,data2,sl2⟩,ho2,hc2,n2,hd2⟩:=id hb
  simp only at hc hd hc2 hd2
  subst hc hd hc2 hd2
  have e:vs.toArray++ws.toArray=(vs++ws).toArray:=by simp
  by_cases hw:ws=[]
  · exact concat_meets ⟨_,ho,rfl⟩ ⟨_,ho2,rfl⟩ noFill_tuple_add seq_tuple_add PySem.F.slot_tuple_add PySem.F.entry_tuple_add (PySem.F.args_tuple_add_2 _ _)
      (tuple_addW1 t b vs.toArray ws.toArray n n2 dd dd2 sl sl2 (by simpa using hv) (by simp [hw])) ⟨ho,ho2,h1 hw⟩
  · refine concat_meets ⟨_,ho,rfl⟩ ⟨_,ho2,rfl⟩ noFill_tuple_add seq_tuple_add PySem.F.slot_tuple_add PySem.F.entry_tuple_add (PySem.F.args_tuple_add_2 _ _)
      (tuple_addW2 t b vs.toArray ws.toArray n n2 dd dd2 sl sl2 (by simpa using hv) (by simpa using hw) (by rw [List.size_toArray,List.size_toArray]; exact hsz)) ⟨ho,ho2,?_⟩
    rw [e]
    exact h2 hw
noncomputable def sIx (n d:Nat):Option Int→Nat
  | none=>d
  | some v=>if v<0 then (v+(n:Int)).toNat else min v.toNat n
theorem a89 (n d:Nat) (hd:d≤n) (o:Option Int):sIx n d o≤n:=by
  cases o with
  | none=>exact hd
  | some v =>
    show (if v<0 then (v+(n:Int)).toNat else min v.toNat n)≤n
    by_cases hv:v<0
    · rw [if_pos hv]; omega
    · rw [if_neg hv]; exact Nat.min_le_right _ _
theorem X4 (v:Int) (n d:Nat):(if v<0 then max (v+(n:Int)) 0 else min v (n:Int))=((sIx n d (some v):Nat):Int):=by
  show (if v<0 then max (v+(n:Int)) 0 else min v (n:Int))=(((if v<0 then (v+(n:Int)).toNat else min v.toNat n):Nat):Int)
  by_cases hv:v<0
  · simp only [if_pos hv]; omega
  · simp only [if_neg hv]; omega
theorem Vt (lo hi:Option Int) (n:Nat):Builtin.Slice.sliceAdjust lo hi 1 (n:Int)=(((sIx n 0 lo:Nat):Int),((sIx n n hi:Nat):Int)):=by
  have h1:¬ ((1:Int)<0):=by omega
  unfold Builtin.Slice.sliceAdjust
  simp only [h1,if_false]
  refine Prod.ext ?_ ?_
  · cases lo with
    | none=>rfl
    | some v=>exact X4 v n 0
  · cases hi with
    | none=>rfl
    | some v=>exact X4 v n n
theorem W3 (i j:Nat):Builtin.Slice.slicePlaces (i:Int) (j:Int) 1=j - i:=by
  unfold Builtin.Slice.slicePlaces
  have h1:(1:Int) > 0:=by omega
  simp only [h1,if_true,Int.ediv_one]
  split <;> omega
theorem M4 {v:Value} {o:Option Int} {Q:Option Int→Shared→Prop} (p:IsPart v o) (h:Q o s):wpAny (model prog w) A (Builtin.Slice.slicePartIndex v) Q E s:=by
  cases p with
  | none=>exact slicePart_none h
  | int i t=>exact slicePart_int h
theorem Ih {sl:Addr} {vl vu:Value} {lo hi:Option Int} {n:Nat} {Q:Int × Int × Nat→Shared→Prop} (hs:s.heap.IsSliceOf sl vl vu .none) (pl:IsPart vl lo) (pu:IsPart vu hi)
    (h:Q (((sIx n 0 lo:Nat):Int),1,sIx n n hi - sIx n 0 lo) s):wpAny (model prog w) A (Builtin.Slice.sliceApplied (.ref sl) (pure (n:Int))) Q E s:=by
  obtain ⟨os,hos,hcs,hds⟩:=id hs
  unfold Builtin.Slice.sliceApplied Builtin.Slice.sliceFields
  refine wpAny_bind (wpAny_bind (wpAny_field hos hds (x:=vl) rfl (wpAny_bind (wpAny_field hos hds (x:=vu) rfl (wpAny_bind (wpAny_field hos hds (x:=.none) rfl (wpAny_pure ?_)))))))
  refine wpAny_bind (slicePart_none ?_)
  show wpAny _ _ (if ((1:Int)==0)=true then _ else _) _ _ s
  rw [if_neg (by decide)]
  refine wpAny_bind (M4 pl (wpAny_bind (M4 pu (wpAny_bind (wpAny_pure ?_)))))
  show wpAny _ _ (match Builtin.Slice.sliceAdjust lo hi 1 (n:Int) with | (lo,hi)=>pure (lo,(1:Int),Builtin.Slice.slicePlaces lo hi 1)) _ _ s
  rw [Vt lo hi n]
  show wpAny _ _ (pure (((sIx n 0 lo:Nat):Int),(1:Int),Builtin.Slice.slicePlaces ((sIx n 0 lo:Nat):Int) ((sIx n n hi:Nat):Int) 1)) _ _ s
  rw [W3]
  exact wpAny_pure h
theorem a2i (xs:Array Value) (i k:Nat):((List.range k).filterMap fun (m:Nat)=>xs[((i:Int)+(m:Int) * 1).toNat]?).toArray=((xs.toList.drop i).take k).toArray:=by
  have e:(fun (m:Nat)=>xs[((i:Int)+(m:Int) * 1).toNat]?)=fun m=>xs[i+m]?:=by
    funext m
    have:((i:Int)+(m:Int) * 1).toNat=i+m:=by omega
    rw [this]
  rw [e]
  have:=pick_run xs i k
  rw [List.filterMap_map] at this
  have e2:((fun x=>xs[x]?) ∘ fun x=>i+x)=fun m=>xs[i+m]?:=rfl
  rw [e2] at this
  rw [this]
theorem Gq {t sl:Addr} {items:Array Value} {vl vu:Value} {lo hi:Option Int} {Q:Value→Shared→Prop} (ht:IsTup s.heap t items) (hs:s.heap.IsSliceOf sl vl vu .none) (pl:IsPart vl lo) (pu:IsPart vu hi)
    (hw:¬ (sIx items.size 0 lo=0∧sIx items.size items.size hi=items.size))
    (h:Q (.ref s.heap.objs.size) { s with heap:=s.heap.push { cls:=.type "tuple",data:=.seq ((items.toList.drop (sIx items.size 0 lo)).take (sIx items.size items.size hi - sIx items.size 0 lo)).toArray } })
    (hsz:items.size≤sizeLine):wpAny (model prog w) A (getItem (.ref t) (.ref sl)) Q E s:=by
  have htake:sizeOk (.seq ((items.toList.drop (sIx items.size 0 lo)).take (sIx items.size items.size hi - sIx items.size 0 lo)).toArray):=by
    show ((items.toList.drop (sIx items.size 0 lo)).take (sIx items.size items.size hi - sIx items.size 0 lo)).toArray.size≤sizeLine
    rw [List.size_toArray,List.length_take,List.length_drop,Array.length_toList]
    omega
  have hj:sIx items.size items.size hi≤items.size:=a89 _ _ (Nat.le_refl _) hi
  obtain ⟨os,hos,hcs,hds⟩:=id hs
  have hTs:s.TypeIs (.ref sl) "slice" := ⟨os,hos,hcs⟩
  unfold getItem
  try with_reducible refine wpAny_holding ?_
  first | refine wpAny_bind (wpAny_pure ?_) | skip
  refine wpAny_bind (wpAny_sequenceKey ht.typeIs (by decide) ?_)
  refine wpAny_bind (wpAny_callSpecial?_slot (name:=Str.ofString "__getitem__") ht.typeIs PyProof.Rows.slot_tuple_getitem
    (wpAny_call_entry PyProof.Rows.slot_tuple_getitem ht.typeIs entry_tuple_getitem ?_ (args_tuple_getitem _ _)))
  show wpAny _ _ (Builtin.Tuple.tupleItemsOf (.ref t) >>= _) _ _ s
  refine wpAny_bind (tupleItemsOf_ ht ?_)
  refine wpAny_bind (wpAny_typeOf hTs ?_)
  rw [if_pos (by decide)]
  refine wpAny_bind (Ih hs pl pu ?_)
  have hno:¬ ((((sIx items.size 0 lo:Nat):Int)==0&&(1:Int)==1&&(sIx items.size items.size hi - sIx items.size 0 lo)==items.size)=true):=by
    intro q
    rw [Bool.and_eq_true,Bool.and_eq_true] at q
    have q1:((sIx items.size 0 lo:Nat):Int)=0:=eq_of_beq q.1.1
    have q2:sIx items.size items.size hi - sIx items.size 0 lo=items.size:=eq_of_beq q.2
    exact hw ⟨by omega,by omega⟩
  show wpAny _ _ (if (((sIx items.size 0 lo:Nat):Int)==0&&(1:Int)==1&&(sIx items.size items.size hi - sIx items.size 0 lo)==items.size)=true then _ else _) _ _ s
  rw [if_neg hno,a2i]
  first
    | exact wpAny_bind (m:=Builtin.Tuple.tupleExact _) (wpAny_newObj_type (wpAny_pure ⟨_,rfl,wpAny_pure h⟩) htake)
    | exact wpAny_bind (m:=Builtin.Tuple.tupleExact _) (wpAny_newObj_type (wpAny_bind (wpAny_pure (wpAny_pure ⟨_,rfl,wpAny_pure h⟩))) htake)
    | exact wpAny_bind (wpAny_bind (m:=Builtin.Tuple.tupleExact _) (wpAny_newObj_type (wpAny_pure (wpAny_pure ⟨_,rfl,wpAny_pure h⟩)) htake))
    | exact wpAny_bind (wpAny_bind (m:=Builtin.Tuple.tupleExact _) (wpAny_newObj_type (wpAny_pure ⟨_,rfl,wpAny_pure h⟩) htake))
end
end HT
namespace L2
open PySem PySem.Spec PyProof.Rows
noncomputable abbrev TO:=St→Hp→(Option Int→Hp→Prop)→Prop
noncomputable def PO (X:Cx) (e:Option Expr) (t:TO):Prop :=
  ∀ (pins:List (Addr × Obj)) (s:Shared) (σ:St) (H:Hp) (Q:Option Int→Hp→Prop),Inv X pins σ H s→t σ H Q →
    wpAny (model X.prog X.w) X.A (evalPart e X.env) (fun u s'=>∃ o H',Inv X pins σ H' s'∧IsPart u o∧Q o H') X.xe s
noncomputable def a6o:TO:=fun _ H Q=>Q none H
noncomputable def aaf (t:TE):TO:=fun σ H Q=>t σ H fun x H1=>∃ i,x=.int i∧Q (some i) H1
noncomputable section
variable {X:Cx} {e:Expr} {te:TE} {lo hi:Option Expr} {tl th:TO} {pos p2:Pos}
theorem a5s:PO X none a6o:=by
  intro pins s σ H Q I h
  rw [evalPart_none]
  exact wpAny_pure ⟨none,H,I,.none,h⟩
theorem a68 (h:PE X e te):PO X (some e) (aaf te):=by
  intro pins s σ H Q I hw
  rw [evalPart_some]
  refine thn (h pins s σ H _ I hw) fun u s1 z0=>?_
  obtain ⟨x,H1,I1,r1,q1⟩:=z0
  obtain ⟨i,rfl,q⟩:=q1
  obtain ⟨t,rfl⟩:=r1
  exact ⟨some i,H1,I1,.int i t,q⟩
noncomputable def SlR (X:Cx) (r:V→Option Int→Option Int→Hp→VK→Prop):Prop :=
  ∀ (pins:List (Addr × Obj)) (s:Shared) (σ:St) (H:Hp) (x:V) (v vl vu:Value) (lo hi:Option Int) (sl:Addr) (Q:VK),Inv X pins σ H s→RelV x v→s.heap.IsSliceOf sl vl vu .none→IsPart vl lo→IsPart vu hi→r x lo hi H Q →
    ∃ T id,typeLookup (.type T) "__getitem__" = pure (some (.builtin id))∧s.TypeIs v T∧wpAny (model X.prog X.w) X.A (getItem v (.ref sl)) (EP X pins σ Q) X.xe s
theorem SlR.or {r r':V→Option Int→Option Int→Hp→VK→Prop} (h:SlR X r) (h':SlR X r'):SlR X (fun x lo hi H Q=>r x lo hi H Q∨r' x lo hi H Q):=by
  intro pins s σ H x v vl vu lo hi sl Q I rx hs pl pu q
  rcases q with q | q
  · exact h pins s σ H x v vl vu lo hi sl Q I rx hs pl pu q
  · exact h' pins s σ H x v vl vu lo hi sl Q I rx hs pl pu q
noncomputable def tSl (r:V→Option Int→Option Int→Hp→VK→Prop) (te:TE) (tl th:TO):TE:=fun σ H Q=>te σ H fun x H1=>tl σ H1 fun l H2=>th σ H2 fun u H3=>r x l u H3 Q
theorem a2c {r:V→Option Int→Option Int→Hp→VK→Prop} (hr:SlR X r) (he:PE X e te) (hl:PO X lo tl) (hu:PO X hi th):PE X (.Subscript e (.Slice lo hi none p2) pos) (tSl r te tl th):=by
  intro pins s σ H Q I h
  refine Subscript_ (thn (he pins s σ H _ I h) fun v s1 z0=>?_)
  obtain ⟨x,H1,I1,r1,q1⟩:=z0
  refine wpAny_Slice (thn (hl pins s1 σ H1 _ I1 q1) fun vl s2 ⟨l,H2,I2,pl,q2⟩=>thn (hu pins s2 σ H2 _ I2 q2) fun vu s3 ⟨u,H3,I3,pu,q3⟩=>?_)
  rw [evalPart_none]
  refine wpAny_pure ?_
  have I4:Inv X pins σ H3 { s3 with heap:=s3.heap.push { cls:=.type "slice",data:=.fields #[vl,vu,.none] } }:=I3.kept (t':=s3.toks) fun b ob q=>Heap.get?_push_of_some _ q
  obtain ⟨T,id,hT,ht,hg⟩:=hr pins { s3 with heap:=s3.heap.push { cls:=.type "slice",data:=.fields #[vl,vu,.none] } } σ H3 x v vl vu l u s3.heap.objs.size Q I4 r1 (Heap.IsSliceOf.new ..) pl pu q3
  show wpAny (model X.prog X.w) X.A (subscriptTail e (.Slice lo hi none p2) v (.ref s3.heap.objs.size)) (EP X pins σ Q) X.xe { s3 with heap:=s3.heap.push { cls:=.type "slice",data:=.fields #[vl,vu,.none] } }
  exact tail_any (ops:=[.ref s3.heap.objs.size,v]) ht hT hg (by with_unfolding_all rfl)
noncomputable def a0t (xs:List V) (lo hi:Option Int):List V:=(xs.drop (HT.sIx xs.length 0 lo)).take (HT.sIx xs.length xs.length hi - HT.sIx xs.length 0 lo)
theorem J6 (xs:List V) (lo hi:Option Int):(a0t xs lo hi).length≤xs.length:=by
  unfold a0t
  rw [List.length_take,List.length_drop]
  omega
noncomputable def acv (K:PySem.W.Frag):V→Option Int→Option Int→Hp→VK→Prop:=fun x lo hi H Q=>∃ a xs,x=.ref a∧SqT K H a xs ∧
  ¬ (HT.sIx xs.length 0 lo=0∧HT.sIx xs.length xs.length hi=xs.length)∧∀ p,H p=none→Q (.ref p) (upd H p (.tup (a0t xs lo hi)))
theorem a83:SlR X (acv X.K):=by
  intro pins s σ H x v vl vu lo hi sl Q I rx hs pl pu h
  obtain ⟨a,xs,rfl,hx,hw,q⟩:=h
  cases rx
  obtain ⟨its,r,ht,hz⟩:=I.tuple hx
  have hlen:its.toArray.size=xs.length:=by rw [List.size_toArray]; exact r.length.symm
  refine ⟨"tuple",_,PyProof.Rows.slot_tuple_getitem.lookup,ht.typeIs,?_⟩
  refine HT.Gq ht hs pl pu (by rw [hlen]; exact hw) ?_ (by rw [hlen]; exact hz)
  rw [hlen]
  refine ⟨.ref s.heap.objs.size,_,I.laid (t':=s.toks) (o:=.tup (a0t xs lo hi)) (fun b ob q=>Heap.get?_push_of_some _ q) (Nat.le_refl _) ?_,rfl,q _ (I.hok.fresh (Nat.le_refl _))⟩
  exact ⟨Nat.le_trans (J6 xs lo hi) hz,_,(r.drop (HT.sIx xs.length 0 lo)).take (HT.sIx xs.length xs.length hi - HT.sIx xs.length 0 lo),a1b.new _ _⟩
noncomputable def aag (K:PySem.W.Frag):R2:=fun x y H Q=>∃ a b xs ys,x=.ref a∧y=.ref b∧SqT K H a xs∧SqT K H b ys∧xs≠[]∧xs.length+ys.length≤sizeLine ∧
  (ys=[]→Q (.ref a) H)∧(ys≠[]→∀ p,H p=none→Q (.ref p) (upd H p (.tup (xs++ys))))
theorem Vals.Tp {xs:List V} {us:List Value} (r:Vals xs us):us=[]↔xs=[]:=by
  cases r with
  | nil=>simp
  | cons _ _=>simp
theorem a5o:OpR X (binaryOp .Add) (aag X.K):=by
  intro pins s σ H x y v u Q I rx ry h
  obtain ⟨a,b,xs,ys,rfl,rfl,ha,hb,hx,hz,q1,q2⟩:=h
  cases rx
  cases ry
  obtain ⟨its,r1,p1,_⟩:=I.tuple ha
  obtain ⟨its2,r2,p2,_⟩:=I.tuple hb
  refine HT.a69 p1 p2 (fun z=>hx (r1.Tp.mp z)) (fun z=>⟨.ref a,H,I,rfl,q1 (r2.Tp.mp z)⟩) (fun z=>?_) (by rw [← r1.length,← r2.length]; exact hz)
  refine ⟨.ref s.heap.objs.size,_,I.laid (t':=s.toks) (o:=.tup (xs++ys)) (fun b ob q=>Heap.get?_push_of_some _ q) (Nat.le_refl _) ?_,rfl,q2 (fun w=>z (r2.Tp.mpr w)) _ (I.hok.fresh (Nat.le_refl _))⟩
  exact ⟨by rw [List.length_append]; exact hz,_,r1.append r2,a1b.new _ _⟩
end
end L2
namespace L2
open PySem PySem.Spec PyProof.Rows
noncomputable def ixN (n:Nat) (i:Int):Option Nat:=if 0≤i then (if i<n then some i.toNat else none) else if -(n:Int)≤i then some (i+n).toNat else none
noncomputable def atI {α:Type} (xs:List α) (i:Int):Option α:=(ixN xs.length i).bind fun j=>xs[j]?
theorem a5j {n:Nat} {i:Int} {j:Nat} (h:ixN n i=some j):seqIndex? i n=some j∧j<n∧-(n:Int)≤i∧i<n:=by
  unfold ixN at h
  by_cases h0:0≤i
  · rw [if_pos h0] at h
    by_cases h1:i<n
    · rw [if_pos h1] at h
      have e:i.toNat=j:=Option.some.inj h
      exact ⟨by rw [seqIndex_of h0 h1,e],by omega,by omega,h1⟩
    · rw [if_neg h1] at h; cases h
  · rw [if_neg h0] at h
    by_cases h1:-(n:Int)≤i
    · rw [if_pos h1] at h
      have e:(i+n).toNat=j:=Option.some.inj h
      exact ⟨by rw [seqIndex_neg (by omega) h1,e],by omega,h1,by omega⟩
    · rw [if_neg h1] at h; cases h
theorem Rr {α:Type} {xs:List α} {i:Int} {v:α} (h:atI xs i=some v):∃ j,seqIndex? i xs.length=some j∧xs[j]? = some v∧j<xs.length∧-(xs.length:Int)≤i∧i<xs.length:=by
  unfold atI at h
  cases e:ixN xs.length i with
  | none=>rw [e] at h; cases h
  | some j =>
    rw [e] at h
    obtain ⟨h1,h2,h3,h4⟩:=a5j e
    exact ⟨j,h1,h,h2,h3,h4⟩
noncomputable def Za (b:Expr):Prop:=∀ o i,subscripted b false o i=operate [o,i] (getItem o i)
noncomputable def IxR (X:Cx) (r:R2):Prop :=
  ∀ (value slice:Expr) (pins:List (Addr × Obj)) (s:Shared) (σ:St) (H:Hp) (x y:V) (v u:Value) (Q:VK),Inv X pins σ H s→RelV x v→RelV y u→r x y H Q →
    subscripted slice false v u=operate [v,u] (getItem v u)→wpAny (model X.prog X.w) X.A (subscriptTail value slice v u) (EP X pins σ Q) X.xe s
noncomputable def MtR (X:Cx) (id:String) (r:V→List V→Hp→VK→Prop):Prop :=
  ∀ (pins:List (Addr × Obj)) (s:Shared) (σ:St) (H:Hp) (x:V) (xs:List V) (v:Value) (us:List Value) (Q:VK),Inv X pins σ H s→RelV x v→Vals xs us→r x xs H Q →
    wpAny (model X.prog X.w) X.A (call (.builtin id) (v::us)) (EP X pins σ Q) X.xe s
noncomputable section
variable {X:Cx} {a b:Expr} {ta tb:TE} {pos:Pos}
theorem IxR.or {r r':R2} (h:IxR X r) (h':IxR X r'):IxR X (fun x y H Q=>r x y H Q∨r' x y H Q):=by
  intro value slice pins s σ H x y v u Q I rx ry q hs
  rcases q with q | q
  · exact h value slice pins s σ H x y v u Q I rx ry q hs
  · exact h' value slice pins s σ H x y v u Q I rx ry q hs
theorem MtR.or {id:String} {r r':V→List V→Hp→VK→Prop} (h:MtR X id r) (h':MtR X id r'):MtR X id (fun x xs H Q=>r x xs H Q∨r' x xs H Q):=by
  intro pins s σ H x xs v us Q I rx rs q
  rcases q with q | q
  · exact h pins s σ H x xs v us Q I rx rs q
  · exact h' pins s σ H x xs v us Q I rx rs q
theorem aal {r:R2} (hr:IxR X r) (ha:PE X a ta) (hb:PE X b tb) (hs:Za b):PE X (.Subscript a b pos) (tOp r ta tb):=by
  intro pins s σ H Q I h
  exact Subscript_ (abf ha hb I h fun v u s2 x y H2 I2 rx ry q=>hr a b pins s2 σ H2 x y v u Q I2 rx ry q (hs _ _))
noncomputable def acr (K:PySem.W.Frag):R2:=fun x y H Q=>∃ p xs i v,x=.ref p∧y=.int i∧SqL K H p xs∧atI xs i=some v∧Q v H
noncomputable def ac1 (K:PySem.W.Frag):R2:=fun x y H Q=>∃ p xs i v,x=.ref p∧y=.int i∧SqT K H p xs∧atI xs i=some v∧Q v H
noncomputable def ac3:R2:=fun x y H Q=>∃ z i c,x=.str z∧y=.int i∧z.length≤sizeLine∧atI z.cps.toList i=some c∧Q (.str ⟨#[c]⟩) H
theorem a5u:IxR X (acr X.K):=by
  intro value slice pins s σ H x y v u Q I rx ry h hs
  obtain ⟨p,xs,i,z,rfl,rfl,hq,he,q⟩:=h
  cases rx
  obtain ⟨t,rfl⟩:=ry
  obtain ⟨its,r,pl,hz⟩:=I.list hq
  obtain ⟨j,h1,h2,h3,h4,h5⟩:=Rr he
  obtain ⟨w,ew,rw'⟩:=r.get h2
  have hl:=r.length
  have hn:=Pa
  have fin:EP X pins σ Q w s:=⟨z,H,I,rw',q⟩
  by_cases h0:0≤i
  · have hj:i.toNat=j:=by
      rw [seqIndex_of h0 h5] at h1
      exact Option.some.inj h1
    exact item_listR pl.isList h0 (by omega) (by rw [hj]; simpa using ew) fin hs
  · have hj:(i+(its.toArray.size:Int)).toNat=j:=by
      rw [seqIndex_neg (by omega) h4] at h1
      rw [List.size_toArray,← hl]
      exact Option.some.inj h1
    exact subscriptTail_builtinR (x:=w) pl.isList.typeIs slot_list_getitem.lookup
      (wpAny_getItem_list_neg (Q:=fun r s'=>r=w∧EP X pins σ Q r s') pl.isList (by omega) (by rw [List.size_toArray] <;> omega) (by omega) (by rw [hj]; simpa using ew) ⟨rfl,fin⟩) hs
theorem a8o:IxR X (ac1 X.K):=by
  intro value slice pins s σ H x y v u Q I rx ry h hs
  obtain ⟨p,xs,i,z,rfl,rfl,hq,he,q⟩:=h
  cases rx
  obtain ⟨t,rfl⟩:=ry
  obtain ⟨its,r,pl,hz⟩:=I.tuple hq
  obtain ⟨j,h1,h2,h3,h4,h5⟩:=Rr he
  obtain ⟨w,ew,rw'⟩:=r.get h2
  have hl:=r.length
  have hn:=Pa
  have fin:EP X pins σ Q w s:=⟨z,H,I,rw',q⟩
  exact subscriptTail_builtinR (x:=w) pl.typeIs slot_tuple_getitem.lookup
    (getItem_tuple (j:=j) (Q:=fun r s'=>r=w∧EP X pins σ Q r s') pl (by omega) (by omega) (by rw [List.size_toArray,← hl]; exact h1) (by simpa using ew) ⟨rfl,fin⟩) hs
theorem a8e:IxR X ac3:=by
  intro value slice pins s σ H x y v u Q I rx ry h hs
  obtain ⟨z,i,c,rfl,rfl,hz,he,q⟩:=h
  obtain ⟨t,rfl⟩:=rx
  obtain ⟨t',rfl⟩:=ry
  obtain ⟨j,h1,h2,h3,h4,h5⟩:=Rr he
  have hl:z.cps.toList.length=z.length:=by simp [Str.length]
  rw [hl] at h1 h4 h5
  have hn:=Pa
  exact tail_any (typeIs_str s z t) slot_str_getitem.lookup (getItem_str (c:=c) (by
    have e1:decide (i < -(2 ^ 63:Int))=false:=decide_eq_false (by omega)
    have e2:decide (i ≥ 2 ^ 63)=false:=decide_eq_false (by omega)
    rw [e1,e2,Bool.or_false]) (by rw [h1]; simpa using h2) ⟨.str ⟨#[c]⟩,H,I.tok _,⟨_,rfl⟩,q⟩) hs
theorem Inv.lst {pins:List (Addr × Obj)} {σ:St} {H:Hp} {s:Shared} {p:Addr} {xs:List V} (I:Inv X pins σ H s) (h:H p=some (.lst xs)) :
    ∃ (its:List Value) (n:Nat),Vals xs its∧s.heap.get? p=some { cls:=.type "list",data:=.seq its.toArray n }∧xs.length≤sizeLine:=by
  obtain ⟨z,its,n,r,e⟩:=I.hok p _ h
  exact ⟨its,n,r,e,z⟩
theorem Q7 (lo hi:Option Int) (n:Nat):(sliceBounds lo hi none n).1=((HT.sIx n 0 lo:Nat):Int)∧(sliceBounds lo hi none n).2.1=((HT.sIx n n hi:Nat):Int)∧(sliceBounds lo hi none n).2.2=1:=by
  refine ⟨?_,?_,rfl⟩
  · cases lo with
    | none=>simp [sliceBounds,HT.sIx]
    | some i =>
      simp only [sliceBounds,HT.sIx,Option.getD_none,show (1:Int) > 0 by decide,if_true]
      by_cases h:i<0
      · simp only [h,if_true] <;> omega
      · simp only [h,if_false] <;> omega
  · cases hi with
    | none=>simp [sliceBounds,HT.sIx]
    | some i =>
      simp only [sliceBounds,HT.sIx,Option.getD_none,show (1:Int) > 0 by decide,if_true]
      by_cases h:i<0
      · simp only [h,if_true] <;> omega
      · simp only [h,if_false] <;> omega
theorem Mf (its:List Value) (lo hi:Option Int):slicePick its.toArray lo hi none=((its.drop (HT.sIx its.length 0 lo)).take (HT.sIx its.length its.length hi - HT.sIx its.length 0 lo)).toArray:=by
  obtain ⟨h1,h2,h3⟩:=Q7 lo hi its.toArray.size
  unfold slicePick
  rw [h1,h2,h3]
  simp only [sliceRange_one,pick_run,List.size_toArray] <;> rfl
noncomputable def acf (K:PySem.W.Frag):V→Option Int→Option Int→Hp→VK→Prop:=fun x lo hi H Q=>∃ a xs,x=.ref a∧SqL K H a xs∧∀ p,H p=none→Q (.ref p) (upd H p (.lst (a0t xs lo hi)))
theorem a5d:SlR X (acf X.K):=by
  intro pins s σ H x v vl vu lo hi sl Q I rx hs pl pu h
  obtain ⟨a,xs,rfl,hx,q⟩:=h
  cases rx
  obtain ⟨its,r,ht,hz⟩:=I.list hx
  have hlen:=r.length
  refine ⟨"list",_,slot_list_getitem.lookup,ht.isList.typeIs,?_⟩
  refine wpAny_getItem_list_slice ht.isList hs pl pu .none (by simp) ?_ (by rw [List.size_toArray] <;> omega)
  rw [Mf,← hlen]
  refine ⟨.ref s.heap.objs.size,_,I.laid (t':=s.toks) (o:=.lst (a0t xs lo hi)) (fun b ob q=>Heap.get?_push_of_some _ q) (Nat.le_refl _) ?_,rfl,q _ (I.hok.fresh (Nat.le_refl _))⟩
  exact ⟨Nat.le_trans (J6 xs lo hi) hz,_,0,(r.drop (HT.sIx xs.length 0 lo)).take (HT.sIx xs.length xs.length hi - HT.sIx xs.length 0 lo),Heap.get?_push_size _ rfl⟩
theorem Hj:Ey X (.builtin "len") (fun xs H Q=>∃ p ys,xs=[.ref p]∧(SqL X.K H p ys∨SqT X.K H p ys)∧Q (.int ys.length) H):=by
  intro pins s σ H xs us Q I r h
  obtain ⟨p,ys,rfl,hq,q⟩:=h
  obtain ⟨u,rfl,rx⟩:=vals1 r
  cases rx
  have hn:=Pa
  rcases hq with hq | hq
  · obtain ⟨its,r',pl,hz⟩:=I.list hq
    have hlen:=r'.length
    exact Calls.call_len_list pl.isList (by simp only [List.size_toArray] <;> omega) ⟨.int ys.length,H,I.tok _,⟨s.toks+1,by rw [List.size_toArray,hlen]⟩,q⟩
  · obtain ⟨its,r',pl,hz⟩:=I.tuple hq
    have hlen:=r'.length
    exact len_tuple pl (by simp only [List.size_toArray] <;> omega) ⟨.int ys.length,H,I.tok _,⟨s.toks+1,by rw [List.size_toArray,hlen]⟩,q⟩
theorem Ox:Ey X (.builtin "len") (fun xs H Q=>∃ z,xs=[.str z]∧z.length≤sizeLine∧Q (.int z.length) H):=by
  intro pins s σ H xs us Q I r h
  obtain ⟨z,rfl,hz,q⟩:=h
  obtain ⟨u,rfl,t,rfl⟩:=vals1 r
  have hn:=Pa
  exact len_str (by omega) ⟨.int z.length,H,I.tok _,⟨_,rfl⟩,q⟩
theorem Ey.or {f:Value} {r r':List V→Hp→VK→Prop} (h:Ey X f r) (h':Ey X f r'):Ey X f (fun xs H Q=>r xs H Q∨r' xs H Q):=by
  intro pins s σ H xs us Q I rs q
  rcases q with q | q
  · exact h pins s σ H xs us Q I rs q
  · exact h' pins s σ H xs us Q I rs q
theorem Ga:Ey X (.type "tuple") (fun xs H Q=>∃ p ys,xs=[.ref p]∧((SqL X.K H p ys∧∀ l,H l=none→Q (.ref l) (upd H l (.tup ys)))∨(SqT X.K H p ys∧Q (.ref p) H))):=by
  intro pins s σ H xs us Q I r h
  obtain ⟨p,ys,rfl,h⟩:=h
  obtain ⟨u,rfl,rx⟩:=vals1 r
  cases rx
  rcases h with ⟨hq,q⟩ | ⟨hq,q⟩
  · obtain ⟨its,r',pl,hz⟩:=I.list hq
    have hlen:=r'.length
    refine call_tuple_list pl.isList (fun h' kp=>?_) (by simp only [List.size_toArray] <;> omega)
    have I1:Inv X pins σ H { s with heap:=h' }:=I.kept (t':=s.toks) kp
    have I2:Inv X pins σ (upd H h'.objs.size (.tup ys)) { s with heap:=h'.push { cls:=.type "tuple",data:=.seq its.toArray } } :=
      I1.laid (t':=s.toks) (fun b o e=>Heap.get?_push_of_some _ e) (Nat.le_refl _) (show Bf X.prog X.w _ _ _ (.tup ys) from ⟨hz,its,r',a1b.new _ _⟩)
    exact ⟨.ref h'.objs.size,_,I2,rfl,q _ (I1.hok.fresh (Nat.le_refl _))⟩
  · obtain ⟨its,r',pl,hz⟩:=I.tuple hq
    exact call_tuple_same pl ⟨.ref p,H,I,rfl,q⟩
noncomputable def tyV (K:PySem.W.Frag) (T:String) (x:V) (H:Hp):Prop:=match x with
  | .str _=>T = "str"
  | .int _=>T = "int"
  | .ref p=>(T = "list" ∧ ∃ xs,SqL K H p xs)∨(T = "tuple" ∧ ∃ o,K.lookup p=some o∧o.cls=.type "tuple" ∧ o.dict=none) ∨
      (T = "dict" ∧ ((∃ kvs,H p=some (.dK kvs))∨∃ kvs,H p=some (.dT kvs)))∨(T = "set" ∧ ∃ S n,H p=some (.set S n))
  | _=>False
theorem a7w {pins:List (Addr × Obj)} {σ:St} {H:Hp} {s:Shared} {T:String} {x:V} {v:Value} (I:Inv X pins σ H s) (r:RelV x v) (ty:tyV X.K T x H) :
    s.TypeIs v T∧∀ a,v=.ref a→∃ ob,s.heap.get? a=some ob∧ob.dict=none:=by
  cases x with
  | str z =>
    obtain ⟨t,rfl⟩:=r
    cases (show T = "str" from ty)
    exact ⟨typeIs_str s z t,fun _ e=>nomatch e⟩
  | int i =>
    obtain ⟨t,rfl⟩:=r
    cases (show T = "int" from ty)
    exact ⟨typeIs_int s i t,fun _ e=>nomatch e⟩
  | ref p =>
    cases r
    rcases ty with ⟨rfl,xs,hq⟩ | ⟨rfl,o,hk,hc,hd⟩ | ⟨rfl,hk⟩ | ⟨rfl,S,n,hk⟩
    · obtain ⟨its,_,pl,_⟩:=I.list hq
      refine ⟨pl.isList.typeIs,fun a e=>?_⟩
      cases e
      obtain ⟨o,n,e,c,hd,_⟩:=pl
      exact ⟨o,e,hd⟩
    · refine ⟨⟨o,I.kIn p o hk,hc⟩,fun a e=>?_⟩
      cases e
      exact ⟨o,I.kIn _ o hk,hd⟩
    · have z:∃ o,s.heap.get? p=some o∧o.ExactDict:=by
        rcases hk with ⟨kvs,hk⟩ | ⟨kvs,hk⟩
        · obtain ⟨_,_,_,_,o,_,_,e,ex,_⟩:=I.hok p _ hk
          exact ⟨o,e,ex⟩
        · obtain ⟨_,_,_,_,o,_,_,e,ex,_⟩:=I.hok p _ hk
          exact ⟨o,e,ex⟩
      obtain ⟨o,e,ex⟩:=z
      refine ⟨⟨o,e,ex.1⟩,fun a e2=>?_⟩
      cases e2
      exact ⟨o,e,ex.2.1⟩
    · obtain ⟨o,_,_,_,e,ex,_⟩:=I.hok p _ hk
      refine ⟨⟨o,e,ex.1⟩,fun a e2=>?_⟩
      cases e2
      exact ⟨o,e,ex.2.1⟩
  | _=>exact False.elim ty
noncomputable def tBM (K:PySem.W.Frag) (T:String) (r:V→List V→Hp→VK→Prop) (to:TE) (t:TA):TE:=fun σ H Q=>to σ H fun x H1=>tyV K T x H1∧t σ H1 fun xs H2=>r x xs H2 Q
variable {o e:Expr} {es:List Expr} {to:TE} {t:TA} {name:Str} {apos cpos:Pos} {T id:String} {r:V→List V→Hp→VK→Prop}
theorem Ii (pa:PlainAttrs T) (slot:Slot T name id) (hty:typeOf (.builtin id)=pure (.type "method_descriptor")) (hm:MtR X id r) (ho:PE X o to) (ha:PA X (e::es) t)
    (hbase:attributeBase o name X.env (eval o X.env)=eval o X.env:=by rfl)
    (hfew:((backTo cpos (starEach (e::es) X.env)).all (fun x=>!x.1)&&(backToKw cpos (keywordEach [] X.env)).all (fun x=>x.1.isSome)
      && decide ((e::es).length+([]:List Keyword).length+(if ([]:List Keyword).isEmpty then 0 else 1)<30))=true:=by rfl)
    (hline:(apos.endLine==cpos.line)=true:=by rfl) (hs:starEach (e::es) X.env=(false,eval e X.env)::starEach es X.env:=by rfl) (hplain:(backTo cpos (starEach es X.env)).any (·.1)=false:=by rfl) :
    PE X (.Call (.Attribute o name apos) (e::es) [] cpos) (tBM X.K T r to t):=by
  intro pins s σ H Q I h
  refine wpAny_Call_method_late hbase hfew hline rfl (thn (ho pins s σ H _ I h) fun v s1 z0=>?_)
  obtain ⟨x,H1,I1,r1,ty,q1⟩:=z0
  obtain ⟨h1,h2⟩:=a7w I1 r1 ty
  refine ⟨T,id,pa,slot,hty,h1,h2,?_⟩
  have hA:=ha cpos pins s1 σ H1 _ I1 q1
  rw [hs] at hA ⊢
  refine Calls.callWith_builtin (by show (false||(backTo cpos (starEach es X.env)).any (·.1))=false; rw [hplain] <;> rfl) (Calls.evalArgs_plain ?_)
  exact thn hA fun us s2 ⟨vs,H2,I2,r2,q2⟩=>hm pins s2 σ H2 x vs v us Q I2 r1 r2 q2
end
end L2
namespace L2
open PySem PySem.Spec PyProof.Rows
noncomputable def MtM (X:Cx) (id:String) (r:V→List V→Hp→VK→Prop):Prop :=
  ∀ (pins:List (Addr × Obj)) (s:Shared) (σ:St) (H:Hp) (x:V) (xs:List V) (v:Value) (us:List Value) (Q:VK),Inv X pins σ H s→RelV x v→Vals xs us→r x xs H Q →
    wpAny (model X.prog X.w) X.A (call (.builtin id) (v::us)) (EP X pins σ Q) X.xe s
theorem Vals.one {x:V} {us:List Value} (h:Vals [x] us):∃ u,us=[u]∧RelV x u:=by
  cases h with
  | cons r t=>cases t; exact ⟨_,rfl,r⟩
theorem Vals.two {x y:V} {us:List Value} (h:Vals [x,y] us):∃ u v,us=[u,v]∧RelV x u∧RelV y v:=by
  cases h with
  | cons r t=>obtain ⟨v,e,q⟩:=Vals.one t; exact ⟨_,v,congrArg _ e,r,q⟩
theorem Vals.zero:∀ {us:List Value},Vals [] us→us=[]
  | _,.nil=>rfl
theorem Vals.rep {xs:List V} {us:List Value} (h:Vals xs us):∀ k:Nat,Vals (List.replicate k xs).flatten (List.replicate k us).flatten
  | 0=>.nil
  | k+1=>by
    rw [List.replicate_succ,List.replicate_succ,List.flatten_cons,List.flatten_cons]
    exact Vals.append h (Vals.rep h k)
noncomputable section
variable {X:Cx} {pins:List (Addr × Obj)} {σ:St} {H:Hp} {s:Shared} {l b:Addr} {xs ys zs:List V}
theorem Inv.abt {its its':List Value} {n:Nat} {f:Array Value→Array Value} {t':Nat} (I:Inv X pins σ H s) (hH:H l=some (.lst xs))
    (e:s.heap.get? l=some { cls:=.type "list",data:=.seq its.toArray n }) (hf:f its.toArray=its'.toArray) (hv:Vals ys its') (hz:ys.length≤sizeLine) :
    Inv X pins σ (upd H l (.lst ys)) { s with heap:=s.heap.update l (Obj.mapSeq f),toks:=t' }:=by
  have q:=PySem.IsL.update e f
  rw [hf] at q
  refine I.write (x:=l) (e:=l) (by rw [hH]; exact trivial) (.inl rfl) (fun b' u hb hu=>(Heap.get?_update_other s.heap (Obj.mapSeq f) (Ne.symm hb)).trans hu) ⟨_,q⟩ ?_
  exact ⟨hz,its',_,hv,q⟩
theorem Inv.aci {its:List Value} {t':Nat} (I:Inv X pins σ H s) (hv:Vals ys its) (hz:ys.length≤sizeLine) :
    Inv X pins σ (upd H s.heap.objs.size (.lst ys)) { s with heap:=s.heap.push { cls:=.type "list",data:=.seq its.toArray },toks:=t' } :=
  I.laid (fun _ _ q=>Heap.get?_push_of_some _ q) (Nat.le_refl _) ⟨hz,its,0,hv,Heap.get?_push_size _ rfl⟩
theorem Inv.fresh (I:Inv X pins σ H s):H s.heap.objs.size=none:=I.hok.fresh (Nat.le_refl _)
theorem Inv.abn (I:Inv X pins σ H s) (hH:H l=some (.lst xs)):xs.length≤sizeLine∧∃ (its:List Value) (n:Nat),Vals xs its∧xs.length=its.length∧s.heap.get? l=some { cls:=.type "list",data:=.seq its.toArray n }:=by
  obtain ⟨z,its,n,r,e⟩:=I.hok l _ hH
  exact ⟨z,its,n,r,r.length,e⟩
theorem a2x {n:Nat} (h:n≤sizeLine):Builtin.List.listTooLong n=false:=by
  unfold Builtin.List.listTooLong
  exact decide_eq_false (by omega)
end
noncomputable section
variable {X:Cx}
noncomputable def Z8:V→List V→Hp→VK→Prop:=fun x vs H Q=>∃ l xs y,x=.ref l∧vs=[y]∧H l=some (.lst xs)∧xs.length<sizeLine∧Q .non (upd H l (.lst (xs++[y])))
theorem Bp:MtM X "list.append" Z8:=by
  intro pins s σ H x vs v us Q I rx rv h
  obtain ⟨l,xs,y,rfl,rfl,hH,hz,q⟩:=h
  cases rx
  obtain ⟨u,rfl,ru⟩:=rv.one
  obtain ⟨z,its,n,r,hl,e⟩:=I.abn hH
  refine call_meets F.slot_list_append ⟨_,e,rfl⟩ F.entry_list_append (F.args_list_append_2 _ _) (PySem.list_append l its.toArray n u (by rw [List.size_toArray]; omega)) ⟨e,?_⟩
  refine ⟨.non,_,I.abt (its':=its++[u]) hH e (by simp) (r.append (.cons ru .nil)) ?_,rfl,q⟩
  rw [List.length_append,List.length_singleton]
  omega
end
noncomputable section
variable {prog:Program} {w:World} {A:Around} {E:Value→Shared→Prop} {s:Shared}
end
noncomputable section
variable {X:Cx}
end
end L2
end
noncomputable section
set_option linter.all false
set_option maxRecDepth 100000
namespace L2
open PySem PySem.Spec PyProof.Rows
noncomputable section
variable {κ:Type} [DecidableEq κ]
noncomputable def Ku (kvs:List (κ × V)) (k:κ):Option V:=(kvs.find? fun kv=>decide (kv.1=k)).map (·.2)
noncomputable def putK (kvs:List (κ × V)) (k:κ) (v:V):List (κ × V) :=
  if (kvs.any fun kv=>decide (kv.1=k))=true then kvs.map (fun kv=>if kv.1=k then (kv.1,v) else kv) else kvs++[(k,v)]
theorem G6 {p:κ × V} {r:List (κ × V)} {k:κ} (e:p.1=k):Ku (p::r) k=some p.2:=by simp [Ku,List.find?_cons,e]
theorem Fv {p:κ × V} {r:List (κ × V)} {k:κ} (e:¬ p.1=k):Ku (p::r) k=Ku r k:=by simp [Ku,List.find?_cons,e]
theorem Uh (k:κ):∀ kvs:List (κ × V),(kvs.any fun kv=>decide (kv.1=k))=(Ku kvs k).isSome
  | []=>rfl
  | p::r=>by
    rw [List.any_cons]
    by_cases e:p.1=k
    · simp only [G6 e,decide_eq_true e,Bool.true_or,Option.isSome_some]
    · rw [Fv e,decide_eq_false e,Bool.false_or]; exact Uh k r
theorem Ew (kvs:List (κ × V)) (k:κ) (v:V):(putK kvs k v).length≤kvs.length+1:=by
  unfold putK
  split
  · rw [List.length_map]; omega
  · rw [List.length_append,List.length_cons,List.length_nil]; omega
theorem R7.Df {o:Option V} {u:Option Value} (r:R7 o u):o.isSome=u.isSome:=by
  cases o with
  | none=>cases u with
    | none=>rfl
    | some _=>exact (show False from r).elim
  | some _=>cases u with
    | none=>exact (show False from r).elim
    | some _=>rfl
theorem R7.getD {o:Option V} {u:Option Value} {d:V} {d':Value} (r:R7 o u) (rd:RelV d d'):RelV (o.getD d) (u.getD d'):=by
  cases o with
  | none=>cases u with
    | none=>exact rd
    | some _=>exact (show False from r).elim
  | some _=>cases u with
    | none=>exact (show False from r).elim
    | some _=>exact r
theorem KV.val {kvs:List (κ × V)} {vs:List (κ × Value)} (r:KV kvs vs) (k:κ):R7 (Ku kvs k) (valueAt vs k):=by
  unfold KV at r
  induction r with
  | nil=>exact True.intro
  | @cons p q ps qs h t ih =>
    obtain ⟨h1,h2⟩:=h
    by_cases e:p.1=k
    · have e':q.1=k:=h1.symm.trans e
      have b:valueAt (q::qs) k=some q.2:=by simp [valueAt,List.find?_cons,e']
      rw [G6 e,b]; exact h2
    · have e':¬ q.1=k:=fun z=>e (h1.trans z)
      have b:valueAt (q::qs) k=valueAt qs k:=by simp [valueAt,List.find?_cons,e']
      rw [Fv e,b]; exact ih
theorem KV.any {kvs:List (κ × V)} {vs:List (κ × Value)} (r:KV kvs vs) (k:κ):(kvs.any fun kv=>decide (kv.1=k))=vs.any fun kv=>decide (kv.1=k):=by
  unfold KV at r
  induction r with
  | nil=>rfl
  | cons h t ih=>rw [List.any_cons,List.any_cons,ih,h.1]
theorem KV.repl {kvs:List (κ × V)} {vs:List (κ × Value)} (r:KV kvs vs) (k:κ) {y:V} {u:Value} (ry:RelV y u) :
    KV (kvs.map fun kv=>if kv.1=k then (kv.1,y) else kv) (vs.map fun kv=>if kv.1=k then (kv.1,u) else kv):=by
  unfold KV at r ⊢
  induction r with
  | nil=>exact .nil
  | @cons p q ps qs h t ih =>
    rw [List.map_cons,List.map_cons]
    refine .cons ?_ ih
    obtain ⟨h1,h2⟩:=h
    by_cases e:p.1=k
    · rw [if_pos e,if_pos (h1.symm.trans e)]; exact ⟨h1,ry⟩
    · rw [if_neg e,if_neg (fun z=>e (h1.trans z))]; exact ⟨h1,h2⟩
theorem KV.put {kvs:List (κ × V)} {vs:List (κ × Value)} (r:KV kvs vs) (k:κ) {y:V} {u:Value} (ry:RelV y u):KV (putK kvs k y) (stored vs k u):=by
  unfold putK stored
  rw [r.any k]
  by_cases e:(vs.any fun kv=>decide (kv.1=k))=true
  · rw [if_pos e,if_pos e]; exact r.repl k ry
  · rw [if_neg e,if_neg e]; exact Paired.snoc r ⟨rfl,ry⟩
theorem KV.keys {kvs:List (κ × V)} {vs:List (κ × Value)} (r:KV kvs vs):kvs.map (·.1)=vs.map (·.1):=by
  unfold KV at r
  induction r with
  | nil=>rfl
  | cons h t ih=>rw [List.map_cons,List.map_cons,ih,h.1]
theorem KV.length {kvs:List (κ × V)} {vs:List (κ × Value)} (r:KV kvs vs):kvs.length=vs.length:=Paired.length r
end
theorem Nq {P:Program} {w:World} {k:Key} {u:Value} (r:RelV (kV k) u):(kj P w).is k u=true:=by
  cases k with
  | inl i=>obtain ⟨t,e⟩:=(show ∃ t,u=Value.int i t from r); subst e; exact Rg P w i t
  | inr x=>obtain ⟨t,e⟩:=(show ∃ t,u=Value.str x t from r); subst e; exact S7 P w x t
theorem Jb {P:Program} {w:World}:∀ {ks:List Key} {us:List Value},Vals (ks.map kV) us→ItemsAre (kj P w) ks us
  | [],_,r=>by rw [List.map_nil] at r; cases r; exact .nil
  | k::ks,_,r=>by
    rw [List.map_cons] at r
    cases r with
    | cons h t=>exact .cons (Nq h) (Jb t)
noncomputable abbrev KT (H:Hp):List (List Key × V)→List (List Key × Addr × Value)→Prop:=Paired fun p q=>p.1=q.1∧H q.2.1=some (.tup (p.1.map kV))∧RelV p.2 q.2.2
theorem KT.val {H:Hp} {kvs:List (List Key × V)} {xs:List (List Key × Addr × Value)} (r:KT H kvs xs) (k:List Key):R7 (Ku kvs k) ((atKey xs k).map (·.2)):=by
  induction r with
  | nil=>exact True.intro
  | @cons p q ps qs h t ih =>
    obtain ⟨h1,_,h2⟩:=h
    by_cases e:p.1=k
    · have e':q.1=k:=h1.symm.trans e
      have b:atKey (q::qs) k=some q.2:=by simp [atKey,List.find?_cons,e']
      rw [G6 e,b]; exact h2
    · have e':¬ q.1=k:=fun z=>e (h1.trans z)
      have b:atKey (q::qs) k=atKey qs k:=by simp [atKey,List.find?_cons,e']
      rw [Fv e,b]; exact ih
theorem KT.repl {H:Hp} {kvs:List (List Key × V)} {xs:List (List Key × Addr × Value)} (r:KT H kvs xs) (k:List Key) {y:V} {u:Value} (ry:RelV y u) :
    KT H (kvs.map fun kv=>if kv.1=k then (kv.1,y) else kv) (xs.map (putAt k u)):=by
  induction r with
  | nil=>exact .nil
  | @cons p q ps qs h t ih =>
    rw [List.map_cons,List.map_cons]
    refine .cons ?_ ih
    obtain ⟨h1,h2,h3⟩:=h
    unfold putAt
    by_cases e:p.1=k
    · rw [if_pos e,if_pos (h1.symm.trans e)]; exact ⟨h1,h2,ry⟩
    · rw [if_neg e,if_neg (fun z=>e (h1.trans z))]; exact ⟨h1,h2,h3⟩
theorem KT.put {H:Hp} {kvs:List (List Key × V)} {xs:List (List Key × Addr × Value)} (r:KT H kvs xs) (k:List Key) {b:Addr} {y:V} {u:Value} (hb:H b=some (.tup (k.map kV))) (ry:RelV y u) :
    KT H (putK kvs k y) (storedH xs k b u):=by
  have e:(kvs.any fun kv=>decide (kv.1=k))=(atKey xs k).isSome:=by
    rw [Uh,(r.val k).Df,Option.isSome_map]
  unfold putK storedH
  rw [e]
  by_cases q:(atKey xs k).isSome=true
  · rw [if_pos q,if_pos q]; exact r.repl k ry
  · rw [if_neg q,if_neg q]; exact Paired.snoc r ⟨rfl,hb,ry⟩
theorem KT.keeps {H H':Hp} {kvs:List (List Key × V)} {xs:List (List Key × Addr × Value)} (r:KT H kvs xs) (ht:∀ b ys,H b=some (.tup ys)→H' b=some (.tup ys)):KT H' kvs xs :=
  Paired.abp r fun _ _ z=>⟨z.1,ht _ _ z.2.1,z.2.2⟩
noncomputable section
variable {P:Program} {w:World} {H:Hp} {h:Heap} {a:Addr}
theorem a8y {u:HO} (ok:HOk P w H h) (e:Rd H a u):Bf P w H h a u:=e.ok ok
theorem Ij {kvs:List (Key × V)} (ok:HOk P w H h) (e:Rd H a (.dK kvs)):kvs.length≤sizeLine∧(a==sysModules)=false∧∃ vs,KV kvs vs∧h.DictOf (kj P w) a vs :=
  show Bf P w H h a (.dK kvs) from a8y ok e
theorem a8v {kvs:List (Key × V)} (ok:HOk P w H h) (e:H a=some (.dK kvs)):kvs.length≤sizeLine∧(a==sysModules)=false∧∃ vs,KV kvs vs∧h.DictOf (kj P w) a vs:=Ij ok (.inl e)
theorem Lw {ks:List Key} (ok:HOk P w H h) (e:H a=some (.tup (ks.map kV))):(tupleKind (kj P w)).is h ks a:=by
  obtain ⟨_,its,r,o,h1,h2,_,n,h3⟩:=(show Bf P w H h a (.tup (ks.map kV)) from ok a _ e)
  exact ⟨o,its.toArray,n,h1,h2,h3,by simpa using Jb r⟩
theorem Ni {kvs:List (List Key × V)} (ok:HOk P w H h) (e:Rd H a (.dT kvs)):kvs.length≤sizeLine∧(a==sysModules)=false ∧
    ∃ xs,KT H kvs xs∧h.DictOfH (tupleKind (kj P w)) a xs:=by
  obtain ⟨z,y,xs,r,o,es,ep,h1,h2,h3,h4,h5⟩:=(show Bf P w H h a (.dT kvs) from a8y ok e)
  refine ⟨z,y,xs,r,o,es,ep,h1,h2,h3,h4,fun x hx=>?_,h5⟩
  have all:∀ {l:List (List Key × V)} {m:List (List Key × Addr × Value)},KT H l m→∀ x∈m,(tupleKind (kj P w)).is h x.1 x.2.1:=by
    intro l m q
    induction q with
    | nil=>intro x hx; exact nomatch hx
    | @cons p q ps qs hq t ih =>
      intro x hx
      rcases List.mem_cons.mp hx with e | hx
      · subst e
        exact Lw ok (by rw [← hq.1]; exact hq.2.1)
      · exact ih x hx
  exact all r x hx
theorem aa3 {kvs:List (List Key × V)} (ok:HOk P w H h) (e:H a=some (.dT kvs)):kvs.length≤sizeLine∧(a==sysModules)=false ∧
    ∃ xs,KT H kvs xs∧h.DictOfH (tupleKind (kj P w)) a xs:=Ni ok (.inl e)
end
noncomputable def Vn (H:Hp) (a:Addr) (y:V) (r:Option V):Prop :=
  (∃ kvs k,Rd H a (.dK kvs)∧y=kV k∧r=Ku kvs k)∨∃ kvs k b,Rd H a (.dT kvs)∧y=.ref b∧H b=some (.tup (k.map kV))∧r=Ku kvs k
noncomputable def a4r (H:Hp) (a:Addr) (y v:V) (H':Hp):Prop :=
  (∃ kvs k,H a=some (.dK kvs)∧y=kV k∧kvs.length<sizeLine∧H'=upd H a (.dK (putK kvs k v))) ∨
  ∃ kvs k b,H a=some (.dT kvs)∧y=.ref b∧H b=some (.tup (k.map kV))∧kvs.length<sizeLine∧H'=upd H a (.dT (putK kvs k v))
theorem Vn.k {H:Hp} {a:Addr} {kvs:List (Key × V)} {k:Key} (e:H a=some (.dK kvs)):Vn H a (kV k) (Ku kvs k):=.inl ⟨kvs,k,.inl e,rfl,rfl⟩
theorem Vn.t {H:Hp} {a b:Addr} {kvs:List (List Key × V)} {k:List Key} (e:H a=some (.dT kvs)) (eb:H b=some (.tup (k.map kV))):Vn H a (.ref b) (Ku kvs k):=.inr ⟨kvs,k,b,.inl e,rfl,eb,rfl⟩
theorem a4r.k {H:Hp} {a:Addr} {kvs:List (Key × V)} {k:Key} {v:V} (e:H a=some (.dK kvs)) (hl:kvs.length<sizeLine):a4r H a (kV k) v (upd H a (.dK (putK kvs k v))):=.inl ⟨kvs,k,e,rfl,hl,rfl⟩
theorem a4r.t {H:Hp} {a b:Addr} {kvs:List (List Key × V)} {k:List Key} {v:V} (e:H a=some (.dT kvs)) (eb:H b=some (.tup (k.map kV))) (hl:kvs.length<sizeLine) :
    a4r H a (.ref b) v (upd H a (.dT (putK kvs k v))):=.inr ⟨kvs,k,b,e,rfl,eb,hl,rfl⟩
noncomputable section
variable {X:Cx} {pins:List (Addr × Obj)} {σ:St} {H:Hp} {s:Shared} {a:Addr} {y v:V} {u r:Value} {o:Option V} {A:Around} {E:Value→Shared→Prop}
theorem Inv.big (I:Inv X pins σ H s):sysModules<s.heap.objs.size:=by
  have h:mainGlobals<s.heap.objs.size:=(I.mod.glob.keeps I.bk).lt
  exact Nat.lt_trans (by decide) h
theorem Pb {Q:Value→Shared→Prop} (hu:A.units+1<cLine) (I:Inv X pins σ H s) (g:Vn H a y (some v)) (ry:RelV y u) (h:∀ w' s',Inv X pins σ H s'→RelV v w'→Q w' s') :
    wpAny (model X.prog X.w) A (getItem (.ref a) u) Q E s:=by
  rcases g with ⟨kvs,k,e,ey,l⟩ | ⟨kvs,k,b,e,ey,eb,l⟩
  · subst ey
    obtain ⟨z,hd,vs,rel,dd⟩:=Ij I.hok e
    obtain ⟨w',hw,rw'⟩:=R7.some_of (v:=v) (o:=valueAt vs k) (by rw [l]; exact rel.val k)
    exact wpAny_getItem_of (Nq ry) dd.mapOf hw (h w' _ (I.tok _) rw')
  · subst ey
    cases (show u=Value.ref b from ry)
    obtain ⟨z,hd,xs,rel,dd⟩:=Ni I.hok e
    obtain ⟨w',hw,rw'⟩:=R7.some_of (v:=v) (o:=(atKey xs k).map (·.2)) (by rw [l]; exact rel.val k)
    obtain ⟨p,hp,hp2⟩:=Option.map_eq_some_iff.mp hw
    refine wpAny_getItem_heap (tupleKind_room_in1 hu) (Lw I.hok eb) dd hp ?_
    rw [hp2]
    exact h w' _ (I.tok _) rw'
theorem ad5 {Q:Value→Shared→Prop} (hu:A.units+1<cLine) (I:Inv X pins σ H s) (g:Vn H a y o) (ry:RelV y u) (h:∀ s',Inv X pins σ H s'→Q (.bool o.isSome) s') :
    wpAny (model X.prog X.w) A (compareOp .In u (.ref a)) Q E s:=by
  rcases g with ⟨kvs,k,e,ey,l⟩ | ⟨kvs,k,b,e,ey,eb,l⟩
  · subst ey
    obtain ⟨z,hd,vs,rel,dd⟩:=Ij I.hok e
    refine wpAny_in_of (Nq ry) hd dd.mapOf ?_
    rw [← (rel.val k).Df,← l]
    exact h _ (I.tok _)
  · subst ey
    cases (show u=Value.ref b from ry)
    obtain ⟨z,hd,xs,rel,dd⟩:=Ni I.hok e
    refine wpAny_in_heap (tupleKind_room_in1 hu) (Lw I.hok eb) hd dd ?_
    have q:=(rel.val k).Df
    rw [Option.isSome_map] at q
    rw [← q,← l]
    exact h _ (I.tok _)
theorem a6k {Q:Value→Shared→Prop} (hu:A.units+1<cLine) (I:Inv X pins σ H s) (g:Vn H a y o) (ry:RelV y u) (h:∀ s',Inv X pins σ H s'→Q (.bool (!o.isSome)) s') :
    wpAny (model X.prog X.w) A (compareOp .NotIn u (.ref a)) Q E s:=by
  rcases g with ⟨kvs,k,e,ey,l⟩ | ⟨kvs,k,b,e,ey,eb,l⟩
  · subst ey
    obtain ⟨z,hd,vs,rel,dd⟩:=Ij I.hok e
    refine wpAny_notIn_of (Nq ry) hd dd.mapOf ?_
    rw [← (rel.val k).Df,← l]
    exact h _ (I.tok _)
  · subst ey
    cases (show u=Value.ref b from ry)
    obtain ⟨z,hd,xs,rel,dd⟩:=Ni I.hok e
    refine wpAny_notIn_heap (tupleKind_room_in1 hu) (Lw I.hok eb) hd dd ?_
    have q:=(rel.val k).Df
    rw [Option.isSome_map] at q
    rw [← q,← l]
    exact h _ (I.tok _)
theorem Rk {h':Heap} {t':Nat} {ob:HO} (I:Inv X pins σ H s) (mu:Mut (H a)) (hs:Heap.SameBut a s.heap h') (he:∃ q,h'.get? a=some q) (new:Bf X.prog X.w (upd H a ob) h' a ob) :
    Inv X pins σ (upd H a ob) { s with heap:=h',toks:=t' } :=
  I.write (x:=a) (e:=a) mu (.inl rfl) (fun b q hb z=>(hs.2 b hb).trans z) he new
theorem Oc {P:Program} {w:World} {H':Hp} {h':Heap} {kvs:List (Key × V)} {vs:List (Key × Value)} (z:kvs.length≤sizeLine) (hd:(a==sysModules)=false) (rel:KV kvs vs) (dd:h'.DictOf (kj P w) a vs) :
    Bf P w H' h' a (.dK kvs):=⟨z,hd,vs,rel,dd⟩
theorem Xy {H':Hp} {Q:Unit→Shared→Prop} (hu:A.units+1<cLine) (I:Inv X pins σ H s) (g:a4r H a y v H') (ry:RelV y u) (rv:RelV v r) (h:∀ s',Inv X pins σ H' s'→Q () s') :
    wpAny (model X.prog X.w) A (setItem (.ref a) u r) Q E s:=by
  rcases g with ⟨kvs,k,e,ey,l,eH⟩ | ⟨kvs,k,b,e,ey,eb,l,eH⟩
  · subst ey eH
    obtain ⟨z,hd,vs,rel,dd⟩:=a8v I.hok e
    have hz:vs.length≤sizeLine:=by rw [← rel.length]; exact z
    have hl:(putK kvs k v).length≤sizeLine:=by have:=Ew kvs k v; omega
    refine wpAny_setItem_pairs (hsz:=hz) (Nq ry) dd fun h' dd' hs=>h _ ?_
    have he:∃ q,h'.get? a=some q:=let ⟨q,_,_,hq,_⟩:=dd'; ⟨q,hq⟩
    exact Rk I (by rw [e]; exact True.intro) hs he (Oc hl hd (rel.put k rv) dd')
  · subst ey eH
    cases (show u=Value.ref b from ry)
    obtain ⟨z,hd,xs,rel,dd⟩:=aa3 I.hok e
    have hz:xs.length≤sizeLine:=by rw [← Paired.length rel]; exact z
    have hl:(putK kvs k v).length≤sizeLine:=by have:=Ew kvs k v; omega
    refine wpAny_setItem_heap (hsz:=hz) (tupleKind_room_in1 hu) (Lw I.hok eb) dd fun h' dd' hs=>h _ ?_
    obtain ⟨q,es,ep,hq,h2,h3,h4,_,h5⟩:=dd'
    refine Rk I (by rw [e]; exact True.intro) hs ⟨q,hq⟩ ⟨hl,hd,_,(rel.put k eb rv).keeps fun c ys ec=>?_,q,es,ep,hq,h2,h3,h4,h5⟩
    rw [jt (aa0 ec e (fun z=>nomatch z))]
    exact ec
end
noncomputable section
variable {X:Cx} {pins:List (Addr × Obj)} {σ:St} {H:Hp} {s:Shared} {a:Addr} {kvs:List (Key × V)} {k:Key} {u:Value} {A:Around} {E:Value→Shared→Prop}
theorem abe {Q:Value→Shared→Prop} (I:Inv X pins σ H s) (e:Rd H a (.dK kvs)) (h:∀ t s',Inv X pins σ H s'→Q (.int kvs.length t) s'):wpAny (model X.prog X.w) A (call (.builtin "len") [.ref a]) Q E s:=by
  obtain ⟨z,hd,vs,rel,dd⟩:=Ij I.hok e
  refine call_len_dict hd dd (by rw [← rel.length]; rw [sizeLine_eq] at z; omega) ?_
  rw [← rel.length]
  exact h _ _ (I.tok _)
end
noncomputable def a78 (i:Expr):Prop:=∀ ov iv,subscripted i false ov iv=operate [ov,iv] (getItem ov iv)
theorem Tg {prog:Program} {w:World} {A:Around} {E:Value→Shared→Prop} {s:Shared} {env:Env} {value slice:Expr} {pos:Pos} {T id:String} {Q:Value→Shared→Prop}
    (hl:typeLookup (.type T) "__getitem__" = pure (some (.builtin id))) (hs:a78 slice)
    (h:wpAny (model prog w) A (eval value env) (fun o s₁=>wpAny (model prog w) A (eval slice env) (fun i s₂=>s₂.TypeIs o T∧wpAny (model prog w) A (getItem o i) Q E s₂) E s₁) E s) :
    wpAny (model prog w) A (eval (.Subscript value slice pos) env) Q E s:=by
  refine Subscript_ (wpAny_mono h (fun o s₁ h₁=>wpAny_mono h₁ (fun i s₂ h₂=>?_) fun _ _ x=>x) fun _ _ x=>x)
  obtain ⟨hT,h₂⟩:=h₂
  unfold subscriptTail
  refine wpAny_bind ?_
  rw [getitemInPython_of_ne hT.not_modules]
  refine wpAny_bind (wpAny_specialOf hT hl ?_)
  have fin:wpAny (model prog w) A (subscripted slice false o i) (fun r s₃=>wpAny (model prog w) A (letTemporaryGo value o r >>= fun _=>pure r) Q E s₃) E s₂:=by
    rw [hs o i]
    exact wpAny_operating (wpAny_mono h₂ (fun r s₃ h₃=>wpAny_bind (wpAny_letTemporaryGo (wpAny_pure h₃))) fun _ _ x=>x)
  first
    | exact wpAny_pure (wpAny_bind fin)
    | exact wpAny_bind (wpAny_pure (wpAny_bind fin))
    | exact wpAny_bind fin
theorem Jq {X:Cx} {pins:List (Addr × Obj)} {σ:St} {H:Hp} {s:Shared} {a:Addr} {y:V} {o:Option V} (I:Inv X pins σ H s) (g:Vn H a y o):s.TypeIs (.ref a) "dict" := by
  rcases g with ⟨kvs,k,e,_,_⟩ | ⟨kvs,k,b,e,_,_,_⟩
  · obtain ⟨_,_,vs,_,dd⟩:=Ij I.hok e
    exact dd.typeIs
  · obtain ⟨_,_,xs,_,dd⟩:=Ni I.hok e
    exact dd.typeIs
noncomputable def aae (td ty:TE):TE:=fun σ H Q=>td σ H fun x H1=>ty σ H1 fun y H2=>∃ a v,x=.ref a∧Vn H2 a y (some v)∧Q v H2
noncomputable def aa9 (td ty tv:TE):TS:=fun D σ H=>tv σ H fun v H1=>td σ H1 fun x H2=>ty σ H2 fun y H3=>∃ a H4,x=.ref a∧a4r H3 a y v H4∧D.nx σ H4
noncomputable section
variable {X:Cx} {o i e value:Expr} {pos pos' tpos:Pos} {td ty tv:TE}
theorem a4t (hu:X.A.units+1<cLine) (ho:PE X o td) (hi:PE X i ty) (hs:a78 i):PE X (.Subscript o i pos) (aae td ty):=by
  intro pins s σ H Q I h
  refine Tg PySem.F.slot_dict_getitem.lookup hs (thn (ho pins s σ H _ I h) fun u s1 ⟨x,H1,I1,rx,q1⟩=>thn (hi pins s1 σ H1 _ I1 q1) fun iv s2 ⟨y,H2,I2,ry,a,v,ex,g,q2⟩=>?_)
  subst ex
  obtain rfl:u=Value.ref a:=rx
  exact ⟨Jq I2 g,Pb hu I2 g ry fun w' s3 I3 rw'=>⟨v,H2,I3,rw',q2⟩⟩
theorem Xc (hu:X.A.units+1<cLine) (ho:PE X o td) (hi:PE X i ty) (hv:PE X value tv) (hs:swapsWith value (some (.Subscript o i pos')) pos.line X.env=pure false) :
    PS X (.Assign [.Subscript o i pos'] value pos) (aa9 td ty tv):=by
  intro pins s σ H D I h
  refine wpAny_Assign_Subscript (thn (hv pins s σ H _ I h) fun r s1 ⟨v,H1,I1,rv,q1⟩=>thn (ho pins s1 σ H1 _ I1 q1) fun u s2 ⟨x,H2,I2,rx,q2⟩=>thn (hi pins s2 σ H2 _ I2 q2) fun iv s3 ⟨y,H3,I3,ry,a,H4,ex,g,q3⟩=>?_) hs
  subst ex
  obtain rfl:u=Value.ref a:=rx
  exact Xy hu I3 g ry rv fun s4 I4=>⟨σ,H4,I4,q3⟩
end
theorem Ut {P:Program} {w:World} {H:Hp} (h:Heap) (hb:sysModules<h.objs.size):Bf P w H (h.push { cls:=.type "dict",data:=.dict #[] }) h.objs.size (.dK []) :=
  ⟨Nat.zero_le _,beq_eq_false_iff_ne.mpr (Ne.symm (Nat.ne_of_lt hb)),[],.nil,Heap.DictOf.new h⟩
theorem a2f {P:Program} {w:World} {H:Hp} (h:Heap) (hb:sysModules<h.objs.size):Bf P w H (h.push { cls:=.type "dict",data:=.dict #[] }) h.objs.size (.dT []) :=
  ⟨Nat.zero_le _,beq_eq_false_iff_ne.mpr (Ne.symm (Nat.ne_of_lt hb)),[],.nil,_,#[],0,Heap.get?_push_size _ rfl,⟨rfl,rfl,rfl⟩,rfl,rfl,List.nodup_nil⟩
noncomputable def a8w:TE:=fun _ H Q=>∀ p,H p=none→Q (.ref p) (upd H p (.dK []))
noncomputable def a87:TE:=fun _ H Q=>∀ p,H p=none→Q (.ref p) (upd H p (.dT []))
noncomputable section
variable {X:Cx} {pos:Pos}
theorem a1n:PE X (.Dict [] [] pos) a8w:=fun pins s σ H Q I h =>
  wpAny_Dict_empty ⟨.ref s.heap.objs.size,_,I.laid (a:=s.heap.objs.size) (o:=.dK []) (t':=s.toks) (fun _ _ q=>Heap.get?_push_of_some _ q) (Nat.le_refl _) (Ut s.heap I.big),rfl,h _ (I.hok.fresh (Nat.le_refl _))⟩
theorem a3f:PE X (.Dict [] [] pos) a87:=fun pins s σ H Q I h =>
  wpAny_Dict_empty ⟨.ref s.heap.objs.size,_,I.laid (a:=s.heap.objs.size) (o:=.dT []) (t':=s.toks) (fun _ _ q=>Heap.get?_push_of_some _ q) (Nat.le_refl _) (a2f s.heap I.big),rfl,h _ (I.hok.fresh (Nat.le_refl _))⟩
end
noncomputable def Yy:List (TE × TE)→St→Hp→(List (V × V)→Hp→Prop)→Prop
  | [],_,H,Q=>Q [] H
  | (tk,tv)::r,σ,H,Q=>tk σ H fun x H1=>tv σ H1 fun y H2=>Yy r σ H2 fun ps H3=>Q ((x,y)::ps) H3
noncomputable abbrev VV:List (V × V)→List (Value × Value)→Prop:=Paired fun p q=>RelV p.1 q.1∧RelV p.2 q.2
noncomputable def PPs (X:Cx) (pos:Pos) (keys:List (Option Expr)) (values:List Expr) (trs:List (TE × TE)):Prop :=
  ∀ (pins:List (Addr × Obj)) (s:Shared) (σ:St) (H:Hp) (Q:List (V × V)→Hp→Prop),Inv X pins σ H s→Yy trs σ H Q →
    wpAny (model X.prog X.w) X.A (evalPairs (pairTrees keys values X.env pos)) (fun vs s'=>∃ ps H',Inv X pins σ H' s'∧VV ps vs∧Q ps H') X.xe s
theorem a6q {X:Cx} {pos:Pos}:PPs X pos [] [] []:=fun pins s σ H Q I h=>pairTrees_nil_walk ⟨[],H,I,.nil,h⟩
theorem V1 {X:Cx} {pos:Pos} {k v:Expr} {ks:List (Option Expr)} {vs:List Expr} {tk tv:TE} {trs:List (TE × TE)} (hk:PE X k tk) (hv:PE X v tv) (hr:PPs X pos ks vs trs) :
    PPs X pos (some k::ks) (v::vs) ((tk,tv)::trs):=fun pins s σ H Q I h =>
  pairTrees_cons_walk (thn (hk pins s σ H _ I h) fun u s1 ⟨x,H1,I1,rx,q1⟩=>thn (hv pins s1 σ H1 _ I1 q1) fun w2 s2 ⟨y,H2,I2,ry,q2⟩ =>
    thn (hr pins s2 σ H2 _ I2 q2) fun ws s3 z7=>by obtain ⟨ps,H3,I3,rel,q3⟩:=z7; exact ⟨(x,y)::ps,H3,I3,.cons ⟨rx,ry⟩ rel,q3⟩)
noncomputable def Kc (kvs more:List (Key × V)):List (Key × V):=more.foldl (fun acc kv=>putK acc kv.1 kv.2) kvs
theorem KV.merge:∀ {more:List (Key × V)} {rs:List (Key × Value)} {kvs:List (Key × V)} {vs:List (Key × Value)},KV more rs→KV kvs vs→KV (Kc kvs more) (merged vs rs):=by
  intro more rs kvs vs r
  unfold KV at r
  induction r generalizing kvs vs with
  | nil=>intro q; exact q
  | @cons p q ps qs h t ih =>
    intro r0
    have e:KV (putK kvs p.1 p.2) (stored vs q.1 q.2):=by
      have:=r0.put p.1 h.2
      rw [← h.1]; exact this
    exact ih e
theorem G9:∀ (more kvs:List (Key × V)),(Kc kvs more).length≤kvs.length+more.length
  | [],kvs=>by show kvs.length≤kvs.length+0; omega
  | p::r,kvs=>by
    have h1:=G9 r (putK kvs p.1 p.2)
    have h2:=Ew kvs p.1 p.2
    show (Kc (putK kvs p.1 p.2) r).length≤_
    rw [List.length_cons]; omega
theorem Lh {P:Program} {w:World}:∀ {kvs:List (Key × V)} {ws:List (Value × Value)},VV (kvs.map fun kv=>(kV kv.1,kv.2)) ws→∃ rs,Carries (kj P w) ws rs∧KV kvs rs
  | [],_,r=>by rw [List.map_nil] at r; cases r; exact ⟨[],True.intro,.nil⟩
  | p::kvs,_,r=>by
    rw [List.map_cons] at r
    cases r with
    | @cons a b as bs h t =>
      obtain ⟨rs,c,q⟩:=Lh (P:=P) (w:=w) t
      obtain ⟨b1,b2⟩:=b
      exact ⟨(p.1,b2)::rs,⟨Nq h.1,rfl,c⟩,.cons ⟨rfl,h.2⟩ q⟩
noncomputable def abj (trs:List (TE × TE)):TE:=fun σ H Q=>∀ p,H p=none→Yy trs σ (upd H p (.dK [])) fun ps H2=>H2 p=some (.dK [])∧∃ kvs:List (Key × V),ps=kvs.map (fun kv=>(kV kv.1,kv.2))∧kvs.length≤15∧Q (.ref p) (upd H2 p (.dK (Kc [] kvs)))
theorem a5e {X:Cx} {pos:Pos} {keys:List (Option Expr)} {values:List Expr} {trs:List (TE × TE)} (h:PPs X pos keys values trs) (hall:keys.all (·.isSome)=true) (hl:keys.length=values.length) (h0:keys≠[])
    (h15:keys.length≤15):PE X (.Dict keys values pos) (abj trs):=by
  intro pins s σ H Q I q
  have hn:=I.hok.fresh (Nat.le_refl s.heap.objs.size)
  have I1:=I.laid (a:=s.heap.objs.size) (o:=.dK []) (h':=s.heap.push { cls:=.type "dict",data:=.dict #[] }) (t':=s.toks) (fun _ _ q=>Heap.get?_push_of_some _ q) (Nat.le_refl _) (Ut s.heap I.big)
  refine wpAny_Dict_walk (knd:=kj X.prog X.w) hall hl h0 h15 (thn (h pins _ σ _ _ I1 (q _ hn)) fun ws s2 z0=>?_)
  obtain ⟨ps,H2,I2,rel,e,kvs,ep,lk,q2⟩:=z0
  subst ep
  obtain ⟨rs,c,rk⟩:=Lh (P:=X.prog) (w:=X.w) rel
  obtain ⟨z,hd,vs0,r0,dd⟩:=a8v I2.hok e
  cases r0
  refine ⟨rs,c,dd,fun h' dd' hs=>⟨.ref s.heap.objs.size,_,?_,rfl,q2⟩⟩
  have hz:(Kc [] kvs).length≤sizeLine:=by
    have h1:=G9 kvs []
    rw [List.length_nil] at h1
    rw [sizeLine_eq]; omega
  have he:∃ q,h'.get? s.heap.objs.size=some q:=let ⟨q,_,_,hq,_⟩:=dd'; ⟨q,hq⟩
  exact Rk I2 (by rw [e]; exact True.intro) hs he (Oc hz hd (rk.merge .nil) dd')
structure M1 (X:Cx) (o:Expr) (m:Str) (apos:Pos) (e:Expr) (cpos:Pos):Prop where
  base:attributeBase o m X.env (eval o X.env)=eval o X.env
  few:((backTo cpos (starEach [e] X.env)).all (fun x=>!x.1)&&(backToKw cpos (keywordEach [] X.env)).all (fun x=>x.1.isSome)
    && decide (([e]:List Expr).length+([]:List Keyword).length+(if ([]:List Keyword).isEmpty then 0 else 1)<30))=true
  line:(apos.endLine==cpos.line)=true
  trees:backTo cpos (starEach [e] X.env)=[(false,eval e X.env)]
structure M2 (X:Cx) (o:Expr) (m:Str) (apos:Pos) (e f:Expr) (cpos:Pos):Prop where
  base:attributeBase o m X.env (eval o X.env)=eval o X.env
  few:((backTo cpos (starEach [e,f] X.env)).all (fun x=>!x.1)&&(backToKw cpos (keywordEach [] X.env)).all (fun x=>x.1.isSome)
    && decide (([e,f]:List Expr).length+([]:List Keyword).length+(if ([]:List Keyword).isEmpty then 0 else 1)<30))=true
  line:(apos.endLine==cpos.line)=true
  trees:backTo cpos (starEach [e,f] X.env)=[(false,eval e X.env),(false,eval f X.env)]
noncomputable def IsD (H:Hp) (a:Addr):Prop:=(∃ kvs,Rd H a (.dK kvs))∨∃ kvs,Rd H a (.dT kvs)
theorem a8p {X:Cx} {pins:List (Addr × Obj)} {σ:St} {H:Hp} {s:Shared} {a:Addr} (I:Inv X pins σ H s) (d:IsD H a) :
    s.TypeIs (.ref a) "dict" ∧ (∀ b,Value.ref a=.ref b→∃ ob,s.heap.get? b=some ob∧ob.dict=none)∧(a==sysModules)=false:=by
  rcases d with ⟨kvs,e⟩ | ⟨kvs,e⟩
  · obtain ⟨_,hd,vs,_,dd⟩:=Ij I.hok e
    refine ⟨dd.typeIs,fun b q=>?_,hd⟩
    cases q
    obtain ⟨ob,_,_,h1,h2,_⟩:=dd
    exact ⟨ob,h1,h2.2.1⟩
  · obtain ⟨_,hd,xs,_,dd⟩:=Ni I.hok e
    refine ⟨dd.typeIs,fun b q=>?_,hd⟩
    cases q
    obtain ⟨ob,_,_,h1,h2,_⟩:=dd
    exact ⟨ob,h1,h2.2.1⟩
noncomputable section
variable {X:Cx} {pins:List (Addr × Obj)} {σ:St} {H:Hp} {s:Shared} {a:Addr} {y d:V} {u r:Value} {o:Option V} {A:Around} {E:Value→Shared→Prop}
theorem a7p {Q:Value→Shared→Prop} (hu:A.units+1<cLine) (I:Inv X pins σ H s) (g:Vn H a y o) (ry:RelV y u) (rd:RelV d r) (h:∀ w' s',Inv X pins σ H s'→RelV (o.getD d) w'→Q w' s') :
    wpAny (model X.prog X.w) A (call (.builtin "dict.get") [.ref a,u,r]) Q E s:=by
  rcases g with ⟨kvs,k,e,ey,l⟩ | ⟨kvs,k,b,e,ey,eb,l⟩
  · subst ey
    obtain ⟨z,hd,vs,rel,dd⟩:=Ij I.hok e
    refine call_meetsIn PySem.F.slot_dict_get dd.typeIs PySem.F.entry_dict_get (PySem.F.args_dict_get_3 _ _ _) (meets_dict_get_default (kj X.prog X.w) a (Nq ry) hd r) ⟨_,dd.mapOf,h _ _ (I.tok _) ?_⟩
    rw [l]
    exact (rel.val k).getD rd
  · subst ey
    cases (show u=Value.ref b from ry)
    obtain ⟨z,hd,xs,rel,dd⟩:=Ni I.hok e
    refine call_meetsIn PySem.F.slot_dict_get dd.typeIs PySem.F.entry_dict_get (PySem.F.args_dict_get_3 _ _ _) (meetsH_dict_get_default (tupleKind (kj X.prog X.w)) a b hd r) ⟨tupleKind_room_in1 hu,k,xs,Lw I.hok eb,dd,h _ _ (I.tok _) ?_⟩
    rw [l]
    exact (rel.val k).getD rd
end
noncomputable def a8z (td ty tx:TE):TE:=fun σ H Q=>td σ H fun x H1=>∃ a,x=.ref a∧IsD H1 a∧ty σ H1 fun y H2=>tx σ H2 fun z H3=>∃ o,Vn H3 a y o∧Q (o.getD z) H3
noncomputable section
variable {X:Cx} {o e f:Expr} {apos cpos:Pos} {td ty tx:TE}
theorem Uq (hu:X.A.units+1<cLine) (ho:PE X o td) (he:PE X e ty) (hf:PE X f tx) (m:M2 X o "get" apos e f cpos):PE X (.Call (.Attribute o "get" apos) [e,f] [] cpos) (a8z td ty tx):=by
  intro pins s σ H Q I h
  refine wpAny_Call_method m.base m.few m.line PySem.F.plainAttrs_dict PySem.F.slot_dict_get PySem.F.type_dict_get (thn (ho pins s σ H _ I h) fun u s1 z0=>?_)
  obtain ⟨x,H1,I1,rx,a,ex,d,q1⟩:=z0
  subst ex
  obtain rfl:u=Value.ref a:=rx
  obtain ⟨t1,t2,_⟩:=a8p I1 d
  refine ⟨t1,t2,?_⟩
  rw [m.trees]
  refine Calls.callWith_builtin rfl (Calls.evalArgs_plain (Calls.spliced_cons (thn (he pins s1 σ H1 _ I1 q1) fun iv s2 ⟨y,H2,I2,ry,q2⟩ =>
    Calls.spliced_cons (thn (hf pins s2 σ H2 _ I2 q2) fun fv s3 ⟨z,H3,I3,rz,ov,g,q3⟩=>Calls.spliced_nil ?_))))
  exact a7p hu I3 g ry rz fun w' s4 I4 rw'=>⟨_,H3,I4,rw',q3⟩
end
noncomputable section
variable {X:Cx} {pins:List (Addr × Obj)} {σ:St} {H:Hp} {s:Shared} {a:Addr} {kvs:List (Key × V)} {A:Around} {E:Value→Shared→Prop}
theorem Vc {Q:Value→Shared→Prop} (I:Inv X pins σ H s) (e:Rd H a (.dK kvs)) (h:∀ p s',H p=none→Inv X pins σ (upd H p (.dK kvs)) s'→Q (.ref p) s'):wpAny (model X.prog X.w) A (call (.type "dict") [.ref a]) Q E s:=by
  obtain ⟨z,hd,vs,rel,dd⟩:=Ij I.hok e
  refine kt_call_dict hd dd (by rw [← rel.length]; exact z) fun h' dd' hs=>?_
  refine h _ _ (I.hok.fresh (Nat.le_refl _)) (I.laid (a:=s.heap.objs.size) (o:=.dK kvs) (t':=s.toks) (fun b q hq=>?_) (Nat.le_refl _) (Oc z (beq_eq_false_iff_ne.mpr (Ne.symm (Nat.ne_of_lt I.big))) rel dd'))
  exact (hs.2 b (Nat.ne_of_lt (Heap.lt_size hq))).trans (Heap.get?_push_of_some _ hq)
end
noncomputable section
variable {X:Cx} {pins:List (Addr × Obj)} {σ:St} {H:Hp} {s:Shared} {a:Addr} {y:V} {u:Value} {A:Around} {E:Value→Shared→Prop}
end
end L2
end
noncomputable section
set_option linter.all false
set_option maxRecDepth 100000
namespace Att
open PySem PySem.W PySem.Calls PyProof.Rows
theorem K3 {P:Params} {h:Heap}:∀ (ns:List Int) (vs:List Value),WellAll P h vs (ns.map WData.int)→IntsAre vs ns:=by
  intro ns
  induction ns with
  | nil =>
    intro vs w
    rw [List.map_nil] at w
    cases w
    exact .nil
  | cons n ns ih =>
    intro vs w
    rw [List.map_cons] at w
    cases w with
    | cons a b =>
      cases a
      exact .cons _ _ (ih _ b)
theorem a0e {l:OpenLaw} {n:Nat} (hn:l.most=some n) {P:Params} {h:Heap} {args:List WData} {vals:List Value}
    (hpre:l.row.toRowW.claim.pre args=true) (hwl:WellAll P h vals args) :
    ∃ a vs ns,vals=[Value.ref a]∧args=[WData.list (ns.map WData.int)]∧h.get? a=some { cls:=.type "list",data:=.seq vs.toArray }∧IntsAre vs ns∧ns.length≤n:=by
  have hsh:WShape.hasAll [] args [.list .int]=true:=(pre_splitW hpre).1
  have hc:l.pre.holds [] { args:=args } = true:=(pre_splitW hpre).2
  obtain ⟨d,r,rfl,h1,h2⟩:=hasAllW_cons hsh
  obtain rfl:=hasAllW_nil h2
  obtain ⟨xs,rfl,h3⟩:=hasW_list h1
  obtain ⟨ns,rfl⟩:=items_int h3
  have hlen:ns.length≤n:=by
    unfold OpenLaw.pre at hc
    have h4:(WTm.not (.lt (.lit (.int (n:Int))) (.len (.arg 0)))).holds [] { args:=[.list (ns.map .int)] } = true:=by
      have h4:=(holds_andW hc).1
      rw [hn] at h4
      exact h4
    have h5:=condW_of h4 (w_not (w_lt w_lit (w_len_list (w_arg rfl))))
    rw [List.length_map] at h5
    refine Nat.le_of_not_lt fun q=>?_
    have q':(n:Int)<((ns.length:Nat):Int):=by omega
    first
      | (rw [decide_eq_true q'] at h5; exact absurd h5 (by decide))
      | (simp at h5; omega)
  cases hwl with
  | cons w1 w2 =>
    cases w2
    cases w1 with
    | list ho hall=>exact ⟨_,_,ns,rfl,rfl,ho,K3 ns _ hall,hlen⟩
theorem Z9 (l:OpenLaw) (args:List WData):l.row.toRowW.claim.post args (.bool true) args=true :=
  postW_of (r:=l.row.toRowW) (X:=(true==true))
    (show WShape.has [] (.bool true) .bool=true by first | rfl | decide | simp [WShape.has,WShape.arms,WShape.armsAll])
    (show (WTm.eq .res (.lit (.bool true))).value [] { args:=args,res:=some (.bool true),after:=args } = some (.bool (true==true)) from w_eq_bool (w_res rfl) w_lit) rfl
theorem S9 {l:OpenLaw} {n:Nat} {q:Program} {loose:List Str} {XP:(Str→Option Value)→Heap→Prop} {YP:World→Heap→Prop} {d:DefRec}
    (hn:l.most=some n) (hdf:d.params.defaults=[])
    (call:∀ (w:World) (s₀ s₁:Shared) (mg mb:Str→Option Value) (fa:Addr) (o:Obj) (pm cd doc:Value) (a:Addr) (vs:List Value) (ns:List Int),
      Ground q loose [] XP w s₀ mg mb s₁.heap→YP w s₁.heap →
      s₁.heap.get? fa=some o→o.data=.func (docDef d.name d.params d.body d.scope pm cd doc)→s₁.heap.CodeRec cd d.name→mg d.name=some (.ref fa) →
      s₁.heap.get? a=some { cls:=.type "list",data:=.seq vs.toArray }→IntsAre vs ns→ns.length≤n→s₁.gens = #[] →
      codeAny (model l.prog w) callerA (.call (.ref fa) ⟨[.ref a],[]⟩) (fun r s'=>r=.ok (.ret (.bool true))∧OldK s₁.heap s'.heap∧s'.os=s₁.os∧AllBare s'.gens) s₁) :
    WalkO q loose XP YP l.row.toRowW d [] (fun f vs=>PySem.call f vs):=by
  intro w s₀ s₁ mg mb G Y fa o pm cd doc dV kV ho hd hcd hD hmg hg args vals as hpre hlay hrd hwl hlo
  obtain rfl:dV=.none:=Dflts.none hD hdf
  obtain rfl:kV=.none:=Dflts.noKw hD
  obtain ⟨a,vs,ns,rfl,rfl,hobj,hints,hlen⟩:=a0e hn hpre hwl
  refine enter_call (codeAny_mono (call w s₀ s₁ mg mb fa o pm cd doc a vs ns G Y ho (fd_plain hd) hcd hmg hobj hints hlen hg) fun r s' hq=>?_)
  obtain ⟨rfl,h2,h3,h4⟩:=hq
  exact ⟨.inl ⟨.bool true,.bool true,[],rfl,fun _=>rfl,.bool true,Z9 l _,fun _=>⟨List.Pairwise.nil,fun _ hm=>(nomatch hm)⟩⟩,h2,h3,h4⟩
noncomputable section
variable {prog:Program} {w:World} {A:Around} {E:Value→Shared→Prop} {s:Shared} {K:Frag}
end
end Att
namespace L2
open PySem PySem.Spec PyProof.Rows
theorem O8:∀ {vs:List Value} {ns:List Int},IntsAre vs ns→Vals (ns.map V.int) vs
  | _,_,.nil=>.nil
  | _,_,.cons n t h=>.cons ⟨t,rfl⟩ (O8 h)
noncomputable def Only (H:Hp):Prop:=∀ b,H b=none∨∃ o xs,H b=some (.frz o (.lst xs))
theorem a2h {P:Program} {w:World} {K:PySem.W.Frag} {mg mb:Str→Option Value} {CX:CXT} {k:Nat} {fa a:Addr} {fd:FuncData} {x:Str} {sp:Sp} {s₁:Shared} {vs:List Value} {ns:List Int}
    (KX:K.In s₁.heap) (hns:s₁.heap.Ns mainGlobals mg) (hb:s₁.heap.Ns builtinsNs mb) (hbb:∀ x:Str,x ≠ "__name__" → mb x=bootBuiltins x) (hlim:s₁.heap.NoLimit) (hg:s₁.gens = #[])
    (ha:s₁.heap.get? a=some { cls:=.type "list",data:=.seq vs.toArray }) (hi:IntsAre vs ns) (hl:ns.length≤sizeLine) (hr:Jr k callerA)
    (F:∀ base:Heap,K.In base→base.Ns mainGlobals mg→yc P w K mg base CX k fa fd [x] sp) (hbind:∀ (s:Shared) (u:Value),BindsTo s fd ⟨[u],[]⟩ [(x,u)])
    (hsp:∀ H:Hp,Only H→SqL K H a (ns.map V.int)→sp [.ref a] H (fun v _=>v=.bl true) fun _ _ _=>False)
    (hCX:∀ H e s',CX [] H s₁ (fun _ _ _=>False) e s'→False) :
    codeAny (model P w) callerA (.call (.ref fa) ⟨[.ref a],[]⟩) (fun r s'=>r=.ok (.ret (.bool true))∧OldK s₁.heap s'.heap∧s'.os=s₁.os∧AllBare s'.gens) s₁:=by
  have rv:=O8 hi
  have lenV:=hi.length
  have core:∀ H:Hp,Only H→SqL K H a (ns.map V.int)→HOk P w H s₁.heap→(∀ b,H b≠none→b=a)→(H a≠none→K.lookup a=none) →
      codeAny (model P w) callerA (.call (.ref fa) ⟨[.ref a],[]⟩) (fun r s'=>r=.ok (.ret (.bool true))∧OldK s₁.heap s'.heap∧s'.os=s₁.os∧AllBare s'.gens) s₁:=by
    intro H hO hS hok hA hK
    have base_of:∀ {b:Addr} {o:Obj},s₁.heap.get? b=some o→H b=none→(a2a s₁.heap H).get? b=some o:=fun e n=>a1x e n
    have noA:∀ {b:Addr} {o:Obj} {es:Array DictEntry} {ep:Nat},s₁.heap.get? b=some o→o.data=.dict es ep→H b=none:=fun {b o es ep} e d=>by
      cases q:H b with
      | none=>rfl
      | some u =>
        have e':b=a:=hA b (by rw [q]; simp)
        subst e'
        rw [ha] at e; cases e
        have d':Data.seq vs.toArray _=Data.dict es ep:=d
        cases d'
    have nsK:∀ {b:Addr} {m:Str→Option Value},s₁.heap.Ns b m→(a2a s₁.heap H).Ns b m:=fun {b m} ⟨o,es,ep,e,d,r⟩=>⟨o,es,ep,base_of e (noA e d),d,r⟩
    have hKb:K.In (a2a s₁.heap H):=fun b o e=>base_of (KX b o e) (by
      cases q:H b with
      | none=>rfl
      | some u =>
        have e':b=a:=hA b (by rw [q]; simp)
        subst e'
        rw [hK (by rw [q]; simp)] at e; cases e)
    have hM:Mod K mg (a2a s₁.heap H):=⟨hKb,nsK hns,⟨mb,nsK hb,hbb⟩,let ⟨mc,h1,h2⟩:=hlim; ⟨mc,nsK h1,h2⟩⟩
    have e0:a9q P w K mg (a2a s₁.heap H) callerA [] s₁ H:=⟨rfl,hM,fun b o e=>a74 e,Nat.le_of_eq (Wo _ _),trivial,fun b hb=>absurd (show b∈([]:List Addr) from hb) (by simp),hok,.of_eq hg⟩
    refine codeAny_mono ((F _ hKb (nsK hns)).run callerA [] s₁ H ⟨[.ref a],[]⟩ [.ref a] [.ref a] _ _ hr e0 (hbind s₁ (.ref a)) (.cons rfl .nil) (hsp H hO hS)) fun r s' h=>?_
    cases r with
    | error e=>exact (hCX H e s' h).elim
    | ok fl =>
      cases fl with
      | next=>exact False.elim h
      | brk=>exact False.elim h
      | cont=>exact False.elim h
      | ret u =>
        obtain ⟨v,H',os,bare,un,hok',r',q⟩:=h
        have q':v=.bl true:=q
        subst q'
        obtain rfl:u=Value.bool true:=r'
        refine ⟨rfl,OldK.of_keep fun b o e=>?_,os,bare⟩
        cases q:H b with
        | none=>exact un.keep b o e q (by intro z; exact absurd (show b∈([]:List Addr) from z) (by simp)) (by simp)
        | some u =>
          rcases hO b with z | ⟨ob,xs,z⟩
          · rw [q] at z; cases z
          · have z2:=un.frzs b ob _ z
            obtain ⟨e1,_⟩:=hok b _ z
            obtain ⟨e2,_⟩:=hok' b _ z2
            rw [e] at e1; cases e1
            exact e2
  cases hk:K.lookup a with
  | some o =>
    have e:=KX a o hk
    rw [ha] at e
    cases e
    refine core (fun _=>none) (fun _=>.inl rfl) (.inr ⟨_,vs.toArray,_,hk,rfl,rfl,rfl,by rw [List.size_toArray,lenV]; exact hl,by simpa using rv⟩) (fun b u z=>by have z':(none:Option HO)=some u:=z; cases z') (fun b z=>absurd rfl z) fun z=>absurd rfl z
  | none =>
    refine core (fun b=>if b=a then some (.frz { cls:=.type "list",data:=.seq vs.toArray } (.lst (ns.map V.int))) else none) (fun b=>?_) (.inl (.inr ⟨{ cls:=.type "list",data:=.seq vs.toArray },if_pos rfl⟩)) (fun b u z=>?_) (fun b z=>?_) fun _=>hk
    · by_cases hb:b=a
      · exact .inr ⟨_,_,if_pos hb⟩
      · exact .inl (if_neg hb)
    · by_cases hb:b=a
      · have z':=(if_pos hb).symm.trans z
        cases z'
        subst hb
        exact ⟨ha,by rw [List.length_map]; exact hl,vs,_,rv,ha⟩
      · have z':=(if_neg hb).symm.trans z
        cases z'
    · by_cases hb:b=a
      · exact hb
      · exact absurd (if_neg hb) z
end L2
namespace L2
open PySem PySem.Spec PyProof.Rows
theorem a6u {l:PySem.W.OpenLaw} {n k:Nat} {q:Program} {loose:List Str} {XP:(Str→Option Value)→Heap→Prop} {YP:World→Heap→Prop} {d:DefRec} {K:Params→PySem.W.Frag} {CX:World→CXT} {sp:World→Sp} {x:Str}
    (hn:l.most=some n) (hn2:n≤sizeLine) (hdf:d.params.defaults=[]) (hr:Jr k callerA)
    (hY:∀ (w:World) (h:Heap),YP w h→(K w.params).In h)
    (F:∀ (w:World) (mg:Str→Option Value) (fa:Addr) (h:Heap),(K w.params).In h→h.Ns mainGlobals mg→mg d.name=some (.ref fa) →
      ∃ fd:FuncData,(∀ (s:Shared) (u:Value),BindsTo s fd ⟨[u],[]⟩ [(x,u)]) ∧
        ∀ base:Heap,(K w.params).In base→base.Ns mainGlobals mg→yc l.prog w (K w.params) mg base (CX w) k fa fd [x] (sp w))
    (hsp:∀ (w:World) (H:Hp) (a:Addr) (ns:List Int),ns.length≤n→Only H→SqL (K w.params) H a (ns.map V.int)→sp w [.ref a] H (fun v _=>v=.bl true) fun _ _ _=>False)
    (hCX:∀ (w:World) (H:Hp) (s:Shared) (e:Value) (s':Shared),CX w [] H s (fun _ _ _=>False) e s'→False) :
    PySem.W.WalkO q loose XP YP l.row.toRowW d [] (fun f vs=>PySem.call f vs):=by
  refine Att.S9 hn hdf fun w s₀ s₁ mg mb fa o pm cd doc a vs ns G Y ho hd hcd hmg hobj hints hlen hg=>?_
  have KX:=hY w _ Y
  obtain ⟨fd,hb,hF⟩:=F w mg fa _ KX G.T.g hmg
  exact a2h KX G.T.g G.T.b G.T.builtins G.T.nolimit hg hobj hints (Nat.le_trans hlen hn2) hr hF hb (fun H hO hS=>hsp w H a ns hlen hO hS) fun H e s'=>hCX w H s₁ e s'
end L2
namespace L2
open PySem PySem.Spec PyProof.Rows
noncomputable def Dk (s:Stmt):Arguments:=match s with
  | .FunctionDef _ a _ _ _ _ _ _ _ _=>a
  | _=>{ posonlyargs:=[],args:=[],vararg:=none,kwonlyargs:=[],kw_defaults:=[],kwarg:=none,defaults:=[] }
noncomputable def Am (s:Stmt):List Stmt:=match s with
  | .FunctionDef _ _ b _ _ _ _ _ _ _=>b
  | _=>[]
noncomputable def gj (s:Stmt):Scope:=match s with
  | .FunctionDef _ _ _ _ _ _ sc _ _ _=>sc
  | _=>{ kind:=.function,names:=[],isGenerator:=false,isCoroutine:=false }
noncomputable abbrev CX0:CXT:=fun _ _ _ _ _ _=>False
noncomputable abbrev E0:XK:=fun _ _ _=>False
theorem a8n {X:Cx}:Passes CX0 X E0:=fun _ _ _ _ _ _ _ h=>h.elim
structure Fun (K:PySem.W.Frag) (x qual:Str) (st:Stmt) (f:Addr) (fd:FuncData):Prop where
  ex:∃ (oc:Value) (od:Option Addr) (kV doc pm:Value) (an:Option Addr) (cdv ct:Value) (osl:Array (Option Value)),
    fd=PySem.W.fnOf x qual (Dk st) (Am st) (gj st) .none kV doc pm an cdv ct∧K.lookup f=some ⟨oc,od,.func fd,osl⟩∧PySem.W.codeIn K cdv qual=true
  kp:PySem.W.keepIn K (.ref f)=true
noncomputable section
variable {P:Program} {w:World} {K:PySem.W.Frag} {mg:Str→Option Value} {base:Heap}
theorem Fun.ok {x qual:Str} {st:Stmt} {f:Addr} {fd:FuncData} {N ps:List Str} {k:Nat} {sp:Sp} (F:Fun K x qual st f fd) (S:jc N ps (gj st)) (len:∀ vs H Q E,sp vs H Q E→vs.length=ps.length)
    (hbody:∀ (cdv:Value) (A:Around) (outer:List Env) (s:Shared) (H:Hp) (vs:List V) (Q:VK) (E:XK),Jr k (A.deeper (envOfC qual (gj st) s.heap.objs.size f cdv))→sp vs H Q E →
      ∃ t,PSs (a3v CX0 P w K mg base N qual (gj st) f cdv A outer s H E).nox (Am st) t∧t { nx:=fun _ H'=>Q .non H',rt:=Q } (start N vs) H):yc P w K mg base CX0 (k+1) f fd ps sp:=by
  obtain ⟨oc,od,kV,doc,pm,an,cdv,ct,osl,rfl,lk,hcd⟩:=F.ex
  refine a9y lk hcd S len fun A outer s H vs Q E hr hsp=>?_
  obtain ⟨t,h,q⟩:=hbody cdv A outer s H vs Q E hr hsp
  exact ⟨t,h.nox,q⟩
theorem Fun.binds {x qual:Str} {st:Stmt} {f:Addr} {fd:FuncData} {ps:List Str} (F:Fun K x qual st f fd)
    (h:∀ (kV doc pm:Value) (an:Option Addr) (cdv ct:Value) (us:List Value),us.length=ps.length→bindArgs (PySem.W.fnOf x qual (Dk st) (Am st) (gj st) .none kV doc pm an cdv ct) ⟨us,[]⟩=pure (ps.zip us)):Binds K fd ps []:=by
  obtain ⟨oc,od,kV,doc,pm,an,cdv,ct,osl,rfl,lk,hcd⟩:=F.ex
  exact .all (h kV doc pm an cdv ct)
theorem bd1 {fd:FuncData} {ps:List Str} (h:∀ a,bindArgs fd ⟨[a],[]⟩=pure (ps.zip [a])) (us:List Value) (hl:us.length=1):bindArgs fd ⟨us,[]⟩=pure (ps.zip us):=by
  cases us with
  | nil=>exact nomatch hl
  | cons a us =>
  cases us with
  | cons _ _=>simp at hl
  | nil=>exact h a
theorem bd2 {fd:FuncData} {ps:List Str} (h:∀ a b,bindArgs fd ⟨[a,b],[]⟩=pure (ps.zip [a,b])) (us:List Value) (hl:us.length=2):bindArgs fd ⟨us,[]⟩=pure (ps.zip us):=by
  cases us with
  | nil=>exact nomatch hl
  | cons a us =>
  cases us with
  | nil=>exact nomatch hl
  | cons b us =>
  cases us with
  | cons _ _=>simp at hl
  | nil=>exact h a b
theorem bd3 {fd:FuncData} {ps:List Str} (h:∀ a b c,bindArgs fd ⟨[a,b,c],[]⟩=pure (ps.zip [a,b,c])) (us:List Value) (hl:us.length=3):bindArgs fd ⟨us,[]⟩=pure (ps.zip us):=by
  cases us with
  | nil=>exact nomatch hl
  | cons a us =>
  cases us with
  | nil=>exact nomatch hl
  | cons b us =>
  cases us with
  | nil=>exact nomatch hl
  | cons c us =>
  cases us with
  | cons _ _=>simp at hl
  | nil=>exact h a b c
theorem bd4 {fd:FuncData} {ps:List Str} (h:∀ a b c d,bindArgs fd ⟨[a,b,c,d],[]⟩=pure (ps.zip [a,b,c,d])) (us:List Value) (hl:us.length=4):bindArgs fd ⟨us,[]⟩=pure (ps.zip us):=by
  cases us with
  | nil=>exact nomatch hl
  | cons a us =>
  cases us with
  | nil=>exact nomatch hl
  | cons b us =>
  cases us with
  | nil=>exact nomatch hl
  | cons c us =>
  cases us with
  | nil=>exact nomatch hl
  | cons d us =>
  cases us with
  | cons _ _=>simp at hl
  | nil=>exact h a b c d
theorem bd5 {fd:FuncData} {ps:List Str} (h:∀ a b c d e,bindArgs fd ⟨[a,b,c,d,e],[]⟩=pure (ps.zip [a,b,c,d,e])) (us:List Value) (hl:us.length=5):bindArgs fd ⟨us,[]⟩=pure (ps.zip us):=by
  cases us with
  | nil=>exact nomatch hl
  | cons a us =>
  cases us with
  | nil=>exact nomatch hl
  | cons b us =>
  cases us with
  | nil=>exact nomatch hl
  | cons c us =>
  cases us with
  | nil=>exact nomatch hl
  | cons d us =>
  cases us with
  | nil=>exact nomatch hl
  | cons e us =>
  cases us with
  | cons _ _=>simp at hl
  | nil=>exact h a b c d e
theorem a4g {x qual:Str} {st:Stmt} {f:Addr} {oc:Value} {od an:Option Addr} {osl:Array (Option Value)} {kV doc pm cdv ct:Value} (l:K.lookup f=some ⟨oc,od,.func (PySem.W.fnOf x qual (Dk st) (Am st) (gj st) .none kV doc pm an cdv ct),osl⟩)
    (c:PySem.W.codeIn K cdv qual=true) (k:PySem.W.keepIn K (.ref f)=true):Fun K x qual st f (PySem.W.fnOf x qual (Dk st) (Am st) (gj st) .none kV doc pm an cdv ct):=⟨⟨oc,od,kV,doc,pm,an,cdv,ct,osl,rfl,l,c⟩,k⟩
end
theorem um {A:Around} {k:Nat} (hr:Jr k A):A.units+1<cLine:=Nat.lt_of_le_of_lt (Nat.add_le_add_left (by decide:1≤64) _) hr.units
theorem G8 {n:Nat} (h:n≤1000):n<sizeLine:=Nat.lt_of_le_of_lt h (by decide)
noncomputable section
variable {X:Cx}
theorem pv (i:Nat) {x:Str} {pos:Pos} (hN:X.N[i]? = some x:=by rfl) (hv:Vis X.env.scope x:=by first | exact Or.inl rfl | exact Or.inr (Or.inl rfl) | exact Or.inr (Or.inr rfl)) (hd:(x==("__debug__" : Str))=false:=by decide)
    (hcd:(x==("__classdict__" : Str))=false:=by decide):PE X (.Name x pos) (a3c i):=a86 hN hv hd hcd
end
theorem a7s {A B:Prop} (h:B):if false=true then A else B:=by
  rw [if_neg Bool.false_ne_true]
  exact h
theorem a8r {A B:Prop} (h:A):if true=true then A else B:=by
  rw [if_pos rfl]
  exact h
noncomputable def Same (H H':Hp):Prop:=∀ b o,H b=some o→H' b=some o
theorem Same.refl (H:Hp):Same H H:=fun _ _ h=>h
theorem Same.trans {H H1 H2:Hp} (a:Same H H1) (b:Same H1 H2):Same H H2:=fun c o h=>b c o (a c o h)
theorem Same.free {H H':Hp} (e:Same H H') {l:Addr} (h:H' l=Option.none):H l=Option.none:=by
  cases q:H l with
  | none=>rfl
  | some o =>
    rw [e l o q] at h
    cases h
theorem Same.seq {K:PySem.W.Frag} {H H':Hp} {a:Addr} {xs:List V} (e:Same H H') (h:SqL K H a xs):SqL K H' a xs:=by
  rcases h with (h | ⟨o,h⟩) | h
  · exact .inl (.inl (e _ _ h))
  · exact .inl (.inr ⟨o,e _ _ h⟩)
  · exact .inr h
end L2
end
noncomputable section
set_option linter.all false
set_option maxRecDepth 100000
namespace L2
open PySem PySem.Spec PyProof.Rows
noncomputable section
variable {X:Cx}
end
noncomputable section
variable {κ:Type} [DecidableEq κ]
end
end L2
end
noncomputable section
namespace C
open PySem
theorem je {α:Type} {w:α} {P:Prop} (h:none=some w):P:=nomatch h
theorem yj {α:Type} {c:Prop} [Decidable c] {o:Option α} {w:α} (h:(if c then o else none)=some w):c∧o=some w:=by
  by_cases z:c
  · rw [if_pos z] at h; exact ⟨z,h⟩
  · rw [if_neg z] at h; exact je h
noncomputable abbrev Key:=Sum Int Str
inductive T where
  | non | bl (b:Bool) | int (i:Int) | str (x:Str)
  | tup (xs:List T) | lst (xs:List T) | dic (kvs:List (Key × T)) | obj (n:Nat)
instance:Inhabited T:=⟨.non⟩
inductive SO where
  | dic (kvs:List (Key × T)) | lst (xs:List T) | dit (kvs:List (List Key × T))
noncomputable abbrev Slot:=Option (T × Bool)
structure Sta where
  env:List Slot
  sto:List SO
noncomputable abbrev M (α:Type):=Sta→Option (α × Sta)
noncomputable def Av (k:Key):List (Key × T)→Option T
  | []=>none
  | (q,t)::r=>if q=k then some t else Av k r
noncomputable def Cz (k:Key) (t:T) (kvs:List (Key × T)):List (Key × T) :=
  if kvs.any fun p=>decide (p.1=k) then kvs.map fun p=>if p.1=k then (p.1,t) else p else kvs++[(k,t)]
noncomputable def keyOf:T→Option Key
  | .int i=>some (.inl i)
  | .str x=>some (.inr x)
  | _=>none
noncomputable def W9:Key→T
  | .inl i=>.int i
  | .inr x=>.str x
mutual
noncomputable def dat:T→Option PyData
  | .non=>some .none
  | .bl b=>some (.bool b)
  | .int i=>some (.int i)
  | .str x=>if PyData.canLay0 (.str x) then some (.str x) else none
  | .tup xs=>(Nu xs).map .tuple
  | .lst xs=>(Nu xs).map .list
  | .dic _=>none
  | .obj _=>none
noncomputable def Nu:List T→Option (List PyData)
  | []=>some []
  | x::r=>match dat x with
    | some a=>(Nu r).map (a :: ·)
    | none=>none
end
noncomputable def eqD (a b:T):Option Bool:=match dat a with
  | some x=>match dat b with
    | some y=>if x.depth≤40 then some (PyData.eqv x y) else none
    | none=>none
  | none=>none
noncomputable def a2u:List (Key × T)→List (Key × T)→Option Bool
  | [],_=>some true
  | (k,x)::r,ys=>match Av k ys with
    | none=>some false
    | some y=>match eqD x y with
      | some e=>(a2u r ys).map (e && ·)
      | none=>none
noncomputable def eqT:T→T→Option Bool
  | .dic a,.dic b=>if a.length=b.length then a2u a b else some false
  | x,y=>eqD x y
noncomputable def au (t:T):M T:=fun s=>some (t,s)
noncomputable def bf (i:Nat):M T:=fun s=>match s.env[i]? with
  | some (some (t,false))=>some (t,s)
  | some (some (t,true))=>some (t,{ s with env:=s.env.set i (some (t,false)) })
  | _=>none
noncomputable def dg:M (List T):=fun s=>some ([],s)
noncomputable def ak (a:M T) (r:M (List T)):M (List T):=fun s=>match a s with
  | some (t,s1)=>match r s1 with
    | some (ts,s2)=>some (t::ts,s2)
    | none=>none
  | none=>none
noncomputable def ux:List Str→M (List T)
  | []=>dg
  | x::r=>ak (au (.str x)) (ux r)
noncomputable def ig (f:List T→Option T) (a:M (List T)):M T:=fun s=>match a s with
  | some (ts,s1)=>match f ts with
    | some t=>some (t,s1)
    | none=>none
  | none=>none
noncomputable def mUn (f:T→Option T) (a:M T):M T:=fun s=>match a s with
  | some (t,s1)=>match f t with
    | some u=>some (u,s1)
    | none=>none
  | none=>none
noncomputable def mOp (f:T→T→Option T) (a b:M T):M T:=fun s=>match a s with
  | some (t,s1)=>match b s1 with
    | some (u,s2)=>match f t u with
      | some v=>some (v,s2)
      | none=>none
    | none=>none
  | none=>none
noncomputable abbrev Fn:=List T→List SO→Option (T × List SO)
noncomputable def dw (F:Fn) (a:M (List T)):M T:=fun s=>match a s with
  | some (ts,s1)=>match F ts s1.sto with
    | some (t,sto)=>some (t,{ s1 with sto:=sto })
    | none=>none
  | none=>none
noncomputable def iu (a:M T):M Bool:=fun s=>match a s with
  | some (.bl b,s1)=>some (b,s1)
  | _=>none
noncomputable def yw (a:M Bool):M Bool:=fun s=>match a s with
  | some (b,s1)=>some (!b,s1)
  | none=>none
noncomputable def Bu (a b:M Bool):M Bool:=fun s=>match a s with
  | some (true,s1)=>b s1
  | some (false,s1)=>some (false,s1)
  | none=>none
noncomputable def mOr (a b:M Bool):M Bool:=fun s=>match a s with
  | some (true,s1)=>some (true,s1)
  | some (false,s1)=>b s1
  | none=>none
noncomputable def qb (a:M Bool):M T:=fun s=>match a s with
  | some (b,s1)=>some (.bl b,s1)
  | none=>none
noncomputable def mIf (c:M Bool) (a b:M T):M T:=fun s=>match c s with
  | some (true,s1)=>a s1
  | some (false,s1)=>b s1
  | none=>none
noncomputable abbrev lim:Nat:=1000000
noncomputable def Di (i:Int):Bool:=decide (-(2 ^ 64)<i∧i<2 ^ 64)
noncomputable def u5:T→T→Option T
  | .int i,.int j=>some (.int (i+j))
  | .str x,.str y=>if x.length+y.length<lim then some (.str (x++y)) else none
  | .tup x,.tup y=>if x.length+y.length<lim then some (.tup (x++y)) else none
  | .lst x,.lst y=>if x.length+y.length<lim then some (.lst (x++y)) else none
  | _,_=>none
noncomputable def Bg:T→T→Option T
  | .int i,.int j=>some (.int (i - j))
  | _,_=>none
noncomputable def O7:T→T→Option T
  | .int i,.int j=>if Di i||Di j then some (.int (i * j)) else none
  | .str x,.int j=>if 0≤j∧j≤1000∧x.length≤100 then some (.str ⟨((List.replicate j.toNat x.cps.toList).flatten).toArray⟩) else none
  | _,_=>none
noncomputable def uy:T→T→Option T
  | .int i,.int j=>if 0<j then some (.int (i%j)) else none
  | _,_=>none
noncomputable def fdl:Nat:=2 ^ 200
noncomputable def ju:T→T→Option T
  | .int i,.int j=>if 0<j∧(j<1073741824∨j.natAbs<fdl) then some (.int (i / j)) else none
  | _,_=>none
noncomputable def Bo:T→Option T
  | .int i=>some (.int (-i))
  | _=>none
noncomputable def ltT:T→T→Option T
  | .int i,.int j=>some (.bl (decide (i<j)))
  | _,_=>none
noncomputable def leT:T→T→Option T
  | .int i,.int j=>some (.bl (decide (i≤j)))
  | _,_=>none
noncomputable def eqO (x y:T):Option T:=match eqT x y with
  | some b=>some (.bl b)
  | none=>none
noncomputable def neO (x y:T):Option T:=match eqT x y with
  | some b=>some (.bl (!b))
  | none=>none
noncomputable def ixI (n:Nat) (i:Int):Option Nat:=if 0≤i then (if i<n then some i.toNat else none) else if -(n:Int)≤i then some (i+n).toNat else none
noncomputable def cu:T→T→Option T
  | .tup xs,.int i=>(ixI xs.length i).bind (xs[·]?)
  | .lst xs,.int i=>(ixI xs.length i).bind (xs[·]?)
  | .str x,.int i=>if x.length<lim then (ixI x.cps.toList.length i).bind fun j=>(x.cps.toList[j]?).map fun c=>.str ⟨#[c]⟩ else none
  | .dic kvs,k=>(keyOf k).bind (Av · kvs)
  | _,_=>none
noncomputable def yg:List T→Option T
  | [.tup xs]=>some (.int xs.length)
  | [.lst xs]=>some (.int xs.length)
  | [.str x]=>if x.length<lim then some (.int x.length) else none
  | [.dic kvs]=>some (.int kvs.length)
  | _=>none
noncomputable def inL (x:T):List T→Option Bool
  | []=>some false
  | y::r=>match eqD y x with
    | some e=>(inL x r).map (e || ·)
    | none=>none
noncomputable def inT (x y:T):Option T:=match y with
  | .dic kvs=>(keyOf x).map fun q=>.bl (Av q kvs).isSome
  | _=>if (dat x).isSome then (match y with
    | .tup ys=>(inL x ys).map .bl
    | .lst ys=>(inL x ys).map .bl
    | _=>none) else none
noncomputable def Bm:List T→Option T
  | [.lst xs]=>some (.tup xs)
  | [.tup xs]=>some (.tup xs)
  | _=>none
noncomputable def Bs:List T→Option (List (Key × T))
  | []=>some []
  | .tup [k,v]::r=>match keyOf k,Bs r with
    | some q,some l=>some ((q,v)::l)
    | _,_=>none
  | _=>none
noncomputable def Jj:List T→Option T
  | [.lst xs]=>if xs.length<lim then (Bs xs).map fun l=>.dic (l.foldl (fun d p=>Cz p.1 p.2 d) []) else none
  | [.tup xs]=>if xs.length<lim then (Bs xs).map fun l=>.dic (l.foldl (fun d p=>Cz p.1 p.2 d) []) else none
  | [.dic kvs]=>some (.dic kvs)
  | _=>none
noncomputable def W4:List T→Option (List Int)
  | []=>some []
  | .int i::r=>(W4 r).map (i :: ·)
  | _=>none
noncomputable def a9p:List T→Option T
  | [.lst xs]=>(W4 xs).map fun l=>.int l.sum
  | _=>none
noncomputable def Ht:List T→Option (List Bool)
  | []=>some []
  | .bl b::r=>(Ht r).map (b :: ·)
  | _=>none
noncomputable def aan:List T→Option T
  | [.lst xs]=>(Ht xs).map fun l=>.bl (l.all id)
  | _=>none
noncomputable def ab8:List T→Option T
  | [.lst xs]=>(Ht xs).map fun l=>.bl (l.any id)
  | _=>none
noncomputable def K5:List T→Option (List Str)
  | []=>some []
  | .str x::r=>(K5 r).map (x :: ·)
  | _=>none
noncomputable def Wj (x:Str):List Str→List Str
  | []=>[x]
  | y::r=>if decide (x.cps.toList<y.cps.toList) then x::y::r else y::Wj x r
noncomputable def Br (l:List Str):List Str:=l.foldl (fun acc x=>Wj x acc) []
noncomputable def Mz:List T→Option T
  | [.lst xs]=>if xs.length<64 then (K5 xs).map fun l=>.lst ((Br l).map .str) else none
  | [.dic kvs]=>if kvs.length<64 then (K5 (kvs.map fun p=>W9 p.1)).map fun l=>.lst ((Br l).map .str) else none
  | _=>none
noncomputable def Ea:List T→Option T
  | [.int i]=>some (.int (if i<0 then -i else i))
  | _=>none
noncomputable def Ml:List T→Option T
  | [.int n]=>if n.natAbs<lim then some (.lst ((List.range n.toNat).map fun (k:Nat)=>.int (k:Int))) else none
  | _=>none
noncomputable def Jk (i:Nat) (s:Sta):Bool:=match s.env[i]? with
  | some (some (.dic _,_))=>true
  | _=>false
noncomputable def p7 (i:Nat) (s:Sta):Bool:=match s.env[i]? with
  | some (some (.lst _,_))=>true
  | _=>false
noncomputable def wu (i:Nat) (k:M T):M T:=fun s=>if Jk i s then (match k s with
  | some (kt,s1)=>match s1.env[i]? with
    | some (some (.dic kvs,_))=>match (keyOf kt).bind (Av · kvs) with
      | some t=>some (t,s1)
      | none=>none
    | _=>none
  | none=>none) else none
noncomputable def Gj (i:Nat) (k d:M T):M T:=fun s=>if Jk i s then (match k s with
  | some (kt,s1)=>match d s1 with
    | some (dt,s2)=>match s2.env[i]? with
      | some (some (.dic kvs,_))=>match keyOf kt with
        | some q=>some ((Av q kvs).getD dt,s2)
        | none=>none
      | _=>none
    | none=>none
  | none=>none) else none
noncomputable def a8m:List T→Option T
  | [.dic kvs,k,d]=>(keyOf k).map fun q=>(Av q kvs).getD d
  | _=>none
inductive Flow where
  | next | ret (t:T) | brk | cont
noncomputable abbrev S:=Sta→Option (Flow × Sta)
noncomputable def tu:S:=fun s=>some (.next,s)
noncomputable def j8 (a b:S):S:=fun s=>match a s with
  | some (.next,s1)=>b s1
  | r=>r
noncomputable def jz (e:M T):S:=fun s=>match e s with
  | some (t,s1)=>some (.ret t,s1)
  | none=>none
noncomputable def sIf (c:M Bool) (a b:S):S:=fun s=>match c s with
  | some (true,s1)=>a s1
  | some (false,s1)=>b s1
  | none=>none
noncomputable def gb (i:Nat) (t:T) (own:Bool) (s:Sta):Sta:={ s with env:=s.env.set i (some (t,own)) }
noncomputable def nj (i:Nat) (e:M T):S:=fun s=>match e s with
  | some (t,s1)=>some (.next,gb i t false s1)
  | none=>none
noncomputable def sNew (i:Nat) (e:M T):S:=fun s=>match e s with
  | some (t,s1)=>some (.next,gb i t true s1)
  | none=>none
noncomputable def j6 (i:Nat) (e:M T):S:=fun s=>if p7 i s then (match e s with
  | some (t,s1)=>match s1.env[i]? with
    | some (some (.lst xs,true))=>if xs.length<lim then some (.next,gb i (.lst (xs++[t])) true s1) else none
    | _=>none
  | none=>none) else none
noncomputable def uh:T→Option (List T)
  | .lst xs=>some xs
  | .tup xs=>some xs
  | _=>none
noncomputable def j4 (i:Nat) (e:M T):S:=fun s=>if p7 i s then (match e s with
  | some (t,s1)=>match uh t,s1.env[i]? with
    | some ys,some (some (.lst xs,true))=>if xs.length+ys.length<lim then some (.next,gb i (.lst (xs++ys)) true s1) else none
    | _,_=>none
  | none=>none) else none
noncomputable def qu (i:Nat) (k v:M T):S:=fun s=>match v s with
  | some (t,s1)=>if Jk i s1 then (match k s1 with
    | some (kt,s2)=>match s2.env[i]?,keyOf kt with
      | some (some (.dic kvs,true)),some q=>if kvs.length<lim then some (.next,gb i (.dic (Cz q t kvs)) true s2) else none
      | _,_=>none
    | none=>none) else none
  | none=>none
noncomputable def jd (i:Nat):S:=fun s=>match s.env[i]? with
  | some (some (.lst xs,true))=>some (.next,gb i (.lst xs.reverse) true s)
  | _=>none
noncomputable def sNx (u:S):S:=fun s=>match u s with
  | some (.next,s1)=>some (.next,s1)
  | _=>none
noncomputable def jh (i:Nat):S:=fun s=>match s.env[i]? with
  | some (some (t,true))=>some (.ret t,s)
  | _=>none
noncomputable abbrev G:=T→Sta→Option Sta
noncomputable def hName (i:Nat):G:=fun t s=>some (gb i t false s)
noncomputable def qj (is:List Nat):G:=fun t s=>match t with
  | .tup xs=>if xs.length=is.length then some ((is.zip xs).foldl (fun s p=>gb p.1 p.2 false s) s) else none
  | _=>none
noncomputable def sGo (g:G) (m:M T):S:=fun s=>match m s with
  | some (t,s1)=>match g t s1 with
    | some s2=>some (.next,s2)
    | none=>none
  | none=>none
noncomputable def forL (g:G) (b:S):List T→S
  | []=>fun s=>some (.next,s)
  | t::r=>fun s=>match g t s with
    | some s1=>match b s1 with
      | some (.next,s2)=>forL g b r s2
      | some (.cont,s2)=>forL g b r s2
      | some (.brk,s2)=>some (.next,s2)
      | some (.ret v,s2)=>some (.ret v,s2)
      | none=>none
    | none=>none
noncomputable def uo (g:G) (it:M (List T)) (b:S):S:=fun s=>match it s with
  | some (ts,s1)=>forL g b ts s1
  | none=>none
noncomputable def rangeT (n:Nat):List T:=(List.range n).map fun (k:Nat)=>.int (k:Int)
noncomputable def ji (a:M T):M (List T):=fun s=>match a s with
  | some (.int n,s1)=>if n.natAbs<lim then some (rangeT n.toNat,s1) else none
  | _=>none
noncomputable def m5 (a:M T):M (List T):=fun s=>match a s with
  | some (.lst xs,s1)=>if xs.length<lim then some (xs,s1) else none
  | some (.tup xs,s1)=>if xs.length<lim then some (xs,s1) else none
  | _=>none
noncomputable def Aq (s:Slot):Slot:=match s with
  | some (t,_)=>some (t,false)
  | none=>none
noncomputable def pq (s:Sta):Sta:={ s with env:=s.env.map Aq }
noncomputable def Ef (g:G) (c:M Bool) (e:M T):List T→Sta→List T→Option (List T × Sta)
  | [],s,acc=>some (acc,s)
  | t::r,s,acc=>match g t s with
    | some s1=>match c s1 with
      | some (true,s2)=>match e s2 with
        | some (u,s3)=>if acc.length<lim then Ef g c e r (pq s3) (acc++[u]) else none
        | none=>none
      | some (false,s2)=>Ef g c e r (pq s2) acc
      | none=>none
    | none=>none
noncomputable def jm:M Bool:=fun s=>some (true,s)
noncomputable def gq (is:List Nat) (env:List Slot):List Slot:=is.foldl (fun e i=>match e[i]? with
  | some (some (t,_))=>e.set i (some (t,false))
  | _=>e) env
noncomputable def mj (nv:Nat) (cap:List Nat) (g:G) (it:M (List T)) (c:M Bool) (e:M T):M T:=fun s=>match it s with
  | some (ts,s1) =>
    let env:=gq cap s1.env
    match Ef g c e ts ⟨List.replicate nv none++cap.map (fun i=>(env[i]?).getD none),s1.sto⟩ [] with
    | some (us,s2)=>some (.lst us,⟨env,s2.sto⟩)
    | none=>none
  | none=>none
noncomputable def j9 (n:Nat) (b:S):Fn:=fun ts sto=>match b ⟨ts.map (fun t=>some (t,false))++List.replicate (n - ts.length) none,sto⟩ with
  | some (.ret t,s)=>some (t,s.sto)
  | some (.next,s)=>some (.non,s.sto)
  | _=>none
noncomputable section
variable {s s':Sta} {t v:T} {a b:M T}
theorem Tj {f:T→T→Option T} (h:mOp f a b s=some (v,s')):∃ t s1 u,a s=some (t,s1)∧b s1=some (u,s')∧f t u=some v:=by
  unfold mOp at h
  cases ha:a s with
  | none=>rw [ha] at h; cases h
  | some p =>
    obtain ⟨t,s1⟩:=p; rw [ha] at h; dsimp only at h
    cases hb:b s1 with
    | none=>rw [hb] at h; cases h -- here
    | some p =>
      obtain ⟨u,s2⟩:=p; rw [hb] at h; dsimp only at h
      cases hf:f t u with
      | none=>rw [hf] at h; cases h
      | some w=>rw [hf] at h; cases h; exact ⟨t,s1,u,rfl,hb,hf⟩
theorem Yo {f:T→Option T} (h:mUn f a s=some (v,s')):∃ t,a s=some (t,s')∧f t=some v:=by
  unfold mUn at h
  cases ha:a s with
  | none=>rw [ha] at h; cases h
  | some p =>
    obtain ⟨t,s1⟩:=p; rw [ha] at h; dsimp only at h
    cases hf:f t with
    | none=>rw [hf] at h; cases h
    | some w=>rw [hf] at h; cases h; exact ⟨t,rfl,hf⟩
theorem Aw {f:List T→Option T} {a:M (List T)} (h:ig f a s=some (v,s')):∃ ts,a s=some (ts,s')∧f ts=some v:=by
  unfold ig at h
  cases ha:a s with
  | none=>rw [ha] at h; cases h
  | some p =>
    obtain ⟨t,s1⟩:=p; rw [ha] at h; dsimp only at h
    cases hf:f t with
    | none=>rw [hf] at h; cases h
    | some w=>rw [hf] at h; cases h; exact ⟨t,rfl,hf⟩
theorem vg {r:M (List T)} {ts:List T} (h:ak a r s=some (ts,s')):∃ t s1 us,a s=some (t,s1)∧r s1=some (us,s')∧ts=t::us:=by
  unfold ak at h
  cases ha:a s with
  | none=>rw [ha] at h; cases h
  | some p =>
    obtain ⟨t,s1⟩:=p; rw [ha] at h; dsimp only at h
    cases hb:r s1 with
    | none=>rw [hb] at h; cases h -- here
    | some p=>obtain ⟨u,s2⟩:=p; rw [hb] at h; cases h; exact ⟨t,s1,u,rfl,hb,rfl⟩
theorem Qg {F:Fn} {a:M (List T)} (h:dw F a s=some (v,s')):∃ ts s1 sto,a s=some (ts,s1)∧F ts s1.sto=some (v,sto)∧s' = { s1 with sto:=sto }:=by
  unfold dw at h
  cases ha:a s with
  | none=>rw [ha] at h; cases h
  | some p =>
    obtain ⟨t,s1⟩:=p; rw [ha] at h; dsimp only at h
    cases hf:F t s1.sto with
    | none=>rw [hf] at h; cases h
    | some w=>obtain ⟨w,sto⟩:=w; rw [hf] at h; cases h; exact ⟨t,s1,sto,rfl,hf,rfl⟩
theorem Dm {b:Bool} (h:iu a s=some (b,s')):a s=some (.bl b,s'):=by
  unfold iu at h
  cases ha:a s with
  | none=>rw [ha] at h; cases h
  | some p =>
    obtain ⟨t,s1⟩:=p; rw [ha] at h
    cases t <;> first | (cases h; rfl) | (cases h)
theorem Nx {c:M Bool} (h:qb c s=some (v,s')):∃ b,c s=some (b,s')∧v=.bl b:=by
  unfold qb at h
  cases ha:c s with
  | none=>rw [ha] at h; cases h
  | some p=>obtain ⟨t,s1⟩:=p; rw [ha] at h; cases h; exact ⟨t,rfl,rfl⟩
theorem Tt {c:M Bool} {b:Bool} (h:yw c s=some (b,s')):∃ k,c s=some (k,s')∧b=!k:=by
  unfold yw at h
  cases ha:c s with
  | none=>rw [ha] at h; cases h
  | some p=>obtain ⟨t,s1⟩:=p; rw [ha] at h; cases h; exact ⟨t,rfl,rfl⟩
theorem a2n {c d:M Bool} {b:Bool} (h:Bu c d s=some (b,s')):(∃ s1,c s=some (true,s1)∧d s1=some (b,s'))∨(c s=some (false,s')∧b=false):=by
  unfold Bu at h
  cases ha:c s with
  | none=>rw [ha] at h; cases h
  | some p =>
    obtain ⟨k,s1⟩:=p; rw [ha] at h
    cases k with
    | true=>exact .inl ⟨s1,rfl,h⟩
    | false=>cases h; exact .inr ⟨rfl,rfl⟩
theorem a5w {c d:M Bool} {b:Bool} (h:mOr c d s=some (b,s')):(∃ s1,c s=some (false,s1)∧d s1=some (b,s'))∨(c s=some (true,s')∧b=true):=by
  unfold mOr at h
  cases ha:c s with
  | none=>rw [ha] at h; cases h
  | some p =>
    obtain ⟨k,s1⟩:=p; rw [ha] at h
    cases k with
    | false=>exact .inl ⟨s1,rfl,h⟩
    | true=>cases h; exact .inr ⟨rfl,rfl⟩
theorem a6n {c:M Bool} (h:mIf c a b s=some (v,s')):(∃ s1,c s=some (true,s1)∧a s1=some (v,s'))∨(∃ s1,c s=some (false,s1)∧b s1=some (v,s')):=by
  unfold mIf at h
  cases ha:c s with
  | none=>rw [ha] at h; cases h
  | some p =>
    obtain ⟨k,s1⟩:=p; rw [ha] at h
    cases k with
    | true=>exact .inl ⟨s1,rfl,h⟩
    | false=>exact .inr ⟨s1,rfl,h⟩
theorem a1f {i:Nat} (h:bf i s=some (v,s')):(s.env[i]? = some (some (v,false))∧s'=s)∨(s.env[i]? = some (some (v,true))∧s' = { s with env:=s.env.set i (some (v,false)) }):=by
  unfold bf at h
  split at h
  · rename_i t e; cases h; exact .inl ⟨e,rfl⟩
  · rename_i t e; cases h; exact .inr ⟨e,rfl⟩
  · cases h
end
end C
end
noncomputable section
set_option linter.all false
set_option maxRecDepth 100000
set_option maxHeartbeats 4000002
namespace L2
open PySem PySem.Spec PyProof.Rows
noncomputable section
variable {pr:Program} {wd:World} {Ar:Around} {Rs:Result→Shared→Prop} {s:Shared}
theorem R8 {el tgt itr:Expr} {cs:List Expr} {scp:Scope} {ps:Pos} {itv accv:Value} {en:Env} (J:Nat→Shared→Prop)
    (turn:∀ n z,J n z→wpAny (model pr wd) Ar (pyNext itv) (fun nx z1=>match nx with
      | none=>Rs (.ok .next) z1
      | some v=>wpAny (model pr wd) Ar (letOwnedTupleGo tgt itv v) (fun _ z2=>wpAny (model pr wd) Ar (assign tgt en v) (fun _ z3 =>
          wpAny (model pr wd) Ar (forIn cs true fun c go=>if go=true then do let ok ← isTrue c en (eval c en); pure (ForInStep.yield ok) else pure (ForInStep.yield go)) (fun ok z4 =>
            if ok=true then wpAny (model pr wd) Ar (eval el en) (fun x z5 =>
              wpAny (model pr wd) Ar (call (.builtin "list.append") [accv,x]) (fun _ z6=>∃ m,m<n∧J m z6) (fun _ _=>False) z5) (fun _ _=>False) z4
            else ∃ m,m<n∧J m z4) (fun _ _=>False) z3) (fun _ _=>False) z2) (fun _ _=>False) z1) (fun _ _=>False) z)
    (n:Nat) (h:J n s) :
    codeAny (model pr wd) Ar (.compLoop (.ListComp el [⟨tgt,itr,cs,0⟩] scp ps) 0 itv accv en) Rs s:=by
  refine codeAny_loop rfl J (fun k z hz=>?_) n h
  show wpAny _ Ar ((compTurn (.ListComp el [⟨tgt,itr,cs,0⟩] scp ps) 0 itv accv en).onRaise (fun ex=>do noteFrame ex en; theTreesLotGoes ex)) _ _ z
  refine wpAny_noted ?_
  rw [compTurn_list]
  refine wpAny_bind (wpAny_standAt (wpAny_bind (wpAny_mono (turn k z hz) (fun nx z1 g1=>?_) fun _ _ no=>no.elim)))
  cases nx with
  | none=>exact wpAny_pure g1
  | some v =>
    refine wpAny_bind (wpAny_mono g1 (fun _ z2 g2=>?_) fun _ _ no=>no.elim)
    refine wpAny_bind (wpAny_mono g2 (fun _ z3 g3=>wpAny_bind (wpAny_mono g3 (fun ok z4 g4=>?_) fun _ _ no=>no.elim)) fun _ _ no=>no.elim)
    cases ok with
    | false=>exact wpAny_pure (And.intro rfl g4)
    | true =>
      exact wpAny_bind (wpAny_bind (wpAny_mono g4 (fun x z5 g5=>wpAny_bind (wpAny_mono g5 (fun _ z6 g6=>wpAny_pure (wpAny_pure (And.intro rfl g6))) fun _ _ no=>no.elim)) fun _ _ no=>no.elim))
end
noncomputable def Vx (env:Env):List (Str × NameKind)→List (Str × Addr)→List (Str × Addr)
  | [],cs=>cs
  | (n,k)::r,cs=>Vx env r (if (k==NameKind.free)=true then (match env.cells.lookup n with | some c=>(n,c)::cs | none=>cs) else cs)
noncomputable def Dy (env:Env) (names:List (Str × NameKind)):Bool:=names.all fun y=>!(y.2==NameKind.free)||(env.cells.lookup y.1).isSome
theorem Fg {scope:Scope} {env:Env} (h:Dy env scope.names=true):closureFor scope env=pure (Vx env scope.names []):=by
  have key:∀ (l:List (Str × NameKind)) (cs:List (Str × Addr)),Dy env l=true →
      (forIn (m:=Sem) l cs fun x r=>(do
        if (x.2==NameKind.free)=true then
          let c ← cellOf env x.1
          pure (ForInStep.yield ((x.1,c)::r))
        else pure (ForInStep.yield r)))=pure (Vx env l cs):=by
    intro l
    induction l with
    | nil=>intro cs _; rfl
    | cons x r ih =>
      intro cs h
      obtain ⟨n,k⟩:=x
      unfold Dy at h
      rw [List.all_cons,Bool.and_eq_true] at h -- here
      obtain ⟨h1,h2⟩:=h
      rw [List.forIn_cons]
      by_cases hk:(k==NameKind.free)=true
      · have h1':(env.cells.lookup n).isSome=true:=by simpa [hk] using h1
        obtain ⟨c,hc⟩:=Option.isSome_iff_exists.mp h1'
        have e:cellOf env n=pure c:=by unfold cellOf; rw [hc]
        simp only [hk,if_true,e,pure_bind]
        rw [ih _ h2]
        simp only [Vx,hk,if_true,hc]
      · simp only [hk,if_false,pure_bind,Bool.false_eq_true]
        rw [ih _ h2]
        simp only [Vx,hk,if_false,Bool.false_eq_true]
  have:=key scope.names [] h
  unfold closureFor
  simpa using this
noncomputable def wk (X:Cx) (scope:Scope) (N:List Str) (C:Addr) (s₀:Shared) (H₀:Hp) (ex:List Addr) (pn:List (Addr × Obj)):Cx :=
  { X with N:=N,s₀:=s₀,H₀:=H₀,env:=compEnvC scope (Vx X.env scope.names []) C X.env,outer:=X.stack,ex:=ex,fn:=fun _=>false,pn:=pn,xe:=fun _ _=>False }
structure Lk (X:Cx) (scope:Scope) (N:List Str):Prop where
  has:Dy X.env scope.names=true
  kind:scope.kind=.function
  nocell:∀ y∈scope.names,y.2≠.cell
  names:∀ y∈scope.names,y.2=.local→scope.names.lookup y.1=some .local
noncomputable def a9n (X:Cx) (scope:Scope) (x:Str):Prop :=
  (X.env.kindOf x=some .cell∨X.env.kindOf x=some .free)∧Vis X.env.scope x∧((relabel scope X.env).names.lookup x=some .cell∨(relabel scope X.env).names.lookup x=some .free)
theorem K4 {env:Env}:∀ (l:List (Str × NameKind)) (cs:List (Str × Addr)),(∀ x c,cs.lookup x=some c→env.cells.lookup x=some c) →
    ∀ x c,(Vx env l cs).lookup x=some c→env.cells.lookup x=some c
  | [],cs,h,x,c,e=>h x c e
  | (n,k)::r,cs,h,x,c,e=>by
    rw [Vx] at e
    refine K4 r _ (fun y d q=>?_) x c e
    split at q
    · split at q
      · rename_i c' hc'
        rw [List.lookup_cons] at q
        split at q
        · rename_i hb
          cases q
          have hyn:=eq_of_beq hb
          rw [hyn]; exact hc'
        · exact h y d q
      · exact h y d q
    · exact h y d q
theorem Ww {env:Env}:∀ (l:List (Str × NameKind)) (cs:List (Str × Addr)) (x:Str),(∃ c,cs.lookup x=some c)→∃ c,(Vx env l cs).lookup x=some c
  | [],cs,x,h=>h
  | (n,k)::r,cs,x,h=>by
    rw [Vx]
    refine Ww r _ x ?_
    split
    · split
      · rename_i c' hc'
        rw [List.lookup_cons]
        split
        · exact ⟨_,rfl⟩
        · exact h
      · exact h
    · exact h
theorem Zf {env:Env}:∀ (l:List (Str × NameKind)) (cs:List (Str × Addr)) (x:Str),Dy env l=true→(x,NameKind.free)∈l→∃ c,(Vx env l cs).lookup x=some c
  | [],cs,x,_,h=>by simp at h
  | (n,k)::r,cs,x,hh,h=>by
    unfold Dy at hh
    rw [List.all_cons,Bool.and_eq_true] at hh
    rw [Vx]
    rcases List.mem_cons.mp h with e | h'
    · injection e with e1 e2
      subst e1; subst e2
      have h1:(env.cells.lookup x).isSome=true:=by simpa using hh.1
      obtain ⟨c,hc⟩:=Option.isSome_iff_exists.mp h1
      refine Ww r _ x ?_
      simp [hc]
    · exact Zf r _ x hh.2 h'
theorem mem_of_lookup {α:Type}:∀ {l:List (Str × α)} {x:Str} {k:α},l.lookup x=some k→(x,k)∈l
  | [],_,_,h=>by simp at h
  | (n,k')::r,x,k,h=>by
    rw [List.lookup_cons] at h
    split at h
    · rename_i hb
      cases h
      have hyn:=eq_of_beq hb
      rw [hyn]; exact List.mem_cons_self
    · exact List.mem_cons_of_mem _ (mem_of_lookup h)
theorem Va {scope:Scope} {env:Env} (nc:∀ y∈scope.names,y.2≠.cell) {x:Str} (h:(relabel scope env).names.lookup x=some .cell∨(relabel scope env).names.lookup x=some .free):(x,NameKind.free)∈scope.names:=by
  have:∃ k,(x,k)∈(relabel scope env).names∧(k=.cell∨k=.free):=by
    rcases h with h | h
    · exact ⟨_,mem_of_lookup h,.inl rfl⟩
    · exact ⟨_,mem_of_lookup h,.inr rfl⟩
  obtain ⟨k,hm,hk⟩:=this
  obtain ⟨⟨n,k'⟩,hm',e⟩:=List.mem_map.mp hm
  dsimp only at e
  split at e
  · rename_i hc
    cases e
    simp only [Bool.and_eq_true,beq_iff_eq] at hc
    obtain ⟨⟨h1,_⟩,_⟩:=hc
    subst h1; exact hm'
  · cases e
    rcases hk with rfl | rfl
    · exact absurd rfl (nc _ hm')
    · exact hm'
noncomputable def PTs (X:Cx) (ifs:List Expr) (t:TT):Prop:=∀ (pins:List (Addr × Obj)) (s:Shared) (σ:St) (H:Hp) (Q:Bool→Hp→Prop),Inv X pins σ H s→t σ H Q →
  wpAny (model X.prog X.w) X.A (forIn ifs true fun c r=>if r=true then do let ok ← isTrue c X.env (eval c X.env); pure (ForInStep.yield ok) else pure (ForInStep.yield r)) (TP X pins σ Q) X.xe s
theorem a5q {X:Cx}:PTs X [] (fun _ H Q=>Q true H):=fun pins s σ H Q I h=>wpAny_tests_nil ⟨H,I,h⟩
theorem a4y {X:Cx} {c:Expr} {t:TT} (h:PT X c t):PTs X [c] t:=fun pins s σ H Q I q=>wpAny_tests_one (h pins s σ H Q I q)
noncomputable def Rh (X:Cx) (scope:Scope) (N:List Str) (g:TG) (tc:TT) (te:TE) (σ:St) (J:It) (H1:Hp) (Q:VK):Prop:=∀ D,H1 D=none→∃ σ0:St,σ0.length=N.length ∧
  (∀ (i:Nat) (v:V) (x:Str),σ0[i]? = some (some v)→N[i]? = some x→Vis (relabel scope X.env) x→∃ k:Nat,X.N[k]? = some x∧σ[k]? = some (some v)∧a9n X scope x) ∧
  ∃ W:Nat→Nat→St→Hp→Prop,(∃ m,W 0 m σ0 (upd H1 D (.lst [])))∧∀ i m σ' H',W i m σ' H' →
    (J.stop i H'∧Q (.ref D) H')∨(J.go i H'∧∀ x H2,J.yld i H' x H2→g x σ' H2 fun σ2 H3=>tc σ2 H3 fun b H4=>if b=true then te σ2 H4 fun y H5=>∃ l,H5 D=some (.lst l)∧l.length<sizeLine∧∃ m',m'<m∧W (i+1) m' σ2 (upd H5 D (.lst (l++[y]))) else ∃ m',m'<m∧W (i+1) m' σ2 H4)
noncomputable def a70 (X:Cx) (scope:Scope) (N:List Str) (wi:TI) (g:TG) (tc:TT) (te:TE):TE:=fun σ H Q=>wi σ H fun J H1=>Rh X scope N g tc te σ J H1 Q
noncomputable section
variable {X:Cx} {scope:Scope} {N:List Str}
theorem Zh (sc:Lk X scope N) {pins:List (Addr × Obj)} {σ:St} {H:Hp} {s:Shared} {fp:List Addr} (I:Inv X pins σ H s) (hf:∀ b∈fp,Vf X pins H b) (hfl:∀ b∈fp,b<s.heap.objs.size) :
    (wk X scope N s.heap.objs.size s H fp (X.pn++pins)).Ok where
  mod:=I.ok.mod
  kind:=sc.kind
  glob:=I.ok.glob
  blt:=I.ok.blt
  above:=Nat.le_refl _
  inj:=fun x y c h1 h2=>I.ok.inj x y c (K4 _ [] (fun _ _ z=>by simp at z) x c h1) (K4 _ [] (fun _ _ z=>by simp at z) y c h2)
  has:=fun x h=>Zf _ [] x sc.has (Va sc.nocell h)
  cab:=fun x c h=>by cases h
  hd:=I.ok.hd
  frames:=I.ok.frames
  stk:=.inl rfl
  exf:=fun b hb=>⟨Nat.ne_of_lt (hfl b hb),fun x c h=>(hf b hb).2.2.2.2.1 x c (K4 _ [] (fun _ _ z=>by simp at z) x c h)⟩
  bs:=I.bs
  bsz:=Nat.le_trans I.ok.bsz I.sz
  noex:=fun b o e hb=>by
    rcases (hf b hb).2.2.2.1 with z | z
    · exact I.ok.noex b o e z
    · exact absurd (Nat.lt_of_lt_of_le (Heap.lt_size e) (Nat.le_trans I.ok.bsz z)) (Nat.lt_irrefl _)
  exfs:=fun b hb z=>by
    rcases List.mem_cons.mp (I.Vb b z) with e | e
    · exact (hf b hb).2.1 e
    · exact (hf b hb).2.2.1 e
  Wk:=I.stack
  frf:=I.Wr
theorem Wd (sc:Lk X scope N) {pins:List (Addr × Obj)} {σ σ0:St} {H:Hp} {s:Shared} {fp:List Addr} {h':Heap} {m:Str→Option Value} {tk:Nat} (I:Inv X pins σ H s) (hf:∀ b∈fp,Vf X pins H b) (hfl:∀ b∈fp,b<s.heap.objs.size)
    (hl:σ0.length=N.length) (h0:∀ (i:Nat) (v:V) (x:Str),σ0[i]? = some (some v)→N[i]? = some x→Vis (relabel scope X.env) x→∃ k:Nat,X.N[k]? = some x∧σ[k]? = some (some v)∧a9n X scope x)
    (hn:h'.Ns s.heap.objs.size m) (hk:∀ b o,s.heap.get? b=some o→h'.get? b=some o) :
    Inv (wk X scope N s.heap.objs.size s H fp (X.pn++pins)) [] σ0 H { s with heap:=h',toks:=tk } where
  ok:=Zh sc I hf hfl
  os:=rfl
  bare:=I.bare
  base:=Un.kept hk
  loc:=⟨m,hn,fun i x v e1 e2 e3=>by
    obtain ⟨k,n2,n3,ck,cv,cr⟩:=h0 i v x e2 e1 e3
    obtain ⟨m0,_,hl0⟩:=I.loc
    obtain ⟨u,r,l⟩:=hl0 k x v n2 n3 cv
    refine ⟨u,r,.inr ⟨cr,?_⟩⟩
    rcases l with ⟨l1,_⟩ | ⟨_,c,hc,z⟩
    · rcases ck with q | q <;> (rw [l1] at q; cases q)
    · obtain ⟨c',hc'⟩:=Zf (env:=X.env) scope.names [] x sc.has (Va sc.nocell cr)
      have q:=K4 scope.names [] (fun _ _ z=>by simp at z) x c' hc'
      rw [hc] at q; cases q
      obtain ⟨o,ho,hd⟩:=z
      exact ⟨c,hc',o,hk _ _ ho,hd⟩⟩
  cell:=fun x c e=>by
    obtain ⟨v,o,ho,hd⟩:=I.cell x c (K4 scope.names [] (fun _ _ z=>by simp at z) x c e)
    exact ⟨v,o,hk _ _ ho,hd⟩
  free:=I.hok.fresh (Nat.le_refl _)
  freeC:=fun x c e=>I.freeC x c (K4 scope.names [] (fun _ _ z=>by simp at z) x c e)
  pin:=fun p hp=>by
    have hp':p∈X.pn++pins:=by simpa [wk] using hp
    obtain ⟨a,b,c,d,e⟩:=I.pin p hp'
    refine ⟨hk _ _ a,b,Nat.ne_of_lt (Heap.lt_size a),fun z=>?_,e⟩
    rcases List.mem_cons.mp (I.Vb p.1 z) with q | q
    · exact c q
    · exact d q
  hok:=I.hok.kept hk
  len:=hl
theorem U5 {pins:List (Addr × Obj)} {σ σ':St} {H H':Hp} {s s':Shared} {fp:List Addr} {h':Heap} (I:Inv X pins σ H s) (hf:∀ b∈fp,Vf X pins H b)
    (J:Inv (wk X scope N s.heap.objs.size s H fp (X.pn++pins)) [] σ' H' s') (hs:Heap.SameBut s.heap.objs.size s'.heap h'):Inv X pins σ H' { s' with heap:=h' }:=by
  have kb:∀ b o,b≠s.heap.objs.size→s'.heap.get? b=some o→h'.get? b=some o:=fun b o n e=>hs.extBut b o n e
  have ne:∀ b o,s.heap.get? b=some o→b≠s.heap.objs.size:=fun b o e=>Nat.ne_of_lt (Heap.lt_size e)
  have fr:H' s.heap.objs.size=none:=J.free
  have u0:Un (frs X.stack) fp H H' s.heap s'.heap:=J.base
  have u:Un (frs X.stack) fp H H' s.heap h':=⟨fun b o e n h1 h2=>kb b o (ne b o e) (u0.keep b o e n h1 h2),fun b o e n h1 h2=>by
      obtain ⟨sl,q⟩:=u0.slot b o e n h1 h2
      exact ⟨sl,kb b _ (ne b o e) q⟩,u0.free,fun b o e h=>by
      obtain ⟨o',q⟩:=u0.there b o e h
      exact ⟨o',kb b _ (ne b o e) q⟩,u0.tups,u0.frzs,u0.tbls⟩
  have hok:HOk X.prog X.w H' h':=fun b o e=>by
    refine (J.hok b o e).stay (fun c v hc q=>kb c v ?_ q) (fun _ q=>q) fun _ _ q=>q
    rcases hc with z | z
    · rw [z]; intro y; rw [y] at e; rw [fr] at e; cases e
    · intro y; rw [y] at z; rw [fr] at z; cases z
  have hos:s'.os=s.os:=J.os
  obtain ⟨hh,g,d,t,os'⟩:=s'
  obtain rfl:os'=s.os:=hos
  exact Inv.call (X:=X) (s:=s) (H:=H) (h':=h') (g':=g) (d':=d) (t':=t) (ch:=fp) I u hok J.bare fun b hb=>⟨(hf b hb).2.2.2.1,(hf b hb).2.1,(hf b hb).2.2.2.2.1,(hf b hb).2.2.2.2.2⟩
variable {tg iter elt:Expr} {ifs:List Expr} {pos:Pos} {g:TG} {tc:TT} {te:TE}
theorem Ln (sc:Lk X scope N) (calm:X.calm=true)
    (hg:∀ C s₀ H₀ ex pn,PG (wk X scope N C s₀ H₀ ex pn) tg g) (hc:∀ C s₀ H₀ ex pn,PTs (wk X scope N C s₀ H₀ ex pn) ifs tc) (he:∀ C s₀ H₀ ex pn,PE (wk X scope N C s₀ H₀ ex pn) elt te)
    {pins:List (Addr × Obj)} {σ:St} {H1:Hp} {s₂:Shared} {it:Addr} {fp:List Addr} {tn:Nat→Heap→Prop} {J:It} {Q:VK} {E:Value→Shared→Prop} {RR:Value→Addr→Result→Shared→Prop}
    (I:Inv X pins σ H1 s₂) (T:Turn X.prog X.w X.K tg J fp it tn) (st2:tn 0 s₂.heap) (f2:∀ b∈fp,Vf X pins H1 b) (q:Rh X scope N g tc te σ J H1 Q)
    (hRR:∀ D s₃ H3 σ' H' s',Inv X pins σ H3 s₃→(∀ b∈fp,Vf X pins H3 b)→Inv (wk X scope N s₃.heap.objs.size s₃ H3 fp (X.pn++pins)) [] σ' H' s'→Q (.ref D) H'→RR (.ref D) s₃.heap.objs.size (.ok .next) s') :
    wpAny (model X.prog X.w) X.A (newList []) (fun acc s₃=>wpAny (model X.prog X.w) X.A (newFunctionEnv scope X.env.globals (Vx X.env scope.names []) [] X.env.qual none .none (some X.env)) (fun cenv s₄ =>
      codeAny (model X.prog X.w) X.A (.compStart (.ListComp elt [⟨tg,iter,ifs,0⟩] scope pos) 0 (.ref it) acc { cenv with scope:=relabel scope X.env }) (RR acc cenv.locals) s₄) E s₃) E s₂:=by
  refine wpAny_newObj_type (wpAny_newFunctionEnv sc.nocell (by intro y hy; simp at hy) (fun h₁ hns₁ hsb₁=>?_) sc.kind)
  dsimp only at hns₁ hsb₁ ⊢
  have I3:Inv X pins σ (upd H1 s₂.heap.objs.size (.lst [])) { s₂ with heap:=s₂.heap.push { cls:=.type "list",dict:=none,data:=.seq ([]:List Value).toArray } } :=
    I.laid (t':=s₂.toks) (fun b ob q=>Heap.get?_push_of_some _ q) (Nat.le_refl _) ⟨Nat.zero_le _,[],_,.nil,Heap.get?_push_size _ rfl⟩
  generalize hs3:({ s₂ with heap:=s₂.heap.push { cls:=.type "list",dict:=none,data:=.seq ([]:List Value).toArray } }:Shared)=s₃ at I3
  have hheap:s₂.heap.push { cls:=.type "list",dict:=none,data:=.seq ([]:List Value).toArray } = s₃.heap:=by rw [← hs3]
  have hstate:∀ (h:Heap) (t:Nat),({ s₂ with heap:=h,toks:=t }:Shared) = { s₃ with heap:=h,toks:=t }:=fun h t=>by rw [← hs3]
  rw [hheap] at hns₁ hsb₁ ⊢
  have lt2:∀ b∈fp,b<s₂.heap.objs.size:=fun b hb=>by
    obtain ⟨o,ho,_⟩:=T.obj _ _ st2 b hb
    exact Heap.lt_size ho
  have sz3:s₃.heap.objs.size=s₂.heap.objs.size+1:=by rw [← hheap,Heap.size_push]
  have k23:∀ b o,s₂.heap.get? b=some o→s₃.heap.get? b=some o:=fun b o e=>by rw [← hheap]; exact Heap.get?_push_of_some _ e
  have f3:∀ b∈fp,Vf X pins (upd H1 s₂.heap.objs.size (.lst [])) b:=fun b hb=>⟨by rw [jt (Nat.ne_of_lt (lt2 b hb))]; exact (f2 b hb).1,(f2 b hb).2⟩
  have lt3:∀ b∈fp,b<s₃.heap.objs.size:=fun b hb=>by rw [sz3]; exact Nat.lt_succ_of_lt (lt2 b hb)
  obtain ⟨σ0,hl,h0,W,⟨m0,w0⟩,turn⟩:=q s₂.heap.objs.size (I.hok.fresh (Nat.le_refl _))
  have k34:∀ b o,s₃.heap.get? b=some o→h₁.get? b=some o:=fun b o e=>hsb₁.extBut b o (Nat.ne_of_lt (Heap.lt_size e)) (Heap.get?_push_of_some _ e)
  rw [hstate]
  have J0:=Wd (tk:=s₂.toks+([]:List (Str × Value)).length) sc I3 f3 lt3 hl h0 hns₁ k34
  have st4:tn 0 h₁:=T.keep _ _ _ st2 fun b _ o e=>k34 b o (k23 b o e)
  have key:∀ s₄:Shared,s₄ = { s₃ with heap:=h₁,toks:=s₂.toks+([]:List (Str × Value)).length }→codeAny (model X.prog X.w) X.A (.compLoop (.ListComp elt [⟨tg,iter,ifs,0⟩] scope pos) 0 (.ref it) (.ref s₂.heap.objs.size)
      (wk X scope N s₃.heap.objs.size s₃ (upd H1 s₂.heap.objs.size (.lst [])) fp (X.pn++pins)).env) (RR (.ref s₂.heap.objs.size) s₃.heap.objs.size) s₄:=by
    rintro s₄ rfl
    generalize hX:wk X scope N s₃.heap.objs.size s₃ (upd H1 s₂.heap.objs.size (.lst [])) fp (X.pn++pins)=X' at J0
    have hP:X'.prog=X.prog:=by rw [← hX]; rfl
    have hW:X'.w=X.w:=by rw [← hX]; rfl
    have hA:X'.A=X.A:=by rw [← hX]; rfl
    have hxe:X'.xe=fun _ _=>False:=by rw [← hX]; rfl
    have hK:X'.K=X.K:=by rw [← hX]; rfl
    have hcal:X'.calm=true:=by rw [← hX]; exact calm
    have stat:∀ {H':Hp},(∀ b∈fp,H' b=none)→∀ b∈fp,Vf X' [] H' b:=fun hn b hb=>by
      have z:=Zh sc I3 f3 lt3
      rw [hX] at z
      refine ⟨hn b hb,(z.exf b (by rw [← hX]; exact hb)).1,z.exfs b (by rw [← hX]; exact hb),.inl (by rw [← hX]; exact hb),(z.exf b (by rw [← hX]; exact hb)).2,fun p hp=>?_⟩
      have hp':p∈X.pn++pins:=by rw [← hX] at hp; simpa [wk] using hp
      exact (f3 b hb).2.2.2.2.2 p hp'
    have hg':PG X' tg g:=by rw [← hX]; exact hg _ _ _ _ _
    have hc':PTs X' ifs tc:=by rw [← hX]; exact hc _ _ _ _ _
    have he':PE X' elt te:=by rw [← hX]; exact he _ _ _ _ _
    have fin:∀ σ' H' s',Inv X' [] σ' H' s'→Q (.ref s₂.heap.objs.size) H'→RR (.ref s₂.heap.objs.size) s₃.heap.objs.size (.ok .next) s':=fun σ' H' s' I' q'=>hRR _ s₃ _ σ' H' s' I3 f3 (by rw [hX]; exact I') q'
    have T':Turn X'.prog X'.w X'.K tg J fp it tn:=by rw [hP,hW,hK]; exact T
    rw [← hP,← hW,← hA]
    refine R8 (J:=fun n s'=>∃ i σ' H',Inv X' [] σ' H' s'∧tn i s'.heap∧(∀ b∈fp,H' b=none)∧W i n σ' H') ?_ m0 ⟨0,σ0,_,J0,st4,fun b hb=>(f3 b hb).1,w0⟩
    rintro n s5 ⟨i,σ5,H5,I5,st5,fr5,w5⟩
    rcases turn i n σ5 H5 w5 with ⟨stop,qn⟩ | ⟨go,step⟩
    · refine thn (T'.done X' rfl rfl rfl hcal i [] s5 σ5 H5 _ I5 (stat fr5) st5 stop) fun r s6 z0=>?_
      obtain ⟨hr,I6⟩:=z0
      subst hr
      exact fin _ _ _ I6 qn
    · refine thn (T'.item X' rfl rfl rfl hcal i [] s5 σ5 H5 _ I5 (stat fr5) st5 go) fun r s6 z0=>?_
      obtain ⟨u,hr,h6⟩:=z0
      subst hr
      refine thn h6 fun _ s7 z0=>?_
      obtain ⟨x,H7,I7,r7,y7,st7,fr7⟩:=z0
      have I7':=I7.pinned (stat fr7) (T'.obj _ _ st7)
      have a1:=hg' _ s7 σ5 H7 x u _ I7' r7 (step x H7 y7)
      rw [hxe] at a1
      refine thn a1 fun _ s8 z0=>?_
      obtain ⟨σ8,H8,I8,q8⟩:=z0
      have a2:=hc' _ s8 σ8 H8 _ I8 q8
      rw [hxe] at a2
      refine thn a2 fun ok s9 z0=>?_
      obtain ⟨H9,I9,q9⟩:=z0
      have again:∀ {σ7:St} {H7:Hp} {s':Shared} {m':Nat},Inv X' ([]++Qi fp s7.heap) σ7 H7 s'→m'<n→W (i+1) m' σ7 H7→∃ m,m<n∧∃ i σ' H',Inv X' [] σ' H' s'∧tn i s'.heap∧(∀ b∈fp,H' b=none)∧W i m σ' H':=fun {σ7 H7 s' m'} I7 hm w7=>by
        refine ⟨m',hm,i+1,σ7,H7,I7.G3,T'.keep _ _ _ st7 fun b hb o e=>(I7.pin (b,o) (List.mem_append_right _ (List.mem_append_right _ (Bq hb e)))).1,fun b hb=>?_,w7⟩
        obtain ⟨o,e,d⟩:=T'.obj _ _ st7 b hb
        exact (I7.pin (b,o) (List.mem_append_right _ (List.mem_append_right _ (Bq hb e)))).2.1
      cases ok with
      | false =>
        rw [if_neg Bool.false_ne_true] at q9 ⊢
        obtain ⟨m',hm,w9⟩:=q9
        exact again I9 hm w9
      | true =>
        rw [if_pos rfl] at q9 ⊢
        have a3:=he' _ s9 σ8 H9 _ I9 q9
        rw [hxe] at a3
        refine thn a3 fun xv s10 z0=>?_
        obtain ⟨y,H10,I10,r10,l,hl10,hz10,m',hm,w10⟩:=z0
        have a4:=Bp (X:=X') _ s10 σ8 H10 (.ref s₂.heap.objs.size) [y] (.ref s₂.heap.objs.size) [xv] (fun _ H'=>H'=upd H10 s₂.heap.objs.size (.lst (l++[y]))) I10 rfl (.cons r10 .nil) ⟨_,l,y,rfl,rfl,hl10,hz10,rfl⟩
        rw [hxe] at a4
        refine thn a4 fun _ s11 z0=>?_
        obtain ⟨v,H11,I11,_,e11⟩:=z0
        subst e11
        exact again I11 hm w10
  exact codeAny_compStart_list (key _ rfl) (T.self _ 0 _ _ _ st4 (key _ rfl))
theorem a5z {wi:TI} (sc:Lk X scope N) (calm:X.calm=true) (hi:PI X tg iter wi)
    (hg:∀ C s₀ H₀ ex pn,PG (wk X scope N C s₀ H₀ ex pn) tg g) (hc:∀ C s₀ H₀ ex pn,PTs (wk X scope N C s₀ H₀ ex pn) ifs tc) (he:∀ C s₀ H₀ ex pn,PE (wk X scope N C s₀ H₀ ex pn) elt te)
    (hs:∀ x,foldedSetIterable iter X.env x=pure x:=by intro _; rfl):PE X (.ListComp elt [⟨tg,iter,ifs,0⟩] scope pos) (a70 X scope N wi g tc te):=by
  intro pins s σ H Q I h
  rw [eval_ListComp]
  refine wpAny_comprehension_free (use:=none) rfl hs (Fg sc.has) sc.kind sc.names ?_
  refine wpAny_mono (hi pins s σ H _ I h) (fun x s₁ h₁=>wpAny_mono h₁ (fun itv s₂ h₂=>?_) fun _ _ e=>e) fun _ _ e=>e
  obtain ⟨it,fp,tn,J,H1,rfl,I2,T,st2,f2,q⟩:=h₂
  refine Ln (RR:=fun acc C=>compPost (model X.prog X.w) X.A X.xe none (EP X pins σ Q) acc C) sc calm hg hc he I2 T st2 f2 q ?_
  intro D s₃ H3 σ' H' s' I3 f3 I' qn
  obtain ⟨m,hn,_⟩:=I'.loc
  exact ⟨m,hn,fun h' hs'=>⟨.ref D,H',U5 I3 f3 I' hs',rfl,qn⟩⟩
theorem Jc {wi:TI} {y:Str} {py spos:Pos} {i:Nat} (sc:Lk X scope N) (calm:X.calm=true) (hi:PI X tg iter wi)
    (hg:∀ C s₀ H₀ ex pn,PG (wk X scope N C s₀ H₀ ex pn) tg g) (hc:∀ C s₀ H₀ ex pn,PTs (wk X scope N C s₀ H₀ ex pn) ifs tc) (he:∀ C s₀ H₀ ex pn,PE (wk X scope N C s₀ H₀ ex pn) elt te)
    (hgN:PG X (.Name y py) (Oa i)) (hsw:swapsWith (.ListComp elt [⟨tg,iter,ifs,0⟩] scope pos) (some (.Name y py)) spos.line X.env=pure true)
    (hs:∀ x,foldedSetIterable iter X.env x=pure x:=by intro _; rfl):PS X (.Assign [.Name y py] (.ListComp elt [⟨tg,iter,ifs,0⟩] scope pos) spos) (a77 (a70 X scope N wi g tc te) (Oa i)):=by
  intro pins s σ H D I h
  rw [exec_Assign_Name_used _ _ _ _ hsw] -- here
  refine wpAny_bind (wpAny_standAt (wpAny_bind ?_)) -- here
  show wpAny _ X.A (do let _ ← comprehension (.ListComp elt [⟨tg,iter,ifs,0⟩] scope pos) scope X.env _ (newList []) false (eval iter X.env) (some (assign (.Name y py) X.env))) _ _ s
  refine wpAny_bind (wpAny_mono (wpAny_comprehension_free (use:=some (assign (.Name y py) X.env)) (Q:=fun _ s'=>SP X pins D .next s') rfl hs (Fg sc.has) sc.kind sc.names ?_) (fun _ s' hq=>wpAny_pure (wpAny_pure hq)) fun _ _ e=>e)
  refine wpAny_mono (hi pins s σ H _ I h) (fun x s₁ h₁=>wpAny_mono h₁ (fun itv s₂ h₂=>?_) fun _ _ e=>e) fun _ _ e=>e
  obtain ⟨it,fp,tn,J,H1,rfl,I2,T,st2,f2,q⟩:=h₂
  refine Ln (RR:=fun acc C=>compPost (model X.prog X.w) X.A X.xe (some (assign (.Name y py) X.env)) (fun _ s'=>SP X pins D .next s') acc C) sc calm hg hc he I2 T st2 f2 q ?_
  intro D' s₃ H3 σ' H' s' I3 f3 I' qn
  obtain ⟨m,hn,_⟩:=I'.loc
  obtain ⟨oC,es,ep,hoC,hdC,hrest⟩:=id hn
  have IX:Inv X pins σ H' s':=U5 I3 f3 I' (.refl ..)
  have fC:Vf X pins H' s₃.heap.objs.size:=I3.a84 (Nat.le_refl _) I'.free
  have IXp:=IX.pinned (fp:=[s₃.heap.objs.size]) (fun b hb=>by rw [List.mem_singleton.mp hb]; exact fC) (fun b hb=>by
    rw [List.mem_singleton.mp hb]
    exact ⟨oC,hoC,fun v z=>by rw [hdC] at z; cases z⟩)
  show wpAny _ X.A (assign (.Name y py) X.env (.ref D')) _ _ _
  refine thn (hgN _ s' σ H' (.ref D') (.ref D') _ IXp rfl qn) fun _ s'' z0=>?_
  obtain ⟨σ'',H'',I'',q''⟩:=z0
  have pC:=I''.pin (s₃.heap.objs.size,oC) (List.mem_append_right _ (List.mem_append_right _ (Bq (by simp) hoC)))
  refine ⟨m,⟨oC,es,ep,pC.1,hdC,hrest⟩,fun h' hs'=>⟨σ'',H'',?_,q''⟩⟩
  exact I''.G3.turned (h':=h') (t':=s''.toks) (it:=s₃.heap.objs.size) (fun b o ne e=>hs'.extBut b o ne e) pC.2.1 fC.2.1 fC.2.2.2.1 fC.2.2.2.2.1 fC.2.2.2.2.2
end
end L2
end
noncomputable section
set_option linter.all false
set_option maxHeartbeats 4000002
set_option autoImplicit false
namespace C
open PySem PySem.Spec PyProof.Rows L2
mutual
inductive Rep (K:PySem.W.Frag) (S:Hp) (as:List Addr):V→T→Prop where
  | non:Rep K S as .non .non
  | bl (b:Bool):Rep K S as (.bl b) (.bl b)
  | int (i:Int):Rep K S as (.int i) (.int i)
  | str (x:Str):Rep K S as (.str x) (.str x)
  | tup {a:Addr} {vs:List V} {ts:List T}:SqT K S a vs→u6 K S as vs ts→Rep K S as (.ref a) (.tup ts)
  | lst {a:Addr} {vs:List V} {ts:List T}:SqL K S a vs→u6 K S as vs ts→Rep K S as (.ref a) (.lst ts)
  | dic {a:Addr} {kvs:List (L2.Key × V)} {ts:List (L2.Key × T)}:Rd S a (.dK kvs)→Dc K S as kvs ts→Rep K S as (.ref a) (.dic ts)
  | obj {n:Nat} {a:Addr}:as[n]? = some a→Rep K S as (.ref a) (.obj n)
inductive u6 (K:PySem.W.Frag) (S:Hp) (as:List Addr):List V→List T→Prop where
  | nil:u6 K S as [] []
  | cons {v:V} {t:T} {vs:List V} {ts:List T}:Rep K S as v t→u6 K S as vs ts→u6 K S as (v::vs) (t::ts)
inductive Dc (K:PySem.W.Frag) (S:Hp) (as:List Addr):List (L2.Key × V)→List (L2.Key × T)→Prop where
  | nil:Dc K S as [] []
  | cons {k:L2.Key} {v:V} {t:T} {vs:List (L2.Key × V)} {ts:List (L2.Key × T)}:Rep K S as v t→Dc K S as vs ts→Dc K S as ((k,v)::vs) ((k,t)::ts)
end
theorem vd {S S':Hp} {a:Addr} {u:HO} (e:Same S S') (h:Rd S a u):Rd S' a u:=by
  rcases h with h | ⟨o,h⟩
  · exact .inl (e _ _ h)
  · exact .inr ⟨o,e _ _ h⟩
theorem m9 {K:PySem.W.Frag} {S S':Hp} {a:Addr} {xs:List V} (e:Same S S') (h:SqT K S a xs):SqT K S' a xs:=by
  rcases h with h | h
  · exact .inl (vd e h)
  · exact .inr h
theorem jx {K:PySem.W.Frag} {S S':Hp} {a:Addr} {xs:List V} (e:Same S S') (h:SqL K S a xs):SqL K S' a xs:=by
  rcases h with h | h
  · exact .inl (vd e h)
  · exact .inr h
noncomputable section
variable {K:PySem.W.Frag} {S S':Hp} {as as':List Addr}
theorem Z7 {α:Type} {l r:List α} {n:Nat} {a:α} (h:l[n]? = some a):(l++r)[n]? = some a:=by
  have:=(List.getElem?_eq_some_iff.mp h).1
  rw [List.getElem?_append_left this]; exact h
theorem Sy {n:Nat} {a:Addr} (x:∃ l,as'=as++l) (h:as[n]? = some a):as'[n]? = some a:=by obtain ⟨l,rfl⟩:=x; exact Z7 h
theorem Rep.mono (e:Same S S') (x:∃ l,as'=as++l) {v:V} {t:T} (h:Rep K S as v t):Rep K S' as' v t :=
  Rep.rec (motive_1:=fun v t _=>Rep K S' as' v t) (motive_2:=fun v t _=>u6 K S' as' v t) (motive_3:=fun v t _=>Dc K S' as' v t) .non .bl .int .str (fun h _ i=>.tup (m9 e h) i) (fun h _ i=>.lst (jx e h) i) (fun h _ i=>.dic (vd e h) i) (fun h=>.obj (Sy x h)) .nil (fun _ _ a b=>.cons a b) .nil (fun _ _ a b=>.cons a b) h
theorem u6.mono (e:Same S S') (x:∃ l,as'=as++l) {v:List V} {t:List T} (h:u6 K S as v t):u6 K S' as' v t :=
  u6.rec (motive_1:=fun v t _=>Rep K S' as' v t) (motive_2:=fun v t _=>u6 K S' as' v t) (motive_3:=fun v t _=>Dc K S' as' v t) .non .bl .int .str (fun h _ i=>.tup (m9 e h) i) (fun h _ i=>.lst (jx e h) i) (fun h _ i=>.dic (vd e h) i) (fun h=>.obj (Sy x h)) .nil (fun _ _ a b=>.cons a b) .nil (fun _ _ a b=>.cons a b) h
theorem Dc.mono (e:Same S S') (x:∃ l,as'=as++l) {v:List (L2.Key × V)} {t:List (L2.Key × T)} (h:Dc K S as v t):Dc K S' as' v t :=
  Dc.rec (motive_1:=fun v t _=>Rep K S' as' v t) (motive_2:=fun v t _=>u6 K S' as' v t) (motive_3:=fun v t _=>Dc K S' as' v t) .non .bl .int .str (fun h _ i=>.tup (m9 e h) i) (fun h _ i=>.lst (jx e h) i) (fun h _ i=>.dic (vd e h) i) (fun h=>.obj (Sy x h)) .nil (fun _ _ a b=>.cons a b) .nil (fun _ _ a b=>.cons a b) h
inductive Lz (K:PySem.W.Frag) (S:Hp) (as:List Addr):List (List L2.Key × V)→List (List L2.Key × T)→Prop where
  | nil:Lz K S as [] []
  | cons {k:List L2.Key} {v:V} {t:T} {vs:List (List L2.Key × V)} {ts:List (List L2.Key × T)}:Rep K S as v t→Lz K S as vs ts→Lz K S as ((k,v)::vs) ((k,t)::ts)
theorem Lz.mono (e:Same S S') (x:∃ l,as'=as++l) {v:List (List L2.Key × V)} {t:List (List L2.Key × T)} (h:Lz K S as v t):Lz K S' as' v t:=by
  induction h with
  | nil=>exact .nil
  | cons h _ ih=>exact .cons (h.mono e x) ih
theorem Lz.length {vs:List (List L2.Key × V)} {ts:List (List L2.Key × T)} (h:Lz K S as vs ts):vs.length=ts.length:=by
  induction h with
  | nil=>rfl
  | cons _ _ ih=>exact congrArg (· + 1) ih
theorem u6.length {vs:List V} {ts:List T} (h:u6 K S as vs ts):vs.length=ts.length :=
  u6.rec (motive_1:=fun _ _ _=>True) (motive_2:=fun v t _=>v.length=t.length) (motive_3:=fun _ _ _=>True) trivial (fun _=>trivial) (fun _=>trivial) (fun _=>trivial) (fun _ _ _=>trivial) (fun _ _ _=>trivial) (fun _ _ _=>trivial) (fun _=>trivial) rfl (fun _ _ _ i=>congrArg (· + 1) i) trivial (fun _ _ _ _=>trivial) h
theorem Dc.length {vs:List (L2.Key × V)} {ts:List (L2.Key × T)} (h:Dc K S as vs ts):vs.length=ts.length :=
  Dc.rec (motive_1:=fun _ _ _=>True) (motive_2:=fun _ _ _=>True) (motive_3:=fun v t _=>v.length=t.length) trivial (fun _=>trivial) (fun _=>trivial) (fun _=>trivial) (fun _ _ _=>trivial) (fun _ _ _=>trivial) (fun _ _ _=>trivial) (fun _=>trivial) trivial (fun _ _ _ _=>trivial) rfl (fun _ _ _ i=>congrArg (· + 1) i) h
theorem u6.get:∀ {vs:List V} {ts:List T} {i:Nat} {t:T},u6 K S as vs ts→ts[i]? = some t→∃ v,vs[i]? = some v∧Rep K S as v t
  | _,_,_,_,.nil,e=>by simp at e
  | _,_,0,_,.cons r _,e=>by simp at e; subst e; exact ⟨_,rfl,r⟩
  | _,_,i+1,t,.cons _ r,e=>by
    obtain ⟨v,h1,h2⟩:=u6.get (i:=i) (t:=t) r (by simpa using e)
    exact ⟨v,by simpa using h1,h2⟩
theorem u6.append {vs:List V} {ts:List T} {ws:List V} {us:List T} (h:u6 K S as vs ts) (q:u6 K S as ws us):u6 K S as (vs++ws) (ts++us) :=
  u6.rec (motive_1:=fun _ _ _=>True) (motive_2:=fun v t _=>u6 K S as (v++ws) (t++us)) (motive_3:=fun _ _ _=>True) trivial (fun _=>trivial) (fun _=>trivial) (fun _=>trivial) (fun _ _ _=>trivial) (fun _ _ _=>trivial) (fun _ _ _=>trivial) (fun _=>trivial) q (fun h _ _ i=>.cons h i) trivial (fun _ _ _ _=>trivial) h
theorem u6.reverse:∀ {vs:List V} {ts:List T},u6 K S as vs ts→u6 K S as vs.reverse ts.reverse
  | _,_,.nil=>.nil
  | _,_,.cons h r=>by rw [List.reverse_cons,List.reverse_cons]; exact u6.append (u6.reverse r) (.cons h .nil)
theorem u6.drop:∀ (n:Nat) {vs:List V} {ts:List T},u6 K S as vs ts→u6 K S as (vs.drop n) (ts.drop n)
  | 0,_,_,r=>r
  | _+1,_,_,.nil=>.nil
  | n+1,_,_,.cons _ r=>u6.drop n r
theorem Dc.get (k:L2.Key):∀ {vs:List (L2.Key × V)} {ts:List (L2.Key × T)},Dc K S as vs ts→(∃ v t,Ku vs k=some v∧Av k ts=some t∧Rep K S as v t)∨(Ku vs k=none∧Av k ts=none)
  | _,_,.nil=>.inr ⟨rfl,rfl⟩
  | _,_,.cons (k:=q) (v:=v) (t:=t) (vs:=vs) (ts:=ts) h r=>by
    by_cases e:q=k
    · exact .inl ⟨v,t,G6 (p:=(q,v)) e,by rw [Av,if_pos e],h⟩
    · rw [Fv (p:=(q,v)) e,Av,if_neg e]
      exact Dc.get k r
end
structure Bas where
  S:Hp
  as:List Addr
  H:Hp
structure a9r (B:Bas) (S:Hp) (as:List Addr) (H:Hp):Prop where
  same:Same B.S S
  more:∃ l,as=B.as++l
  keep:∀ p o,B.H p=some o→B.S p=none→p∉B.as→H p=some o∧S p=none∧p∉as
structure Ext (S H S' H':Hp):Prop where
  s:Same S S'
  h:Same H H'
  sub:Same S' H'
  new:∀ p,S' p≠none→S p≠none∨H p=none
theorem Ext.refl {S H:Hp} (h:Same S H):Ext S H S H:=⟨Same.refl _,Same.refl _,h,fun _ q=>.inl q⟩
theorem Same.upd {H:Hp} {p:Addr} (h:H p=none) (o:HO):Same H (upd H p o):=fun b u q=>by rw [jt (Ac q h)]; exact q
theorem Ext.laid {S H:Hp} (h:Same S H) {p:Addr} (n:H p=none) (o:HO):Ext S H (upd S p o) (upd H p o) where
  s:=Same.upd (h.free n) o
  h:=Same.upd n o
  sub:=fun b u q=>by
    by_cases e:b=p
    · subst e; rw [j5] at q ⊢; exact q
    · rw [jt e] at q ⊢; exact h _ _ q
  new:=fun b q=>by
    by_cases e:b=p
    · subst e; exact .inr n
    · rw [jt e] at q; exact .inl q
theorem Ext.trans {S H S1 H1 S2 H2:Hp} (a:Ext S H S1 H1) (b:Ext S1 H1 S2 H2):Ext S H S2 H2 where
  s:=a.s.trans b.s
  h:=a.h.trans b.h
  sub:=b.sub
  new:=fun p q=>by
    rcases b.new p q with z | z
    · exact a.new p z
    · exact .inr (a.h.free z)
noncomputable def Own (K:PySem.W.Frag) (S:Hp) (as:List Addr) (H:Hp) (p:Addr):T→Prop
  | .lst ts=>∃ vs,H p=some (.lst vs)∧u6 K S as vs ts
  | .dic ts=>∃ kvs,H p=some (.dK kvs)∧Dc K S as kvs ts
  | _=>False
structure Sg (K:PySem.W.Frag) (B:Bas) (S:Hp) (as:List Addr) (H:Hp) (p:Addr) (t:T):Prop where
  own:Own K S as H p t
  out:S p=none
  nas:p∉as
  new:B.H p=none
noncomputable def a3w (K:PySem.W.Frag) (S:Hp) (as:List Addr) (H:Hp) (a:Addr):SO→Prop
  | .dic ts=>∃ kvs,H a=some (.dK kvs)∧Dc K S as kvs ts
  | .lst ts=>∃ vs,H a=some (.lst vs)∧u6 K S as vs ts
  | .dit ts=>∃ kvs,H a=some (.dT kvs)∧Lz K S as kvs ts
structure Ib (K:PySem.W.Frag) (S:Hp) (as:List Addr) (H:Hp) (sto:List SO):Prop where
  len:as.length=sto.length
  nd:as.Nodup
  at':∀ (n:Nat) so,sto[n]? = some so→∃ a,as[n]? = some a∧S a=none∧a3w K S as H a so
structure Rel (K:PySem.W.Frag) (B:Bas) (st:Sta) (σ:L2.St) (H:Hp) (ps:List (V × T)) (S:Hp) (as:List Addr):Prop where
  sub:Same S H
  grow:a9r B S as H
  slots:∀ (i:Nat) t f,st.env[i]? = some (some (t,f))→∃ v,σ[i]? = some (some v)∧(f=false→Rep K S as v t)∧(f=true→∃ p,v=.ref p∧Sg K B S as H p t)
  apart:∀ (i j:Nat) t u p,st.env[i]? = some (some (t,true))→st.env[j]? = some (some (u,true))→σ[i]? = some (some (.ref p))→σ[j]? = some (some (.ref p))→i=j
  sto:Ib K S as H st.sto
  pend:∀ p∈ps,Rep K S as p.1 p.2
  len:σ.length=st.env.length
noncomputable section
variable {K:PySem.W.Frag} {B:Bas} {st:Sta} {σ:L2.St} {H H' S S':Hp} {ps:List (V × T)} {as:List Addr}
theorem nol {as:List Addr}:∃ l:List Addr,as=as++l:=⟨[],(List.append_nil _).symm⟩
theorem Own.mono {p:Addr} {t:T} (hs:Same S S') (hh:H p=H' p) (o:Own K S as H p t):Own K S' as H' p t:=by
  cases t with
  | lst ts=>obtain ⟨vs,h,r⟩:=o; exact ⟨vs,hh ▸ h,r.mono hs nol⟩
  | dic ts=>obtain ⟨vs,h,r⟩:=o; exact ⟨vs,hh ▸ h,r.mono hs nol⟩
  | _=>exact o.elim
theorem Own.there {p:Addr} {t:T} (o:Own K S as H p t):∃ ob,H p=some ob:=by
  cases t with
  | lst ts=>obtain ⟨vs,h,r⟩:=o; exact ⟨_,h⟩
  | dic ts=>obtain ⟨vs,h,r⟩:=o; exact ⟨_,h⟩
  | _=>exact o.elim
theorem a3w.mono {a:Addr} {so:SO} (hs:Same S S') (hh:H a=H' a) (o:a3w K S as H a so):a3w K S' as H' a so:=by
  cases so with
  | dic ts=>obtain ⟨vs,h,r⟩:=o; exact ⟨vs,hh ▸ h,r.mono hs nol⟩
  | lst ts=>obtain ⟨vs,h,r⟩:=o; exact ⟨vs,hh ▸ h,r.mono hs nol⟩
  | dit ts=>obtain ⟨vs,h,r⟩:=o; exact ⟨vs,hh ▸ h,r.mono hs nol⟩
theorem a3w.there {a:Addr} {so:SO} (o:a3w K S as H a so):∃ ob,H a=some ob:=by
  cases so with
  | dic ts=>obtain ⟨vs,h,r⟩:=o; exact ⟨_,h⟩
  | lst ts=>obtain ⟨vs,h,r⟩:=o; exact ⟨_,h⟩
  | dit ts=>obtain ⟨vs,h,r⟩:=o; exact ⟨_,h⟩
theorem Ext.outs (x:Ext S H S' H') {p:Addr} {o:HO} (h:H p=some o) (n:S p=none):S' p=none:=by
  cases q:S' p with
  | none=>rfl
  | some u =>
    rcases x.new p (by rw [q]; exact Option.some_ne_none _) with z | z
    · exact absurd n z
    · rw [h] at z; cases z
theorem Ib.ext {sto:List SO} (r:Ib K S as H sto) (x:Ext S H S' H'):Ib K S' as H' sto where
  len:=r.len
  nd:=r.nd
  at':=fun n so e=>by
    obtain ⟨a,h1,h2,h3⟩:=r.at' n so e
    obtain ⟨ob,ho⟩:=h3.there
    exact ⟨a,h1,x.outs ho h2,h3.mono x.s (by rw [ho,x.h _ _ ho])⟩
theorem Rel.ext (r:Rel K B st σ H ps S as) (x:Ext S H S' H'):Rel K B st σ H' ps S' as where
  sub:=x.sub
  grow:=⟨r.grow.same.trans x.s,r.grow.more,fun p o h1 h2 h3=>by
    obtain ⟨a,b,c⟩:=r.grow.keep p o h1 h2 h3
    exact ⟨x.h _ _ a,x.outs a b,c⟩⟩
  slots:=fun i t f e=>by
    obtain ⟨v,h1,h2,h3⟩:=r.slots i t f e
    refine ⟨v,h1,fun q=>(h2 q).mono x.s nol,fun q=>?_⟩
    obtain ⟨p,e,o⟩:=h3 q
    obtain ⟨ob,ho⟩:=o.own.there
    exact ⟨p,e,o.own.mono x.s (by rw [ho,x.h _ _ ho]),x.outs ho o.out,o.nas,o.new⟩
  apart:=r.apart
  sto:=r.sto.ext x
  pend:=fun p hp=>(r.pend p hp).mono x.s nol
  len:=r.len
theorem Rel.push (r:Rel K B st σ H ps S as) {v:V} {t:T} (h:Rep K S as v t):Rel K B st σ H ((v,t)::ps) S as :=
  ⟨r.sub,r.grow,r.slots,r.apart,r.sto,fun p hp=>by
    rcases List.mem_cons.mp hp with rfl | z
    · exact h
    · exact r.pend p z,r.len⟩
theorem Rel.drop {p:V × T} (r:Rel K B st σ H (p::ps) S as):Rel K B st σ H ps S as :=
  ⟨r.sub,r.grow,r.slots,r.apart,r.sto,fun q hq=>r.pend q (List.mem_cons_of_mem _ hq),r.len⟩
theorem Rel.top {v:V} {t:T} (r:Rel K B st σ H ((v,t)::ps) S as):Rep K S as v t:=r.pend (v,t) List.mem_cons_self
theorem Rel.top2 {v:V} {t:T} {q:V × T} (r:Rel K B st σ H (q::(v,t)::ps) S as):Rep K S as v t:=r.pend (v,t) (List.mem_cons_of_mem _ List.mem_cons_self)
end
inductive tOf (K:PySem.W.Frag) (B:Bas) (m:M T) (σ:L2.St) (H:Hp) (Q:VK):Prop
  | mk (st:Sta) (ps:List (V × T)) (S:Hp) (as:List Addr) (R:Rel K B st σ H ps S as) (t:T) (st':Sta) (e:m st=some (t,st')) (q:∀ v H' S' as',Rel K B st' σ H' ((v,t)::ps) S' as'→Q v H')
inductive cOf (K:PySem.W.Frag) (B:Bas) (m:M Bool) (σ:L2.St) (H:Hp) (Q:Bool→Hp→Prop):Prop
  | mk (st:Sta) (ps:List (V × T)) (S:Hp) (as:List Addr) (R:Rel K B st σ H ps S as) (b:Bool) (st':Sta) (e:m st=some (b,st')) (q:∀ H' S' as',Rel K B st' σ H' ps S' as'→Q b H')
inductive aOf (K:PySem.W.Frag) (B:Bas) (m:M (List T)) (σ:L2.St) (H:Hp) (Q:List V→Hp→Prop):Prop
  | mk (st:Sta) (ps:List (V × T)) (S:Hp) (as:List Addr) (R:Rel K B st σ H ps S as) (ts:List T) (st':Sta) (e:m st=some (ts,st')) (q:∀ vs H' S' as',Rel K B st' σ H' ps S' as'→u6 K S' as' vs ts→Q vs H')
theorem _root_.L2.PE.imp {X:Cx} {e:Expr} {t t':TE} (h:PE X e t) (i:∀ σ H Q,t' σ H Q→t σ H Q):PE X e t':=fun pins s σ H Q I q=>h pins s σ H Q I (i σ H Q q)
theorem _root_.L2.PT.imp {X:Cx} {e:Expr} {t t':TT} (h:PT X e t) (i:∀ σ H Q,t' σ H Q→t σ H Q):PT X e t':=fun pins s σ H Q I q=>h pins s σ H Q I (i σ H Q q)
theorem _root_.L2.PA.imp {X:Cx} {e:List Expr} {t t':TA} (h:PA X e t) (i:∀ σ H Q,t' σ H Q→t σ H Q):PA X e t':=fun pos pins s σ H Q I q=>h pos pins s σ H Q I (i σ H Q q)
theorem _root_.L2.PS.imp {X:Cx} {e:Stmt} {t t':TS} (h:PS X e t) (i:∀ D σ H,t' D σ H→t D σ H):PS X e t':=fun pins s σ H D I q=>h pins s σ H D I (i D σ H q)
theorem _root_.L2.PSs.imp {X:Cx} {e:List Stmt} {t t':TS} (h:PSs X e t) (i:∀ D σ H,t' D σ H→t D σ H):PSs X e t':=fun pins s σ H D I q=>h pins s σ H D I (i D σ H q)
noncomputable def r2 (K:PySem.W.Frag) (f:T→T→Option T):R2:=fun x y H Q=>∃ S as t u w,Same S H∧Rep K S as x t∧Rep K S as y u∧f t u=some w∧∀ v H' S',Ext S H S' H'→Rep K S' as v w→Q v H'
noncomputable def r1 (K:PySem.W.Frag) (f:T→Option T):V→Hp→VK→Prop:=fun x H Q=>∃ S as t w,Same S H∧Rep K S as x t∧f t=some w∧∀ v H' S',Ext S H S' H'→Rep K S' as v w→Q v H'
noncomputable def rL (K:PySem.W.Frag) (f:List T→Option T):List V→Hp→VK→Prop:=fun xs H Q=>∃ S as ts w,Same S H∧u6 K S as xs ts∧f ts=some w∧∀ v H' S',Ext S H S' H'→Rep K S' as v w→Q v H'
noncomputable abbrev OpT (X:Cx) (f:Value→Value→Sem Value) (g:T→T→Option T):Prop:=OpR X f (r2 X.K g)
noncomputable abbrev UnT (X:Cx) (f:Value→Sem Value) (g:T→Option T):Prop:=UnR X f (r1 X.K g)
noncomputable abbrev Qq (X:Cx) (f:Value) (g:List T→Option T):Prop:=Ey X f (rL X.K g)
noncomputable section
variable {X:Cx} {B:Bas} {a b c:Expr} {m m1 m2:M T} {pos:Pos}
theorem Io {v:V} {t:T} {e:Expr} (h:PE X e (tC v)) (r:∀ S as,Rep X.K S as v t):PE X e (tOf X.K B (au t)):=h.imp fun σ H Q z9=>by
  obtain ⟨st,ps,S,as,R,t',st',e,q⟩:=z9
  cases e
  exact q v H S as (R.push (r S as))
theorem cj {i:Int} {j:Nat}:PE X (.Constant (.int i) j pos) (tOf X.K B (au (.int i))):=Io a9g fun _ _=>.int i
theorem Ie {i:Bool} {j:Nat}:PE X (.Constant (.bool i) j pos) (tOf X.K B (au (.bl i))):=Io aav fun _ _=>.bl i
theorem iw {i:Str} {j:Nat}:PE X (.Constant (.str i) j pos) (tOf X.K B (au (.str i))):=Io Yx fun _ _=>.str i
theorem jf {op:Operator} {f:T→T→Option T} (ho:OpT X (binaryOp op) f) (ha:PE X a (tOf X.K B m1)) (hb:PE X b (tOf X.K B m2)):PE X (.BinOp a op b pos) (tOf X.K B (mOp f m1 m2)) :=
  (a9v ho ha hb).imp fun σ H Q z9=>by
    obtain ⟨st,ps,S,as,R,t,st',e,q⟩:=z9
    obtain ⟨t1,s1,t2,e1,e2,e3⟩:=Tj e
    refine ⟨st,ps,S,as,R,t1,s1,e1,fun v H1 S1 as1 R1=>⟨s1,_,S1,as1,R1,t2,st',e2,fun u H2 S2 as2 R2=>?_⟩⟩
    exact ⟨S2,as2,t1,t2,t,R2.sub,R2.top2,R2.top,e3,fun w H3 S3 x r=>q w H3 S3 as2 ((R2.drop.drop.ext x).push r)⟩
end
end C
end
noncomputable section
set_option linter.all false
set_option maxRecDepth 100000
set_option maxHeartbeats 4000002
set_option autoImplicit false
namespace C
open PySem PySem.Spec PyProof.Rows L2
noncomputable section
variable {K:PySem.W.Frag} {B:Bas} {st:Sta} {σ:L2.St} {H H' S S':Hp} {ps:List (V × T)} {as:List Addr}
theorem Rel.freeze (r:Rel K B st σ H ps S as) {i:Nat} {t:T} (e:st.env[i]? = some (some (t,true))) :
    ∃ v S',σ[i]? = some (some v)∧Rel K B { st with env:=st.env.set i (some (t,false)) } σ H ((v,t)::ps) S' as:=by
  obtain ⟨v,h1,_,h3⟩:=r.slots i t true e
  obtain ⟨p,rfl,o⟩:=h3 rfl
  obtain ⟨ob,ho⟩:=o.own.there
  have hi:i<st.env.length:=(List.getElem?_eq_some_iff.mp e).1
  have sS:Same S (upd S p ob):=Same.upd o.out ob
  have rep:Rep K (upd S p ob) as (.ref p) t:=by
    have w:=o.own
    cases t with
    | lst ts=>obtain ⟨vs,h,q⟩:=w; rw [ho] at h; cases h; exact .lst (SqL.of j5) (q.mono sS nol)
    | dic ts=>obtain ⟨vs,h,q⟩:=w; rw [ho] at h; cases h; exact .dic (.inl j5) (q.mono sS nol)
    | _=>exact w.elim
  have outs:∀ q,S q=none→q≠p→upd S p ob q=none:=fun q h n=>by rw [jt n]; exact h
  refine ⟨.ref p,upd S p ob,h1,?_⟩
  refine Rel.push (v:=.ref p) (t:=t) ⟨?_,?_,?_,?_,?_,?_,?_⟩ rep
  · intro b u q
    by_cases z:b=p
    · subst z; rw [j5] at q; cases q; exact ho
    · rw [jt z] at q; exact r.sub _ _ q
  · refine ⟨r.grow.same.trans sS,r.grow.more,fun q w a b c=>?_⟩
    obtain ⟨x,y,z⟩:=r.grow.keep q w a b c
    refine ⟨x,outs q y fun n=>?_,z⟩
    subst n; rw [o.new] at a; cases a
  · intro j u f ej
    by_cases hij:i=j
    · subst hij
      rw [List.getElem?_set_self hi] at ej
      cases ej
      exact ⟨.ref p,h1,fun _=>rep,fun z=>by cases z⟩
    · rw [List.getElem?_set_ne hij] at ej
      obtain ⟨v',a1,a2,a3⟩:=r.slots j u f ej
      refine ⟨v',a1,fun z=>(a2 z).mono sS nol,fun z=>?_⟩
      subst z
      obtain ⟨p',rfl,o'⟩:=a3 rfl
      refine ⟨p',rfl,o'.own.mono sS rfl,outs p' o'.out fun n=>?_,o'.nas,o'.new⟩
      subst n
      exact hij (r.apart i j t u p' e ej h1 a1)
  · intro j k u w q ej ek
    have hj:st.env[j]? = some (some (u,true)):=by
      by_cases hij:i=j
      · subst hij; rw [List.getElem?_set_self hi] at ej; cases ej
      · rwa [List.getElem?_set_ne hij] at ej
    have hk:st.env[k]? = some (some (w,true)):=by
      by_cases hij:i=k
      · subst hij; rw [List.getElem?_set_self hi] at ek; cases ek
      · rwa [List.getElem?_set_ne hij] at ek
    exact r.apart j k u w q hj hk
  · refine ⟨r.sto.len,r.sto.nd,fun n so en=>?_⟩
    obtain ⟨a,a1,a2,a3⟩:=r.sto.at' n so en
    refine ⟨a,a1,outs a a2 fun z=>?_,a3.mono sS rfl⟩
    subst z
    exact o.nas (List.mem_of_getElem? a1)
  · exact fun q hq=>(r.pend q hq).mono sS nol
  · show σ.length=(st.env.set i _).length
    rw [List.length_set]; exact r.len
end
noncomputable section
variable {X:Cx} {B:Bas} {a b c:Expr} {m m1 m2:M T} {pos:Pos}
theorem ao (i:Nat) {e:Expr} (h:PE X e (a3c i)):PE X e (tOf X.K B (bf i)):=h.imp fun σ H Q z9=>by
  obtain ⟨st,ps,S,as,R,t,st',e,q⟩:=z9
  rcases a1f e with ⟨e1,rfl⟩ | ⟨e1,rfl⟩
  · obtain ⟨v,h1,h2,_⟩:=R.slots i t false e1
    exact ⟨v,h1,q v H S as (R.push (h2 rfl))⟩
  · obtain ⟨v,S',h1,R'⟩:=R.freeze e1
    exact ⟨v,h1,q v H S' as R'⟩
theorem cg:PA X [] (aOf X.K B dg):=wz.imp fun σ H Q z9=>by
  obtain ⟨st,ps,S,as,R,ts,st',e,q⟩:=z9
  cases e
  exact q [] H S as R .nil
theorem aj {es:List Expr} {ms:M (List T)} (ha:PE X a (tOf X.K B m)) (hr:PA X es (aOf X.K B ms)) (hs:starEach (a::es) X.env=(false,eval a X.env)::starEach es X.env:=by rfl):PA X (a::es) (aOf X.K B (ak m ms)) :=
  (su ha hr hs).imp fun σ H Q z9=>by
    obtain ⟨st,ps,S,as,R,ts,st',e,q⟩:=z9
    obtain ⟨t,s1,us,e1,e2,rfl⟩:=vg e
    refine ⟨st,ps,S,as,R,t,s1,e1,fun v H1 S1 as1 R1=>⟨s1,_,S1,as1,R1,us,st',e2,fun vs H2 S2 as2 R2 rs=>?_⟩⟩
    exact q (v::vs) H2 S2 as2 R2.drop (.cons R2.top rs)
theorem g8 {es:List Expr} {ms:M (List T)} {k:Nat} (h:PA X es (aOf X.K B ms)) (hm:∀ st ts st',ms st=some (ts,st')→ts.length≤1000):PE X (.Tuple es k pos) (tOf X.K B (ig (fun l=>some (.tup l)) ms)) :=
  (a3n h).imp fun σ H Q z9=>by
    obtain ⟨st,ps,S,as,R,t,st',e,q⟩:=z9
    obtain ⟨ts,e1,e2⟩:=Aw e
    cases e2
    refine ⟨st,ps,S,as,R,ts,st',e1,fun vs H1 S1 as1 R1 rs=>⟨?_,fun p hp=>?_⟩⟩
    · rw [rs.length]; exact Nat.le_of_lt (G8 (hm _ _ _ e1))
    · have x:=Ext.laid R1.sub hp (.tup vs)
      exact q _ _ _ _ ((R1.ext x).push (.tup (SqT.of j5) (rs.mono x.s nol)))
theorem Cy {es:List Expr} {ms:M (List T)} (h:PA X es (aOf X.K B ms)) (hm:∀ st ts st',ms st=some (ts,st')→ts.length≤1000):PE X (.List es pos) (tOf X.K B (ig (fun l=>some (.lst l)) ms)) :=
  (a4k h).imp fun σ H Q z9=>by
    obtain ⟨st,ps,S,as,R,t,st',e,q⟩:=z9
    obtain ⟨ts,e1,e2⟩:=Aw e
    cases e2
    refine ⟨st,ps,S,as,R,ts,st',e1,fun vs H1 S1 as1 R1 rs=>⟨?_,fun p hp=>?_⟩⟩
    · rw [rs.length]; exact Nat.le_of_lt (G8 (hm _ _ _ e1))
    · have x:=Ext.laid R1.sub hp (.lst vs)
      exact q _ _ _ _ ((R1.ext x).push (.lst (SqL.of j5) (rs.mono x.s nol)))
theorem d7:∀ st ts st',dg st=some (ts,st')→ts.length≤0:=fun st ts st' e=>by cases e; exact Nat.le_refl _
theorem aq {r:M (List T)} {n:Nat} (h:∀ st ts st',r st=some (ts,st')→ts.length≤n):∀ st ts st',ak m r st=some (ts,st')→ts.length≤n+1:=fun st ts st' e=>by
  obtain ⟨t,s1,us,e1,e2,rfl⟩:=vg e
  exact Nat.succ_le_succ (h _ _ _ e2)
theorem n8 {ms:M (List T)} {f:List T→Option T} {e:Expr} (h:PE X e (tCB (rL X.K f) (aOf X.K B ms))):PE X e (tOf X.K B (ig f ms)) :=
  h.imp fun σ H Q z9=>by
    obtain ⟨st,ps,S,as,R,t,st',e,q⟩:=z9
    obtain ⟨ts,e1,e2⟩:=Aw e
    refine ⟨st,ps,S,as,R,ts,st',e1,fun vs H1 S1 as1 R1 rs=>⟨S1,as1,ts,t,R1.sub,rs,e2,fun v H2 S2 x r=>?_⟩⟩
    exact q v H2 S2 as1 ((R1.ext x).push r)
theorem Uk {f:T→T→Option T} {e:Expr} (h:PE X e (tOp (r2 X.K f) (tOf X.K B m1) (tOf X.K B m2))):PE X e (tOf X.K B (mOp f m1 m2)) :=
  h.imp fun σ H Q z9=>by
    obtain ⟨st,ps,S,as,R,t,st',e,q⟩:=z9
    obtain ⟨t1,s1,t2,e1,e2,e3⟩:=Tj e
    refine ⟨st,ps,S,as,R,t1,s1,e1,fun v H1 S1 as1 R1=>⟨s1,_,S1,as1,R1,t2,st',e2,fun u H2 S2 as2 R2=>?_⟩⟩
    exact ⟨S2,as2,t1,t2,t,R2.sub,R2.top2,R2.top,e3,fun w H3 S3 x r=>q w H3 S3 as2 ((R2.drop.drop.ext x).push r)⟩
theorem a2k {f:T→Option T} {e:Expr} (h:PE X e (tUn (r1 X.K f) (tOf X.K B m))):PE X e (tOf X.K B (mUn f m)) :=
  h.imp fun σ H Q z9=>by
    obtain ⟨st,ps,S,as,R,t,st',e,q⟩:=z9
    obtain ⟨t1,e1,e3⟩:=Yo e
    refine ⟨st,ps,S,as,R,t1,st',e1,fun v H1 S1 as1 R1=>⟨S1,as1,t1,t,R1.sub,R1.top,e3,fun w H3 S3 x r=>q w H3 S3 as1 ((R1.drop.ext x).push r)⟩⟩
theorem Hw {op:CmpOp} {f:T→T→Option T} (ho:OpT X (compareOp op) f) (ha:PE X a (tOf X.K B m1)) (hb:PE X b (tOf X.K B m2)) (hm:behindInMarks op b=false):PE X (.Compare a [op] [b] pos) (tOf X.K B (mOp f m1 m2)):=Uk (a6j ho ha hb hm)
theorem a3h {op:UnaryOp} {f:T→Option T} (ho:UnT X (unaryOp op) f) (ha:PE X a (tOf X.K B m)):PE X (.UnaryOp op a pos) (tOf X.K B (mUn f m)):=a2k (ab7 ho ha)
theorem Lx {e:Expr} (h:PT X e (a8b (tOf X.K B m))):PT X e (cOf X.K B (iu m)):=h.imp fun σ H Q z9=>by
  obtain ⟨st,ps,S,as,R,t,st',e,q⟩:=z9
  refine ⟨st,ps,S,as,R,.bl t,st',Dm e,fun v H1 S1 as1 R1=>?_⟩
  cases R1.top
  exact ⟨t,rfl,q H1 S1 as1 R1.drop⟩
theorem lg {op:CmpOp} {f:T→T→Option T} (ho:OpT X (compareOp op) f) (ha:PE X a (tOf X.K B m1)) (hb:PE X b (tOf X.K B m2)) (hm:behindInMarks op b=false):PT X (.Compare a [op] [b] pos) (cOf X.K B (iu (mOp f m1 m2))) :=
  Lx ((a5p ho ha hb hm).imp fun σ H Q z9=>by
    obtain ⟨st,ps,S,as,R,t,st',e,q⟩:=z9
    obtain ⟨t1,s1,t2,e1,e2,e3⟩:=Tj e
    refine ⟨st,ps,S,as,R,t1,s1,e1,fun v H1 S1 as1 R1=>⟨s1,_,S1,as1,R1,t2,st',e2,fun u H2 S2 as2 R2=>?_⟩⟩
    exact ⟨S2,as2,t1,t2,t,R2.sub,R2.top2,R2.top,e3,fun w H3 S3 x r=>q w H3 S3 as2 ((R2.drop.drop.ext x).push r)⟩)
theorem Qe {e:Expr} (h:PE X e (tOf X.K B m)) (he:∀ whole,isTrue e X.env whole=(do let v ← whole; standAt e.pos; holding [v] (truthy v)):=by intro _; rfl):PT X e (cOf X.K B (iu m)) :=
  Lx ((a90 h he).imp fun σ H Q h=>h)
theorem V6 {c1:M Bool} (ha:PT X a (cOf X.K B c1)):PT X (.UnaryOp .Not a pos) (cOf X.K B (yw c1)):=(a7q ha).imp fun σ H Q z9=>by
  obtain ⟨st,ps,S,as,R,t,st',e,q⟩:=z9
  obtain ⟨k,e1,rfl⟩:=Tt e
  exact ⟨st,ps,S,as,R,k,st',e1,q⟩
theorem Yl {c1:M Bool} (ha:PT X a (cOf X.K B c1)):PW X (.BoolOp .Or [a] pos) (cOf X.K B c1):=pw_or1 ha
theorem aat {e:Expr} {t t':TT} (h:PW X e t) (i:∀ σ H Q,t' σ H Q→t σ H Q):PW X e t':=fun whole pins s σ H Q I q=>h whole pins s σ H Q I (i σ H Q q)
theorem a6p {c1 c2:M Bool} {rest:List Expr} (ha:PT X a (cOf X.K B c1)) (hb:PW X (.BoolOp .Or (b::rest) pos) (cOf X.K B c2)):PW X (.BoolOp .Or (a::b::rest) pos) (cOf X.K B (mOr c1 c2)) :=
  aat (pw_or ha hb) fun σ H Q z9=>by
    obtain ⟨st,ps,S,as,R,t,st',e,q⟩:=z9
    rcases a5w e with ⟨s1,e1,e2⟩ | ⟨e1,rfl⟩
    · exact ⟨st,ps,S,as,R,false,s1,e1,fun H1 S1 as1 R1=>a7s (⟨s1,ps,S1,as1,R1,t,st',e2,q⟩)⟩
    · exact ⟨st,ps,S,as,R,true,st',e1,fun H1 S1 as1 R1=>a8r (q H1 S1 as1 R1)⟩
theorem a1u {c1:M Bool} (hc:PT X c (cOf X.K B c1)) (ha:PE X a (tOf X.K B m1)) (hb:PE X b (tOf X.K B m2)):PE X (.IfExp c a b pos) (tOf X.K B (mIf c1 m1 m2)) :=
  (a1v hc ha hb).imp fun σ H Q z9=>by
    obtain ⟨st,ps,S,as,R,t,st',e,q⟩:=z9
    rcases a6n e with ⟨s1,e1,e2⟩ | ⟨s1,e1,e2⟩
    · exact ⟨st,ps,S,as,R,true,s1,e1,fun H1 S1 as1 R1=>a8r (⟨s1,ps,S1,as1,R1,t,st',e2,q⟩)⟩
    · exact ⟨st,ps,S,as,R,false,s1,e1,fun H1 S1 as1 R1=>a7s (⟨s1,ps,S1,as1,R1,t,st',e2,q⟩)⟩
theorem U7 (ha:PE X a (tOf X.K B m)):PE X (.UnaryOp .Not a pos) (tOf X.K B (qb (yw (iu m)))):=(a95 ha).imp fun σ H Q z9=>by
  obtain ⟨st,ps,S,as,R,t,st',e,q⟩:=z9
  obtain ⟨b,e1,rfl⟩:=Nx e
  obtain ⟨k,e2,rfl⟩:=Tt e1
  refine ⟨st,ps,S,as,R,.bl k,st',Dm e2,fun v H1 S1 as1 R1=>?_⟩
  cases R1.top
  exact ⟨k,rfl,q _ H1 S1 as1 (R1.drop.push (.bl _))⟩
theorem a9e {op:BoolOp} (ha:PE X a (tOf X.K B m)):PE X (.BoolOp op [a] pos) (tOf X.K B m):=a80 ha
theorem a7n {rest:List Expr} (ha:PE X a (tOf X.K B m1)) (hb:PE X (.BoolOp .And (b::rest) pos) (tOf X.K B m2)):PE X (.BoolOp .And (a::b::rest) pos) (tOf X.K B (qb (Bu (iu m1) (iu m2)))) :=
  (a7a ha hb).imp fun σ H Q z9=>by
    obtain ⟨st,ps,S,as,R,t,st',e,q⟩:=z9
    obtain ⟨b,e1,rfl⟩:=Nx e
    rcases a2n e1 with ⟨s1,e2,e3⟩ | ⟨e2,rfl⟩
    · refine ⟨st,ps,S,as,R,.bl true,s1,Dm e2,fun v H1 S1 as1 R1=>?_⟩
      cases R1.top
      exact ⟨true,rfl,a8r (⟨s1,ps,S1,as1,R1.drop,.bl b,st',Dm e3,q⟩)⟩
    · refine ⟨st,ps,S,as,R,.bl false,st',Dm e2,fun v H1 S1 as1 R1=>?_⟩
      cases R1.top
      exact ⟨false,rfl,a7s (q _ H1 S1 as1 (R1.drop.push (.bl _)))⟩
end
end C
end
noncomputable section
set_option linter.all false
set_option maxRecDepth 100000
set_option maxHeartbeats 4000002
set_option autoImplicit false
namespace C
open PySem PySem.Spec PyProof.Rows L2
theorem a3a {a b:S} {s s':Sta} {fl:Flow} (h:j8 a b s=some (fl,s')):(∃ s1,a s=some (.next,s1)∧b s1=some (fl,s'))∨(a s=some (fl,s')∧fl≠.next):=by
  unfold j8 at h
  split at h
  · rename_i s1 e; exact .inl ⟨s1,e,h⟩
  · rename_i r hr; exact .inr ⟨h,fun z=>by subst z; exact hr _ h⟩
theorem a0y {e:M T} {s s':Sta} {fl:Flow} (h:jz e s=some (fl,s')):∃ t,e s=some (t,s')∧fl=.ret t:=by
  unfold jz at h
  split at h
  · rename_i t s1 e; cases h; exact ⟨t,e,rfl⟩
  · cases h
theorem a5a {c:M Bool} {a b:S} {s s':Sta} {fl:Flow} (h:sIf c a b s=some (fl,s')):(∃ s1,c s=some (true,s1)∧a s1=some (fl,s'))∨(∃ s1,c s=some (false,s1)∧b s1=some (fl,s')):=by
  unfold sIf at h
  split at h
  · rename_i s1 e; exact .inl ⟨s1,e,h⟩
  · rename_i s1 e; exact .inr ⟨s1,e,h⟩
  · cases h
theorem a2m {i:Nat} {e:M T} {s s':Sta} {fl:Flow} (h:nj i e s=some (fl,s')):∃ t s1,e s=some (t,s1)∧fl=.next∧s'=gb i t false s1:=by
  unfold nj at h
  split at h
  · rename_i t s1 e; cases h; exact ⟨t,s1,e,rfl,rfl⟩
  · cases h
theorem a2d {i:Nat} {e:M T} {s s':Sta} {fl:Flow} (h:sNew i e s=some (fl,s')):∃ t s1,e s=some (t,s1)∧fl=.next∧s'=gb i t true s1:=by
  unfold sNew at h
  split at h
  · rename_i t s1 e; cases h; exact ⟨t,s1,e,rfl,rfl⟩
  · cases h
theorem a1q {g:G} {it:M (List T)} {b:S} {s s':Sta} {fl:Flow} (h:uo g it b s=some (fl,s')):∃ ts s1,it s=some (ts,s1)∧forL g b ts s1=some (fl,s'):=by
  unfold uo at h
  split at h
  · rename_i ts s1 e; exact ⟨ts,s1,e,h⟩
  · cases h
theorem Sh {i:Nat} {e:M T} {s s':Sta} {fl:Flow} (h:j6 i e s=some (fl,s')) :
    p7 i s=true∧∃ t s1 xs,e s=some (t,s1)∧s1.env[i]? = some (some (.lst xs,true))∧xs.length<lim∧fl=.next∧s'=gb i (.lst (xs++[t])) true s1:=by
  unfold j6 at h
  split at h
  · rename_i hd
    refine ⟨hd,?_⟩
    split at h
    · rename_i t s1 e
      split at h
      · rename_i xs ex
        split at h
        · rename_i hl; cases h; exact ⟨t,s1,xs,e,ex,hl,rfl,rfl⟩
        · cases h
      · cases h
    · cases h
  · cases h
theorem T4 {i:Nat} {e:M T} {s s':Sta} {fl:Flow} (h:j4 i e s=some (fl,s')) :
    p7 i s=true∧∃ t s1 xs ys,e s=some (t,s1)∧uh t=some ys∧s1.env[i]? = some (some (.lst xs,true))∧xs.length+ys.length<lim∧fl=.next∧s'=gb i (.lst (xs++ys)) true s1:=by
  unfold j4 at h
  split at h
  · rename_i hd
    refine ⟨hd,?_⟩
    split at h
    · rename_i t s1 e
      split at h
      · rename_i ys xs ey ex
        split at h
        · rename_i hl; cases h; exact ⟨t,s1,_,_,e,ey,ex,hl,rfl,rfl⟩
        · cases h
      · cases h
    · cases h
  · cases h
theorem T8 {i:Nat} {k v:M T} {s s':Sta} {fl:Flow} (h:qu i k v s=some (fl,s')) :
    ∃ t s1 kt s2 kvs q,v s=some (t,s1)∧Jk i s1=true∧k s1=some (kt,s2)∧s2.env[i]? = some (some (.dic kvs,true))∧keyOf kt=some q∧kvs.length<lim∧fl=.next∧s'=gb i (.dic (Cz q t kvs)) true s2:=by
  unfold qu at h
  split at h
  · rename_i t s1 e
    split at h
    · rename_i hd
      split at h
      · rename_i kt s2 ek
        split at h
        · rename_i kvs q ex eq
          split at h
          · rename_i hl; cases h; exact ⟨t,s1,kt,s2,_,_,e,hd,ek,ex,eq,hl,rfl,rfl⟩
          · cases h
        · cases h
      · cases h
    · cases h
  · cases h
noncomputable section
variable {K:PySem.W.Frag} {B:Bas} {st:Sta} {σ:L2.St} {H H' S S':Hp} {ps ps2:List (V × T)} {as as':List Addr}
theorem Rel.pick (r:Rel K B st σ H ps S as) (h:∀ p∈ps2,p∈ps):Rel K B st σ H ps2 S as :=
  ⟨r.sub,r.grow,r.slots,r.apart,r.sto,fun p hp=>r.pend p (h p hp),r.len⟩
theorem Nj {α:Type} {l:List α} {i:Nat} {x:α} (h:l.length≤i):l.set i x=l:=List.set_eq_of_length_le h
theorem Rel.put (r:Rel K B st σ H ps S as) {i:Nat} {v:V} {t:T} (h:Rep K S as v t):Rel K B (gb i t false st) (σ.set i (some v)) H ps S as:=by
  by_cases hi:i<st.env.length
  · have hs:i<σ.length:=by rw [r.len]; exact hi
    refine ⟨r.sub,r.grow,fun j u f e=>?_,fun j k u w p ej ek sj sk=>?_,r.sto,r.pend,by show _=(st.env.set i _).length; rw [List.length_set,List.length_set]; exact r.len⟩
    · have e:(st.env.set i (some (t,false)))[j]? = some (some (u,f)):=e
      by_cases hij:i=j
      · subst hij
        rw [List.getElem?_set_self hi] at e; cases e
        exact ⟨v,List.getElem?_set_self hs,fun _=>h,fun z=>by cases z⟩
      · rw [List.getElem?_set_ne hij] at e ⊢
        exact r.slots j u f e
    · have ej:(st.env.set i (some (t,false)))[j]? = some (some (u,true)):=ej
      have ek:(st.env.set i (some (t,false)))[k]? = some (some (w,true)):=ek
      have hij:i≠j:=fun z=>by subst z; rw [List.getElem?_set_self hi] at ej; cases ej
      have hik:i≠k:=fun z=>by subst z; rw [List.getElem?_set_self hi] at ek; cases ek
      rw [List.getElem?_set_ne hij] at ej sj
      rw [List.getElem?_set_ne hik] at ek sk
      exact r.apart j k u w p ej ek sj sk
  · have e1:gb i t false st=st:=by unfold gb; rw [Nj (Nat.le_of_not_lt hi)]
    have e2:σ.set i (some v)=σ:=Nj (by rw [r.len]; exact Nat.le_of_not_lt hi)
    rw [e1,e2]; exact r
noncomputable def Iw (st:Sta) (σ:L2.St) (p:Addr):Prop:=∀ (j:Nat) u,st.env[j]? = some (some (u,true))→σ[j]? = some (some (.ref p))→False
theorem Rel.a9h (r:Rel K B st σ H ps S as) {i:Nat} {p:Addr} {t:T} (h:Sg K B S as H p t) (hn:Iw st σ p):Rel K B (gb i t true st) (σ.set i (some (.ref p))) H ps S as:=by
  by_cases hi:i<st.env.length
  · have hs:i<σ.length:=by rw [r.len]; exact hi
    refine ⟨r.sub,r.grow,fun j u f e=>?_,fun j k u w q ej ek sj sk=>?_,r.sto,r.pend,by show _=(st.env.set i _).length; rw [List.length_set,List.length_set]; exact r.len⟩
    · have e:(st.env.set i (some (t,true)))[j]? = some (some (u,f)):=e
      by_cases hij:i=j
      · subst hij
        rw [List.getElem?_set_self hi] at e; cases e
        exact ⟨.ref p,List.getElem?_set_self hs,(fun z=>by cases z),fun _=>⟨p,rfl,h⟩⟩
      · rw [List.getElem?_set_ne hij] at e ⊢
        exact r.slots j u f e
    · have ej:(st.env.set i (some (t,true)))[j]? = some (some (u,true)):=ej
      have ek:(st.env.set i (some (t,true)))[k]? = some (some (w,true)):=ek
      by_cases hij:i=j
      · by_cases hik:i=k
        · rw [← hij,← hik]
        · subst hij
          rw [List.getElem?_set_self hs] at sj; cases sj
          rw [List.getElem?_set_ne hik] at ek sk
          exact (hn k w ek sk).elim
      · rw [List.getElem?_set_ne hij] at ej sj
        by_cases hik:i=k
        · subst hik
          rw [List.getElem?_set_self hs] at sk; cases sk
          exact (hn j u ej sj).elim
        · rw [List.getElem?_set_ne hik] at ek sk
          exact r.apart j k u w q ej ek sj sk
  · have e1:gb i t true st=st:=by unfold gb; rw [Nj (Nat.le_of_not_lt hi)]
    have e2:σ.set i (some (.ref p))=σ:=Nj (by rw [r.len]; exact Nat.le_of_not_lt hi)
    rw [e1,e2]; exact r
theorem Rel.turn (r:Rel K B st σ H ps S as) {i:Nat} {t t':T} {p:Addr} {ob:HO} (e:st.env[i]? = some (some (t,true))) (hp:σ[i]? = some (some (.ref p))) (h:Own K S as (upd H p ob) p t') :
    Rel K B (gb i t' true st) σ (upd H p ob) ps S as:=by
  obtain ⟨v,h1,_,h3⟩:=r.slots i t true e
  rw [hp] at h1; cases h1
  obtain ⟨p',ep,o⟩:=h3 rfl
  cases ep
  have hi:i<st.env.length:=(List.getElem?_eq_some_iff.mp e).1
  have other:∀ q,q≠p→H q=upd H p ob q:=fun q n=>(jt n).symm
  refine ⟨fun b u q=>?_,⟨r.grow.same,r.grow.more,fun q w a b c=>?_⟩,fun j u f ej=>?_,fun j k u w q ej ek sj sk=>?_,⟨r.sto.len,r.sto.nd,fun n so en=>?_⟩,r.pend,by show _=(st.env.set i _).length; rw [List.length_set]; exact r.len⟩
  · have n:b≠p:=fun z=>by subst z; rw [o.out] at q; cases q
    rw [jt n]; exact r.sub _ _ q
  · obtain ⟨x,y,z⟩:=r.grow.keep q w a b c
    have n:q≠p:=fun z=>by subst z; rw [o.new] at a; cases a
    exact ⟨by rw [jt n]; exact x,y,z⟩
  · have ej:(st.env.set i (some (t',true)))[j]? = some (some (u,f)):=ej
    by_cases hij:i=j
    · subst hij
      rw [List.getElem?_set_self hi] at ej; cases ej
      exact ⟨.ref p,hp,(fun z=>by cases z),fun _=>⟨p,rfl,h,o.out,o.nas,o.new⟩⟩
    · rw [List.getElem?_set_ne hij] at ej
      obtain ⟨v',a1,a2,a3⟩:=r.slots j u f ej
      refine ⟨v',a1,a2,fun z=>?_⟩
      subst z
      obtain ⟨p',rfl,o'⟩:=a3 rfl
      have n:p'≠p:=fun z=>by subst z; exact hij (r.apart i j t u p' e ej hp a1)
      exact ⟨p',rfl,o'.own.mono (Same.refl _) (other p' n),o'.out,o'.nas,o'.new⟩
  · have back:∀ (j:Nat) u,(st.env.set i (some (t',true)))[j]? = some (some (u,true))→∃ u',st.env[j]? = some (some (u',true)):=fun j u ej=>by
      by_cases hij:i=j
      · subst hij; exact ⟨t,e⟩
      · rw [List.getElem?_set_ne hij] at ej; exact ⟨u,ej⟩
    obtain ⟨u',ej'⟩:=back j u ej
    obtain ⟨w',ek'⟩:=back k w ek
    exact r.apart j k u' w' q ej' ek' sj sk
  · obtain ⟨a,a1,a2,a3⟩:=r.sto.at' n so en
    have n:a≠p:=fun z=>by subst z; exact o.nas (List.mem_of_getElem? a1)
    exact ⟨a,a1,a2,a3.mono (Same.refl _) (other a n)⟩
theorem Rel.a7e (r:Rel K B st σ H ps S as) {n:Nat} {so so':SO} {a:Addr} {ob:HO} (e:st.sto[n]? = some so) (ha:as[n]? = some a) (h:a3w K S as (upd H a ob) a so') :
    Rel K B { st with sto:=st.sto.set n so' } σ (upd H a ob) ps S as:=by
  have ma:a∈as:=List.mem_of_getElem? ha
  have hn:n<st.sto.length:=(List.getElem?_eq_some_iff.mp e).1
  have sa:S a=none:=by
    obtain ⟨a',a1,a2,_⟩:=r.sto.at' n so e
    rw [ha] at a1; cases a1; exact a2
  have other:∀ q,q≠a→H q=upd H a ob q:=fun q n=>(jt n).symm
  refine ⟨fun b u q=>?_,⟨r.grow.same,r.grow.more,fun q w x y z=>?_⟩,fun j u f ej=>?_,r.apart,⟨by rw [List.length_set]; exact r.sto.len,r.sto.nd,fun k so2 en=>?_⟩,r.pend,r.len⟩
  · have n:b≠a:=fun z=>by subst z; rw [sa] at q; cases q
    rw [jt n]; exact r.sub _ _ q
  · obtain ⟨x1,y1,z1⟩:=r.grow.keep q w x y z
    have n:q≠a:=fun z=>by subst z; exact z1 ma
    exact ⟨by rw [jt n]; exact x1,y1,z1⟩
  · obtain ⟨v',a1,a2,a3⟩:=r.slots j u f ej
    refine ⟨v',a1,a2,fun z=>?_⟩
    obtain ⟨p',rfl,o'⟩:=a3 z
    have n:p'≠a:=fun z=>by subst z; exact o'.nas ma
    exact ⟨p',rfl,o'.own.mono (Same.refl _) (other p' n),o'.out,o'.nas,o'.new⟩
  · by_cases hk:n=k
    · subst hk
      rw [List.getElem?_set_self hn] at en; cases en
      exact ⟨a,ha,sa,h⟩
    · rw [List.getElem?_set_ne hk] at en
      obtain ⟨b,b1,b2,b3⟩:=r.sto.at' k so2 en
      have n:b≠a:=fun z=>by
        subst z
        have l1:=(List.getElem?_eq_some_iff.mp b1).1
        have l2:=(List.getElem?_eq_some_iff.mp ha).1
        exact hk ((List.getElem?_inj (i:=n) (j:=k) l2 r.sto.nd).mp (by rw [ha,b1]))
      exact ⟨b,b1,b2,b3.mono (Same.refl _) (other b n)⟩
end
noncomputable def Fin (K:PySem.W.Frag) (B:Bas) (D:Ends) (ps:List (V × T)):Flow→Sta→Prop
  | .next,st'=>∀ σ' H' S' as',Rel K B st' σ' H' ps S' as'→D.nx σ' H'
  | .ret t,st'=>∀ v σ' H' S' as',Rel K B st' σ' H' ((v,t)::ps) S' as'→D.rt v H'
  | .brk,st'=>∀ σ' H' S' as',Rel K B st' σ' H' ps S' as'→D.bk σ' H'
  | .cont,st'=>∀ σ' H' S' as',Rel K B st' σ' H' ps S' as'→D.ct σ' H'
inductive sOf (K:PySem.W.Frag) (B:Bas) (s:S) (D:Ends) (σ:L2.St) (H:Hp):Prop
  | mk (st:Sta) (ps:List (V × T)) (S0:Hp) (as:List Addr) (R:Rel K B st σ H ps S0 as) (fl:Flow) (st':Sta) (e:s st=some (fl,st')) (q:Fin K B D ps fl st')
inductive gOf (K:PySem.W.Frag) (B:Bas) (g:G) (v:V) (σ:L2.St) (H:Hp) (Q:L2.St→Hp→Prop):Prop
  | mk (st:Sta) (ps:List (V × T)) (S:Hp) (as:List Addr) (t:T) (R:Rel K B st σ H ((v,t)::ps) S as) (st':Sta) (e:g t st=some st') (q:∀ σ' H' S' as',Rel K B st' σ' H' ps S' as'→Q σ' H')
inductive fOf (K:PySem.W.Frag) (B:Bas) (m:M T) (σ:L2.St) (H:Hp) (Q:VK):Prop
  | mk (st:Sta) (ps:List (V × T)) (S:Hp) (as:List Addr) (R:Rel K B st σ H ps S as) (t:T) (st':Sta) (e:m st=some (t,st')) (q:∀ p H' S' as',Rel K B st' σ H' ps S' as'→Sg K B S' as' H' p t→Iw st' σ p→Q (.ref p) H')
noncomputable section
variable {X:Cx} {B:Bas} {a b c e:Expr} {m m1 m2:M T} {pos:Pos} {u v:S}
theorem lq:PSs X [] (sOf X.K B tu):=a5g.imp fun D σ H z9=>by
  obtain ⟨st,ps,S,as,R,fl,st',e,q⟩:=z9
  cases e; exact q σ H S as R
theorem d8 {st:Stmt} {rest:List Stmt} (h1:PS X st (sOf X.K B u)) (h2:PSs X rest (sOf X.K B v)):PSs X (st::rest) (sOf X.K B (j8 u v)):=(U0 h1 h2).imp fun D σ H z9=>by
  obtain ⟨st,ps,S,as,R,fl,st',e,q⟩:=z9
  rcases a3a e with ⟨s1,e1,e2⟩ | ⟨e1,hn⟩
  · exact ⟨st,ps,S,as,R,.next,s1,e1,fun σ' H' S' as' R'=>⟨s1,ps,S',as',R',fl,st',e2,q⟩⟩
  · refine ⟨st,ps,S,as,R,fl,st',e1,?_⟩
    cases fl with
    | next=>exact absurd rfl hn
    | ret t=>exact q
    | brk=>exact q
    | cont=>exact q
theorem fu {st:Stmt} (h1:PS X st (sOf X.K B u)):PSs X [st] (sOf X.K B u):=Xb h1
theorem iz (he:PE X e (tOf X.K B m)):PS X (.Return (some e) pos) (sOf X.K B (jz m)):=(a3o he).imp fun D σ H z9=>by
  obtain ⟨st,ps,S,as,R,fl,st',e,q⟩:=z9
  obtain ⟨t,e1,rfl⟩:=a0y e
  exact ⟨st,ps,S,as,R,t,st',e1,fun v H' S' as' R'=>q v σ H' S' as' R'⟩
theorem uf {c1:M Bool} {sa sb:List Stmt} (hc:PT X c (cOf X.K B c1)) (ha:PSs X sa (sOf X.K B u)) (hb:PSs X sb (sOf X.K B v)):PS X (.If c sa sb pos) (sOf X.K B (sIf c1 u v)):=(abg hc ha hb).imp fun D σ H z9=>by
  obtain ⟨st,ps,S,as,R,fl,st',e,q⟩:=z9
  rcases a5a e with ⟨s1,e1,e2⟩ | ⟨s1,e1,e2⟩
  · exact ⟨st,ps,S,as,R,true,s1,e1,fun H1 S1 as1 R1=>a8r ⟨s1,ps,S1,as1,R1,fl,st',e2,q⟩⟩
  · exact ⟨st,ps,S,as,R,false,s1,e1,fun H1 S1 as1 R1=>a7s ⟨s1,ps,S1,as1,R1,fl,st',e2,q⟩⟩
theorem p8 (i:Nat) {tg:Expr} (h:PG X tg (Oa i)):PG X tg (gOf X.K B (hName i)):=fun pins s σ H x u Q I r z9=>h pins s σ H x u Q I r (by
  obtain ⟨st,ps,S,as,t,R,st',e,q⟩:=z9
  cases e
  exact q _ H S as (R.drop.put R.top))
theorem jw (i:Nat) {te:TE} {s:Stmt} (h:PS X s (a77 te (Oa i))) (hm:∀ σ H Q,tOf X.K B m σ H Q→te σ H Q):PS X s (sOf X.K B (nj i m)):=h.imp fun D σ H z9=>by
  obtain ⟨st,ps,S,as,R,fl,st',e,q⟩:=z9
  obtain ⟨t,s1,e1,rfl,rfl⟩:=a2m e
  exact hm σ H _ ⟨st,ps,S,as,R,t,s1,e1,fun v H' S' as' R'=>q _ H' S' as' (R'.drop.put R'.top)⟩
theorem Bt (i:Nat) {te:TE} {s:Stmt} (h:PS X s (a77 te (Oa i))) (hm:∀ σ H Q,fOf X.K B m σ H Q→te σ H Q):PS X s (sOf X.K B (sNew i m)):=h.imp fun D σ H z9=>by
  obtain ⟨st,ps,S,as,R,fl,st',e,q⟩:=z9
  obtain ⟨t,s1,e1,rfl,rfl⟩:=a2d e
  exact hm σ H _ ⟨st,ps,S,as,R,t,s1,e1,fun p H' S' as' R' o n=>q _ H' S' as' (R'.a9h o n)⟩
end
end C
end
noncomputable section
set_option linter.all false
set_option maxRecDepth 100000
set_option maxHeartbeats 4000002
set_option autoImplicit false
namespace C
open PySem PySem.Spec PyProof.Rows L2
noncomputable section
variable {K:PySem.W.Frag} {B:Bas} {st:Sta} {σ:L2.St} {H H' S S':Hp} {ps ps2:List (V × T)} {as as':List Addr}
theorem Own.more {p:Addr} {t:T} (hs:Same S S') (x:∃ l,as'=as++l) (hh:H p=H' p) (o:Own K S as H p t):Own K S' as' H' p t:=by
  cases t with
  | lst ts=>obtain ⟨vs,h,r⟩:=o; exact ⟨vs,hh ▸ h,r.mono hs x⟩
  | dic ts=>obtain ⟨vs,h,r⟩:=o; exact ⟨vs,hh ▸ h,r.mono hs x⟩
  | _=>exact o.elim
theorem Rel.call {sto':List SO} (r:Rel K B st σ H ps S as) (g:a9r ⟨S,as,H⟩ S' as' H') (sub:Same S' H') (so:Ib K S' as' H' sto'):Rel K B { st with sto:=sto' } σ H' ps S' as' where
  sub:=sub
  grow:=by
    refine ⟨r.grow.same.trans g.same,?_,fun p o a b c=>?_⟩
    · obtain ⟨l,e⟩:=r.grow.more
      obtain ⟨l',e'⟩:=g.more
      exact ⟨l++l',by rw [e',e,List.append_assoc]⟩
    · obtain ⟨x,y,z⟩:=r.grow.keep p o a b c
      exact g.keep p o x y z
  slots:=fun i t f e=>by
    obtain ⟨v,h1,h2,h3⟩:=r.slots i t f e
    refine ⟨v,h1,fun q=>(h2 q).mono g.same g.more,fun q=>?_⟩
    obtain ⟨p,rfl,o⟩:=h3 q
    obtain ⟨ob,ho⟩:=o.own.there
    obtain ⟨x,y,z⟩:=g.keep p ob ho o.out o.nas
    exact ⟨p,rfl,o.own.more g.same g.more (by rw [ho,x]),y,z,o.new⟩
  apart:=r.apart
  sto:=so
  pend:=fun p hp=>(r.pend p hp).mono g.same g.more
  len:=r.len
end
noncomputable def spF (K:PySem.W.Frag) (ar:Nat) (F:Fn):Sp:=fun vs H Q _=>∃ S as sto ts t sto',Same S H∧Ib K S as H sto∧u6 K S as vs ts∧ts.length=ar∧F ts sto=some (t,sto') ∧
  ∀ v H' S' as',a9r ⟨S,as,H⟩ S' as' H'→Same S' H'→Ib K S' as' H' sto'→Rep K S' as' v t→Q v H'
noncomputable section
variable {X:Cx} {B:Bas} {a b c e:Expr} {m m1 m2:M T} {pos p:Pos} {u v:S} {es:List Expr} {ms:M (List T)} {k:Nat} {f:Addr} {fd:FuncData} {pn:List Str} {F:Fn} {x:Str}
theorem a71 (G:yc X.prog X.w X.K X.mg X.base CX0 k f fd pn (spF X.K pn.length F)) (hr:Jr k X.A) (hg:Gl X x) (hm:X.mg x=some (.ref f)) (hk:PySem.W.keepIn X.K (.ref f)=true) (hb:Binds X.K fd pn [])
    (ha:PA X (e::es) (aOf X.K B ms)) (hl:∀ st ts st',ms st=some (ts,st')→ts.length=pn.length) (hdb:(x==("__debug__" : Str))=false:=by decide)
    (he:starEach (e::es) X.env=(false,eval e X.env)::starEach es X.env:=by rfl) (hpl:(backTo pos (starEach es X.env)).any (·.1)=false:=by rfl) :
    PE X (.Call (.Name x p) (e::es) [] pos) (tOf X.K B (dw F ms)) :=
  (Xq G hr hg hm hk hb .nil a8n ha hdb he hpl).imp fun σ H Q z9=>by
    obtain ⟨st,ps,S,as,R,t,st',e,q⟩:=z9
    obtain ⟨ts,s1,sto,e1,e2,rfl⟩:=Qg e
    refine ⟨st,ps,S,as,R,ts,s1,e1,fun vs H1 S1 as1 R1 rs=>?_⟩
    show spF X.K pn.length F (vs++[]) H1 Q E0
    rw [List.append_nil]
    exact ⟨S1,as1,s1.sto,ts,t,sto,R1.sub,R1.sto,rs,hl _ _ _ e1,e2,fun v H2 S2 as2 g sub so r=>q v H2 S2 as2 ((R1.call g sub so).push r)⟩
theorem eq_nil:∀ st ts st',dg st=some (ts,st')→ts.length=0:=fun st ts st' e=>by cases e; rfl
theorem bw {r:M (List T)} {n:Nat} (h:∀ st ts st',r st=some (ts,st')→ts.length=n):∀ st ts st',ak m r st=some (ts,st')→ts.length=n+1:=fun st ts st' e=>by
  obtain ⟨t,s1,us,e1,e2,rfl⟩:=vg e
  exact congrArg (· + 1) (h _ _ _ e2)
end
noncomputable section
variable {P:Program} {w:World} {K:PySem.W.Frag} {mg:Str→Option Value} {base:Heap}
theorem a0l {N:List Str} {vs:List V} {i:Nat} {v:V} (h:vs[i]? = some v):(L2.start N vs)[i]? = some (some v):=by
  unfold L2.start
  have hi:=(List.getElem?_eq_some_iff.mp h).1
  rw [List.getElem?_append_left (by rw [List.length_map]; exact hi),List.getElem?_map,h]; rfl
theorem Qj {S H:Hp} {as:List Addr} {sto:List SO} {vs:List V} {ts:List T} {N:List Str} (h1:Same S H) (h2:Ib K S as H sto) (h3:u6 K S as vs ts) (hN:ts.length≤N.length) :
    Rel K ⟨S,as,H⟩ ⟨ts.map (fun t=>some (t,false))++List.replicate (N.length - ts.length) none,sto⟩ (L2.start N vs) H [] S as:=by
  have key:∀ (i:Nat) t fl,(ts.map (fun t=>some (t,false))++List.replicate (N.length - ts.length) (none:Slot))[i]? = some (some (t,fl))→fl=false∧ts[i]? = some t:=fun i t fl e=>by
    by_cases hi:i<ts.length
    · rw [List.getElem?_append_left (by rw [List.length_map]; exact hi),List.getElem?_map] at e
      cases z:ts[i]? with
      | none=>rw [z] at e; cases e
      | some t'=>rw [z] at e; cases e; exact ⟨rfl,rfl⟩
    · rw [List.getElem?_append_right (by rw [List.length_map]; exact Nat.le_of_not_lt hi)] at e
      have:=List.eq_of_mem_replicate (List.mem_of_getElem? e)
      cases this
  refine ⟨h1,⟨Same.refl _,nol,fun p o a b c=>⟨a,b,c⟩⟩,fun i t fl e=>?_,fun i j t u p ei ej=>?_,h2,(fun p hp=>by cases hp),?_⟩
  · obtain ⟨rfl,e'⟩:=key i t fl e
    obtain ⟨v,hv,r⟩:=h3.get e'
    exact ⟨v,a0l hv,fun _=>r,fun z=>by cases z⟩
  · obtain ⟨z,_⟩:=key i t true ei; cases z
  · unfold L2.start
    rw [List.length_append,List.length_append,List.length_map,List.length_map,List.length_replicate,List.length_replicate,h3.length]
theorem jl {x qual:Str} {st:Stmt} {f:Addr} {fd:FuncData} {N ps:List Str} {k:Nat} {b:S} (F:Fun K x qual st f fd) (Sc:jc N ps (gj st)) (hN:ps.length≤N.length)
    (hb:∀ (cdv:Value) (A:Around) (outer:List Env) (s:Shared) (H:Hp) (E:XK) (B:Bas),Jr k (A.deeper (envOfC qual (gj st) s.heap.objs.size f cdv)) →
      PSs (a3v CX0 P w K mg base N qual (gj st) f cdv A outer s H E).nox (Am st) (sOf K B b)):yc P w K mg base CX0 (k+1) f fd ps (spF K ps.length (j9 N.length b)):=by
  refine F.ok Sc (fun vs H Q E h=>?_) fun cdv A outer s H vs Q E hr h=>?_
  · obtain ⟨S,as,sto,ts,t,sto',h1,h2,h3,h4,_⟩:=h
    rw [h3.length,h4]
  · obtain ⟨S,as,sto,ts,t,sto',h1,h2,h3,h4,h5,q⟩:=h
    refine ⟨_,hb cdv A outer s H E ⟨S,as,H⟩ hr,?_⟩
    have lv:vs.length=ps.length:=by rw [h3.length,h4]
    have R:Rel K ⟨S,as,H⟩ ⟨ts.map (fun t=>some (t,false))++List.replicate (N.length - ts.length) none,sto⟩ (L2.start N vs) H [] S as:=Qj h1 h2 h3 (by rw [h4]; exact hN)
    unfold j9 at h5
    split at h5
    · rename_i t' s' e
      cases h5
      exact ⟨_,[],S,as,R,.ret t,s',e,fun v σ' H' S' as' R'=>q v H' S' as' R'.grow R'.sub R'.sto R'.top⟩
    · rename_i s' e
      cases h5
      exact ⟨_,[],S,as,R,.next,s',e,fun σ' H' S' as' R'=>q .non H' S' as' R'.grow R'.sub R'.sto .non⟩
    · cases h5
end
end C
end
noncomputable section
set_option linter.all false
set_option maxRecDepth 100000
set_option maxHeartbeats 4000002
set_option autoImplicit false
namespace C
open PySem PySem.Spec PyProof.Rows L2
theorem a1j {g:G} {b:S} {t:T} {r:List T} {s s':Sta} {fl:Flow} (h:forL g b (t::r) s=some (fl,s')):∃ s1 fb s2,g t s=some s1∧b s1=some (fb,s2) ∧
    (match fb with | .next=>forL g b r s2=some (fl,s') | .cont=>forL g b r s2=some (fl,s') | .brk=>fl=.next∧s'=s2 | .ret v=>fl=.ret v∧s'=s2):=by
  rw [forL] at h
  dsimp only at h
  split at h
  · rename_i s1 e1
    split at h
    · rename_i s2 e2; exact ⟨s1,.next,s2,e1,e2,h⟩
    · rename_i s2 e2; exact ⟨s1,.cont,s2,e1,e2,h⟩
    · rename_i s2 e2; cases h; exact ⟨s1,.brk,_,e1,e2,rfl,rfl⟩
    · rename_i v s2 e2; cases h; exact ⟨s1,.ret v,_,e1,e2,rfl,rfl⟩
    · cases h
  · cases h
structure Jm (K:PySem.W.Frag) (S:Hp) (as:List Addr) (H:Hp) (J:It) (ts:List T):Prop where
  go:∀ (i:Nat) t,ts[i]? = some t→J.go i H∧∀ x H',J.yld i H x H'→∃ S',Ext S H S' H'∧Rep K S' as x t
  stop:∀ i,ts.length≤i→J.stop i H
inductive iOf (K:PySem.W.Frag) (B:Bas) (m:M (List T)) (σ:L2.St) (H:Hp) (R:It→Hp→Prop):Prop
  | mk (st:Sta) (ps:List (V × T)) (S:Hp) (as:List Addr) (R0:Rel K B st σ H ps S as) (ts:List T) (st':Sta) (e:m st=some (ts,st')) (z:ts.length≤sizeLine) (q:∀ J H' S' as' ps',Rel K B st' σ H' (ps'++ps) S' as'→(∀ S as H,(∀ p∈ps',Rep K S as p.1 p.2)→Same S H→Jm K S as H J ts)→R J H')
noncomputable section
variable {X:Cx} {tg l:Expr} {tl:TE}
noncomputable def iSq (K:PySem.W.Frag) (tl:TE):TI:=fun σ H R=>tl σ H fun x H1=>∃ a,x=.ref a∧(((∃ xs,SqL K H1 a xs)∧R (Itl K a) H1)∨((∃ xs,SqT K H1 a xs)∧R (Itt K a) H1))
theorem aa6 (hl:PE X l tl):PI X tg l (iSq X.K tl):=by
  intro pins s σ H R I h
  refine thn (hl pins s σ H _ I h) fun v s1 z0=>?_
  obtain ⟨x,H1,I1,r1,q1⟩:=z0
  obtain ⟨a,e,q⟩:=q1
  subst e
  cases r1
  rcases q with ⟨⟨xs,hq⟩,q⟩ | ⟨⟨xs,hq⟩,q⟩
  · obtain ⟨its,rv,p,hz⟩:=I1.list hq
    refine wpAny_pyIter_list p.isList ?_
    refine ⟨s1.heap.objs.size,[s1.heap.objs.size],_,_,H1,rfl,I1.kept (t':=s1.toks) fun b o e=>Heap.get?_push_of_some _ e,Z4 a _,⟨_,Heap.get?_push_size _ rfl,rfl,rfl⟩,fun b hb=>?_,q⟩
    have e:b=s1.heap.objs.size:=by simpa using hb
    subst e
    exact I1.a84 (Nat.le_refl _) (I1.hok.fresh (Nat.le_refl _))
  · obtain ⟨its,rv,p,hz⟩:=I1.tuple hq
    refine wpAny_pyIter_tuple (show s1.heap.IsTuple a its.toArray from p) ?_
    refine ⟨s1.heap.objs.size,[s1.heap.objs.size],_,_,H1,rfl,I1.kept (t':=s1.toks) fun b o e=>Heap.get?_push_of_some _ e,Wb a _,⟨_,Heap.get?_push_size _ rfl,rfl,rfl⟩,fun b hb=>?_,q⟩
    have e:b=s1.heap.objs.size:=by simpa using hb
    subst e
    exact I1.a84 (Nat.le_refl _) (I1.hok.fresh (Nat.le_refl _))
end
noncomputable section
variable {X:Cx} {B:Bas} {a b c e tg iter:Expr} {m m1 m2:M T} {pos p:Pos} {u v:S} {g:G} {it:M (List T)} {body:List Stmt}
theorem itL {K:PySem.W.Frag} {S:Hp} {as:List Addr} {H:Hp} {p:Addr} {vs:List V} {ts:List T} (sub:Same S H) (h:SqL K H p vs) (r:u6 K S as vs ts):Jm K S as H (Itl K p) ts where
  go:=fun i t e=>by
    obtain ⟨v,hv,rv⟩:=r.get e
    exact ⟨⟨vs,v,h,hv⟩,fun x H' y=>⟨S,by rw [y.1]; exact Ext.refl sub,by have:=y.2 vs h; rw [hv] at this; cases this; exact rv⟩⟩
  stop:=fun i hi=>⟨vs,h,by rw [r.length]; exact hi⟩
theorem itT {K:PySem.W.Frag} {S:Hp} {as:List Addr} {H:Hp} {p:Addr} {vs:List V} {ts:List T} (sub:Same S H) (h:SqT K H p vs) (r:u6 K S as vs ts):Jm K S as H (Itt K p) ts where
  go:=fun i t e=>by
    obtain ⟨v,hv,rv⟩:=r.get e
    exact ⟨⟨vs,v,h,hv⟩,fun x H' y=>⟨S,by rw [y.1]; exact Ext.refl sub,by have:=y.2 vs h; rw [hv] at this; cases this; exact rv⟩⟩
  stop:=fun i hi=>⟨vs,h,by rw [r.length]; exact hi⟩
theorem ou:lim≤sizeLine:=by rw [sizeLine_eq]; decide
theorem m8 (h:PE X iter (tOf X.K B m)):PI X tg iter (iOf X.K B (m5 m)):=by
  intro pins s σ H R I hw
  refine aa6 h pins s σ H R I ?_
  obtain ⟨st,ps,S,as,Rl,ts,st',e,hz,q⟩:=hw
  unfold m5 at e
  split at e
  · rename_i xs s1 e1
    split at e
    · rename_i hl
      cases e
      refine ⟨st,ps,S,as,Rl,_,_,e1,fun v H1 S1 as1 R1=>?_⟩
      have top:=R1.top
      cases top with
      | @lst a vs _ hs hr =>
        refine ⟨a,rfl,.inl ⟨⟨vs,jx R1.sub hs⟩,q _ H1 S1 as1 [(.ref a,.lst _)] R1 fun S2 as2 H2 hp hh=>?_⟩⟩
        have:=hp _ List.mem_cons_self
        cases this with
        | @lst _ vs2 _ hs2 hr2=>exact itL hh (jx hh hs2) hr2
    · cases e
  · rename_i xs s1 e1
    split at e
    · rename_i hl
      cases e
      refine ⟨st,ps,S,as,Rl,_,_,e1,fun v H1 S1 as1 R1=>?_⟩
      have top:=R1.top
      cases top with
      | @tup a vs _ hs hr =>
        refine ⟨a,rfl,.inr ⟨⟨vs,m9 R1.sub hs⟩,q _ H1 S1 as1 [(.ref a,.tup _)] R1 fun S2 as2 H2 hp hh=>?_⟩⟩
        have:=hp _ List.mem_cons_self
        cases this with
        | @tup _ vs2 _ hs2 hr2=>exact itT hh (m9 hh hs2) hr2
    · cases e
  · cases e
theorem M5 {a:M T} {ts:List T} {s s':Sta} (h:ji a s=some (ts,s')):∃ n:Int,a s=some (.int n,s')∧(-1000000<n∧n<1000000)∧ts=rangeT n.toNat:=by
  unfold ji at h
  split at h
  · rename_i n s1 e
    split at h
    · rename_i hl; cases h; exact ⟨n,e,by have:n.natAbs<1000000:=hl; (clear e hl; omega),rfl⟩
    · cases h
  · cases h
theorem Vu {n i:Nat} {t:T} (h:(rangeT n)[i]? = some t):i<n∧t=.int (i:Int):=by
  unfold rangeT at h
  rw [List.getElem?_map] at h
  cases z:(List.range n)[i]? with
  | none=>rw [z] at h; cases h
  | some k =>
    rw [z] at h; cases h
    obtain ⟨hi,e⟩:=List.getElem?_eq_some_iff.mp z
    rw [List.getElem_range] at e; subst e
    rw [List.length_range] at hi
    exact ⟨hi,rfl⟩
theorem Ip (hg:Gl X "range") (hm:X.mg "range" = none) (h:PE X a (tOf X.K B m)) (hs:starEach [a] X.env=[(false,eval a X.env)]:=by rfl):PI X tg (.Call (.Name "range" p) [a] [] pos) (iOf X.K B (ji m)):=by
  intro pins s σ H R I hw
  refine a0g (ta:=Vr (tOf X.K B m) a81) hg hm (su h wz hs) hs pins s σ H R I ?_
  obtain ⟨st,ps,S,as,Rl,ts,st',e,hz,q⟩:=hw
  obtain ⟨n,e1,hl,rfl⟩:=M5 e
  refine ⟨st,ps,S,as,Rl,_,_,e1,fun v H1 S1 as1 R1=>?_⟩
  cases R1.top
  refine ⟨n,rfl,by (clear R1 q hz e e1 Rl I hs h hm hg; omega),by (clear R1 q hz e e1 Rl I hs h hm hg; omega),q _ H1 S1 as1 [] R1.drop fun S2 as2 H2 _ hh=>⟨fun i t e=>?_,fun i hi=>?_⟩⟩
  · obtain ⟨hi,rfl⟩:=Vu e
    refine ⟨hi,fun x H' y=>⟨S2,by rw [y.1]; exact Ext.refl hh,?_⟩⟩
    have:=y.2; subst this
    rw [Int.zero_add]; exact .int _
  · show n.toNat≤i
    unfold rangeT at hi
    rwa [List.length_map,List.length_range] at hi
theorem uw (hp:PassesOwn (model X.prog X.w) X.A X.env X.xe) (hc:X.calm=true) (hi:PI X tg iter (iOf X.K B it)) (hg:PG X tg (gOf X.K B g)) (hb:PSs X body (sOf X.K B u)) (hsz:∀ st ts st',it st=some (ts,st')→ts.length≤sizeLine)
    (hs:∀ x,foldedSetIterable iter X.env x=pure x:=by intro _; rfl):PS X (.For tg iter body [] pos) (sOf X.K B (uo g it u)):=(a8h hp hc hi hg hb hs).imp fun D σ H z9=>by
  obtain ⟨st,ps,S,as,R,fl,st',e,q⟩:=z9
  obtain ⟨ts,s1,e1,e2⟩:=a1q e
  refine ⟨st,ps,S,as,R,ts,s1,e1,hsz _ _ _ e1,fun J H1 S1 as1 ps' R1 facts=>?_⟩
  refine ⟨fun i m σ H=>m=ts.length - i∧i≤ts.length∧∃ sti Si asi,Rel X.K B sti σ H (ps'++ps) Si asi∧forL g u (ts.drop i) sti=some (fl,st'),⟨ts.length,by simp,Nat.zero_le _,s1,S1,as1,R1,by simpa using e2⟩,?_⟩
  rintro i m σ2 H2 ⟨rfl,hi,sti,Si,asi,Ri,ei⟩
  have F:=facts Si asi H2 (fun p hp=>Ri.pend p (List.mem_append_left _ hp)) Ri.sub
  have sub:∀ p∈ps,p∈ps'++ps:=fun p hp=>List.mem_append_right _ hp
  by_cases hlt:i<ts.length
  · rw [List.drop_eq_getElem_cons hlt] at ei
    obtain ⟨s2,fb,s3,eg,eb,er⟩:=a1j ei
    have ht:ts[i]? = some ts[i]:=List.getElem?_eq_getElem hlt
    refine .inr ⟨(F.go i _ ht).1,fun σ' H'=>∃ sti Si asi,Rel X.K B sti σ' H' (ps'++ps) Si asi∧forL g u (ts.drop (i+1)) sti=some (fl,st'),fun σ' H' h=>⟨ts.length - (i+1),by (clear h ht er eb eg ei sub F Ri hi facts R1 e2 e1 q e R hs hsz hb hg hc hp; omega),rfl,hlt,h⟩,fun x H' y=>?_⟩
    obtain ⟨S',ex,rx⟩:=(F.go i _ ht).2 x H' y
    refine ⟨sti,ps'++ps,S',asi,_,(Ri.ext ex).push rx,s2,eg,fun σ3 H3 S3 as3 R3=>⟨s2,ps'++ps,S3,as3,R3,fb,s3,eb,?_⟩⟩
    cases fb with
    | next=>exact fun σ' H' S' as' R'=>⟨s3,S',as',R',er⟩
    | cont=>exact fun σ' H' S' as' R'=>⟨s3,S',as',R',er⟩
    | brk =>
      obtain ⟨rfl,rfl⟩:=er
      exact fun σ' H' S' as' R'=>q σ' H' S' as' (R'.pick sub)
    | ret v =>
      obtain ⟨rfl,rfl⟩:=er
      exact fun v σ' H' S' as' R'=>q v σ' H' S' as' (R'.pick fun p hp=>by
        rcases List.mem_cons.mp hp with rfl | z
        · exact List.mem_cons_self
        · exact List.mem_cons_of_mem _ (sub p z))
  · have hie:i=ts.length:=by (clear sub F ei Ri facts R1 e2 e1 q e R hs hsz hb hg hc hp; omega)
    subst hie
    rw [List.drop_length] at ei
    cases ei
    exact .inl ⟨F.stop _ (Nat.le_refl _),q σ2 H2 Si asi (Ri.pick sub)⟩
end
end C
end
noncomputable section
set_option linter.all false
set_option maxRecDepth 100000
set_option maxHeartbeats 4000002
set_option autoImplicit false
namespace C
open PySem PySem.Spec PyProof.Rows L2
noncomputable section
variable {K:PySem.W.Frag} {B:Bas} {st:Sta} {σ:L2.St} {H H' S S':Hp} {ps ps2:List (V × T)} {as as':List Addr}
theorem Rel.Z6 (r:Rel K B st σ H ps S as) {i:Nat} {t:T} (e:st.env[i]? = some (some (t,true))):∃ S',Rel K B { st with env:=st.env.set i (some (t,false)) } σ H ps S' as:=by
  obtain ⟨v,S',_,R⟩:=r.freeze e
  exact ⟨S',R.drop⟩
theorem Rel.gq:∀ (cap:List Nat) {st:Sta} {S:Hp},Rel K B st σ H ps S as→∃ S',Rel K B { st with env:=gq cap st.env } σ H ps S' as
  | [],st,S,r=>⟨S,r⟩
  | i::l,st,S,r=>by
    unfold C.gq
    rw [List.foldl_cons]
    split
    · rename_i t f e
      cases f with
      | true =>
        obtain ⟨S1,R1⟩:=r.Z6 e
        exact Rel.gq l R1
      | false =>
        have e2:st.env.set i (some (t,false))=st.env:=by
          apply List.ext_getElem?
          intro j
          by_cases hij:i=j
          · subst hij
            rw [List.getElem?_set_self (List.getElem?_eq_some_iff.mp e).1,e]
          · rw [List.getElem?_set_ne hij]
        rw [e2]
        exact Rel.gq l r
    · exact Rel.gq l r
noncomputable def Ed (env:List Slot):Nat→List Slot
  | 0=>env
  | n+1=>match (Ed env n)[n]? with
    | some (some (t,_))=>(Ed env n).set n (some (t,false))
    | _=>Ed env n
theorem Jt (env:List Slot):∀ n,(Ed env n).length=env.length
  | 0=>rfl
  | n+1=>by
    rw [Ed]
    split
    · rw [List.length_set]; exact Jt env n
    · exact Jt env n
theorem Iz (env:List Slot):∀ (n j:Nat),(Ed env n)[j]? = if j<n then (env[j]?).map Aq else env[j]?
  | 0,j=>by rw [if_neg (Nat.not_lt_zero _)]; rfl
  | n+1,j=>by
    have ihn:=Iz env n n
    rw [if_neg (Nat.lt_irrefl _)] at ihn
    have ihj:=Iz env n j
    rw [Ed,ihn]
    by_cases hj:j=n
    · subst hj
      rw [if_pos (Nat.lt_succ_self _)]
      cases z:env[j]? with
      | none=>simp only [z,Option.map_none]; rw [ihn,z]
      | some s =>
        have hl:j<(Ed env j).length:=by rw [Jt]; exact (List.getElem?_eq_some_iff.mp z).1
        cases s with
        | none=>simp only [Option.map_some]; rw [ihn,z]; rfl
        | some p=>obtain ⟨t,f⟩:=p; simp only [Option.map_some]; rw [List.getElem?_set_self hl]; rfl
    · have e1:(if j<n+1 then (env[j]?).map Aq else env[j]?)=(if j<n then (env[j]?).map Aq else env[j]?):=by
        by_cases hlt:j<n
        · rw [if_pos hlt,if_pos (Nat.lt_succ_of_lt hlt)]
        · rw [if_neg hlt,if_neg (by (clear ihj ihn; omega))]
      rw [e1,← ihj]
      split
      · rw [List.getElem?_set_ne (Ne.symm hj)]
      · rfl
theorem Xg (env:List Slot):Ed env env.length=env.map Aq:=by
  apply List.ext_getElem?
  intro j
  rw [Iz,List.getElem?_map]
  by_cases hj:j<env.length
  · rw [if_pos hj]
  · rw [if_neg hj,List.getElem?_eq_none (Nat.le_of_not_lt hj)]; rfl
theorem Rel.Ed (r:Rel K B st σ H ps S as):∀ n,∃ S',Rel K B { st with env:=C.Ed st.env n } σ H ps S' as
  | 0=>⟨S,r⟩
  | n+1=>by
    obtain ⟨S1,R1⟩:=Rel.Ed r n
    rw [C.Ed]
    split
    · rename_i t f e
      cases f with
      | true=>exact R1.Z6 e
      | false =>
        have e2:(C.Ed st.env n).set n (some (t,false))=C.Ed st.env n:=by
          apply List.ext_getElem?
          intro j
          by_cases hij:n=j
          · subst hij
            rw [List.getElem?_set_self (List.getElem?_eq_some_iff.mp e).1,e]
          · rw [List.getElem?_set_ne hij]
        rw [e2]
        exact ⟨S1,R1⟩
    · exact ⟨S1,R1⟩
theorem Rel.pq (r:Rel K B st σ H ps S as):∃ S',Rel K B (pq st) σ H ps S' as:=by
  obtain ⟨S',R⟩:=r.Ed st.env.length
  rw [Xg] at R
  exact ⟨S',R⟩
noncomputable def a3j (st:Sta):Prop:=∀ (i:Nat) t,st.env[i]?≠some (some (t,true))
theorem Bc (st:Sta):a3j (C.pq st):=fun i t e=>by
  unfold C.pq at e
  rw [List.getElem?_map] at e
  cases z:st.env[i]? with
  | none=>rw [z] at e; cases e
  | some s =>
    rw [z] at e
    cases s with
    | none=>cases e
    | some p=>obtain ⟨t,f⟩:=p; cases e
theorem Rel.rebase (r:Rel K B st σ H ps S as) (n:a3j st):Rel K ⟨S,as,H⟩ st σ H ps S as :=
  ⟨r.sub,⟨Same.refl _,nol,fun p o a b c=>⟨a,b,c⟩⟩,fun i t f e=>by
    obtain ⟨v,h1,h2,_⟩:=r.slots i t f e
    exact ⟨v,h1,h2,fun z=>by subst z; exact absurd e (n i t)⟩,r.apart,r.sto,r.pend,r.len⟩
end
theorem Xp {g:G} {c:M Bool} {e:M T} {t:T} {r acc us:List T} {s s':Sta} (h:Ef g c e (t::r) s acc=some (us,s')):∃ s1 b s2,g t s=some s1∧c s1=some (b,s2) ∧
    ((b=true∧∃ u s3,e s2=some (u,s3)∧acc.length<lim∧Ef g c e r (pq s3) (acc++[u])=some (us,s'))∨(b=false∧Ef g c e r (pq s2) acc=some (us,s'))):=by
  rw [Ef] at h
  split at h
  · rename_i s1 e1
    split at h
    · rename_i s2 e2
      split at h
      · rename_i u s3 e3
        split at h
        · rename_i hl; exact ⟨s1,true,s2,e1,e2,.inl ⟨rfl,u,s3,e3,hl,h⟩⟩
        · cases h
      · cases h
    · rename_i s2 e2; exact ⟨s1,false,s2,e1,e2,.inr ⟨rfl,h⟩⟩
    · cases h
  · cases h
theorem Yc {nv:Nat} {cap:List Nat} {g:G} {it:M (List T)} {c:M Bool} {e:M T} {s s':Sta} {v:T} (h:mj nv cap g it c e s=some (v,s')):∃ ts s1 us s2,it s=some (ts,s1) ∧
    Ef g c e ts ⟨List.replicate nv none++cap.map (fun i=>((gq cap s1.env)[i]?).getD none),s1.sto⟩ []=some (us,s2)∧v=.lst us∧s'=⟨gq cap s1.env,s2.sto⟩:=by
  unfold mj at h
  split at h
  · rename_i ts s1 e1
    dsimp only at h
    split at h
    · rename_i us s2 e2; cases h; exact ⟨ts,s1,us,s2,e1,e2,rfl,rfl⟩
    · cases h
  · cases h
noncomputable section
variable {K:PySem.W.Frag} {B:Bas} {st:Sta} {σ:L2.St} {H H' S S':Hp} {ps ps2:List (V × T)} {as as':List Addr} {D:Addr} {ob:HO}
theorem Ib.mem {sto:List SO} (r:Ib K S as H sto) {a:Addr} (h:a∈as):∃ o,H a=some o:=by
  obtain ⟨n,hn⟩:=List.getElem?_of_mem h
  have hl:=(List.getElem?_eq_some_iff.mp hn).1
  rw [r.len] at hl
  obtain ⟨a',h1,h2,h3⟩:=r.at' n _ (List.getElem?_eq_getElem hl)
  rw [hn] at h1; cases h1
  exact h3.there
theorem Rel.fresh (r:Rel K B st σ H ps S as) (h:H D=none):B.H D=none∧S D=none∧D∉as∧Iw st σ D:=by
  have sD:S D=none:=r.sub.free h
  have nD:D∉as:=fun z=>by obtain ⟨o,e⟩:=r.sto.mem z; rw [h] at e; cases e
  refine ⟨?_,sD,nD,fun j u e1 e2=>?_⟩
  · cases q:B.H D with
    | none=>rfl
    | some o =>
      have b1:B.S D=none:=by
        cases z:B.S D with
        | none=>rfl
        | some u=>have:=r.grow.same _ _ z; rw [sD] at this; cases this
      have b2:D∉B.as:=fun z=>by obtain ⟨l,e⟩:=r.grow.more; exact nD (by rw [e]; exact List.mem_append_left _ z)
      have:=(r.grow.keep D o q b1 b2).1
      rw [h] at this; cases this
  · obtain ⟨v,h1,_,h3⟩:=r.slots j u true e1
    rw [e2] at h1; cases h1
    obtain ⟨p,ep,o⟩:=h3 rfl
    cases ep
    obtain ⟨ob,ho⟩:=o.own.there
    rw [h] at ho; cases ho
theorem Rel.a6w (r:Rel K B st σ H ps S as) (bD:B.H D=none) (sD:S D=none) (nD:D∉as) (no:Iw st σ D):Rel K B st σ (upd H D ob) ps S as:=by
  have ne:∀ b u,S b=some u→b≠D:=fun b u e z=>by subst z; rw [sD] at e; cases e
  refine ⟨fun b u e=>by rw [jt (ne b u e)]; exact r.sub _ _ e,⟨r.grow.same,r.grow.more,fun p o x y z=>?_⟩,fun i t f e=>?_,r.apart,⟨r.sto.len,r.sto.nd,fun n so e=>?_⟩,r.pend,r.len⟩
  · obtain ⟨a,b,c⟩:=r.grow.keep p o x y z
    exact ⟨by rw [jt (fun w=>by subst w; rw [bD] at x; cases x)]; exact a,b,c⟩
  · obtain ⟨v,h1,h2,h3⟩:=r.slots i t f e
    refine ⟨v,h1,h2,fun z=>?_⟩
    obtain ⟨p,rfl,o⟩:=h3 z
    have n:p≠D:=fun w=>by subst w; subst z; exact no i t e h1
    exact ⟨p,rfl,o.own.mono (Same.refl _) (jt n).symm,o.out,o.nas,o.new⟩
  · obtain ⟨a,h1,h2,h3⟩:=r.sto.at' n so e
    exact ⟨a,h1,h2,h3.mono (Same.refl _) (jt (fun w=>by subst w; exact nD (List.mem_of_getElem? h1))).symm⟩
theorem Rel.a92 (r:Rel K B st σ H ps S as) (no:a3j st) (sD:S D=none) (nD:D∉as):Rel K ⟨S,as,upd H D ob⟩ st σ (upd H D ob) ps S as:=by
  have ne:∀ b u,S b=some u→b≠D:=fun b u e z=>by subst z; rw [sD] at e; cases e
  refine ⟨fun b u e=>by rw [jt (ne b u e)]; exact r.sub _ _ e,⟨Same.refl _,nol,fun p o x y z=>⟨x,y,z⟩⟩,fun i t f e=>?_,r.apart,⟨r.sto.len,r.sto.nd,fun n so e=>?_⟩,r.pend,r.len⟩
  · obtain ⟨v,h1,h2,_⟩:=r.slots i t f e
    exact ⟨v,h1,h2,fun z=>by subst z; exact absurd e (no i t)⟩
  · obtain ⟨a,h1,h2,h3⟩:=r.sto.at' n so e
    exact ⟨a,h1,h2,h3.mono (Same.refl _) (jt (fun w=>by subst w; exact nD (List.mem_of_getElem? h1))).symm⟩
end
theorem Fe:∀ (cap:List Nat) (env:List Slot) (k:Nat),(∀ t,env[k]?≠some (some (t,true)))→∀ t,(gq cap env)[k]?≠some (some (t,true))
  | [],env,k,h=>h
  | i::l,env,k,h=>by
    have e:gq (i::l) env=gq l (match env[i]? with | some (some (t,_))=>env.set i (some (t,false)) | _=>env):=rfl
    rw [e]
    refine Fe l _ k fun t=>?_
    split
    · rename_i t' f e'
      by_cases hk:i=k
      · subst hk
        rw [List.getElem?_set_self (List.getElem?_eq_some_iff.mp e').1]
        intro z; cases z
      · rw [List.getElem?_set_ne hk]; exact h t
    · exact h t
theorem Ju:∀ (cap:List Nat) (env:List Slot) (k:Nat),k∈cap→∀ t,(gq cap env)[k]?≠some (some (t,true))
  | [],env,k,h=>by simp at h
  | i::l,env,k,h=>by
    have e:gq (i::l) env=gq l (match env[i]? with | some (some (t,_))=>env.set i (some (t,false)) | _=>env):=rfl
    rw [e]
    rcases List.mem_cons.mp h with rfl | h' -- here
    · refine Fe l _ k fun t=>?_
      split
      · rename_i t' f e'
        rw [List.getElem?_set_self (List.getElem?_eq_some_iff.mp e').1]
        intro z; cases z
      · rename_i hx
        intro z
        exact hx _ _ z
    · exact Ju l _ k h'
noncomputable def gE (K:PySem.W.Frag) (g:G):TG:=fun v σ H Q=>∃ B,gOf K B g v σ H Q
noncomputable def cE (K:PySem.W.Frag) (c:M Bool):TT:=fun σ H Q=>∃ B,cOf K B c σ H Q
noncomputable def eE (K:PySem.W.Frag) (e:M T):TE:=fun σ H Q=>∃ B,tOf K B e σ H Q
theorem pgE {X:Cx} {tg:Expr} {g:G} (h:∀ B,PG X tg (gOf X.K B g)):PG X tg (gE X.K g):=fun pins s σ H x u Q I r ⟨B,q⟩=>h B pins s σ H x u Q I r q
theorem ptE {X:Cx} {e:Expr} {c:M Bool} (h:∀ B,PT X e (cOf X.K B c)):PT X e (cE X.K c):=fun pins s σ H Q I ⟨B,q⟩=>h B pins s σ H Q I q
theorem peE {X:Cx} {e:Expr} {m:M T} (h:∀ B,PE X e (tOf X.K B m)):PE X e (eE X.K m):=fun pins s σ H Q I ⟨B,q⟩=>h B pins s σ H Q I q
theorem qe {X:Cx}:PTs X [] (cE X.K jm):=fun pins s σ H Q I z9=>by
  obtain ⟨B,st,ps,S,as,R,b,st',e,q⟩:=z9
  cases e
  exact a5q pins s σ H Q I (q H S as R)
theorem Us {X:Cx} {e:Expr} {c:M Bool} (h:∀ B,PT X e (cOf X.K B c)):PTs X [e] (cE X.K c):=a4y (ptE h)
noncomputable section
variable {X:Cx} {scope:Scope} {N:List Str}
inductive CI (K:PySem.W.Frag) (B:Bas) (g:G) (c:M Bool) (e:M T) (ts us:List T) (env:List Slot) (s2:Sta) (σ:L2.St) (pp:List (V × T)) (D:Addr) (i m:Nat) (σ':L2.St) (H':Hp):Prop where
  | mk (sti:Sta) (Si:Hp) (asi:List Addr) (acc:List T) (accv:List V) (hm:m=ts.length - i) (hi:i≤ts.length) (Ri:Rel K ⟨Si,asi,H'⟩ sti σ' H' [] Si asi) (no:a3j sti) (Ro:Rel K B ⟨env,sti.sto⟩ σ H' pp Si asi) (hD:H' D=some (.lst accv)) (sD:Si D=none) (nD:D∉asi) (rA:u6 K Si asi accv acc) (ei:Ef g c e (ts.drop i) sti acc=some (us,s2)):CI K B g c e ts us env s2 σ pp D i m σ' H'
theorem X6 {B:Bas} {nv:Nat} {cap:List Nat} {g:G} {c:M Bool} {e:M T} {ts us:List T} {env:List Slot} {sto1:List SO} {s2:Sta} {σ:L2.St} {H1 S1:Hp} {as1:List Addr} {ps ps':List (V × T)} {J:It} {Q:VK}
    (hN:N.length=nv+cap.length) (hv:∀ i x,i<nv→N[i]? = some x→True)
    (hcap:∀ (j k:Nat),cap[j]? = some k→∃ x,N[nv+j]? = some x∧X.N[k]? = some x∧a9n X scope x)
    (R1:Rel X.K B ⟨env,sto1⟩ σ H1 (ps'++ps) S1 as1) (hno:∀ k∈cap,∀ t,env[k]?≠some (some (t,true)))
    (facts:∀ S as H,Same B.S S→(∃ l,as=B.as++l)→(∀ p∈ps',Rep X.K S as p.1 p.2)→Same S H→Jm X.K S as H J ts)
    (hc:Ef g c e ts ⟨List.replicate nv none++cap.map (fun i=>(env[i]?).getD none),sto1⟩ []=some (us,s2))
    (fin:∀ D H' S' as',Rel X.K B ⟨env,s2.sto⟩ σ H' (ps'++ps) S' as'→Sg X.K B S' as' H' D (.lst us)→Iw ⟨env,s2.sto⟩ σ D→Q (.ref D) H') :
    Rh X scope N (gE X.K g) (cE X.K c) (eE X.K e) σ J H1 Q:=by
  intro D hD
  obtain ⟨bD,sD1,nD1,noD⟩:=R1.fresh hD
  have capg:∀ (i:Nat) s,(List.replicate nv (none:Slot)++cap.map (fun i=>(env[i]?).getD none))[i]? = some (some s)→∃ j k,i=nv+j∧cap[j]? = some k∧env[k]? = some (some s):=fun i s h=>by
    by_cases hi:i<nv
    · rw [List.getElem?_append_left (by rw [List.length_replicate]; exact hi)] at h
      have:=List.eq_of_mem_replicate (List.mem_of_getElem? h); cases this
    · rw [List.getElem?_append_right (by rw [List.length_replicate]; exact Nat.le_of_not_lt hi),List.length_replicate,List.getElem?_map] at h
      cases z:cap[i - nv]? with
      | none=>rw [z] at h; cases h
      | some k =>
        rw [z] at h
        refine ⟨i - nv,k,by (clear z h noD nD1 sD1 bD hD fin hc facts hno R1 hcap hv hN; omega),z,?_⟩
        cases w:env[k]? with
        | none=>simp [w] at h
        | some s'=>simp [w] at h; rw [h]
  have sig:∀ (j k:Nat) v,cap[j]? = some k→σ[k]? = some (some v)→(List.replicate nv (none:Option V)++cap.map (fun i=>(σ[i]?).getD none))[nv+j]? = some (some v):=fun j k v h1 h2=>by
    rw [List.getElem?_append_right (by rw [List.length_replicate]; (clear h2 h1 capg noD nD1 sD1 bD hD fin hc facts hno R1 hcap hv hN; omega)),List.length_replicate,Nat.add_sub_cancel_left,List.getElem?_map,h1]
    simp [h2]
  refine ⟨List.replicate nv none++cap.map (fun i=>(σ[i]?).getD none),by rw [List.length_append,List.length_replicate,List.length_map,hN],fun i v x h1 h2 _=>?_,?_⟩
  · by_cases hi:i<nv
    · rw [List.getElem?_append_left (by rw [List.length_replicate]; exact hi)] at h1
      have:=List.eq_of_mem_replicate (List.mem_of_getElem? h1); cases this
    · rw [List.getElem?_append_right (by rw [List.length_replicate]; exact Nat.le_of_not_lt hi),List.length_replicate,List.getElem?_map] at h1
      cases z:cap[i - nv]? with
      | none=>rw [z] at h1; cases h1
      | some k =>
        rw [z] at h1
        obtain ⟨y,n1,n2,ck⟩:=hcap _ _ z
        have e:nv+(i - nv)=i:=by (clear ck n2 n1 z h1 h2 sig capg noD nD1 sD1 bD hD fin hc facts hno R1 hcap hv hN; omega)
        rw [e,h2] at n1; cases n1
        refine ⟨k,n2,?_,ck⟩
        cases w:σ[k]? with
        | none=>simp [w] at h1
        | some s'=>simp [w] at h1; rw [h1]
  refine ⟨fun i m σ' H'=>CI X.K B g c e ts us env s2 σ (ps'++ps) D i m σ' H',⟨ts.length,.mk _ S1 as1 [] [] (by simp) (Nat.zero_le _) ?_ ?_ ?_ j5 sD1 nD1 .nil hc⟩,?_⟩
  · refine Rel.a92 (B:=B) (H:=H1) ⟨R1.sub,R1.grow,fun i t f h=>?_,fun i j t u p hi hj=>?_,R1.sto,(fun p hp=>by cases hp),?_⟩ (fun i t h=>?_) sD1 nD1
    · obtain ⟨j,k,rfl,hk,ek⟩:=capg i _ h
      obtain ⟨v,h1,h2,h3⟩:=R1.slots k t f ek
      exact ⟨v,sig j k v hk h1,h2,h3⟩
    · obtain ⟨j,k,rfl,hk,ek⟩:=capg i _ hi
      exact absurd ek (hno k (List.mem_of_getElem? hk) t)
    · show (List.replicate nv (none:Option V)++cap.map _).length=(List.replicate nv (none:Slot)++cap.map _).length
      rw [List.length_append,List.length_append,List.length_replicate,List.length_replicate,List.length_map,List.length_map]
    · obtain ⟨j,k,rfl,hk,ek⟩:=capg i _ h
      exact absurd ek (hno k (List.mem_of_getElem? hk) t)
  · intro i t h
    obtain ⟨j,k,rfl,hk,ek⟩:=capg i _ h
    exact absurd ek (hno k (List.mem_of_getElem? hk) t)
  · exact R1.a6w bD sD1 nD1 noD
  rintro i m σ' H' ⟨sti,Si,asi,acc,accv,rfl,hi,Ri,no,Ro,hD',sD,nD,rA,ei⟩
  have F:=facts Si asi H' Ro.grow.same Ro.grow.more (fun p hp=>Ro.pend p (List.mem_append_left _ hp)) Ri.sub
  by_cases hlt:i<ts.length
  · rw [List.drop_eq_getElem_cons hlt] at ei
    obtain ⟨s3,b,s4,eg,ec,er⟩:=Xp ei
    have ht:ts[i]? = some ts[i]:=List.getElem?_eq_getElem hlt
    refine .inr ⟨(F.go i _ ht).1,fun x H2 y=>?_⟩
    obtain ⟨S2,ex,rx⟩:=(F.go i _ ht).2 x H2 y
    refine ⟨⟨Si,asi,H'⟩,sti,[],S2,asi,_,(Ri.ext ex).push rx,s3,eg,fun σ3 H3 S3 as3 R3=>⟨⟨Si,asi,H'⟩,s3,[],S3,as3,R3,b,s4,ec,fun H4 S4 as4 R4=>?_⟩⟩
    rcases er with ⟨rfl,w,s5,ee,hlen,erest⟩ | ⟨rfl,erest⟩
    · refine a8r ⟨⟨Si,asi,H'⟩,s4,[],S4,as4,R4,w,s5,ee,fun y H5 S5 as5 R5=>?_⟩
      obtain ⟨S6,R6⟩:=R5.pq
      obtain ⟨k1,k2,k3⟩:=R6.grow.keep D _ hD' sD nD
      have Ro2:=Ro.call R6.grow R6.sub R6.sto
      refine ⟨accv,k1,?_,ts.length - (i+1),by (clear Ro2 k3 k2 k1 R6 R5 erest hlen ee ec R4 R3 rx ex ht eg ei F rA nD sD hD' Ro no Ri hi sig capg noD nD1 sD1 bD hD fin hc facts hno R1 hcap hv hN; omega),.mk (pq s5) S6 as5 (acc++[w]) (accv++[y]) rfl hlt (R6.drop.a92 (Bc _) k2 k3) (Bc _) (Ro2.a6w bD k2 k3 noD) j5 k2 k3 ((rA.mono R6.grow.same R6.grow.more).append (.cons R6.top .nil)) erest⟩
      rw [rA.length]; exact Nat.lt_of_lt_of_le hlen ou
    · refine a7s ?_
      obtain ⟨S6,R6⟩:=R4.pq
      obtain ⟨k1,k2,k3⟩:=R6.grow.keep D _ hD' sD nD
      have Ro2:=Ro.call R6.grow R6.sub R6.sto
      exact ⟨ts.length - (i+1),by (clear Ro2 k3 k2 k1 R6 ec erest R4 R3 rx ex y ht eg ei F rA nD sD hD' Ro no Ri hi sig capg noD nD1 sD1 bD hD fin hc facts hno R1 hcap hv hN; omega),.mk (pq s4) S6 as4 acc accv rfl hlt (R6.rebase (Bc _)) (Bc _) Ro2 k1 k2 k3 (rA.mono R6.grow.same R6.grow.more) erest⟩
  · have hie:i=ts.length:=by (clear F ei rA nD sD hD' Ro no Ri sig capg noD nD1 sD1 bD hD fin hc facts hno R1 hcap hv hN; omega)
    subst hie
    rw [List.drop_length] at ei
    cases ei
    exact .inl ⟨F.stop _ (Nat.le_refl _),fin D H' Si asi Ro ⟨⟨accv,hD',rA⟩,sD,nD,bD⟩ noD⟩
theorem Rel.give {K:PySem.W.Frag} {B:Bas} {st:Sta} {σ:L2.St} {H S:Hp} {ps:List (V × T)} {as:List Addr} {p:Addr} {t:T} (r:Rel K B st σ H ps S as) (o:Sg K B S as H p t) (no:Iw st σ p):∃ S',Rel K B st σ H ((.ref p,t)::ps) S' as:=by
  obtain ⟨ob,ho⟩:=o.own.there
  have sS:Same S (upd S p ob):=Same.upd o.out ob
  have rep:Rep K (upd S p ob) as (.ref p) t:=by
    have w:=o.own
    cases t with
    | lst ts=>obtain ⟨vs,h,q⟩:=w; rw [ho] at h; cases h; exact .lst (SqL.of j5) (q.mono sS nol)
    | dic ts=>obtain ⟨vs,h,q⟩:=w; rw [ho] at h; cases h; exact .dic (.inl j5) (q.mono sS nol)
    | _=>exact w.elim
  have outs:∀ q,S q=none→q≠p→upd S p ob q=none:=fun q h n=>by rw [jt n]; exact h
  refine ⟨upd S p ob,Rel.push (v:=.ref p) (t:=t) ⟨?_,?_,?_,r.apart,?_,fun q hq=>(r.pend q hq).mono sS nol,r.len⟩ rep⟩
  · intro b u q
    by_cases z:b=p
    · subst z; rw [j5] at q; cases q; exact ho
    · rw [jt z] at q; exact r.sub _ _ q
  · refine ⟨r.grow.same.trans sS,r.grow.more,fun q w a b c=>?_⟩
    obtain ⟨x,y,z⟩:=r.grow.keep q w a b c
    refine ⟨x,outs q y fun n=>?_,z⟩
    subst n; rw [o.new] at a; cases a
  · intro j u f ej
    obtain ⟨v',a1,a2,a3⟩:=r.slots j u f ej
    refine ⟨v',a1,fun z=>(a2 z).mono sS nol,fun z=>?_⟩
    subst z
    obtain ⟨p',rfl,o'⟩:=a3 rfl
    refine ⟨p',rfl,o'.own.mono sS rfl,outs p' o'.out fun n=>?_,o'.nas,o'.new⟩
    subst n
    exact no j u ej a1
  · refine ⟨r.sto.len,r.sto.nd,fun n so en=>?_⟩
    obtain ⟨a,a1,a2,a3⟩:=r.sto.at' n so en
    refine ⟨a,a1,outs a a2 fun z=>?_,a3.mono sS rfl⟩
    subst z
    exact o.nas (List.mem_of_getElem? a1)
theorem Z0 {K:PySem.W.Frag} {B:Bas} {m:M T} {σ:L2.St} {H:Hp} {Q:VK} (h:tOf K B m σ H Q):fOf K B m σ H Q:=by
  obtain ⟨st,ps,S,as,R,t,st',e,q⟩:=h
  refine ⟨st,ps,S,as,R,t,st',e,fun p H' S' as' R' o n=>?_⟩
  obtain ⟨S2,R2⟩:=R'.give o n
  exact q _ H' S2 as' R2
theorem qm {e:Expr} {B:Bas} {m:M T} (h:PE X e (fOf X.K B m)):PE X e (tOf X.K B m):=h.imp fun σ H Q=>Z0
variable {B:Bas} {nv:Nat} {cap:List Nat} {g:G} {it:M (List T)} {c:M Bool} {e:M T} {tg iter elt:Expr} {ifs:List Expr} {pos:Pos}
structure a91 (X:Cx) (scope:Scope) (N:List Str) (nv:Nat) (cap:List Nat):Prop where
  len:N.length=nv+cap.length
  at':∀ (j k:Nat),cap[j]? = some k→∃ x,N[nv+j]? = some x∧X.N[k]? = some x∧a9n X scope x
theorem Li (co:a91 X scope N nv cap) (hsz:∀ st ts st',it st=some (ts,st')→ts.length≤sizeLine) {σ:L2.St} {H:Hp} {Q:VK} (h:fOf X.K B (mj nv cap g it c e) σ H Q) :
    a70 X scope N (iOf X.K B it) (gE X.K g) (cE X.K c) (eE X.K e) σ H Q:=by
  obtain ⟨st,ps,S,as,R,t,st',e,q⟩:=h
  obtain ⟨ts,s1,us,s2,e1,e2,rfl,rfl⟩:=Yc e
  refine ⟨st,ps,S,as,R,ts,s1,e1,hsz _ _ _ e1,fun J H1 S1 as1 ps' R1 facts=>?_⟩
  obtain ⟨S2,R2⟩:=R1.gq cap
  exact X6 co.len (fun _ _ _ _=>trivial) co.at' R2 (fun k hk=>Ju cap s1.env k hk) (fun S as H _ _=>facts S as H) e2 fun D H' S' as' R' o n=>q D H' S' as' (R'.pick fun p hp=>List.mem_append_right _ hp) o n
theorem w6 (co:a91 X scope N nv cap) (sc:Lk X scope N) (calm:X.calm=true) (hi:PI X tg iter (iOf X.K B it)) (hsz:∀ st ts st',it st=some (ts,st')→ts.length≤sizeLine)
    (hg:∀ C s₀ H₀ ex pn,PG (wk X scope N C s₀ H₀ ex pn) tg (gE X.K g)) (hc:∀ C s₀ H₀ ex pn,PTs (wk X scope N C s₀ H₀ ex pn) ifs (cE X.K c)) (he:∀ C s₀ H₀ ex pn,PE (wk X scope N C s₀ H₀ ex pn) elt (eE X.K e))
    (hs:∀ x,foldedSetIterable iter X.env x=pure x:=by intro _; rfl):PE X (.ListComp elt [⟨tg,iter,ifs,0⟩] scope pos) (fOf X.K B (mj nv cap g it c e)) :=
  (a5z sc calm hi hg hc he hs).imp fun σ H Q h=>Li co hsz h
end
end C
end
noncomputable section
set_option linter.all false
set_option maxRecDepth 100000
set_option maxHeartbeats 4000002
set_option autoImplicit false
namespace C
open PySem PySem.Spec PyProof.Rows L2
noncomputable section
variable {X:Cx}
theorem a01 {f:Value→Value→Sem Value} {g:T→T→Option T} {r:R2} (h:OpR X f r)
    (k:∀ S as x y t u w,Rep X.K S as x t→Rep X.K S as y u→g t u=some w→∀ (H:Hp) (Q:VK),Same S H→(∀ v H' S',Ext S H S' H'→Rep X.K S' as v w→Q v H')→r x y H Q):OpT X f g:=by
  intro pins s σ H x y v u Q I rx ry z8
  obtain ⟨S,as,t,w,z,sub,ht,hu,hf,q⟩:=z8
  exact h pins s σ H x y v u Q I rx ry (k S as x y t w z ht hu hf H Q sub q)
structure OI (g:T→Option T):Prop where
  n:g .non=none
  b:∀ x,g (.bl x)=none
  s:∀ x,g (.str x)=none
  t:∀ x,g (.tup x)=none
  l:∀ x,g (.lst x)=none
  d:∀ x,g (.dic x)=none
  o:∀ x,g (.obj x)=none
theorem OI.int {g:T→Option T} {w t:T} (h:OI g) (e:g t=some w):∃ i,t=.int i:=by
  cases t with
  | int i=>exact ⟨i,rfl⟩
  | non=>exact je (h.n.symm.trans e)
  | bl x=>exact je ((h.b x).symm.trans e)
  | str x=>exact je ((h.s x).symm.trans e)
  | tup x=>exact je ((h.t x).symm.trans e)
  | lst x=>exact je ((h.l x).symm.trans e)
  | dic x=>exact je ((h.d x).symm.trans e)
  | obj x=>exact je ((h.o x).symm.trans e)
theorem Fq {K:PySem.W.Frag} {S:Hp} {as:List Addr} {x y:V} {t u w:T} {g:T→T→Option T} {P:Prop} (ht:Rep K S as x t) (hu:Rep K S as y u) (hf:g t u=some w)
    (n1:∀ u,OI (g · u)) (n2:∀ i,OI (g (.int i))) (k:∀ i j,x=.int i→y=.int j→g (.int i) (.int j)=some w→P):P:=by
  obtain ⟨i,rfl⟩:=(n1 u).int hf
  obtain ⟨j,rfl⟩:=(n2 i).int hf
  cases ht; cases hu
  exact k i j rfl rfl hf
theorem Jf:OpT X (binaryOp .Sub) Bg:=a01 a7d fun S as x y t u w ht hu hf H Q sub q =>
  Fq (g:=Bg) ht hu hf (fun u=>⟨rfl,fun _=>rfl,fun _=>rfl,fun _=>rfl,fun _=>rfl,fun _=>rfl,fun _=>rfl⟩) (fun i=>⟨rfl,fun _=>rfl,fun _=>rfl,fun _=>rfl,fun _=>rfl,fun _=>rfl,fun _=>rfl⟩) fun i j ex ey hf=>by
  subst ex ey; cases hf
  exact ⟨_,_,rfl,rfl,q _ H S (Ext.refl sub) (.int _)⟩
theorem nq:OpT X (binaryOp .Mod) uy:=a01 a7k fun S as x y t u w ht hu hf H Q sub q =>
  Fq (g:=uy) ht hu hf (fun u=>⟨rfl,fun _=>rfl,fun _=>rfl,fun _=>rfl,fun _=>rfl,fun _=>rfl,fun _=>rfl⟩) (fun i=>⟨rfl,fun _=>rfl,fun _=>rfl,fun _=>rfl,fun _=>rfl,fun _=>rfl,fun _=>rfl⟩) fun i j ex ey hf=>by
  subst ex ey
  obtain ⟨hc,hf⟩:=yj hf
  cases hf; exact ⟨_,_,rfl,rfl,hc,q _ H S (Ext.refl sub) (.int _)⟩
noncomputable def a9z (i j:Int):Prop:=0<j∧(j<1073741824∨j.natAbs<fdl)
theorem a2v:OpR X (binaryOp .FloorDiv) (rI a9z fun i j=>.int (i / j)):=opI fun i j _ _ _ _ _ hc q=>by
  have h1:(0:Int)<j:=hc.1
  have h2:j.natAbs<2 ^ 200:=by
    rcases hc.2 with h | h
    · exact Nat.lt_trans (show j.natAbs<1073741824 by (clear q hc; omega)) (by decide)
    · exact h
  exact floordiv_int (by (clear h2 q hc; omega)) (by rw [Int.fdiv_eq_ediv_of_nonneg i (by (clear h2 q hc; omega))]; exact q) (.inl (PyProof.noPylong_of_log2 (Nat.lt_trans ((Nat.log2_lt (by (clear h2 q hc; omega))).mpr h2) (by decide))))
theorem m6:OpT X (binaryOp .FloorDiv) ju:=a01 a2v fun S as x y t u w ht hu hf H Q sub q =>
  Fq (g:=ju) ht hu hf (fun u=>⟨rfl,fun _=>rfl,fun _=>rfl,fun _=>rfl,fun _=>rfl,fun _=>rfl,fun _=>rfl⟩) (fun i=>⟨rfl,fun _=>rfl,fun _=>rfl,fun _=>rfl,fun _=>rfl,fun _=>rfl,fun _=>rfl⟩) fun i j ex ey hf=>by
  subst ex ey
  obtain ⟨hc,hf⟩:=yj hf
  cases hf; exact ⟨_,_,rfl,rfl,hc,q _ H S (Ext.refl sub) (.int _)⟩
theorem Z1:OpT X (compareOp .Lt) ltT:=a01 abb fun S as x y t u w ht hu hf H Q sub q =>
  Fq (g:=ltT) ht hu hf (fun u=>⟨rfl,fun _=>rfl,fun _=>rfl,fun _=>rfl,fun _=>rfl,fun _=>rfl,fun _=>rfl⟩) (fun i=>⟨rfl,fun _=>rfl,fun _=>rfl,fun _=>rfl,fun _=>rfl,fun _=>rfl,fun _=>rfl⟩) fun i j ex ey hf=>by
  subst ex ey; cases hf
  exact ⟨_,_,rfl,rfl,q _ H S (Ext.refl sub) (.bl _)⟩
theorem a3k:OpT X (compareOp .LtE) leT:=a01 a9x fun S as x y t u w ht hu hf H Q sub q =>
  Fq (g:=leT) ht hu hf (fun u=>⟨rfl,fun _=>rfl,fun _=>rfl,fun _=>rfl,fun _=>rfl,fun _=>rfl,fun _=>rfl⟩) (fun i=>⟨rfl,fun _=>rfl,fun _=>rfl,fun _=>rfl,fun _=>rfl,fun _=>rfl,fun _=>rfl⟩) fun i j ex ey hf=>by
  subst ex ey; cases hf
  exact ⟨_,_,rfl,rfl,q _ H S (Ext.refl sub) (.bl _)⟩
theorem Nm:UnT X (unaryOp .USub) Bo:=by
  intro pins s σ H x v Q I rx z8
  obtain ⟨S,as,t,w,sub,ht,hf,q⟩:=z8
  cases ht <;> simp only [Bo,reduceCtorEq] at hf
  cases hf
  exact a82 pins s σ H _ v Q I rx ⟨_,rfl,q _ H S (Ext.refl sub) (.int _)⟩
noncomputable def abl (K:PySem.W.Frag):R2:=fun x y H Q=>∃ l b xs zs,x=.ref l∧y=.ref b∧SqL K H l xs∧SqL K H b zs∧xs.length+zs.length≤sizeLine∧∀ p,H p=none→Q (.ref p) (upd H p (.lst (xs++zs)))
theorem a4w:OpR X (binaryOp .Add) (abl X.K):=by
  intro pins s σ H x y v u Q I rx ry h
  obtain ⟨l,b,xs,zs,rfl,rfl,hH,hB,hz,q⟩:=h
  cases rx
  cases ry
  obtain ⟨its,r,p1,hl⟩:=I.list hH
  obtain ⟨its2,r2,p2,hl2⟩:=I.list hB
  obtain ⟨⟨cls,dd,data,sl⟩,n,ho,hc,hd0,hd⟩:=id p1
  obtain ⟨⟨cls2,dd2,data2,sl2⟩,n2,ho2,hc2,hd02,hd2⟩:=id p2
  simp only at hc hd hc2 hd2
  subst hc hd hc2 hd2
  refine concat_meets ⟨_,ho,rfl⟩ ⟨_,ho2,rfl⟩ noFill_list_add seq_list_add PySem.F.slot_list_add PySem.F.entry_list_add (PySem.F.args_list_add_2 _ _)
      (list_addW l b its.toArray its2.toArray n n2 dd dd2 sl sl2 (by rw [List.size_toArray,List.size_toArray,← r.length,← r2.length]; exact hz)) ⟨ho,ho2,?_⟩
  have ea:its.toArray++its2.toArray=(its++its2).toArray:=by simp
  rw [ea]
  exact ⟨.ref _,_,I.aci (t':=s.toks) (r.append r2) (by rw [List.length_append]; exact hz),rfl,q _ I.fresh⟩
noncomputable def a8j (K:PySem.W.Frag):R2:=fun x y H Q=>∃ a b ys,x=.ref a∧y=.ref b∧SqT K H a []∧SqT K H b ys∧Q (.ref b) H
theorem a2o:OpR X (binaryOp .Add) (a8j X.K):=by
  intro pins s σ H x y v u Q I rx ry h
  obtain ⟨a,b,ys,rfl,rfl,ha,hb,q⟩:=h
  cases rx
  cases ry
  obtain ⟨its,r1,p1,_⟩:=I.tuple ha
  obtain ⟨its2,r2,p2,_⟩:=I.tuple hb
  cases r1
  obtain ⟨⟨cls,dd,data,sl⟩,ho,hc,n,hd⟩:=id p1
  obtain ⟨⟨cls2,dd2,data2,sl2⟩,ho2,hc2,n2,hd2⟩:=id p2
  simp only at hc hd hc2 hd2
  subst hc hd hc2 hd2
  exact concat_meets ⟨_,ho,rfl⟩ ⟨_,ho2,rfl⟩ noFill_tuple_add seq_tuple_add PySem.F.slot_tuple_add PySem.F.entry_tuple_add (PySem.F.args_tuple_add_2 _ _)
      (tuple_addW0 a b _ its2.toArray n n2 dd dd2 sl sl2 (by rfl)) ⟨ho,ho2,⟨.ref b,H,I,rfl,q⟩⟩
theorem nu:OpT X (binaryOp .Add) u5:=by
  intro pins s σ H x y v u Q I rx ry z8
  obtain ⟨S,as,t,t2,w,sub,ht,hu,hf,q⟩:=z8
  cases ht <;> first | exact nomatch (show none=some w from hf) | cases hu <;> first | exact nomatch (show none=some w from hf) | simp only [u5] at hf
  · cases hf
    exact a8f pins s σ H _ _ v u Q I rx ry ⟨_,_,rfl,rfl,q _ H S (Ext.refl sub) (.int _)⟩
  · split at hf
    · rename_i hl; cases hf
      exact Vq pins s σ H _ _ v u Q I rx ry ⟨_,_,rfl,rfl,Nat.le_trans (Nat.le_of_lt hl) ou,q _ H S (Ext.refl sub) (.str _)⟩
    · cases hf
  · rename_i a vs ts hs hr b ws us hs2 hr2
    split at hf
    · rename_i hl; cases hf
      have hz:vs.length+ws.length≤sizeLine:=by rw [hr.length,hr2.length]; exact Nat.le_trans (Nat.le_of_lt hl) ou
      cases hr with
      | nil=>exact a2o pins s σ H _ _ v u Q I rx ry ⟨_,_,_,rfl,rfl,m9 sub hs,m9 sub hs2,q _ H S (Ext.refl sub) (.tup hs2 hr2)⟩
      | @cons v0 t0 vs0 ts0 h1 h2 =>
        refine a5o pins s σ H _ _ v u Q I rx ry ⟨_,_,_,_,rfl,rfl,m9 sub hs,m9 sub hs2,by simp,hz,fun z=>?_,fun z p hp=>?_⟩
        · subst z
          cases hr2
          rw [List.append_nil] at q
          exact q _ H S (Ext.refl sub) (.tup hs (.cons h1 h2))
        · have x:=Ext.laid sub hp (.tup ((v0::vs0)++ws))
          exact q _ _ _ x (.tup (SqT.of j5) (((u6.cons h1 h2).append hr2).mono x.s nol))
    · cases hf
  · rename_i a vs ts hs hr b ws us hs2 hr2
    split at hf
    · rename_i hl; cases hf
      have hz:vs.length+ws.length≤sizeLine:=by rw [hr.length,hr2.length]; exact Nat.le_trans (Nat.le_of_lt hl) ou
      refine a4w pins s σ H _ _ v u Q I rx ry ⟨_,_,_,_,rfl,rfl,jx sub hs,jx sub hs2,hz,fun p hp=>?_⟩
      have x:=Ext.laid sub hp (.lst (vs++ws))
      exact q _ _ _ x (.lst (SqL.of j5) ((hr.append hr2).mono x.s nol))
    · cases hf
theorem a6y (x:Str) (n:Int) (h:0≤n):Txt.mul x n=⟨((List.replicate n.toNat x.cps.toList).flatten).toArray⟩:=by
  have key:∀ (k:Nat) (acc:Array Nat),(List.replicate k x.cps).foldl (· ++ ·) acc=acc++((List.replicate k x.cps.toList).flatten).toArray:=by
    intro k
    induction k with
    | zero=>intro acc; simp
    | succ k ih =>
      intro acc
      rw [List.replicate_succ,List.foldl_cons,ih,List.replicate_succ,List.flatten_cons]
      apply Array.ext'
      simp
  unfold Txt.mul
  by_cases h1:n<1
  · have:n=0:=by omega
    subst this
    rw [if_pos h1]; rfl
  · rw [if_neg h1]
    by_cases h2:(n==1||x.length==0)=true
    · rw [if_pos h2]
      rw [Bool.or_eq_true] at h2
      rcases h2 with h2 | h2
      · have:n=1:=by simpa using h2
        subst this
        cases x; simp
      · have h3:x.cps.size=0:=by simpa [Str.length] using h2
        obtain ⟨c⟩:=x
        have h4:c = #[]:=Array.eq_empty_of_size_eq_zero h3
        subst h4
        congr 1
        apply Array.ext'
        simp
    · rw [if_neg h2,key]
      congr 1
      apply Array.ext'
      simp
theorem Gn:OpT X (binaryOp .Mult) O7:=by
  intro pins s σ H x y v u Q I rx ry z8
  obtain ⟨S,as,t,t2,w,sub,ht,hu,hf,q⟩:=z8
  cases ht <;> first | exact nomatch (show none=some w from hf) | cases hu <;> first | exact nomatch (show none=some w from hf) | simp only [O7] at hf
  · split at hf
    · rename_i hb; cases hf
      refine a7b pins s σ H _ _ v u Q I rx ry ⟨_,_,rfl,rfl,?_,q _ H S (Ext.refl sub) (.int _)⟩
      rw [Bool.or_eq_true] at hb
      rcases hb with h | h
      · exact .inl (of_decide_eq_true h)
      · exact .inr (of_decide_eq_true h)
    · cases hf
  · rename_i z j
    split at hf
    · rename_i hb; cases hf
      obtain ⟨t',rfl⟩:=rx
      obtain ⟨t2',rfl⟩:=ry
      refine SB.mul ⟨?_,fun _ _=>?_,fun _ _=>?_⟩ fun t3 k=>⟨.str (Txt.mul z j),H,I.tok _,⟨_,rfl⟩,?_⟩
      · have h1:¬ j < -(2 ^ 63:Int):=by (clear q sub I; omega)
        have h2:¬ j ≥ 2 ^ 63:=by (clear h1 q sub I; omega)
        rw [decide_eq_false h1,decide_eq_false h2]; rfl
      · have h1:(z.length:Int)≤100:=by (clear q sub I; omega)
        have h2:(100:Int)≤(2 ^ 63 - 1) / j:=by
          have hj:0<j:=by
            rcases Int.lt_or_le 0 j with h | h
            · exact h
            · exfalso
              have:j=0:=by (clear h1 q hb sub I; omega)
              subst this
              rename_i a _; exact a (by decide)
          exact (Int.le_ediv_iff_mul_le hj).mpr (by (clear hj h1 q sub I; omega))
        (clear q hb sub I; omega)
      · have h3:z.length * j.toNat≤100 * 1000:=Nat.mul_le_mul hb.2.2 (by (clear q sub I; omega))
        unfold Builtin.Str.tooLong
        rw [sizeLine_eq]
        exact decide_eq_false (by (clear q hb sub I; omega))
      · rw [a6y z j hb.1]; exact q _ H S (Ext.refl sub) (.str _)
    · cases hf
end
end C
end
noncomputable section
set_option linter.all false
set_option maxRecDepth 100000
set_option maxHeartbeats 4000002
set_option autoImplicit false
namespace C
open PySem PySem.Spec PyProof.Rows L2
noncomputable section
variable {X:Cx} {B:Bas} {a b c e o:Expr} {m m1 m2:M T} {pos p:Pos}
theorem X5 (n:Nat) (i:Int):ixI n i=ixN n i:=rfl
theorem Od {K:PySem.W.Frag} {S:Hp} {as:List Addr} {y:V} {t:T} {q:L2.Key} (r:Rep K S as y t) (h:keyOf t=some q):y=kV q:=by
  cases r <;> simp only [keyOf,reduceCtorEq] at h <;> (cases h; rfl)
noncomputable def aap:R2:=fun x y H Q=>∃ a v,x=.ref a∧Vn H a y (some v)∧Q v H
theorem a6i (hu:X.A.units+1<cLine):IxR X aap:=by
  intro value slice pins s σ H x y v u Q I rx ry z8 hs
  obtain ⟨a,w,ex,g,q⟩:=z8
  subst ex
  cases rx
  refine tail_any (Jq I g) slot_dict_getitem.lookup (Pb hu I g ry fun w' s' I' r'=>⟨w,H,I',r',q⟩) hs
theorem a0x (hu:X.A.units+1<cLine):IxR X (r2 X.K cu):=by
  intro value slice pins s σ H x y v u Q I rx ry z8 hs
  obtain ⟨S,as,t,t2,w,sub,ht,hu2,hf,q⟩:=z8
  cases ht with
  | @tup a vs ts h1 h2 =>
    cases hu2 <;> first | exact je hf | skip
    rename_i i
    obtain ⟨j,e1,e2⟩:=Option.bind_eq_some_iff.mp hf
    obtain ⟨z,hz,rz⟩:=h2.get e2
    refine a8o value slice pins s σ H _ _ v u Q I rx ry ⟨a,vs,i,z,rfl,rfl,m9 sub h1,?_,q z H S (Ext.refl sub) rz⟩ hs
    rw [X5,← h2.length] at e1
    unfold atI; rw [e1]; exact hz
  | @lst a vs ts h1 h2 =>
    cases hu2 <;> first | exact je hf | skip
    rename_i i
    obtain ⟨j,e1,e2⟩:=Option.bind_eq_some_iff.mp hf
    obtain ⟨z,hz,rz⟩:=h2.get e2
    refine a5u value slice pins s σ H _ _ v u Q I rx ry ⟨a,vs,i,z,rfl,rfl,jx sub h1,?_,q z H S (Ext.refl sub) rz⟩ hs
    rw [X5,← h2.length] at e1
    unfold atI; rw [e1]; exact hz
  | str z =>
    cases hu2 <;> first | exact je hf | skip
    rename_i i
    obtain ⟨hl,hf⟩:=yj hf
    obtain ⟨j,e1,e2⟩:=Option.bind_eq_some_iff.mp hf
    obtain ⟨cc,e3,e4⟩:=Option.map_eq_some_iff.mp e2
    subst e4
    refine a8e value slice pins s σ H _ _ v u Q I rx ry ⟨z,i,cc,rfl,rfl,Nat.le_trans (Nat.le_of_lt hl) ou,?_,q _ H S (Ext.refl sub) (.str _)⟩ hs
    rw [X5] at e1
    unfold atI; rw [e1]; exact e3
  | @dic a kvs ts h1 h2 =>
    obtain ⟨k,e1,e2⟩:=Option.bind_eq_some_iff.mp hf
    have ey:=Od hu2 e1
    subst ey
    rcases h2.get k with ⟨z,t',a1,a2,a3⟩ | ⟨_,a2⟩
    · rw [e2] at a2; cases a2
      exact a6i hu value slice pins s σ H _ _ v u Q I rx ry ⟨a,z,rfl,.inl ⟨kvs,k,vd sub h1,rfl,a1.symm⟩,q z H S (Ext.refl sub) a3⟩ hs
    · rw [e2] at a2; cases a2
  | _=>exact je hf
theorem gw (hu:X.A.units+1<cLine) (ha:PE X a (tOf X.K B m1)) (hb:PE X b (tOf X.K B m2)) (hs:Za b):PE X (.Subscript a b pos) (tOf X.K B (mOp cu m1 m2)):=Uk (aal (a0x hu) ha hb hs)
theorem Af:Qq X (.builtin "len") yg:=by
  intro pins s σ H xs us Q I rs z8
  obtain ⟨S,as,ts,w,sub,hr,hf,q⟩:=z8
  cases hr with
  | nil=>simp only [yg,reduceCtorEq] at hf
  | @cons x t xs' ts' h1 h2 =>
    cases h2 with
    | cons h3 h4=>simp only [yg,reduceCtorEq] at hf
    | nil =>
      cases h1 with
      | tup g1 g2=>simp only [yg] at hf; cases hf; exact Hj pins s σ H _ us Q I rs ⟨_,_,rfl,.inr (m9 sub g1),by rw [g2.length]; exact q _ H S (Ext.refl sub) (.int _)⟩
      | lst g1 g2=>simp only [yg] at hf; cases hf; exact Hj pins s σ H _ us Q I rs ⟨_,_,rfl,.inl (jx sub g1),by rw [g2.length]; exact q _ H S (Ext.refl sub) (.int _)⟩
      | str z =>
        simp only [yg] at hf
        split at hf
        · rename_i hl; cases hf; exact Ox pins s σ H _ us Q I rs ⟨_,rfl,Nat.le_trans (Nat.le_of_lt hl) ou,q _ H S (Ext.refl sub) (.int _)⟩
        · cases hf
      | @dic a kvs ts g1 g2 =>
        simp only [yg] at hf; cases hf
        obtain ⟨u,rfl,ru⟩:=rs.one
        cases ru
        exact abe I (vd sub g1) fun t s' I'=>⟨.int kvs.length,H,I',⟨t,rfl⟩,by rw [g2.length]; exact q _ H S (Ext.refl sub) (.int _)⟩
      | _=>simp only [yg,reduceCtorEq] at hf
theorem yp:Qq X (.type "tuple") Bm:=by
  intro pins s σ H xs us Q I rs z8
  obtain ⟨S,as,ts,w,sub,hr,hf,q⟩:=z8
  cases hr with
  | nil=>simp only [Bm,reduceCtorEq] at hf
  | @cons x t xs' ts' h1 h2 =>
    cases h2 with
    | cons h3 h4=>simp only [Bm,reduceCtorEq] at hf
    | nil =>
      cases h1 with
      | @tup a vs ts g1 g2=>simp only [Bm] at hf; cases hf; exact Ga pins s σ H _ us Q I rs ⟨_,_,rfl,.inr ⟨m9 sub g1,q _ H S (Ext.refl sub) (.tup g1 g2)⟩⟩
      | @lst a vs ts g1 g2 =>
        simp only [Bm] at hf; cases hf
        refine Ga pins s σ H _ us Q I rs ⟨_,_,rfl,.inl ⟨jx sub g1,fun p hp=>?_⟩⟩
        have x:=Ext.laid sub hp (.tup vs)
        exact q _ _ _ x (.tup (SqT.of j5) (g2.mono x.s nol))
      | _=>simp only [Bm,reduceCtorEq] at hf
theorem Dc.put {K:PySem.W.Frag} {S:Hp} {as:List Addr} {k:L2.Key} {v:V} {t:T} (r:Rep K S as v t):∀ {vs:List (L2.Key × V)} {ts:List (L2.Key × T)},Dc K S as vs ts→Dc K S as (putK vs k v) (Cz k t ts):=by
  intro vs ts h
  have any:∀ {vs:List (L2.Key × V)} {ts:List (L2.Key × T)},Dc K S as vs ts→(vs.any fun kv=>decide (kv.1=k))=(ts.any fun p=>decide (p.1=k)):=by
    intro vs ts h
    induction vs generalizing ts with
    | nil=>cases h; rfl
    | cons p r ih=>cases h with | cons h1 h2=>rw [List.any_cons,List.any_cons,ih h2]
  have mp:∀ {vs:List (L2.Key × V)} {ts:List (L2.Key × T)},Dc K S as vs ts→Dc K S as (vs.map fun kv=>if kv.1=k then (kv.1,v) else kv) (ts.map fun p=>if p.1=k then (p.1,t) else p):=by
    intro vs ts h
    induction vs generalizing ts with
    | nil=>cases h; exact .nil
    | cons p rr ih =>
      cases h with
      | @cons q v0 t0 _ _ h1 h2 =>
        rw [List.map_cons,List.map_cons]
        by_cases e:q=k
        · rw [if_pos e,if_pos e]; exact .cons r (ih h2)
        · rw [if_neg e,if_neg e]; exact .cons h1 (ih h2)
  have ap:∀ {vs:List (L2.Key × V)} {ts:List (L2.Key × T)},Dc K S as vs ts→Dc K S as (vs++[(k,v)]) (ts++[(k,t)]):=by
    intro vs ts h
    induction vs generalizing ts with
    | nil=>cases h; exact .cons r .nil
    | cons p rr ih=>cases h with | cons h1 h2=>exact .cons h1 (ih h2)
  unfold putK Cz
  rw [any h]
  split
  · exact mp h
  · exact ap h
end
end C
end
noncomputable section
set_option linter.all false
set_option maxRecDepth 100000
set_option maxHeartbeats 4000002
set_option autoImplicit false
namespace C
open PySem PySem.Spec PyProof.Rows L2
theorem Ou {i:Nat} {k:M T} {s s':Sta} {t:T} (h:wu i k s=some (t,s')):Jk i s=true∧∃ kt kvs f q,k s=some (kt,s')∧s'.env[i]? = some (some (.dic kvs,f))∧keyOf kt=some q∧Av q kvs=some t:=by
  unfold wu at h
  split at h
  · rename_i hd
    refine ⟨hd,?_⟩
    split at h
    · rename_i kt s2 e2
      split at h
      · rename_i kvs f e3
        split at h
        · rename_i t' e4
          cases h
          obtain ⟨q,e5,e6⟩:=Option.bind_eq_some_iff.mp e4
          exact ⟨kt,kvs,f,q,e2,e3,e5,e6⟩
        · cases h
      · cases h
    · cases h
  · cases h
theorem Sv {i:Nat} {k d:M T} {s s':Sta} {t:T} (h:Gj i k d s=some (t,s')):Jk i s=true∧∃ kt s1 dt kvs f q,k s=some (kt,s1)∧d s1=some (dt,s')∧s'.env[i]? = some (some (.dic kvs,f))∧keyOf kt=some q∧t=(Av q kvs).getD dt:=by
  unfold Gj at h
  split at h
  · rename_i hd
    refine ⟨hd,?_⟩
    split at h
    · rename_i kt s1 e1
      split at h
      · rename_i dt s2 e2
        split at h
        · rename_i kvs f e3
          split at h
          · rename_i q e4
            cases h
            exact ⟨kt,s1,dt,kvs,f,q,e1,e2,e3,e4,rfl⟩
          · cases h
        · cases h
      · cases h
    · cases h
  · cases h
noncomputable section
variable {K:PySem.W.Frag} {B:Bas} {st:Sta} {σ:L2.St} {H S:Hp} {ps:List (V × T)} {as:List Addr}
theorem Rel.dictAt (r:Rel K B st σ H ps S as) {i:Nat} {kvs:List (L2.Key × T)} {f:Bool} (e:st.env[i]? = some (some (.dic kvs,f))):∃ p vs,σ[i]? = some (some (.ref p))∧Rd H p (.dK vs)∧Dc K S as vs kvs:=by
  obtain ⟨v,h1,h2,h3⟩:=r.slots i _ f e
  cases f with
  | false =>
    have h:=h2 rfl
    cases h with
    | dic a b=>exact ⟨_,_,h1,vd r.sub a,b⟩
  | true =>
    obtain ⟨p,rfl,o⟩:=h3 rfl
    obtain ⟨vs,h,q⟩:=o.own
    exact ⟨p,vs,h1,.inl h,q⟩
end
noncomputable section
variable {X:Cx} {B:Bas} {a b c e o k d:Expr} {m mo mk md mv:M T} {pos p:Pos}
theorem Je {i:Nat} {s:Sta} (h:Jk i s=true):∃ kvs f,s.env[i]? = some (some (.dic kvs,f)):=by
  unfold Jk at h
  split at h
  · rename_i kvs f e; exact ⟨kvs,f,e⟩
  · cases h
theorem Qm {i:Nat} {s:Sta} (h:p7 i s=true):∃ kvs f,s.env[i]? = some (some (.lst kvs,f)):=by
  unfold p7 at h
  split at h
  · rename_i kvs f e; exact ⟨kvs,f,e⟩
  · cases h
theorem Hf (i:Nat) (hu:X.A.units+1<cLine) (ho:PE X o (a3c i)) (hk:PE X k (tOf X.K B mk)) (hs:a78 k):PE X (.Subscript o k pos) (tOf X.K B (wu i mk)):=(a4t hu ho hk hs).imp fun σ H Q z9=>by
  obtain ⟨st,ps,S,as,R,t,st',e,q⟩:=z9
  obtain ⟨hd,kt,kvs,f,qk,e2,e3,e4,e5⟩:=Ou e
  obtain ⟨kvs0,f0,e0⟩:=Je hd
  obtain ⟨p0,vs0,s0,_⟩:=R.dictAt e0
  refine ⟨_,s0,st,ps,S,as,R,kt,st',e2,fun u H2 S2 as2 R2=>?_⟩
  obtain ⟨p1,vs1,s1,rd1,h4⟩:=R2.dictAt e3
  rw [s0] at s1; cases s1
  have ey:=Od R2.top e4
  subst ey
  rcases h4.get qk with ⟨z,t',a1,a2,a3⟩ | ⟨_,a2⟩
  · rw [e5] at a2; cases a2
    exact ⟨p0,z,rfl,.inl ⟨vs1,qk,rd1,rfl,a1.symm⟩,q z H2 S2 as2 (R2.drop.push a3)⟩
  · rw [e5] at a2; cases a2
theorem Z2 (i:Nat) {apos:Pos} (hu:X.A.units+1<cLine) (ho:PE X o (a3c i)) (hk:PE X k (tOf X.K B mk)) (hd:PE X d (tOf X.K B md)) (m:M2 X o "get" apos k d pos):PE X (.Call (.Attribute o "get" apos) [k,d] [] pos) (tOf X.K B (Gj i mk md)) :=
  (Uq hu ho hk hd m).imp fun σ H Q z9=>by
    obtain ⟨st,ps,S,as,R,t,st',e,q⟩:=z9
    obtain ⟨hd,kt,s1,dt,kvs,f,qk,e1,e2,e3,e4,rfl⟩:=Sv e
    obtain ⟨kvs0,f0,e0⟩:=Je hd
    obtain ⟨p0,vs0,s0,rd0,_⟩:=R.dictAt e0
    refine ⟨_,s0,p0,rfl,.inl ⟨vs0,rd0⟩,st,ps,S,as,R,kt,s1,e1,fun u H1 S1 as1 R1=>⟨s1,_,S1,as1,R1,dt,st',e2,fun w H2 S2 as2 R2=>?_⟩⟩
    obtain ⟨p1,vs1,z1,rd1,h4⟩:=R2.dictAt e3
    rw [s0] at z1; cases z1
    have ey:=Od R2.top2 e4
    subst ey
    refine ⟨Ku vs1 qk,.inl ⟨vs1,qk,rd1,rfl,rfl⟩,?_⟩
    rcases h4.get qk with ⟨z,t',a1,a2,a3⟩ | ⟨a1,a2⟩
    · rw [a1]; rw [a2] at q; exact q z H2 S2 as2 (R2.drop.drop.push a3)
    · rw [a1]; rw [a2] at q; exact q w H2 S2 as2 (R2.drop.drop.push R2.top)
theorem a8d {apos:Pos} (hu:X.A.units+1<cLine) (ho:PE X o (tOf X.K B mo)) (hk:PE X k (tOf X.K B mk)) (hd:PE X d (tOf X.K B md)) (m:M2 X o "get" apos k d pos):PE X (.Call (.Attribute o "get" apos) [k,d] [] pos) (tOf X.K B (ig a8m (ak mo (ak mk (ak md dg))))) :=
  (Uq hu ho hk hd m).imp fun σ H Q z9=>by
    obtain ⟨st,ps,S,as,R,t,st',e,q⟩:=z9
    obtain ⟨ts,e1,ef⟩:=Aw e
    obtain ⟨to,s1,r1,eo,e2,rfl⟩:=vg e1
    obtain ⟨tk,s2,r2,ek,e3,rfl⟩:=vg e2
    obtain ⟨td,s3,r3,ed,e4,rfl⟩:=vg e3
    cases e4
    refine ⟨st,ps,S,as,R,to,s1,eo,fun v H1 S1 as1 R1=>?_⟩
    have top:=R1.top
    cases top with
    | @dic a vs kvs g1 g2 =>
      obtain ⟨qk,e4,e5⟩:=Option.map_eq_some_iff.mp ef
      subst e5
      refine ⟨a,rfl,.inl ⟨vs,vd R1.sub g1⟩,s1,_,S1,as1,R1,tk,s2,ek,fun u H2 S2 as2 R2=>⟨s2,_,S2,as2,R2,td,_,ed,fun w H3 S3 as3 R3=>?_⟩⟩
      have ey:=Od R3.top2 e4
      subst ey
      have top3:Rep X.K S3 as3 (.ref a) (.dic kvs):=R3.pend _ (List.mem_cons_of_mem _ (List.mem_cons_of_mem _ List.mem_cons_self))
      cases top3 with
      | @dic _ vs3 _ g3 g4 =>
        refine ⟨Ku vs3 qk,.inl ⟨vs3,qk,vd R3.sub g3,rfl,rfl⟩,?_⟩
        rcases g4.get qk with ⟨z,t',a1,a2,a3⟩ | ⟨a1,a2⟩
        · rw [a1]; rw [a2] at q; exact q z H3 S3 as3 (R3.drop.drop.drop.push a3)
        · rw [a1]; rw [a2] at q; exact q w H3 S3 as3 (R3.drop.drop.drop.push R3.top)
    | _=>exact je ef
theorem Ai (i:Nat) {pos':Pos} (hu:X.A.units+1<cLine) (ho:PE X o (a3c i)) (hk:PE X k (tOf X.K B mk)) (hv:PE X e (tOf X.K B mv)) (hs:swapsWith e (some (.Subscript o k pos')) pos.line X.env=pure false) :
    PS X (.Assign [.Subscript o k pos'] e pos) (sOf X.K B (qu i mk mv)):=(Xc hu ho hk hv hs).imp fun D σ H z9=>by
  obtain ⟨st,ps,S,as,R,fl,st',e,q⟩:=z9
  obtain ⟨t,s1,kt,s2,kvs,qk,e1,hd,e3,e4,e5,hl,rfl,rfl⟩:=T8 e
  obtain ⟨kvs0,f0,e0⟩:=Je hd
  refine ⟨st,ps,S,as,R,t,s1,e1,fun v H1 S1 as1 R1=>?_⟩
  obtain ⟨p0,vs0,s0,rd0,_⟩:=R1.dictAt e0
  refine ⟨_,s0,s1,_,S1,as1,R1,kt,s2,e3,fun y H3 S3 as3 R3=>?_⟩
  obtain ⟨w,h1,_,h3⟩:=R3.slots i _ true e4
  rw [s0] at h1; cases h1
  obtain ⟨p',ep,ow⟩:=h3 rfl
  cases ep
  obtain ⟨vs,hH,h4⟩:=ow.own
  have ey:=Od R3.top e5
  subst ey
  exact ⟨p0,_,rfl,a4r.k hH (by rw [h4.length]; exact Nat.lt_of_lt_of_le hl ou),q _ _ S3 as3 (R3.drop.drop.turn e4 s0 ⟨_,j5,h4.put R3.top2⟩)⟩
end
end C
end
noncomputable section
set_option linter.all false
set_option maxRecDepth 100000
set_option maxHeartbeats 4000002
set_option autoImplicit false
namespace C
open PySem PySem.Spec PyProof.Rows L2
theorem dh {ms:M (List T)} {n:Nat} (h:∀ st ts st',ms st=some (ts,st')→ts.length≤n) (hn:n≤1000):∀ st ts st',ms st=some (ts,st')→ts.length≤1000:=fun st ts st' e=>Nat.le_trans (h st ts st' e) hn
theorem m7 {m:M T}:∀ st ts st',m5 m st=some (ts,st')→ts.length≤sizeLine:=fun st ts st' e=>by
  unfold m5 at e
  split at e
  · split at e
    · rename_i h; cases e; exact Nat.le_trans (Nat.le_of_lt h) ou
    · cases e
  · split at e
    · rename_i h; cases e; exact Nat.le_trans (Nat.le_of_lt h) ou
    · cases e
  · cases e
theorem Il {m:M T}:∀ st ts st',ji m st=some (ts,st')→ts.length≤sizeLine:=fun st ts st' e=>by
  obtain ⟨n,_,h,rfl⟩:=M5 e
  unfold rangeT
  rw [List.length_map,List.length_range]
  refine Nat.le_trans ?_ ou
  show n.toNat≤1000000
  omega
noncomputable def dj (P:Program) (w:World) (K:PySem.W.Frag) (mg:Str→Option Value) (base:Heap) (x:Str) (k:Nat) (ps:List Str) (F:Fn):Prop :=
  ∃ f fd,yc P w K mg base CX0 k f fd ps (spF K ps.length F)∧Binds K fd ps []∧PySem.W.keepIn K (.ref f)=true∧mg x=some (.ref f)
theorem dj.mono {P:Program} {w:World} {K:PySem.W.Frag} {mg:Str→Option Value} {base:Heap} {x:Str} {j k:Nat} {ps:List Str} {F:Fn} (d:dj P w K mg base x j ps F) (h:j≤k):dj P w K mg base x k ps F:=by
  obtain ⟨f,fd,h1,h2⟩:=d
  exact ⟨f,fd,h1.mono h,h2⟩
noncomputable section
variable {X:Cx} {B:Bas} {a b c e o k:Expr} {m m1 m2:M T} {pos p:Pos} {es:List Expr} {ms:M (List T)} {F:Fn} {x:Str} {n:Nat} {pn:List Str}
theorem d9 (D:dj X.prog X.w X.K X.mg X.base x n pn F) (hr:Jr n X.A) (hg:Gl X x)
    (ha:PA X (e::es) (aOf X.K B ms)) (hl:∀ st ts st',ms st=some (ts,st')→ts.length=pn.length) (hdb:(x==("__debug__" : Str))=false:=by decide)
    (he:starEach (e::es) X.env=(false,eval e X.env)::starEach es X.env:=by rfl) (hpl:(backTo pos (starEach es X.env)).any (·.1)=false:=by rfl) :
    PE X (.Call (.Name x p) (e::es) [] pos) (tOf X.K B (dw F ms)):=by
  obtain ⟨f,fd,h1,h2,h3,h4⟩:=D
  exact a71 h1 hr hg h4 h3 h2 ha hl hdb he hpl
theorem V9 (h:PA X es (aOf X.K B ms)) (hm:∀ st ts st',ms st=some (ts,st')→ts.length≤1000):PE X (.List es pos) (fOf X.K B (ig (fun l=>some (.lst l)) ms)) :=
  (a4k h).imp fun σ H Q z9=>by
    obtain ⟨st,ps,S,as,R,t,st',e,q⟩:=z9
    obtain ⟨ts,e1,e2⟩:=Aw e
    cases e2
    refine ⟨st,ps,S,as,R,ts,st',e1,fun vs H1 S1 as1 R1 rs=>⟨?_,fun p hp=>?_⟩⟩
    · rw [rs.length]; exact Nat.le_of_lt (G8 (hm _ _ _ e1))
    · obtain ⟨bD,sD,nD,no⟩:=R1.fresh hp
      exact q p _ S1 as1 (R1.a6w bD sD nD no) ⟨⟨vs,j5,rs⟩,sD,nD,bD⟩ no
theorem Ma:PE X (.Dict [] [] pos) (fOf X.K B (au (.dic []))):=a1n.imp fun σ H Q z9=>by
  obtain ⟨st,ps,S,as,R,t,st',e,q⟩:=z9
  cases e
  intro p hp
  obtain ⟨bD,sD,nD,no⟩:=R.fresh hp
  exact q p _ S as (R.a6w bD sD nD no) ⟨⟨[],j5,.nil⟩,sD,nD,bD⟩ no
theorem Rel.listAt {K:PySem.W.Frag} {B:Bas} {st:Sta} {σ:L2.St} {H S:Hp} {ps:List (V × T)} {as:List Addr} (r:Rel K B st σ H ps S as) {i:Nat} {xs:List T} {f:Bool} (e:st.env[i]? = some (some (.lst xs,f))):∃ p vs,σ[i]? = some (some (.ref p))∧SqL K H p vs∧u6 K S as vs xs:=by
  obtain ⟨v,h1,h2,h3⟩:=r.slots i _ f e
  cases f with
  | false =>
    have h:=h2 rfl
    cases h with
    | lst a b=>exact ⟨_,_,h1,jx r.sub a,b⟩
  | true =>
    obtain ⟨p,rfl,o⟩:=h3 rfl
    obtain ⟨vs,h,q⟩:=o.own
    exact ⟨p,vs,h1,SqL.of h,q⟩
theorem Dh (i:Nat) {st:Stmt} (h:PS X st (a67 (tBM X.K "list" Z8 (a3c i) (Vr (tOf X.K B m) a81)))):PS X st (sOf X.K B (j6 i m)):=h.imp fun D σ H z9=>by
  obtain ⟨st,ps,S,as,R,fl,st',e,q⟩:=z9
  obtain ⟨hd,t,s1,xs,e1,e2,hl,rfl,rfl⟩:=Sh e
  obtain ⟨xs0,f0,e0⟩:=Qm hd
  obtain ⟨p0,vs0,s0,q0,_⟩:=R.listAt e0
  refine ⟨_,s0,.inl ⟨rfl,_,q0⟩,st,ps,S,as,R,t,s1,e1,fun v H1 S1 as1 R1=>?_⟩
  obtain ⟨w,h1,_,h3⟩:=R1.slots i _ true e2
  rw [s0] at h1; cases h1
  obtain ⟨p',ep,ow⟩:=h3 rfl
  cases ep
  obtain ⟨vs,hH,h4⟩:=ow.own
  exact ⟨p0,vs,v,rfl,rfl,hH,by rw [h4.length]; exact Nat.lt_of_lt_of_le hl ou,q _ _ S1 as1 (R1.drop.turn e2 s0 ⟨_,j5,h4.append (.cons R1.top .nil)⟩)⟩
end
end C
end
noncomputable section
set_option linter.all false
set_option maxRecDepth 100000
set_option maxHeartbeats 4000002
set_option autoImplicit false
namespace C
open PySem PySem.Spec PyProof.Rows L2
noncomputable section
variable {X:Cx} {B:Bas} {a b c e o k:Expr} {m m1 m2:M T} {pos p:Pos}
theorem Qh {K:PySem.W.Frag} {S:Hp} {as:List Addr}:∀ {vs:List V} {ts:List T} {l:List Int},u6 K S as vs ts→W4 ts=some l→vs=l.map V.int
  | _,[],l,h0,h=>by cases h0; cases h; rfl
  | _,_::_,l,h0,h=>by
    cases h0 with | cons h1 h2=>?_
    cases h1 <;> first | exact je h | skip
    obtain ⟨l',e1,e2⟩:=Option.map_eq_some_iff.mp h
    subst e2
    rw [Qh h2 e1]; rfl
theorem Gk {K:PySem.W.Frag} {S:Hp} {as:List Addr}:∀ {vs:List V} {ts:List T} {l:List Bool},u6 K S as vs ts→Ht ts=some l→vs=l.map V.bl
  | _,_,l,.nil,h=>by cases h; rfl
  | _,_,l,.cons (t:=t) h1 h2,h=>by
    cases h1 <;> first | exact je h | skip
    obtain ⟨l',e1,e2⟩:=Option.map_eq_some_iff.mp h
    subst e2
    rw [Gk h2 e1]; rfl
theorem Q5 {K:PySem.W.Frag} {S:Hp} {as:List Addr}:∀ {vs:List V} {ts:List T} {l:List Str},u6 K S as vs ts→K5 ts=some l→vs=l.map V.str
  | _,_,l,.nil,h=>by cases h; rfl
  | _,_,l,.cons (t:=t) h1 h2,h=>by
    cases h1 <;> first | exact je h | skip
    obtain ⟨l',e1,e2⟩:=Option.map_eq_some_iff.mp h
    subst e2
    rw [Q5 h2 e1]; rfl
theorem a1t {l:List Int} {us:List Value} (r:Vals (l.map V.int) us) {i:Nat} {v:Value} (h:us.toArray[i]? = some v):∃ t,v=.int (l.getD i 0) t:=by
  rw [List.getElem?_toArray] at h
  have hi:i<(l.map V.int).length:=by rw [r.length]; exact (List.getElem?_eq_some_iff.mp h).1
  rw [List.length_map] at hi
  have e:(l.map V.int)[i]? = some (.int l[i]):=by rw [List.getElem?_map,List.getElem?_eq_getElem hi]; rfl
  obtain ⟨u,h1,t,h2⟩:=r.get e
  rw [h] at h1; cases h1
  exact ⟨t,by rw [h2,List.getD_eq_getElem?_getD,List.getElem?_eq_getElem hi]; rfl⟩
theorem Qf {l:List Bool} {us:List Value} (r:Vals (l.map V.bl) us) {i:Nat} {v:Value} (h:us.toArray[i]? = some v):v=.bool (l.getD i true):=by
  rw [List.getElem?_toArray] at h
  have hi:i<(l.map V.bl).length:=by rw [r.length]; exact (List.getElem?_eq_some_iff.mp h).1
  rw [List.length_map] at hi
  have e:(l.map V.bl)[i]? = some (.bl l[i]):=by rw [List.getElem?_map,List.getElem?_eq_getElem hi]; rfl
  obtain ⟨u,h1,h2⟩:=r.get e
  rw [h] at h1; cases h1
  rw [h2,List.getD_eq_getElem?_getD,List.getElem?_eq_getElem hi]; rfl
theorem Inv.p7 {pins:List (Addr × Obj)} {σ:L2.St} {H:Hp} {s:Shared} {a:Addr} {xs:List V} (I:L2.Inv X pins σ H s) (h:SqL X.K H a xs):a<s.heap.objs.size:=by
  obtain ⟨its,_,⟨o,n,h1,_⟩,_⟩:=I.list h
  exact Heap.lt_size h1
theorem Ny (hc:X.calm=true):Qq X (.builtin "sum") a9p:=by
  intro pins s σ H xs us Q I rs z8
  obtain ⟨S,as,ts,w,sub,hr,hf,q⟩:=z8
  cases hr with
  | nil=>exact je hf
  | @cons x t xs' ts' h1 h2 =>
    cases h2 with
    | cons h3 h4=>cases h1 <;> exact je hf
    | nil =>
      cases h1 with
      | @lst a vs ts g1 g2 =>
        obtain ⟨l,e1,e2⟩:=Option.map_eq_some_iff.mp hf
        subst e2
        have ev:=Qh g2 e1
        subst ev
        obtain ⟨u,rfl,ru⟩:=rs.one
        cases ru
        obtain ⟨its,r,p,hz⟩:=I.list (jx sub g1)
        have hlt:=Inv.p7 I (jx sub g1)
        refine call_sum_walkG (wpAny_pyIter_list p.isList ?_)
        refine ⟨_,_,_,_,_,_,fun i=>l.getD i 0,rfl,Walks.list (A:=X.A.in1) (show X.A.in1.handled=none from I.ok.hd hc) s.heap.objs.size a (Nat.ne_of_lt hlt) its.toArray,And.intro ⟨_,Heap.get?_push_size _ rfl,rfl,rfl⟩ (PlainL.keeps p fun b o e=>Heap.get?_push_of_some _ e).isList,fun b hb=>?_,fun i v hv=>a1t r hv,fun h' tk t' hk=>?_⟩
        · rw [Heap.size_push]
          rcases List.mem_cons.mp hb with rfl | hb -- here
          · exact Nat.lt_succ_self _
          · rw [List.mem_singleton.mp hb]; exact Nat.lt_succ_of_lt hlt -- here
        · have hl:its.toArray.size=l.length:=by rw [List.size_toArray,← r.length,List.length_map]
          rw [hl,preSum_getD,List.take_length]
          exact ⟨.int l.sum,H,I.kept (h':=h') (t':=tk) fun b u e=>hk b u (by simp; exact Nat.ne_of_lt (Heap.lt_size e)) (Heap.get?_push_of_some _ e),⟨_,rfl⟩,q _ H S (Ext.refl sub) (.int _)⟩
      | _=>exact je hf
theorem all_range (l:List Bool) (d:Bool):((List.range l.length).all fun i=>l.getD i d)=l.all id:=by
  induction l with
  | nil=>rfl
  | cons x r ih =>
    rw [List.length_cons,List.range_succ_eq_map,List.all_cons,List.all_map,List.all_cons,← ih]
    rfl
theorem any_range (l:List Bool) (d:Bool):((List.range l.length).any fun i=>l.getD i d)=l.any id:=by
  induction l with
  | nil=>rfl
  | cons x r ih =>
    rw [List.length_cons,List.range_succ_eq_map,List.any_cons,List.any_map,List.any_cons,← ih]
    rfl
theorem Xx (hc:X.calm=true):Qq X (.builtin "all") aan:=by
  intro pins s σ H xs us Q I rs z8
  obtain ⟨S,as,ts,w,sub,hr,hf,q⟩:=z8
  cases hr with
  | nil=>exact je hf
  | @cons x t xs' ts' h1 h2 =>
    cases h2 with
    | cons h3 h4=>cases h1 <;> exact je hf
    | nil =>
      cases h1 with
      | @lst a vs ts g1 g2 =>
        obtain ⟨l,e1,e2⟩:=Option.map_eq_some_iff.mp hf
        subst e2
        have ev:=Gk g2 e1
        subst ev
        obtain ⟨u,rfl,ru⟩:=rs.one
        cases ru
        obtain ⟨its,r,p,hz⟩:=I.list (jx sub g1)
        have hlt:=Inv.p7 I (jx sub g1)
        refine call_all_walk (wpAny_pyIter_list p.isList ?_)
        refine ⟨_,_,_,_,_,_,fun i=>l.getD i true,rfl,Walks.list (A:=X.A.in1) (show X.A.in1.handled=none from I.ok.hd hc) s.heap.objs.size a (Nat.ne_of_lt hlt) its.toArray,And.intro ⟨_,Heap.get?_push_size _ rfl,rfl,rfl⟩ (PlainL.keeps p fun b o e=>Heap.get?_push_of_some _ e).isList,fun i v s Q E hv hq=>?_,fun h' tk hk=>?_⟩
        · have e:=Qf r hv
          subst e
          exact wpAny_truthy_bool hq
        · have hl:its.toArray.size=l.length:=by rw [List.size_toArray,← r.length,List.length_map]
          rw [hl,all_range]
          exact ⟨.bl (l.all id),H,I.kept (h':=h') (t':=tk) fun b u e=>hk b u (by simp; exact Nat.ne_of_lt (Heap.lt_size e)) (Heap.get?_push_of_some _ e),rfl,q _ H S (Ext.refl sub) (.bl _)⟩
      | _=>exact je hf
theorem Zu (hc:X.calm=true):Qq X (.builtin "any") ab8:=by
  intro pins s σ H xs us Q I rs z8
  obtain ⟨S,as,ts,w,sub,hr,hf,q⟩:=z8
  cases hr with
  | nil=>exact je hf
  | @cons x t xs' ts' h1 h2 =>
    cases h2 with
    | cons h3 h4=>cases h1 <;> exact je hf
    | nil =>
      cases h1 with
      | @lst a vs ts g1 g2 =>
        obtain ⟨l,e1,e2⟩:=Option.map_eq_some_iff.mp hf
        subst e2
        have ev:=Gk g2 e1
        subst ev
        obtain ⟨u,rfl,ru⟩:=rs.one
        cases ru
        obtain ⟨its,r,p,hz⟩:=I.list (jx sub g1)
        have hlt:=Inv.p7 I (jx sub g1)
        refine call_any_walk (wpAny_pyIter_list p.isList ?_)
        refine ⟨_,_,_,_,_,_,fun i=>l.getD i true,rfl,Walks.list (A:=X.A.in1) (show X.A.in1.handled=none from I.ok.hd hc) s.heap.objs.size a (Nat.ne_of_lt hlt) its.toArray,And.intro ⟨_,Heap.get?_push_size _ rfl,rfl,rfl⟩ (PlainL.keeps p fun b o e=>Heap.get?_push_of_some _ e).isList,fun i v s Q E hv hq=>?_,fun h' tk hk=>?_⟩
        · have e:=Qf r hv
          subst e
          exact wpAny_truthy_bool hq
        · have hl:its.toArray.size=l.length:=by rw [List.size_toArray,← r.length,List.length_map]
          rw [hl,any_range]
          exact ⟨.bl (l.any id),H,I.kept (h':=h') (t':=tk) fun b u e=>hk b u (by simp; exact Nat.ne_of_lt (Heap.lt_size e)) (Heap.get?_push_of_some _ e),rfl,q _ H S (Ext.refl sub) (.bl _)⟩
      | _=>exact je hf
theorem Lj:∀ {l:List Str} {us:List Value},Vals (l.map V.str) us→StrsAre us l
  | [],_,r=>by cases r; exact .nil
  | x::l,_,r=>by
    rw [List.map_cons] at r
    cases r with
    | cons r1 r2=>obtain ⟨t,rfl⟩:=r1; exact .cons x t (Lj r2)
theorem O2 {l:List Str} {us:List Value} (h:StrsAre us l):Vals (l.map V.str) us:=by
  induction h with
  | nil=>exact .nil
  | cons x t _ ih=>exact .cons ⟨t,rfl⟩ ih
noncomputable abbrev Ec (a b:Str):Prop:=¬ b.cps.toList<a.cps.toList
theorem K7 {a b c:Str} (h1:Ec a b) (h2:Ec b c):Ec a c:=fun h=>by
  have h3:a.cps.toList≤b.cps.toList:=List.not_lt.mp h1
  have h4:b.cps.toList≤c.cps.toList:=List.not_lt.mp h2
  exact List.not_lt.mpr (List.le_trans h3 h4) h
theorem Vy {a b:Str} (h1:Ec a b) (h2:Ec b a):a=b:=by
  have h3:a.cps.toList≤b.cps.toList:=List.not_lt.mp h1
  have h4:b.cps.toList≤a.cps.toList:=List.not_lt.mp h2
  have h5:=List.le_antisymm h3 h4
  cases a; cases b
  simp at h5; subst h5; rfl
theorem J8:∀ (p:Str) (l:List Str),risingS p l=true→(p::l).Pairwise Ec
  | p,[],_=>by simp
  | p,x::r,h=>by
    rw [risingS,Bool.and_eq_true] at h
    have ih:=J8 x r h.2
    have hx:Ec p x:=fun z=>by
      have:=h.1
      rw [ltCps_eq,decide_eq_true z] at this
      cases this
    refine List.pairwise_cons.mpr ⟨fun y hy=>?_,ih⟩
    rcases List.mem_cons.mp hy with rfl | hy -- here
    · exact hx
    · exact K7 hx (List.rel_of_pairwise_cons ih hy)
theorem Rt (l:List Str) (h:sortedS l=true):l.Pairwise Ec:=by
  cases l with
  | nil=>exact .nil
  | cons x r=>exact J8 x r h
theorem Jp (x:Str):∀ l,(Wj x l).Perm (x::l)
  | []=>.refl _
  | y::r=>by
    rw [Wj]
    split
    · exact .refl _
    · exact ((Jp x r).cons y).trans (.swap x y r)
theorem Qc (x:Str):∀ l:List Str,l.Pairwise Ec→(Wj x l).Pairwise Ec
  | [],_=>by simp [Wj]
  | y::r,h=>by
    rw [Wj]
    split
    · rename_i hx
      have hx:=of_decide_eq_true hx
      have hxy:Ec x y:=fun z=>List.lt_irrefl _ (List.lt_trans hx z)
      refine List.pairwise_cons.mpr ⟨fun z hz=>?_,h⟩
      rcases List.mem_cons.mp hz with rfl | hz -- here
      · exact hxy
      · exact K7 hxy (List.rel_of_pairwise_cons h hz)
    · rename_i hx
      have hx:Ec y x:=fun z=>hx (decide_eq_true z)
      refine List.pairwise_cons.mpr ⟨fun z hz=>?_,Qc x r (List.pairwise_cons.mp h).2⟩
      rcases List.mem_cons.mp ((Jp x r).mem_iff.mp hz) with rfl | hz
      · exact hx
      · exact List.rel_of_pairwise_cons h hz
theorem Gx:∀ (l acc:List Str),acc.Pairwise Ec→(l.foldl (fun acc x=>Wj x acc) acc).Pairwise Ec∧(l.foldl (fun acc x=>Wj x acc) acc).Perm (l++acc)
  | [],acc,h=>⟨h,.refl _⟩
  | x::l,acc,h=>by
    obtain ⟨h1,h2⟩:=Gx l (Wj x acc) (Qc x acc h)
    exact ⟨h1,h2.trans (((Jp x acc).append_left l).trans (List.perm_middle))⟩
theorem W6 (l:List Str):(Br l).Pairwise Ec:=(Gx l [] .nil).1
theorem Gi (l:List Str):(Br l).Perm l:=by
  have:=(Gx l [] .nil).2
  rwa [List.append_nil] at this
theorem Ul {l l':List Str} (h1:sortedS l'=true) (h2:l'.Perm l):l'=Br l :=
  List.Perm.eq_of_pairwise (le:=Ec) (fun _ _ _ _=>Vy) (Rt l' h1) (W6 l) (h2.trans (Gi l).symm)
theorem Jd {K:PySem.W.Frag} {S:Hp} {as:List Addr}:∀ l:List Str,u6 K S as (l.map V.str) (l.map T.str)
  | []=>.nil
  | x::l=>.cons (.str x) (Jd l)
theorem Vi {pins:List (Addr × Obj)} {σ:L2.St} {H S:Hp} {s:Shared} {as:List Addr} {a:Addr} {l:List Str} {Q:VK} (I:L2.Inv X pins σ H s) (sub:Same S H) (g1:SqL X.K H a (l.map V.str)) (h64:l.length<64)
    (q:∀ v H' S',Ext S H S' H'→Rep X.K S' as v (.lst ((Br l).map .str))→Q v H'):wpAny (model X.prog X.w) X.A (call (.builtin "sorted") [.ref a]) (EP X pins σ Q) X.xe s:=by
  obtain ⟨its,r,p,hz⟩:=I.list g1
  refine sorted_strs p.isList (Lj r) (by rw [← r.length,List.length_map]; exact h64) fun out ss' a1 a2 a3=>?_
  have es:=Ul a3 a2
  subst es
  obtain ⟨e,he⟩:=sortedAll_at s.heap its out
  have hl:(List.map V.str (Br l)).length≤sizeLine:=by
    rw [List.length_map,(Gi l).length_eq]
    exact Nat.le_trans (Nat.le_of_lt h64) (by rw [sizeLine_eq]; decide)
  have hn:H (s.heap.objs.size+1)=none:=I.hok.fresh (Nat.le_succ _)
  have x:=Ext.laid sub hn (.lst ((Br l).map V.str))
  refine ⟨.ref (s.heap.objs.size+1),_,I.laid (a:=s.heap.objs.size+1) (o:=.lst ((Br l).map V.str)) (h':=sortedAll s.heap its out) (t':=s.toks) (fun _ _=>sortedAll_old) (Nat.le_succ _) ⟨hl,out.toList,e,O2 a1,he⟩,rfl,q _ _ _ x (.lst (SqL.of j5) (Jd _))⟩
theorem Mv:Ey X (.builtin "sorted") (fun xs H Q=>∃ S as ts l,Same S H∧u6 X.K S as xs [.lst ts]∧ts.length<64∧K5 ts=some l∧∀ v H' S',Ext S H S' H'→Rep X.K S' as v (.lst ((Br l).map .str))→Q v H'):=by
  intro pins s σ H xs us Q I rs z8
  obtain ⟨S,as,ts,l,sub,hr,h64,e1,q⟩:=z8
  cases hr with
  | cons h1 h2 =>
    cases h2
    cases h1 with
    | @lst a vs _ g1 g2 =>
      have ev:=Q5 g2 e1
      subst ev
      obtain ⟨u,rfl,ru⟩:=rs.one
      cases ru
      have hl:=g2.length
      rw [List.length_map] at hl
      exact Vi I sub (jx sub g1) (by (clear rs g2 g1 q e1 sub I; omega)) q
example (K:PySem.W.Frag):PySem.W.kitOne K (.type "bool") (.type "int")=some true:=by rfl
example (K:PySem.W.Frag):PySem.W.kitOne K (.type "str") (.type "int")=some false:=by rfl
end
end C
end
noncomputable section
set_option linter.all false
set_option maxRecDepth 100000
set_option maxHeartbeats 4000002
set_option autoImplicit false
namespace C
open PySem PySem.Spec PyProof.Rows L2
theorem Qx (l b:Addr) (xs0 ys0:Array Value) (n n2:Nat) (dd2:Option Addr) (sl2:Array (Option Value)) (hs0:¬(!xs0.isEmpty&&Builtin.List.listTooLong (xs0.size+ys0.size))=true) (hs1:xs0.size≤sizeLine) (hs2:xs0.size+ys0.size≤sizeLine+1) :
    Meets (Builtin.«list.extend» ⟨[.ref l,.ref b],[]⟩) (fun _ R s=>s.heap.get? l=some { cls:=.type "list",dict:=none,data:=.seq xs0 n,slots:=#[] }∧s.heap.get? b=some { cls:=.type "list",dict:=dd2,data:=.seq ys0 n2,slots:=sl2 }∧R (.ok (.ret Value.none)) { s with heap:=s.heap.update l (Obj.mapSeq fun x=>x++ys0),toks:=s.toks }) :=
  .of_wp fun pr wd Ar R z h=>by
    obtain ⟨hp,gs,dr,tk,os⟩:=z; obtain ⟨hl,hb,h⟩:=h; have f1:=AutoSeq1.idx_int; have f2:=AutoSeq1.sub_tuple_tuple; have f3:=AutoSeq1.sub_list_list; have f4:=AutoSeq1.sub_tuple_list; have f5:=AutoSeq1.sub_list_tuple
    have hz':(xs0++ys0).size≤sizeLine+1:=by rw [Array.size_append]; exact hs2
    wp_walk using (wpAny_updateSeq hl rfl (hz:=hs1) (_hz':=hz')),AutoSeq1.wpAny_loadPart' hl,AutoSeq1.wpAny_loadPart' hb; exact ⟨_,rfl,h⟩
theorem O1 (l b:Addr) (xs0 ys0:Array Value) (n n2:Nat) (dd2:Option Addr) (sl2:Array (Option Value)) (hs0:¬(!xs0.isEmpty&&Builtin.List.listTooLong (xs0.size+ys0.size))=true) (hs1:xs0.size≤sizeLine) (hs2:xs0.size+ys0.size≤sizeLine+1) :
    Meets (Builtin.«list.extend» ⟨[.ref l,.ref b],[]⟩) (fun _ R s=>s.heap.get? l=some { cls:=.type "list",dict:=none,data:=.seq xs0 n,slots:=#[] }∧s.heap.get? b=some { cls:=.type "tuple",dict:=dd2,data:=.seq ys0 n2,slots:=sl2 }∧R (.ok (.ret Value.none)) { s with heap:=s.heap.update l (Obj.mapSeq fun x=>x++ys0),toks:=s.toks }) :=
  .of_wp fun pr wd Ar R z h=>by
    obtain ⟨hp,gs,dr,tk,os⟩:=z; obtain ⟨hl,hb,h⟩:=h; have f1:=AutoSeq1.idx_int; have f2:=AutoSeq1.sub_tuple_tuple; have f3:=AutoSeq1.sub_list_list; have f4:=AutoSeq1.sub_tuple_list; have f5:=AutoSeq1.sub_list_tuple
    have hz':(xs0++ys0).size≤sizeLine+1:=by rw [Array.size_append]; exact hs2
    wp_walk using (wpAny_updateSeq hl rfl (hz:=hs1) (_hz':=hz')),AutoSeq1.wpAny_loadPart' hl,AutoSeq1.wpAny_loadPart' hb; exact ⟨_,rfl,h⟩
noncomputable section
variable {X:Cx} {B:Bas} {m:M T}
noncomputable def Ub (K:PySem.W.Frag):V→List V→Hp→VK→Prop:=fun x vs H Q=>∃ l b xs zs,x=.ref l∧vs=[.ref b]∧H l=some (.lst xs)∧(SqL K H b zs∨SqT K H b zs)∧xs.length+zs.length≤sizeLine∧Q .non (upd H l (.lst (xs++zs)))
theorem yh:MtM X "list.extend" (Ub X.K):=by
  intro pins s σ H x vs v us Q I rx rv h
  obtain ⟨l,b,xs,zs,rfl,rfl,hH,hB,hz,q⟩:=h
  cases rx
  obtain ⟨u,rfl,ru⟩:=rv.one
  cases ru
  obtain ⟨z,its,n,r,hl,e⟩:=I.abn hH
  have fin:∀ its2:List Value,Vals zs its2→L2.Inv X pins σ (upd H l (.lst (xs++zs))) { s with heap:=s.heap.update l (Obj.mapSeq fun x=>x++its2.toArray),toks:=s.toks }:=fun its2 r2 =>
    I.abt (its':=its++its2) hH e (by simp) (r.append r2) (by rw [List.length_append]; exact hz)
  have hlong:∀ its2:List Value,Vals zs its2→¬ (!its.toArray.isEmpty&&Builtin.List.listTooLong (its.toArray.size+its2.toArray.size))=true:=fun its2 r2=>by
    have hsz:its.toArray.size+its2.toArray.size≤sizeLine:=by rw [List.size_toArray,List.size_toArray,← hl,← r2.length]; exact hz
    rw [a2x hsz,Bool.and_false]
    exact Bool.false_ne_true
  rcases hB with hB | hB
  · obtain ⟨its2,r2,⟨⟨cls2,dd2,data2,sl2⟩,n2,ho2,hc2,hd02,hd2⟩,_⟩:=I.list hB
    simp only at hc2 hd2
    subst hc2 hd2
    refine call_meets F.slot_list_extend ⟨_,e,rfl⟩ F.entry_list_extend (F.args_list_extend_2 _ _)
      (Qx l b its.toArray its2.toArray n n2 dd2 sl2 (hlong its2 r2) (by rw [List.size_toArray,← hl]; (clear hd02 ho2 r2 hB hlong fin e hl r rv q hz hH I; omega)) (by rw [List.size_toArray,List.size_toArray,← hl,← r2.length]; (clear hd02 ho2 r2 hB hlong fin e hl r z rv q hH I; omega))) ⟨e,ho2,?_⟩
    exact ⟨.non,_,fin its2 r2,rfl,q⟩
  · obtain ⟨its2,r2,⟨⟨cls2,dd2,data2,sl2⟩,ho2,hc2,n2,hd2⟩,_⟩:=I.tuple hB
    simp only at hc2 hd2
    subst hc2 hd2
    refine call_meets F.slot_list_extend ⟨_,e,rfl⟩ F.entry_list_extend (F.args_list_extend_2 _ _)
      (O1 l b its.toArray its2.toArray n n2 dd2 sl2 (hlong its2 r2) (by rw [List.size_toArray,← hl]; (clear ho2 r2 hB hlong fin e hl r rv q hz hH I; omega)) (by rw [List.size_toArray,List.size_toArray,← hl,← r2.length]; (clear ho2 r2 hB hlong fin e hl r z rv q hH I; omega))) ⟨e,ho2,?_⟩
    exact ⟨.non,_,fin its2 r2,rfl,q⟩
theorem Ah (i:Nat) {st:Stmt} (h:PS X st (a67 (tBM X.K "list" (Ub X.K) (a3c i) (Vr (tOf X.K B m) a81)))):PS X st (sOf X.K B (j4 i m)):=h.imp fun D σ H z9=>by
  obtain ⟨st,ps,S,as,R,fl,st',e,q⟩:=z9
  obtain ⟨hd,t,s1,xs,ys,e1,ey,e2,hl,rfl,rfl⟩:=T4 e
  obtain ⟨xs0,f0,e0⟩:=Qm hd
  obtain ⟨p0,vs0,s0,q0,_⟩:=R.listAt e0
  refine ⟨_,s0,.inl ⟨rfl,_,q0⟩,st,ps,S,as,R,t,s1,e1,fun v H1 S1 as1 R1=>?_⟩
  obtain ⟨w,h1,_,h3⟩:=R1.slots i _ true e2
  rw [s0] at h1; cases h1
  obtain ⟨p',ep,ow⟩:=h3 rfl
  cases ep
  obtain ⟨vs,hH,h4⟩:=ow.own
  have top:=R1.top
  cases top with
  | @tup b zs _ g1 g2 =>
    cases ey
    exact ⟨p0,b,vs,zs,rfl,rfl,hH,.inr (m9 R1.sub g1),by rw [h4.length,g2.length]; exact Nat.le_trans (Nat.le_of_lt hl) ou,q _ _ S1 as1 (R1.drop.turn e2 s0 ⟨_,j5,h4.append g2⟩)⟩
  | @lst b zs _ g1 g2 =>
    cases ey
    exact ⟨p0,b,vs,zs,rfl,rfl,hH,.inl (jx R1.sub g1),by rw [h4.length,g2.length]; exact Nat.le_trans (Nat.le_of_lt hl) ou,q _ _ S1 as1 (R1.drop.turn e2 s0 ⟨_,j5,h4.append g2⟩)⟩
  | _=>exact je ey
end
end C
end
noncomputable section
set_option linter.all false
set_option maxRecDepth 100000
set_option maxHeartbeats 4000002
set_option autoImplicit false
namespace C
open PySem PySem.Spec PyProof.Rows L2
theorem Rel.newObj {K:PySem.W.Frag} {B:Bas} {st:Sta} {σ:L2.St} {H S:Hp} {ps:List (V × T)} {as:List Addr} {p:Addr} {ob:HO} {so:SO} (r:Rel K B st σ H ps S as) (hp:H p=none) (h:a3w K S (as++[p]) (upd H p ob) p so) :
    Rel K B { st with sto:=st.sto++[so] } σ (upd H p ob) ((.ref p,.obj st.sto.length)::ps) S (as++[p]):=by
  obtain ⟨bD,sD,nD,no⟩:=r.fresh hp
  have mo:∃ l,as++[p]=as++l:=⟨[p],rfl⟩
  have other:∀ q,q≠p→H q=upd H p ob q:=fun q n=>(jt n).symm
  refine Rel.push (st:={ st with sto:=st.sto++[so] }) (H:=upd H p ob) (v:=.ref p) (t:=.obj st.sto.length) ⟨fun b u e=>?_,⟨r.grow.same,?_,fun q o a b c=>?_⟩,fun i t f e=>?_,r.apart,⟨?_,?_,fun n so2 e=>?_⟩,fun q hq=>(r.pend q hq).mono (Same.refl _) mo,r.len⟩ (.obj ?_)
  · rw [jt (fun z=>by subst z; rw [sD] at e; cases e)]; exact r.sub _ _ e
  · obtain ⟨l,e⟩:=r.grow.more
    exact ⟨l++[p],by rw [e,List.append_assoc]⟩
  · obtain ⟨x,y,z⟩:=r.grow.keep q o a b c
    have n:q≠p:=fun w=>by subst w; rw [bD] at a; cases a
    refine ⟨by rw [jt n]; exact x,y,fun m=>?_⟩
    rcases List.mem_append.mp m with m | m
    · exact z m
    · exact n (List.mem_singleton.mp m)
  · obtain ⟨v,h1,h2,h3⟩:=r.slots i t f e
    refine ⟨v,h1,fun z=>(h2 z).mono (Same.refl _) mo,fun z=>?_⟩
    obtain ⟨q,rfl,o⟩:=h3 z
    have n:q≠p:=fun w=>by subst w; subst z; exact no i t e h1
    refine ⟨q,rfl,o.own.more (Same.refl _) mo (other q n),o.out,fun m=>?_,o.new⟩
    rcases List.mem_append.mp m with m | m
    · exact o.nas m
    · exact n (List.mem_singleton.mp m)
  · show (as++[p]).length=(st.sto++[so]).length
    rw [List.length_append,List.length_append,r.sto.len]; rfl
  · refine List.nodup_append.mpr ⟨r.sto.nd,by simp,fun a ha b hb=>?_⟩
    rw [List.mem_singleton.mp hb]
    intro z; subst z; exact nD ha
  · have e:(st.sto++[so])[n]? = some so2:=e
    by_cases hn:n<st.sto.length
    · rw [List.getElem?_append_left hn] at e
      obtain ⟨a,h1,h2,h3⟩:=r.sto.at' n so2 e
      have na:a≠p:=fun z=>by subst z; exact nD (List.mem_of_getElem? h1)
      refine ⟨a,Z7 h1,h2,?_⟩
      cases so2 with
      | dic ts=>obtain ⟨vs,x,y⟩:=h3; exact ⟨vs,by rw [jt na]; exact x,y.mono (Same.refl _) mo⟩
      | lst ts=>obtain ⟨vs,x,y⟩:=h3; exact ⟨vs,by rw [jt na]; exact x,y.mono (Same.refl _) mo⟩
      | dit ts=>obtain ⟨vs,x,y⟩:=h3; exact ⟨vs,by rw [jt na]; exact x,y.mono (Same.refl _) mo⟩
    · rw [List.getElem?_append_right (Nat.le_of_not_lt hn)] at e
      have hn0:n - st.sto.length=0:=by
        have:=(List.getElem?_eq_some_iff.mp e).1
        simp at this; omega
      rw [hn0] at e; cases e
      have hne:n=as.length:=by rw [r.sto.len]; omega
      subst hne
      exact ⟨p,by rw [List.getElem?_append_right (Nat.le_refl _),Nat.sub_self]; rfl,sD,h⟩
  · rw [← r.sto.len,List.getElem?_append_right (Nat.le_refl _),Nat.sub_self]; rfl
noncomputable def PN (X:Cx) (e:Expr) (N:L2.St→V→Prop):Prop:=PE X e (fun σ H Q=>∃ v,N σ v∧Q v H)
noncomputable def MN (K:PySem.W.Frag) (m:M T) (N:L2.St→V→Prop):Prop:=∀ (B:Bas) (st:Sta) (σ:L2.St) (H:Hp) (ps:List (V × T)) (S:Hp) (as:List Addr) (t:T) (st':Sta),Rel K B st σ H ps S as→m st=some (t,st')→st'=st∧∃ v,N σ v∧Rep K S as v t
structure PM (X:Cx) (e:Expr) (m:M T) (N:L2.St→V→Prop):Prop where
  p:PN X e N
  m:MN X.K m N
noncomputable section
variable {X:Cx} {B:Bas} {a b e e1 e2:Expr} {m m1 m2:M T} {N N1 N2:L2.St→V→Prop} {pos p:Pos}
end
end C
end
noncomputable section
set_option linter.all false
set_option autoImplicit false
namespace C
open PySem PySem.Spec PyProof.Rows L2
inductive a5n:List Expr→List Str→Prop where
  | nil:a5n [] []
  | cons {x:Str} {k:Nat} {q:Pos} {es:List Expr} {xs:List Str}:a5n es xs→a5n (.Constant (.str x) k q::es) (x::xs)
noncomputable section
variable {X:Cx} {B:Bas} {a b c e o k:Expr} {m m1 m2:M T} {pos p p2:Pos}
end
end C
end
noncomputable section
set_option linter.all false
set_option autoImplicit false
namespace C
open PySem
mutual
theorem Dq:∀ (t:T) {d:PyData},dat t=some d→d.canLay0=true
  | .non,_,h=>by simp only [dat] at h; cases h; simp only [PyData.canLay0]
  | .bl b,_,h=>by simp only [dat] at h; cases h; simp only [PyData.canLay0]
  | .int i,_,h=>by simp only [dat] at h; cases h; simp only [PyData.canLay0]
  | .str x,_,h=>by
    simp only [dat] at h
    split at h
    · rename_i hx; cases h; exact hx
    · cases h
  | .tup xs,_,h=>by
    simp only [dat] at h
    obtain ⟨l,e1,e2⟩:=Option.map_eq_some_iff.mp h
    subst e2
    simp only [PyData.canLay0]
    exact Mh xs e1
  | .lst xs,_,h=>by
    simp only [dat] at h
    obtain ⟨l,e1,e2⟩:=Option.map_eq_some_iff.mp h
    subst e2
    simp only [PyData.canLay0]
    exact Mh xs e1
  | .dic _,_,h=>by simp only [dat] at h; cases h
  | .obj _,_,h=>by simp only [dat] at h; cases h
theorem Mh:∀ (ts:List T) {l:List PyData},Nu ts=some l→PyData.canLayAll0 l=true
  | [],_,h=>by simp only [Nu] at h; cases h; simp only [PyData.canLayAll0]
  | x::r,_,h=>by
    simp only [Nu] at h
    split at h
    · rename_i a ea
      obtain ⟨l,e1,e2⟩:=Option.map_eq_some_iff.mp h
      subst e2
      simp only [PyData.canLayAll0]
      rw [Dq x ea,Mh r e1]; rfl
    · cases h
end
theorem a0q {x:T} {r:List T} {l:List PyData} (h:Nu (x::r)=some l):∃ a l',dat x=some a∧Nu r=some l'∧l=a::l':=by
  simp only [Nu] at h
  split at h
  · rename_i a ea
    obtain ⟨l,e1,e2⟩:=Option.map_eq_some_iff.mp h
    exact ⟨a,l,ea,e1,e2.symm⟩
  · cases h
theorem Rm {t u:T} {b:Bool} (h:eqD t u=some b):∃ x y,dat t=some x∧dat u=some y∧x.depth≤40∧b=PyData.eqv x y:=by
  unfold eqD at h
  split at h
  · rename_i x ex
    split at h
    · rename_i y ey
      split at h
      · rename_i hd; cases h; exact ⟨x,y,ex,ey,hd,rfl⟩
      · cases h
    · cases h
  · cases h
theorem a6b {t u:T} {b:Bool} (h:eqT t u=some b):(∃ x y,t=.dic x∧u=.dic y∧((x.length=y.length∧a2u x y=some b)∨(x.length≠y.length∧b=false)))∨eqD t u=some b:=by
  unfold eqT at h
  split at h
  · split at h
    · rename_i hl; exact .inl ⟨_,_,rfl,rfl,.inl ⟨hl,h⟩⟩
    · rename_i hl; cases h; exact .inl ⟨_,_,rfl,rfl,.inr ⟨hl,rfl⟩⟩
  · exact .inr h
end C
end
noncomputable section
set_option linter.all false
set_option maxRecDepth 100000
set_option maxHeartbeats 4000002
set_option autoImplicit false
namespace C
open PySem PySem.Spec PyProof.Rows L2
noncomputable section
variable {X:Cx} {pins:List (Addr × Obj)} {σ:L2.St} {H S:Hp} {s:Shared} {as:List Addr}
theorem Zb (I:L2.Inv X pins σ H s) (sub:Same S H):(∀ {v:V} {t:T},Rep X.K S as v t→∀ {d:PyData} {u:Value},dat t=some d→RelV v u→∃ bs,Reads s.heap u d bs)∧∀ {vs:List V} {ts:List T},u6 X.K S as vs ts→∀ {ds:List PyData} {us:List Value},Nu ts=some ds→Vals vs us→∃ bs,ReadsAll s.heap us ds bs:=by
  have tp:∀ {a:Addr} {vs:List V} {ts:List T},SqT X.K S a vs→u6 X.K S as vs ts→(∀ {ds:List PyData} {us:List Value},Nu ts=some ds→Vals vs us→∃ bs,ReadsAll s.heap us ds bs)→∀ {d:PyData} {u:Value},dat (.tup ts)=some d→RelV (.ref a) u→∃ bs,Reads s.heap u d bs:=by
    intro a vs ts h _ q d u e r
    simp only [dat] at e
    obtain ⟨l,e1,e2⟩:=Option.map_eq_some_iff.mp e
    subst e2
    cases r
    obtain ⟨its,rv,⟨o,h1,h2,n,h3⟩,_⟩:=I.tuple (m9 sub h)
    obtain ⟨bs,rb⟩:=q e1 rv
    exact ⟨_,.tuple h1 h2 h3 rb⟩
  have ls:∀ {a:Addr} {vs:List V} {ts:List T},SqL X.K S a vs→u6 X.K S as vs ts→(∀ {ds:List PyData} {us:List Value},Nu ts=some ds→Vals vs us→∃ bs,ReadsAll s.heap us ds bs)→∀ {d:PyData} {u:Value},dat (.lst ts)=some d→RelV (.ref a) u→∃ bs,Reads s.heap u d bs:=by
    intro a vs ts h _ q d u e r
    simp only [dat] at e
    obtain ⟨l,e1,e2⟩:=Option.map_eq_some_iff.mp e
    subst e2
    cases r
    obtain ⟨its,rv,⟨o,n,h1,h2,_,h3⟩,_⟩:=I.list (jx sub h)
    obtain ⟨bs,rb⟩:=q e1 rv
    exact ⟨_,.list h1 h2 h3 rb⟩
  have st:∀ (x:Str) {d:PyData} {u:Value},dat (.str x)=some d→RelV (.str x) u→∃ bs,Reads s.heap u d bs:=by
    intro x d u e r
    simp only [dat] at e
    split at e
    · cases e; obtain ⟨t,rfl⟩:=r; exact ⟨_,.str x t⟩
    · cases e
  have cn:∀ {v:V} {t:T} {vs:List V} {ts:List T},Rep X.K S as v t→u6 X.K S as vs ts→(∀ {d:PyData} {u:Value},dat t=some d→RelV v u→∃ bs,Reads s.heap u d bs)→(∀ {ds:List PyData} {us:List Value},Nu ts=some ds→Vals vs us→∃ bs,ReadsAll s.heap us ds bs)→∀ {ds:List PyData} {us:List Value},Nu (t::ts)=some ds→Vals (v::vs) us→∃ bs,ReadsAll s.heap us ds bs:=by
    intro v t vs ts _ _ h q ds us e r
    obtain ⟨a,l,e1,e2,e3⟩:=a0q e
    subst e3
    cases r with
    | cons r1 r2 =>
      obtain ⟨b1,x1⟩:=h e1 r1
      obtain ⟨b2,x2⟩:=q e2 r2
      exact ⟨_,.cons x1 x2⟩
  have nl:∀ {ds:List PyData} {us:List Value},Nu []=some ds→Vals [] us→∃ bs,ReadsAll s.heap us ds bs:=by
    intro ds us e r; simp only [Nu] at e; cases e; cases r; exact ⟨_,.nil⟩
  have no:∀ {d:PyData} {u:Value},dat .non=some d→RelV .non u→∃ bs,Reads s.heap u d bs:=by
    intro d u e r; simp only [dat] at e; cases e; cases r; exact ⟨_,.none⟩
  have bo:∀ (b:Bool) {d:PyData} {u:Value},dat (.bl b)=some d→RelV (.bl b) u→∃ bs,Reads s.heap u d bs:=by
    intro b d u e r; simp only [dat] at e; cases e; cases r; exact ⟨_,.bool b⟩
  have it:∀ (i:Int) {d:PyData} {u:Value},dat (.int i)=some d→RelV (.int i) u→∃ bs,Reads s.heap u d bs:=by
    intro i d u e r; simp only [dat] at e; cases e; obtain ⟨t,rfl⟩:=r; exact ⟨_,.int i t⟩
  have di:∀ {a:Addr} {ts:List (L2.Key × T)} {d:PyData} {u:Value},dat (.dic ts)=some d→RelV (.ref a) u→∃ bs,Reads s.heap u d bs:=by
    intro a ts d u e; simp only [dat] at e; cases e
  have ob:∀ {a:Addr} {n:Nat} {d:PyData} {u:Value},dat (.obj n)=some d→RelV (.ref a) u→∃ bs,Reads s.heap u d bs:=by
    intro a n d u e; simp only [dat] at e; cases e
  exact ⟨fun h=>Rep.rec (motive_1:=fun v t _=>∀ {d:PyData} {u:Value},dat t=some d→RelV v u→∃ bs,Reads s.heap u d bs) (motive_2:=fun vs ts _=>∀ {ds:List PyData} {us:List Value},Nu ts=some ds→Vals vs us→∃ bs,ReadsAll s.heap us ds bs) (motive_3:=fun _ _ _=>True) no bo it st tp ls (fun _ _ _=>di) (fun _=>ob) nl cn trivial (fun _ _ _ _=>trivial) h,
    fun h=>u6.rec (motive_1:=fun v t _=>∀ {d:PyData} {u:Value},dat t=some d→RelV v u→∃ bs,Reads s.heap u d bs) (motive_2:=fun vs ts _=>∀ {ds:List PyData} {us:List Value},Nu ts=some ds→Vals vs us→∃ bs,ReadsAll s.heap us ds bs) (motive_3:=fun _ _ _=>True) no bo it st tp ls (fun _ _ _=>di) (fun _=>ob) nl cn trivial (fun _ _ _ _=>trivial) h⟩
theorem Rep.reads (I:L2.Inv X pins σ H s) (sub:Same S H) {v:V} {t:T} (h:Rep X.K S as v t) {d:PyData} {u:Value} (e:dat t=some d) (r:RelV v u):∃ bs,Reads s.heap u d bs:=(Zb I sub).1 h e r
theorem a3x (I:L2.Inv X pins σ H s) (sub:Same S H) {x y:V} {t u:T} {v w:Value} {b:Bool} {A:Around} (hx:Rep X.K S as x t) (hy:Rep X.K S as y u) (rx:RelV x v) (ry:RelV y w) (e:eqD t u=some b) (hu:A.units+40<cLine):SeqAt.EqAt A s v w b:=by
  obtain ⟨dx,dy,e1,e2,hd,rfl⟩:=Rm e
  obtain ⟨b1,x1⟩:=hx.reads I sub e1 rx
  obtain ⟨b2,x2⟩:=hy.reads I sub e2 ry
  exact SeqAt.eqAt_reads dx dy A s v w b1 b2 x1 x2 (Dq _ e1) (Dq _ e2) (by have:=Nat.min_le_left dx.depth dy.depth; (clear this x2 x1 e e2 e1 ry rx hy hx sub I; omega))
theorem Zq (I:L2.Inv X pins σ H s) (sub:Same S H) {A:Around} (hu:A.units+40<cLine) {kb:List (L2.Key × V)} {ub:List (L2.Key × T)} {wb:List (L2.Key × Value)} (rb:Dc X.K S as kb ub) (vb:KV kb wb) :
    ∀ {ka:List (L2.Key × V)} {ua:List (L2.Key × T)} {wa:List (L2.Key × Value)} {r:Bool},Dc X.K S as ka ua→KV ka wa→a2u ua ub=some r→PySem.W.KeqHits A s wb wa r
  | _,[],_,_,h0,va,e=>by
    cases h0
    simp only [a2u] at e; cases e
    cases va
    exact .nil
  | _,(k,_)::_,_,_,h0,va,e=>by
    cases h0 with | cons h q=>?_
    simp only [a2u] at e
    cases va with
    | @cons _ p2 _ _ hp hr =>
      obtain ⟨pk,pv⟩:=p2
      obtain ⟨ek,rv⟩:=hp
      dsimp only at ek rv
      subst ek
      rcases rb.get k with ⟨z,t',a1,a2,a3⟩ | ⟨a1,a2⟩
      · rw [a2] at e
        dsimp only at e
        have rel:=KV.val vb k
        rw [a1] at rel
        obtain ⟨w',hw,rw'⟩:=R7.some_of rel
        split at e
        · rename_i eb he
          obtain ⟨b',e1,e2⟩:=Option.map_eq_some_iff.mp e
          subst e2
          exact .hit hw (a3x I sub h a3 rv rw' he hu) (Zq I sub hu rb vb q hr e1)
        · cases e
      · rw [a2] at e
        cases e
        have rel:=KV.val vb k
        rw [a1] at rel
        exact .miss (R7.none_of rel)
end
noncomputable section
variable {X:Cx}
theorem Oq {op:CmpOp} {neg:Bool} (hop:(op=.Eq∧neg=false)∨(op=.NotEq∧neg=true)) {g:T→T→Option T} (hg:∀ t u w,g t u=some w→∃ b,eqT t u=some b∧w=.bl (xor neg b)) (hu:X.A.units+64<cLine):OpT X (compareOp op) g:=by
  intro pins s σ H x y v u Q I rx ry z8
  obtain ⟨S,as,t,t2,w,sub,ht,hu2,hf,q⟩:=z8
  obtain ⟨b,e,rfl⟩:=hg _ _ _ hf
  have fin:EP X pins σ Q (.bool (xor neg b)) s:=⟨.bl (xor neg b),H,I,rfl,q _ H S (Ext.refl sub) (.bl _)⟩
  rcases a6b e with ⟨xs,ys,rfl,rfl,hd⟩ | he
  · cases ht with
    | @dic a kvs _ g1 g2 =>
      cases hu2 with
      | @dic a' kvs' _ k1 k2 =>
        cases rx
        cases ry
        obtain ⟨z,hs,vs,rel,dd⟩:=Ij I.hok (vd sub g1)
        obtain ⟨z',hs',vs',rel',dd'⟩:=Ij I.hok (vd sub k1)
        have l1:vs.length=xs.length:=by rw [← rel.length]; exact g2.length
        have l2:vs'.length=ys.length:=by rw [← rel'.length]; exact k2.length
        have hu1:X.A.in1.units+40<cLine:=by show X.A.units+1+40<cLine; (clear l2 l1 dd' rel' hs' z' dd rel hs z k2 k1 g2 g1 hf e hd fin q sub I hg hop; omega)
        rcases hd with ⟨hl,eb⟩ | ⟨hl,rfl⟩
        · have hits:vs.length=vs'.length→PySem.W.KeqHits X.A.in1 s vs' vs b:=fun _=>Zq I sub hu1 k2 rel' g2 rel eb
          have el:(vs.length==vs'.length)=true:=by rw [l1,l2,hl]; exact beq_self_eq_true _
          rcases hop with ⟨rfl,rfl⟩ | ⟨rfl,rfl⟩
          · refine PySem.W.keq_eq hs hs' dd dd' (by (clear hf fin q hg el hits eb hl hu1 l2 l1 dd' rel' hs' z' dd rel hs z k2 k1 g2 g1 e sub I; omega)) hits ?_
            rw [el]; simpa using fin
          · refine PySem.W.keq_ne hs hs' dd dd' (by (clear hf fin q hg el hits eb hl hu1 l2 l1 dd' rel' hs' z' dd rel hs z k2 k1 g2 g1 e sub I; omega)) hits ?_
            rw [el]; simpa using fin
        · have hits:vs.length=vs'.length→PySem.W.KeqHits X.A.in1 s vs' vs true:=fun h=>absurd (by rw [← l1,← l2]; exact h) hl
          have el:(vs.length==vs'.length)=false:=by rw [l1,l2]; exact beq_eq_false_iff_ne.mpr hl
          rcases hop with ⟨rfl,rfl⟩ | ⟨rfl,rfl⟩
          · refine PySem.W.keq_eq hs hs' dd dd' (by (clear hf fin q hg el hits e hl hu1 l2 l1 dd' rel' hs' z' dd rel hs z k2 k1 g2 g1 sub I; omega)) hits ?_
            rw [el]; simpa using fin
          · refine PySem.W.keq_ne hs hs' dd dd' (by (clear hf fin q hg el hits e hl hu1 l2 l1 dd' rel' hs' z' dd rel hs z k2 k1 g2 g1 sub I; omega)) hits ?_
            rw [el]; simpa using fin
  · obtain ⟨dx,dy,e1,e2,hd,rfl⟩:=Rm he
    obtain ⟨b1,x1⟩:=ht.reads I sub e1 rx
    obtain ⟨b2,x2⟩:=hu2.reads I sub e2 ry
    have hm:X.A.units+min dx.depth dy.depth<cLine:=by have:=Nat.min_le_left dx.depth dy.depth; (clear this x2 x1 he fin q hf e e2 e1 hu2 ht sub ry rx I hg hop; omega)
    rcases hop with ⟨rfl,rfl⟩ | ⟨rfl,rfl⟩
    · exact SeqAt.compareEq_reads x1 x2 (Dq _ e1) (Dq _ e2) hm (by simpa using fin)
    · exact SeqAt.compareNe_reads x1 x2 (Dq _ e1) (Dq _ e2) hm (by simpa using fin)
theorem mq (hu:X.A.units+64<cLine):OpT X (compareOp .Eq) eqO:=Oq (.inl ⟨rfl,rfl⟩) (fun t u w h=>by
  unfold eqO at h
  split at h
  · rename_i b e; cases h; exact ⟨b,e,by simp⟩
  · cases h) hu
theorem Le (hu:X.A.units+64<cLine):OpT X (compareOp .NotEq) neO:=Oq (.inr ⟨rfl,rfl⟩) (fun t u w h=>by
  unfold neO at h
  split at h
  · rename_i b e; cases h; exact ⟨b,e,by simp⟩
  · cases h) hu
open Classical in
noncomputable def a4n (h:Heap) (dx:PyData) (y:Value):Bool:=if e:∃ d bs,Reads h y d bs∧d.canLay0=true then PyData.eqv (Classical.choose e) dx else false
theorem a4u {h:Heap} {dx d:PyData} {y:Value} {bs:List Addr} (r:Reads h y d bs) (l:d.canLay0=true):a4n h dx y=PyData.eqv d dx:=by
  have e:∃ d bs,Reads h y d bs∧d.canLay0=true:=⟨d,bs,r,l⟩
  unfold a4n
  rw [dif_pos e]
  obtain ⟨bs',r',l'⟩:=Classical.choose_spec e
  rw [SeqAt.Reads.unique _ _ _ _ _ l' r' r]
theorem Y8 {pins:List (Addr × Obj)} {σ:L2.St} {H S:Hp} {s:Shared} {as:List Addr} {A:Around} (I:L2.Inv X pins σ H s) (sub:Same S H) (hu:A.units+40<cLine) {x:V} {t:T} {v:Value} {dx:PyData} (hx:Rep X.K S as x t) (rx:RelV x v) (ex:dat t=some dx) :
    ∀ {vs:List V} {ts:List T} {us:List Value} {b:Bool},u6 X.K S as vs ts→Vals vs us→inL t ts=some b→(∀ y∈us,SeqAt.EqAt A s y v (a4n s.heap dx y))∧us.any (a4n s.heap dx)=b
  | _,[],_,_,h0,r,e=>by cases h0; simp only [inL] at e; cases e; cases r; exact ⟨fun y h=>(nomatch h),rfl⟩
  | _,_::_,_,_,h0,r,e=>by
    cases h0 with | cons h q=>?_
    simp only [inL] at e
    cases r with
    | @cons _ u1 _ us1 r1 r2 =>
      split at e
      · rename_i eb he
        obtain ⟨b',e1,e2⟩:=Option.map_eq_some_iff.mp e
        subst e2
        obtain ⟨i1,i2⟩:=Y8 I sub hu hx rx ex q r2 e1
        obtain ⟨dy,dx',f1,f2,hd,rfl⟩:=Rm he
        rw [ex] at f2; cases f2
        obtain ⟨b1,x1⟩:=h.reads I sub f1 r1
        have hb:=a4u (dx:=dx) x1 (Dq _ f1)
        refine ⟨fun y hy=>?_,by rw [List.any_cons,i2,hb]⟩
        rcases List.mem_cons.mp hy with rfl | hy -- here
        · rw [hb]; exact a3x I sub h hx r1 rx he hu
        · exact i1 y hy
      · cases e
theorem Y6 {t u w:T} (h:inT t u=some w):(∃ ys b,(u=.tup ys∨u=.lst ys)∧inL t ys=some b∧(dat t).isSome=true∧w=.bl b)∨(∃ kvs q,u=.dic kvs∧keyOf t=some q∧w=.bl (Av q kvs).isSome):=by
  unfold inT at h
  split at h
  · obtain ⟨q,e1,e2⟩:=Option.map_eq_some_iff.mp h
    exact .inr ⟨_,q,rfl,e1,e2.symm⟩
  · split at h
    · rename_i hd
      split at h
      · obtain ⟨b,e1,e2⟩:=Option.map_eq_some_iff.mp h; exact .inl ⟨_,b,.inl rfl,e1,hd,e2.symm⟩
      · obtain ⟨b,e1,e2⟩:=Option.map_eq_some_iff.mp h; exact .inl ⟨_,b,.inr rfl,e1,hd,e2.symm⟩
      · cases h
    · cases h
theorem Xm {op:CmpOp} {neg:Bool} (hop:(op=.In∧neg=false)∨(op=.NotIn∧neg=true)) {g:T→T→Option T} (hg:∀ t u w,g t u=some w→∃ w',inT t u=some w'∧∃ b,w'=.bl b∧w=.bl (xor neg b)) (hu:X.A.units+64<cLine):OpT X (compareOp op) g:=by
  intro pins s σ H x y v u Q I rx ry z8
  obtain ⟨S,as,t,t2,w,sub,ht,hu2,hf,q⟩:=z8
  obtain ⟨w',ei,b0,rfl,rfl⟩:=hg _ _ _ hf
  rcases Y6 ei with ⟨ys,b,hy,e,hdt,eb⟩ | ⟨kvs,qk,rfl,ek,eb⟩
  · cases eb
    obtain ⟨dx,ex⟩:=Option.isSome_iff_exists.mp hdt
    have fin:EP X pins σ Q (.bool (xor neg b0)) s:=⟨.bl (xor neg b0),H,I,rfl,q _ H S (Ext.refl sub) (.bl _)⟩
    have hu1:X.A.in1.units+40<cLine:=by show X.A.units+1+40<cLine; (clear fin ex e hdt hy q hf ei hu2 ht sub ry rx I hg hop; omega)
    rcases hy with rfl | rfl
    · cases hu2 with
      | @tup a vs _ g1 g2 =>
        cases ry
        obtain ⟨its,r,p,hz⟩:=I.tuple (m9 sub g1)
        obtain ⟨i1,i2⟩:=Y8 I sub hu1 ht rx ex g2 r e
        have he:∀ y,y∈its.toArray→SeqAt.EqAt X.A.in1 s y v (a4n s.heap dx y):=fun y hy=>i1 y (by simpa using hy)
        have ha:its.toArray.any (a4n s.heap dx)=b0:=by rw [← i2]; simp
        rcases hop with ⟨rfl,rfl⟩ | ⟨rfl,rfl⟩
        · exact SeqAt.in_tupleAt _ (show s.heap.IsTuple a its.toArray from p) he (by rw [ha]; simpa using fin)
        · exact SeqAt.notIn_tupleAt _ (show s.heap.IsTuple a its.toArray from p) he (by rw [ha]; simpa using fin)
    · cases hu2 with
      | @lst a vs _ g1 g2 =>
        cases ry
        obtain ⟨its,r,p,hz⟩:=I.list (jx sub g1)
        obtain ⟨i1,i2⟩:=Y8 I sub hu1 ht rx ex g2 r e
        have he:∀ y,y∈its.toArray→SeqAt.EqAt X.A.in1 s y v (a4n s.heap dx y):=fun y hy=>i1 y (by simpa using hy)
        have ha:its.toArray.any (a4n s.heap dx)=b0:=by rw [← i2]; simp
        rcases hop with ⟨rfl,rfl⟩ | ⟨rfl,rfl⟩
        · exact SeqAt.in_listAt _ p.isList he (by rw [ha]; simpa using fin)
        · exact SeqAt.notIn_listAt _ p.isList he (by rw [ha]; simpa using fin)
  · cases eb
    cases hu2 with
    | @dic a kv _ g1 g2 =>
      cases ry
      have ey:=Od ht ek
      subst ey
      have hs:(Av qk kvs).isSome=(Ku kv qk).isSome:=by
        rcases g2.get qk with ⟨z,t',a1,a2,_⟩ | ⟨a1,a2⟩
        · simp [a1,a2]
        · simp [a1,a2]
      rw [hs] at q
      have gd:Vn H a (kV qk) (Ku kv qk):=.inl ⟨kv,qk,vd sub g1,rfl,rfl⟩
      rcases hop with ⟨rfl,rfl⟩ | ⟨rfl,rfl⟩
      · exact ad5 (by (clear q hf hg gd hs ht rx g2 g1 ei ek sub I; omega)) I gd rx fun s' I'=>⟨.bl _,H,I',rfl,by simpa using q _ H S (Ext.refl sub) (.bl _)⟩
      · exact a6k (by (clear q hf hg gd hs ht rx g2 g1 ei ek sub I; omega)) I gd rx fun s' I'=>⟨.bl _,H,I',rfl,by simpa using q _ H S (Ext.refl sub) (.bl _)⟩
theorem a7m (hu:X.A.units+64<cLine):OpT X (compareOp .In) inT:=Xm (.inl ⟨rfl,rfl⟩) (fun t u w h=>by
  rcases Y6 h with ⟨ys,b,h1,h2,h3,rfl⟩ | ⟨kvs,q,rfl,h2,rfl⟩
  · exact ⟨_,h,b,rfl,by simp⟩
  · exact ⟨_,h,_,rfl,by simp⟩) hu
end
end C
end
noncomputable section
set_option linter.all false
set_option maxRecDepth 100000
set_option maxHeartbeats 4000002
set_option autoImplicit false
namespace C
open PySem PySem.Spec PyProof.Rows L2
noncomputable def a9s (K:PySem.W.Frag) (ar:Nat) (F:Fn):Sp:=fun vs H Q _=>∃ S as sto ts t sto',Same S H∧Ib K S as H sto∧u6 K S as vs ts∧ts.length=ar∧F ts sto=some (t,sto') ∧
  ∀ p H' S' as',a9r ⟨S,as,H⟩ S' as' H'→Same S' H'→Ib K S' as' H' sto'→Sg K ⟨S,as,H⟩ S' as' H' p t→Q (.ref p) H'
inductive a9o (K:PySem.W.Frag) (B:Bas) (s:S) (D:Ends) (σ:L2.St) (H:Hp):Prop
  | mk (st:Sta) (ps:List (V × T)) (S0:Hp) (as:List Addr) (R:Rel K B st σ H ps S0 as) (t:T) (st':Sta) (e:s st=some (.ret t,st')) (q:∀ p σ' H' S' as',Rel K B st' σ' H' ps S' as'→Sg K B S' as' H' p t→D.rt (.ref p) H')
theorem a6a {u v:S} {s s':Sta} {t:T} (h:j8 (sNx u) v s=some (.ret t,s')):∃ s1,u s=some (.next,s1)∧v s1=some (.ret t,s'):=by
  unfold j8 sNx at h
  cases e:u s with
  | none=>rw [e] at h; cases h
  | some p =>
    obtain ⟨fl,s1⟩:=p
    rw [e] at h
    cases fl <;> first | exact ⟨s1,rfl,h⟩ | cases h
theorem Sd {i:Nat} {s s':Sta} {t:T} (h:jh i s=some (.ret t,s')):s.env[i]? = some (some (t,true))∧s'=s:=by
  unfold jh at h
  split at h
  · rename_i t' e; cases h; exact ⟨e,rfl⟩
  · cases h
theorem a6z {g:G} {m:M T} {s s':Sta} {fl:Flow} (h:sGo g m s=some (fl,s')):∃ t s1,m s=some (t,s1)∧g t s1=some s'∧fl=.next:=by
  unfold sGo at h
  split at h
  · rename_i t s1 e
    split at h
    · rename_i s2 e2; cases h; exact ⟨t,s1,e,e2,rfl⟩
    · cases h
  · cases h
noncomputable def a1a (v:S):Prop:=∀ s s',v s≠some (.next,s')
theorem a2e (i:Nat):a1a (jh i):=fun s s' h=>by
  unfold jh at h
  split at h <;> cases h
theorem Fo {u v:S} (h:a1a v):a1a (j8 u v):=fun s s' e=>by
  unfold j8 at e
  split at e
  · exact h _ _ e
  · rename_i hn; exact hn _ e
noncomputable section
variable {X:Cx} {B:Bas} {a b c e:Expr} {m m1 m2:M T} {pos p:Pos} {u v:S} {es:List Expr} {ms:M (List T)} {k n:Nat} {f:Addr} {fd:FuncData} {pn:List Str} {F:Fn} {x:Str}
theorem Fl {st:Stmt} {rest:List Stmt} (h1:PS X st (sOf X.K B u)) (h2:PSs X rest (a9o X.K B v)):PSs X (st::rest) (a9o X.K B (j8 (sNx u) v)):=(U0 h1 h2).imp fun D σ H z9=>by
  obtain ⟨st,ps,S,as,R,t,st',e,q⟩:=z9
  obtain ⟨s1,e1,e2⟩:=a6a e
  exact ⟨st,ps,S,as,R,.next,s1,e1,fun σ' H' S' as' R'=>⟨s1,ps,S',as',R',t,st',e2,q⟩⟩
theorem a5b (i:Nat) (he:PE X e (a3c i)):PSs X [.Return (some e) pos] (a9o X.K B (jh i)):=(Xb (a3o he)).imp fun D σ H z9=>by
  obtain ⟨st,ps,S,as,R,t,st',e,q⟩:=z9
  obtain ⟨e1,rfl⟩:=Sd e
  obtain ⟨v,h1,_,h3⟩:=R.slots i t true e1
  obtain ⟨p,rfl,o⟩:=h3 rfl
  exact ⟨_,h1,q p σ H S as R o⟩
theorem a94 {g:G} {s:Stmt} (h:PS X s (a77 (tOf X.K B m) (gOf X.K B g))):PS X s (sOf X.K B (sGo g m)):=h.imp fun D σ H z9=>by
  obtain ⟨st,ps,S,as,R,fl,st',e,q⟩:=z9
  obtain ⟨t,s1,e1,e2,rfl⟩:=a6z e
  exact ⟨st,ps,S,as,R,t,s1,e1,fun v H' S' as' R'=>⟨s1,ps,S',as',t,R',st',e2,fun σ' H'' S'' as'' R''=>q σ' H'' S'' as'' R''⟩⟩
end
noncomputable def Jo (P:Program) (w:World) (K:PySem.W.Frag) (mg:Str→Option Value) (base:Heap) (x:Str) (k:Nat) (ps:List Str) (F:Fn):Prop :=
  ∃ f fd,yc P w K mg base CX0 k f fd ps (a9s K ps.length F)∧Binds K fd ps []∧PySem.W.keepIn K (.ref f)=true∧mg x=some (.ref f)
theorem Jo.mono {P:Program} {w:World} {K:PySem.W.Frag} {mg:Str→Option Value} {base:Heap} {x:Str} {j k:Nat} {ps:List Str} {F:Fn} (d:Jo P w K mg base x j ps F) (h:j≤k):Jo P w K mg base x k ps F:=by
  obtain ⟨f,fd,h1,h2⟩:=d
  exact ⟨f,fd,h1.mono h,h2⟩
noncomputable section
variable {X:Cx} {B:Bas} {a b c e:Expr} {m m1 m2:M T} {pos p:Pos} {es:List Expr} {ms:M (List T)} {n:Nat} {pn:List Str} {F:Fn} {x:Str}
theorem a3g (D:Jo X.prog X.w X.K X.mg X.base x n pn F) (hr:Jr n X.A) (hg:Gl X x)
    (ha:PA X (e::es) (aOf X.K B ms)) (hl:∀ st ts st',ms st=some (ts,st')→ts.length=pn.length) (hdb:(x==("__debug__" : Str))=false:=by decide)
    (he:starEach (e::es) X.env=(false,eval e X.env)::starEach es X.env:=by rfl) (hpl:(backTo pos (starEach es X.env)).any (·.1)=false:=by rfl) :
    PE X (.Call (.Name x p) (e::es) [] pos) (fOf X.K B (dw F ms)):=by
  obtain ⟨f,fd,G,hb,hk,hm⟩:=D
  refine (Xq G hr hg hm hk hb .nil a8n ha hdb he hpl).imp fun σ H Q z0=>?_
  obtain ⟨st,ps,S,as,R,t,st',e,q⟩:=z0
  obtain ⟨ts,s1,sto,e1,e2,rfl⟩:=Qg e
  refine ⟨st,ps,S,as,R,ts,s1,e1,fun vs H1 S1 as1 R1 rs=>?_⟩
  show a9s X.K pn.length F (vs++[]) H1 Q E0
  rw [List.append_nil]
  exact ⟨S1,as1,s1.sto,ts,t,sto,R1.sub,R1.sto,rs,hl _ _ _ e1,e2,fun p H2 S2 as2 g sub so o=>by
    obtain ⟨b1,b2,b3,b4⟩:=R1.fresh o.new
    exact q p H2 S2 as2 (R1.call g sub so) ⟨o.own,o.out,o.nas,b1⟩ b4⟩
end
noncomputable section
variable {P:Program} {w:World} {K:PySem.W.Frag} {mg:Str→Option Value} {base:Heap}
theorem a2g {x qual:Str} {st:Stmt} {f:Addr} {fd:FuncData} {N ps:List Str} {k:Nat} {b:S} (F:Fun K x qual st f fd) (Sc:jc N ps (gj st)) (hN:ps.length≤N.length) (he:a1a b)
    (hb:∀ (cdv:Value) (A:Around) (outer:List Env) (s:Shared) (H:Hp) (E:XK) (B:Bas),Jr k (A.deeper (envOfC qual (gj st) s.heap.objs.size f cdv)) →
      PSs (a3v CX0 P w K mg base N qual (gj st) f cdv A outer s H E).nox (Am st) (a9o K B b)):yc P w K mg base CX0 (k+1) f fd ps (a9s K ps.length (j9 N.length b)):=by
  refine F.ok Sc (fun vs H Q E h=>?_) fun cdv A outer s H vs Q E hr h=>?_
  · obtain ⟨S,as,sto,ts,t,sto',h1,h2,h3,h4,_⟩:=h
    rw [h3.length,h4]
  · obtain ⟨S,as,sto,ts,t,sto',h1,h2,h3,h4,h5,q⟩:=h
    refine ⟨_,hb cdv A outer s H E ⟨S,as,H⟩ hr,?_⟩
    have lv:vs.length=ps.length:=by rw [h3.length,h4]
    have R:Rel K ⟨S,as,H⟩ ⟨ts.map (fun t=>some (t,false))++List.replicate (N.length - ts.length) none,sto⟩ (L2.start N vs) H [] S as:=Qj h1 h2 h3 (by rw [h4]; exact hN)
    unfold j9 at h5
    split at h5
    · rename_i t' s' e
      cases h5
      exact ⟨_,[],S,as,R,t,s',e,fun p σ' H' S' as' R' o=>q p H' S' as' R'.grow R'.sub R'.sto o⟩
    · rename_i s' e
      exact absurd e (he _ _)
    · cases h5
end
end C
end
noncomputable section
set_option linter.all false
set_option maxRecDepth 100000
set_option maxHeartbeats 4000002
set_option autoImplicit false
namespace C
open PySem PySem.Spec PyProof.Rows L2
noncomputable section
variable {X:Cx} {B:Bas} {a b c e:Expr} {m m1 m2:M T} {pos p p2 pos2:Pos}
theorem Ext.junk {S H:Hp} (h:Same S H) {p:Addr} (n:H p=none) (o:HO):Ext S H S (upd H p o) :=
  ⟨Same.refl _,Same.upd n o,fun b u q=>(Same.upd n o) _ _ (h _ _ q),fun _ q=>.inl q⟩
noncomputable def ad1 (ta:TA):TE:=fun σ H Q=>ta σ H fun vs H1=>∃ j:Int,vs=[.int j]∧∀ r,H1 r=none→Q (.ref r) (upd H1 r (.rng 0 j))
theorem a9k {ta:TA} (hg:Gl X "range") (hm:X.mg "range" = none) (ha:PA X [a] ta) (hs:starEach [a] X.env=[(false,eval a X.env)]:=by rfl):PE X (.Call (.Name "range" p) [a] [] pos) (ad1 ta):=by
  intro pins s σ H Q I h
  refine Call_ (Ly I hg hm boot_range (PyProof.Rows.callWith_type1 (thn (ha pos pins s σ H _ I h) fun us s1 z0=>?_) hs rfl))
  obtain ⟨vs,H1,I1,r1,q1⟩:=z0
  obtain ⟨j,e,q⟩:=q1
  subst e
  cases r1 with
  | cons r rr =>
    cases rr
    obtain ⟨t,rfl⟩:=r
    refine call_range_1 ⟨.ref s1.heap.objs.size,upd H1 s1.heap.objs.size (.rng 0 j),I1.laid (fun b u e=>Heap.get?_push_of_some _ e) (Nat.le_refl _) ⟨_,_,_,Heap.get?_push_size _ rfl⟩,rfl,q _ (I1.hok.fresh (Nat.le_refl _))⟩
noncomputable def rLR (xs:List V) (H:Hp) (Q:VK):Prop:=∃ r j,xs=[.ref r]∧H r=some (.rng 0 j)∧(-1000000<j∧j<1000000)∧∀ l,H l=none→Q (.ref l) (upd H l (.lst ((List.range j.toNat).map fun (k:Nat)=>V.int (k:Int))))
theorem Vs (hc:X.calm=true):Ey X (.type "list") rLR:=by
  intro pins s σ H xs us Q I rs z8
  obtain ⟨r,j,ex,hr,hj,q⟩:=z8
  subst ex
  obtain ⟨u,rfl,ru⟩:=rs.one
  cases ru
  obtain ⟨t,u,v,er⟩:∃ t u v,s.heap.get? r=some { cls:=.type "range",data:=.fields #[.int 0 t,.int j u,.int 1 v] }:=(Rd.ok (.inl hr) I.hok)
  have hn:Builtin.Range.rangeSize 0 j 1=(j.toNat:Int):=by rw [rangeSize_one]; split <;> (clear er rs q hj hr I hc; omega)
  refine call_list_range (n:=j.toNat) (I.ok.hd hc) er (small_one (by (clear hn er rs q hj hr I hc; omega)) (by (clear hn er rs q hj hr I hc; omega)) (by (clear hn er rs q hr I hc; omega)) (by (clear hn er rs q hr I hc; omega))) hn (by (clear hn er rs q hr I hc; omega)) fun h' tk acc c' hk hS hacc=>?_
  have hl:((List.range j.toNat).map fun (k:Nat)=>V.int (k:Int)).length≤sizeLine:=by
    rw [List.length_map,List.length_range,sizeLine_eq]; (clear hacc hS hk hn er rs q hr I hc; omega)
  have hv:Vals ((List.range j.toNat).map fun (k:Nat)=>V.int (k:Int)) acc.toList:=by
    obtain ⟨n1,n2⟩:=hacc
    have gen:∀ (us:List Value) (k:Nat),(∀ (i:Nat) (v:Value),us[i]? = some v→∃ t,v=Value.int ((k+i:Nat):Int) t)→Vals ((List.range' k us.length).map fun (k:Nat)=>V.int (k:Int)) us:=by
      intro us
      induction us with
      | nil=>intro k _; exact .nil
      | cons x us ih =>
        intro k h
        rw [List.length_cons,List.range'_succ,List.map_cons]
        refine .cons ?_ (ih (k+1) fun i v e=>?_)
        · exact h 0 x rfl
        · have:=h (i+1) v (by simpa using e)
          rw [show k+1+i=k+(i+1) by (clear this e h ih n2 n1 hl hS hk hn er rs q hj hr I hc; omega)]; exact this
    have:=gen acc.toList 0 (fun i v e=>by
      obtain ⟨t,e'⟩:=n2 i v (by rw [← Array.getElem?_toList]; exact e)
      exact ⟨t,by rw [e']; congr 1; (clear e' e gen n2 n1 hl hS hk hn er rs q hj hr I hc; omega)⟩)
    rw [Array.length_toList,n1,← List.range_eq_range'] at this
    exact this
  exact ⟨.ref s.heap.objs.size,_,I.laid (a:=s.heap.objs.size) (o:=.lst ((List.range j.toNat).map fun (k:Nat)=>V.int (k:Int))) (h':=h') (t':=tk) hk (Nat.le_refl _) ⟨hl,acc.toList,c',hv,hS⟩,rfl,q _ (I.hok.fresh (Nat.le_refl _))⟩
theorem Qo {K:PySem.W.Frag} {S:Hp} {as:List Addr}:∀ l:List Nat,u6 K S as (l.map fun (k:Nat)=>V.int (k:Int)) (l.map fun (k:Nat)=>T.int (k:Int))
  | []=>.nil
  | x::l=>.cons (.int x) (Qo l)
theorem a0c (hc:X.calm=true) (hg:Gl X "list") (hm:X.mg "list" = none) (hg2:Gl X "range") (hm2:X.mg "range" = none) (ha:PE X a (tOf X.K B m)) (hs:starEach [a] X.env=[(false,eval a X.env)]:=by rfl)
    (he:starEach [.Call (.Name "range" p2) [a] [] pos2] X.env=(false,eval (.Call (.Name "range" p2) [a] [] pos2) X.env)::starEach [] X.env:=by rfl) (hpl:(backTo pos (starEach [] X.env)).any (·.1)=false:=by rfl) :
    PE X (.Call (.Name "list" p) [.Call (.Name "range" p2) [a] [] pos2] [] pos) (tOf X.K B (ig Ml (ak m dg))):=by
  refine (vh (Vs hc) hg hm PyProof.Rows.boot_list (su (a9k hg2 hm2 (su ha wz hs) hs) wz he) (by decide) (by decide) he hpl).imp fun σ H Q z0=>?_
  obtain ⟨st,ps,S,as,R,t,st',e,q⟩:=z0
  obtain ⟨ts,e1,e2⟩:=Aw e
  obtain ⟨t1,s1,us,ea,en,rfl⟩:=vg e1
  cases en
  cases t1 <;> first | exact je e2 | skip
  rename_i n
  obtain ⟨hn',e2⟩:=yj e2
  have hn:-1000000<n∧n<1000000:=by have:n.natAbs<1000000:=hn'; (clear e2 hn' ea e1 q e R hpl he hs ha hm2 hg2 hm hg hc; omega)
  cases e2
  refine ⟨st,ps,S,as,R,_,_,ea,fun v H1 S1 as1 R1=>?_⟩
  cases R1.top
  refine ⟨n,rfl,fun r hr=>⟨r,n,rfl,j5,hn,fun l hl=>?_⟩⟩
  have x1:=Ext.junk R1.sub hr (.rng 0 n)
  have x2:=Ext.laid x1.sub hl (.lst ((List.range n.toNat).map fun (k:Nat)=>V.int (k:Int)))
  exact q _ _ _ _ (((R1.drop.ext x1).ext x2).push (.lst (SqL.of j5) (Qo _)))
noncomputable def Wm:List Nat→TGs
  | []=>abr
  | i::is=>a8i (Oa i) (Wm is)
theorem Ve {K:PySem.W.Frag} {H S:Hp} {as:List Addr} {ps:List (V × T)}:∀ (is:List Nat) {vs:List V} {xs:List T} {st:Sta} {σ:L2.St} {Q:L2.St→Hp→Prop},Rel K B st σ H ps S as→u6 K S as vs xs→xs.length=is.length →
    (∀ σ',Rel K B ((is.zip xs).foldl (fun s p=>gb p.1 p.2 false s) st) σ' H ps S as→Q σ' H)→Wm is vs σ H Q
  | [],_,_,_,_,_,R,.nil,_,q=>⟨rfl,q _ R⟩
  | i::is,_,_,_,_,_,R,.cons r rs,hl,q=>⟨_,_,rfl,Ve is (R.put (i:=i) r) rs (by simpa using hl) q⟩
  | [],_,_,_,_,_,_,.cons _ _,hl,_=>by simp at hl
  | _::_,_,_,_,_,_,_,.nil,hl,_=>by simp at hl
theorem v8 {is:List Nat} {tg:Expr} (h:PG X tg (aby X.K is.length (Wm is))):PG X tg (gOf X.K B (qj is)):=fun pins s σ H x u Q I r z9=>h pins s σ H x u Q I r (by
  obtain ⟨st,ps,S,as,t,R,st',e,q⟩:=z9
  have top:=R.top
  cases t with
  | tup xs =>
    cases top with
    | @tup a vs _ g1 g2 =>
      obtain ⟨hl,e⟩:=yj e
      cases e
      exact ⟨a,vs,rfl,m9 R.sub g1,by rw [g2.length]; exact hl,Ve is R.drop g2 hl fun σ' R'=>q σ' H S as R'⟩
  | _=>exact je e)
end
end C
namespace C
open PySem PySem.Spec PyProof.Rows L2
end C
end
noncomputable section
set_option linter.all false
set_option maxRecDepth 100000
set_option maxHeartbeats 4000002
set_option autoImplicit false
namespace C
open PySem PySem.Spec PyProof.Rows L2
noncomputable section
variable {X:Cx} {B:Bas} {a b c e lo hi:Expr} {m m1 m2 ml mh:M T} {pos p p2:Pos}
theorem u6.take {K:PySem.W.Frag} {S:Hp} {as:List Addr}:∀ (n:Nat) {vs:List V} {ts:List T},u6 K S as vs ts→u6 K S as (vs.take n) (ts.take n)
  | 0,_,_,_=>.nil
  | _+1,_,_,.nil=>.nil
  | n+1,_,_,.cons h r=>.cons h (u6.take n r)
end
end C
end
noncomputable section
set_option linter.all false
set_option maxRecDepth 100000
set_option maxHeartbeats 4000002
set_option autoImplicit false
namespace C
open PySem PySem.Spec PyProof.Rows L2
noncomputable section
variable {X:Cx} {B:Bas} {a b c e o k:Expr} {m mo mk mv:M T} {pos p:Pos}
end
end C
end
noncomputable section
set_option linter.all false
set_option maxRecDepth 100000
set_option maxHeartbeats 4000002
set_option autoImplicit false
namespace C
open PySem PySem.Spec PyProof.Rows L2
noncomputable section
variable {X:Cx} {B:Bas} {pins:List (Addr × Obj)} {σ:L2.St} {H S:Hp} {s:Shared} {as:List Addr} {Q:VK}
theorem gather {R:List Value→Shared→Prop} {A:Around} {E:Value→Shared→Prop} {T:String} {r d:Addr} {n:Nat} {P:Nat→Value→Prop} {OK:Heap→Prop} (KS:PySem.W.KdlSrc X.prog X.w T r d n P OK) (nh:A.handled=none) (ok0:OK s.heap) (sz:n≤sizeLine)
    (k:∀ (h1:Heap) (tk:Nat) (got:Array Value),s.heap.objs.size<h1.objs.size→(∀ b o,s.heap.get? b=some o→h1.get? b=some o)→ItemsOf P got n→R got.toList { s with heap:=h1,toks:=tk }) :
    wpAny (model X.prog X.w) A (collect (.ref r)) R E s:=by
  have lt0:=KS.there _ ok0
  unfold collect
  refine wpAny_bind (wpAny_runValue
    (codeAny_builtin entry_proto_collect' ?_))
  rw [Around.under_plainId
    PySem.F.plain_proto_collect _]
  show wpAny _ A.in1 (newList [] >>= fun z=>again (.builtin "list.__iadd__" ⟨[z,.ref r],[]⟩)) _ _ s
  refine wpAny_bind (wpAny_newObj_type (wpAny_pure ⟨plainId_quiet PySem.F.plain_list_iadd _,codeAny_builtin entry_list_iadd' ?_⟩))
  rw [Around.under_plainId
    PySem.F.plain_list_iadd _]
  change wpAny _ A.in1 (Builtin.List.listExtendWith (.ref s.heap.objs.size) (.ref r) (.ref s.heap.objs.size)) _ _ _
  have new0:(s.heap.push { cls:=.type "list",data:=.seq ([]:List Value).toArray }).get? s.heap.objs.size=some { cls:=.type "list",data:=.seq #[] }:=Heap.get?_push_size _ rfl
  have walk:=PySem.W.kdl_extend (A:=A) (s:={ s with heap:=s.heap.push { cls:=.type "list",data:=.seq ([]:List Value).toArray } })
    (R:=fun (f:Result) (s1:Shared)=>∃ (h1:Heap) (tk:Nat) (got:Array Value) (c1:Nat),f=.ok (.ret (.ref s.heap.objs.size))∧s1 = { s with heap:=h1,toks:=tk }∧(∀ b o,s.heap.get? b=some o→h1.get? b=some o) ∧
      h1.get? s.heap.objs.size=some { cls:=.type "list",dict:=none,data:=.seq got c1,slots:=#[] }∧ItemsOf P got n)
    KS nh (KS.keep _ _ ok0 fun b _ o e=>Heap.get?_push_of_some _ e) s.heap.objs.size (Nat.ne_of_gt lt0.1) (Nat.ne_of_gt lt0.2) (.ref s.heap.objs.size) 0 new0
    (fun h1 tk got c1 old at1 its=>⟨h1,tk,got,c1,rfl,rfl,fun b o e=>old b o (Nat.ne_of_lt (Heap.lt_size e)) (Heap.get?_push_of_some _ e),at1,its⟩) sz
  have last:∀ (h1:Heap) (tk:Nat) (got:Array Value) (c1:Nat),(∀ b o,s.heap.get? b=some o→h1.get? b=some o)→h1.get? s.heap.objs.size=some { cls:=.type "list",dict:=none,data:=.seq got c1,slots:=#[] }→ItemsOf P got n →
      wpAny (model X.prog X.w) A (load s.heap.objs.size >>= fun o=>match o.data with | .seq xs _=>pure xs.toList | _=>unsupported "internal:collect") R E { s with heap:=h1,toks:=tk } :=
    fun h1 tk got c1 old at1 its=>wpAny_bind (wpAny_load at1 (wpAny_pure (k h1 tk got (Heap.lt_size at1) old its)))
  refine wpAny_mono walk (fun fin s1 x=>?_) fun e s1 x=>?_
  · cases fin with
    | done f =>
      obtain ⟨h1,tk,got,c1,ef,rfl,old,at1,its⟩:=x
      cases ef
      exact last h1 tk got c1 old at1 its
    | again c =>
      refine ⟨x.1,codeAny_mono x.2 fun f s2 y=>?_⟩
      obtain ⟨h1,tk,got,c1,rfl,rfl,old,at1,its⟩:=y
      exact last h1 tk got c1 old at1 its
  · obtain ⟨_,_,_,_,ef,_⟩:=x
    cases ef
theorem Ye {T:String} {r d:Addr} {n:Nat} {P:Nat→Value→Prop} {OK:Heap→Prop} {l:List Str} (KS:PySem.W.KdlSrc X.prog X.w T r d n P OK) (hc:X.calm=true) (I:L2.Inv X pins σ H s) (sub:Same S H) (hok:OK s.heap) (h64:n<64)
    (hi:∀ vs:List Value,vs.length=n→(∀ (j:Nat) (v:Value),vs[j]? = some v→P j v)→∃ l',StrsAre vs l'∧l'.Perm l)
    (q:∀ v H' S',Ext S H S' H'→Rep X.K S' as v (.lst ((Br l).map .str))→Q v H'):wpAny (model X.prog X.w) X.A (call (.builtin "sorted") [.ref r]) (EP X pins σ Q) X.xe s:=by
  have hn:n≤sizeLine:=Nat.le_trans (Nat.le_of_lt h64) (by rw [sizeLine_eq]; decide)
  refine Calls.call_function_entry kind_sorted plain_sorted
    entry_sorted (args_sorted1 _) ?_
  unfold Builtin.«sorted»
  refine wpAny_bind (m:=checkCount "sorted" 1 1 _) (wpAny_pure (wpAny_bind ?_))
  refine (gather (A:=X.A.in1) KS (show X.A.in1.handled=none from I.ok.hd hc) hok hn fun h' tk acc hlt hk hacc=>?_)
  have hl:acc.toList.length=n:=Array.length_toList.trans hacc.1
  obtain ⟨l',hS,hp⟩:=hi acc.toList hl fun j v e=>hacc.2 j v (by rw [← Array.getElem?_toList]; exact e)
  refine wpAny_bind (wpAny_newList ?_ (hl ▸ hn))
  have hoL:(h'.push (seqObj "list" acc.toList.toArray 0)).get? h'.objs.size=some (seqObj "list" acc.toList.toArray 0):=Heap.get?_push_size _ rfl
  refine wpAny_bind (wpAny_holding (wpAny_call_entry slot_list_sort ⟨_,hoL,rfl⟩ entry_list_sort (list_sort_treeK strKind_oneLt hoL hS.keysOf (fun v₁ v₂ rest e=>keyKind_strs (by rw [← e]; exact hS)) (by rw [hl]; exact h64) fun st' a1 a2=>⟨_,rfl,?_⟩) (args_list_sort _)))
  refine wpAny_pure ⟨_,rfl,(?_:EP X pins σ Q _ _)⟩
  obtain ⟨ss',b1,b2,b3⟩:=sorted_out_str hS a1 a2
  have es:=Ul b3 (b2.trans hp)
  subst es
  have hle:=Nat.le_of_lt hlt
  obtain ⟨e,he⟩:=sortedHeap_at (out:=(arrOf st').map (·.2)) hoL
  have hsz:(List.map V.str (Br l)).length≤sizeLine:=by
    rw [List.length_map,(Gi l).length_eq,← hp.length_eq,← hS.length,hl]
    exact hn
  have hnn:H h'.objs.size=none:=I.hok.fresh hle
  have x:=Ext.laid sub hnn (.lst ((Br l).map V.str))
  refine ⟨.ref h'.objs.size,_,I.laid (a:=h'.objs.size) (o:=.lst ((Br l).map V.str)) (t':=tk) (fun b u eb=>?_) hle ⟨hsz,_,e,O2 b1,he⟩,rfl,q _ _ _ x (.lst (SqL.of j5) (Jd _))⟩
  have hb:=Heap.lt_size (hk _ _ eb)
  rw [sortedHeap_old (Nat.ne_of_lt hb) (by rw [Heap.size_push]; exact Nat.lt_succ_of_lt hb)]
  exact Heap.get?_push_of_some _ (hk _ _ eb)
theorem O5:∀ {kvs:List (L2.Key × V)} {ts:List (L2.Key × T)} {l:List Str},kvs.map (·.1)=ts.map (·.1)→K5 (ts.map fun p=>W9 p.1)=some l→kvs.map (·.1)=l.map Sum.inr
  | [],[],l,_,h=>by simp only [List.map_nil,K5] at h; cases h; rfl
  | (k,v)::kvs,(k2,t)::ts,l,e,h=>by
    simp only [List.map_cons,List.cons.injEq] at e
    obtain ⟨e1,e2⟩:=e
    subst e1
    cases k with
    | inl i=>simp only [List.map_cons,W9,K5,reduceCtorEq] at h
    | inr x =>
      simp only [List.map_cons,W9,K5] at h
      obtain ⟨l',h1,h2⟩:=Option.map_eq_some_iff.mp h
      subst h2
      rw [List.map_cons,List.map_cons,O5 e2 h1]
theorem Dc.keys {K:PySem.W.Frag} {S:Hp} {as:List Addr}:∀ {kvs:List (L2.Key × V)} {ts:List (L2.Key × T)},Dc K S as kvs ts→kvs.map (·.1)=ts.map (·.1)
  | _,_,.nil=>rfl
  | _,_,.cons h q=>by rw [List.map_cons,List.map_cons,Dc.keys q]
theorem Hh {prog:Program} {w:World}:∀ {vs:List (L2.Key × Value)} {us:List Value} {l:List Str},vs.map (·.1)=l.map Sum.inr→us.length=vs.length→(∀ (j:Nat) (v:Value),us[j]? = some v→∃ k x,vs[j]? = some (k,x)∧(kj prog w).is k v=true)→StrsAre us l
  | [],us,l,e,hl,h=>by
    cases us with
    | cons _ _=>simp at hl
    | nil=>cases l with
      | nil=>exact .nil
      | cons _ _=>simp at e
  | (k,x)::vs,us,l,e,hl,h=>by
    cases us with
    | nil=>simp at hl
    | cons u us =>
      cases l with
      | nil=>simp at e
      | cons y l =>
        simp only [List.map_cons,List.cons.injEq] at e
        obtain ⟨e1,e2⟩:=e
        subst e1
        obtain ⟨k',x',h1,h2⟩:=h 0 u rfl
        simp only [List.getElem?_cons_zero,Option.some.injEq,Prod.mk.injEq] at h1
        obtain ⟨rfl,rfl⟩:=h1
        rw [Vh] at h2
        have hu:∃ t,u=.str y t:=by
          rcases qw h2 with ⟨i,t,e',_⟩ | ⟨z,t,e',hz⟩
          · cases e'
          · cases e'; exact ⟨t,hz⟩
        obtain ⟨t,rfl⟩:=hu
        exact .cons y t (Hh e2 (by simpa using hl) fun j v ev=>by simpa using h (j+1) v (by simpa using ev))
theorem Q0 (hc:X.calm=true):Qq X (.builtin "sorted") Mz:=by
  intro pins s σ H xs us Q I rs z8
  obtain ⟨S,as,ts,w,sub,hr,hf,q⟩:=z8
  cases hr with
  | nil=>exact je hf
  | @cons x t xs' ts' h1 h2 =>
    cases h2 with
    | cons h3 h4=>cases h1 <;> exact je hf
    | nil =>
      cases h1 with
      | @lst a vs ts g1 g2 =>
        obtain ⟨h64,hf⟩:=yj hf
        obtain ⟨l,e1,e2⟩:=Option.map_eq_some_iff.mp hf
        subst e2
        exact Mv pins s σ H _ us Q I rs ⟨S,as,ts,l,sub,.cons (.lst g1 g2) .nil,h64,e1,q⟩
      | @dic a kvs ts g1 g2 =>
        obtain ⟨h64,hf⟩:=yj hf
        obtain ⟨l,e1,e2⟩:=Option.map_eq_some_iff.mp hf
        subst e2
        obtain ⟨u,rfl,ru⟩:=rs.one
        cases ru
        obtain ⟨z,hd,vs,rel,dd⟩:=Ij I.hok (vd sub g1)
        obtain ⟨ep,hat⟩:=dd.dictAt
        have hlen:vs.length=ts.length:=by rw [← rel.length]; exact g2.length
        have hk:=O5 g2.keys e1
        rw [KV.keys rel] at hk
        exact Ye (PySem.W.kdl_dict (knd:=kj X.prog X.w) (kvs:=vs) (ep:=ep) hd) hc I sub hat (by rw [hlen]; exact h64) (fun us hl hp=>⟨l,Hh hk hl hp,.refl _⟩) q
      | _=>exact je hf
end
end C
end
noncomputable section
set_option linter.all false
set_option maxRecDepth 100000
set_option maxHeartbeats 4000002
set_option autoImplicit false
namespace C
open PySem PySem.Spec PyProof.Rows L2
noncomputable section
variable {prog:Program} {w:World} {A:Around} {E:Value→Shared→Prop} {s:Shared}
theorem La:typeLookup (.type "list") "keys" = pure none:=am_miss_of_fast (by decide +kernel)
theorem Xr {l:Addr} {xs:Array Value} {k:Nat} {sl:Array (Option Value)} {Q:Option Value→Shared→Prop} (hx:s.heap.get? l=some { cls:=.type "list",dict:=none,data:=.seq xs k,slots:=sl }) (nh:A.handled=none)
    (h:∀ h' tk e,Heap.NewExcOf s.heap h' e "AttributeError" → Q none { s with heap:=h',toks:=tk }):wpAny (model prog w) A (getAttr? (.ref l) "keys") Q E s:=by
  obtain ⟨h0,g0,d0,tk,os⟩:=s
  have hT:∀ tk',(⟨h0,g0,d0,tk',os⟩:Shared).TypeIs (.ref l) "list" := fun _=>⟨_,hx,rfl⟩
  have g1:=sub_AttributeError
  have g3:=F.slot_list_getattribute.lookup
  have g4:=F.slot_list_getattribute.bind (.ref l)
  have g5:=am_list_getattr_none
  unfold getAttr?
  unfold getAttrBy?
  unfold getAttrBy
  repeat (any_goals (first | assumption | exact hT _ | ((with_reducible show wpAny _ _ (call (Value.builtin "list.__getattribute__") _ _) _ _ _); refine call_meets F.slot_list_getattribute (hT _) am_entry_list_getattribute (F.args_list_getattribute_2 _ _) (meets_getattribute_miss_list l xs k sl "keys" _ La (by decide +kernel)) ⟨hx,nh,fun h' tk' e y=>?_⟩) | wp_step))
  obtain ⟨t',u',he⟩:=y.there
  change wpAny _ _ (getattributeRaised _ _ _ _ _ _ _) _ _ _
  unfold getattributeRaised
  repeat (any_goals first | assumption | wp_step)
  exact h _ _ _ y.of
theorem Jv:typeLookup (.type "tuple") "keys" = pure none:=am_miss_of_fast (by decide +kernel)
theorem W0 {l:Addr} {xs:Array Value} {k:Nat} {sl:Array (Option Value)} {Q:Option Value→Shared→Prop} (hx:s.heap.get? l=some { cls:=.type "tuple",dict:=none,data:=.seq xs k,slots:=sl }) (nh:A.handled=none)
    (h:∀ h' tk e,Heap.NewExcOf s.heap h' e "AttributeError" → Q none { s with heap:=h',toks:=tk }):wpAny (model prog w) A (getAttr? (.ref l) "keys") Q E s:=by
  obtain ⟨h0,g0,d0,tk,os⟩:=s
  have hT:∀ tk',(⟨h0,g0,d0,tk',os⟩:Shared).TypeIs (.ref l) "tuple" := fun _=>⟨_,hx,rfl⟩
  have g1:=sub_AttributeError
  have g3:=F.slot_tuple_getattribute.lookup
  have g4:=F.slot_tuple_getattribute.bind (.ref l)
  have g5:=am_tuple_getattr_none
  unfold getAttr?
  unfold getAttrBy?
  unfold getAttrBy
  repeat (any_goals (first | assumption | exact hT _ | ((with_reducible show wpAny _ _ (call (Value.builtin "tuple.__getattribute__") _ _) _ _ _); refine call_meets F.slot_tuple_getattribute (hT _) am_entry_tuple_getattribute (F.args_tuple_getattribute_2 _ _) (meets_getattribute_miss_tuple l xs k sl "keys" _ Jv (by decide +kernel)) ⟨hx,nh,fun h' tk' e y=>?_⟩) | wp_step))
  obtain ⟨t',u',he⟩:=y.there
  change wpAny _ _ (getattributeRaised _ _ _ _ _ _ _) _ _ _
  unfold getattributeRaised
  repeat (any_goals first | assumption | wp_step)
  exact h _ _ _ y.of
end
end C
end
noncomputable section
set_option linter.all false
set_option maxRecDepth 100000
set_option maxHeartbeats 4000002
set_option autoImplicit false
namespace C
open PySem PySem.Spec PyProof.Rows L2
theorem Ti {prog:Program} {w:World} {A:Around} {E:Value→Shared→Prop} {s:Shared} {t:Addr} {o:Obj} {xs:Array Value} {m:Nat} {Q:Option (Array Value)→Shared→Prop} (h:s.heap.get? t=some o) (hd:o.data=.seq xs m) (q:Q (some xs) s):wpAny (model prog w) A (seqItems? (.ref t)) Q E s:=by
  show wpAny _ A (load t >>= fun o=>match o.data with | .seq xs _=>pure (some xs) | _=>pure none) _ _ s
  refine wpAny_bind (wpAny_load h ?_)
  rw [hd]
  exact wpAny_pure q
theorem Bj:entryFor table "dict.update.loop" = some Builtin.«dict.update.loop»:=entryFor_of_tree (by kernel_rfl)
theorem sy:plainId "dict.update.loop" = true:=by decide +kernel
noncomputable section
variable {prog:Program} {w:World} {A:Around} {R:Result→Shared→Prop} {I:Addr} {fp wr:List Addr} {G:Array GenState→Array GenState→Prop} {n:Nat} {P:Nat→Value→Prop} {St:Nat→Shared→Prop} {κ:Type} [DecidableEq κ] {knd:PySem.KeyKind prog w κ}
theorem V4 (W:WalksS prog w A.in1 I fp wr G n P St) (D:Addr) (hDf:D∉fp) (result:Value) (h0:Heap) (kvs:Nat→List (κ × Value)) (key:Nat→κ) (val:Nat→Value) (hs:∀ i,kvs (i+1)=stored (kvs i) (key i) (val i)) (hz:∀ i,i≤n→(kvs i).length≤sizeLine)
    (hit:∀ i v,P i v→∃ t kx o m,v=.ref t∧t≠D∧t∉wr∧h0.get? t=some o∧o.cls=.type "tuple" ∧ o.data=.seq #[kx,val i] m∧knd.is (key i) kx=true) :
    ∀ (j i:Nat) (c:Nat) (s:Shared),n - i=j→i≤n→St i s→(∀ b o,b≠D→b∉wr→h0.get? b=some o→s.heap.get? b=some o)→s.heap.DictOf knd D (kvs i) →
      (∀ s',Moved (D::wr) G s s'→s'.heap.DictOf knd D (kvs n)→R (.ok (.ret result)) s')→codeAny (model prog w) A (.builtin "dict.update.loop" ⟨[.ref D,.ref I,rawInt (c:Int),result],[]⟩) R s:=by
  have hDw:D∉wr:=fun z=>hDf (W.sub _ z)
  have more:∀ b∈wr,b∈D::wr:=fun b hb=>List.mem_cons_of_mem _ hb
  intro j
  induction j with
  | zero =>
    intro i c s hk hi hst keep hD hR
    have e:i=n:=by (clear hR hD keep hst more hDw hit hz hs hDf W; omega)
    subst e
    refine codeAny_builtin Bj ?_
    rw [Around.under_plainId sy _]
    change wpAny _ A.in1 (pyNext (.ref I) >>= _) _ _ s
    refine wpAny_bind (W.done s _ _ hst (fun s' hm=>?_))
    show wpAny _ A.in1 (Builtin.Dict.addKeywords D [] >>= fun _=>ret result) _ _ s'
    refine wpAny_bind (wpAny_pure (wpAny_pure (hR s' (hm.mono more) ?_)))
    obtain ⟨o,es,ep,ho,rest⟩:=hD
    exact ⟨o,es,ep,hm.heap D _ hDw ho,rest⟩
  | succ j ih =>
    intro i c s hk hi hst keep hD hR
    have hlt:i<n:=by (clear hR hD keep hst hi ih more hDw hit hz hs hDf W; omega)
    refine codeAny_builtin Bj ?_
    rw [Around.under_plainId sy _]
    change wpAny _ A.in1 (pyNext (.ref I) >>= _) _ _ s
    refine wpAny_bind (W.item i s _ _ hlt hst (fun v s' hP hst' hm=>?_))
    obtain ⟨t,kx,o,m,rfl,htD,htw,ht,hc,hd,hkey⟩:=hit i v hP
    have ht':s'.heap.get? t=some o:=hm.heap t o htw (keep t o htD htw ht)
    have hD':s'.heap.DictOf knd D (kvs i):=by
      obtain ⟨o,es,ep,ho,rest⟩:=hD
      exact ⟨o,es,ep,hm.heap D _ hDw ho,rest⟩
    have hT:s'.TypeIs (.ref t) "tuple" := ⟨o,ht',hc⟩
    dsimp only
    refine wpAny_bind (wpAny_holding (wpAny_bind (wpAny_tryCatch ?_)))
    unfold Builtin.Dict.pairItems
    refine wpAny_bind (wpAny_typeOf (T := "tuple") hT ?_)
    rw [if_pos (by decide)]
    refine wpAny_bind (Ti ht' hd ?_)
    refine wpAny_pure ?_
    show wpAny _ A.in1 (holding [kx,val i] (dictSet D kx (val i))) _ _ s'
    refine wpAny_holding (wpAny_dictSet_pairs hkey hD' (fun h2 hD2 same=>?_) (hz i hi))
    rw [← hs i] at hD2
    refine wpAny_pure ⟨plainId_quiet sy _,?_⟩
    have ec:((c:Int)+1)=((c+1:Nat):Int):=by (clear same hD2 hT hD' ht' hkey hd hc ht htw htD hP hm hst' hlt hR hD keep hst hi hk ih more hDw hit hz hs hDf W; omega)
    rw [ec]
    refine ih (i+1) (c+1) _ (by (clear ec same hD2 hT hD' ht' hkey hd hc ht htw htD hP hm hst' hlt hR hD keep hst hi ih more hDw hit hz hs hDf W; omega)) hlt (W.frame _ s' _ _ hst' (Nat.le_succ _) fun b hb o e=>?_) (fun b o hb hw e=>?_) hD2 fun s2 hm2 hD3=>?_
    · rw [same.2 b (fun h:b=D=>hDf (by rw [← h]; exact hb))]; exact e
    · show h2.get? b=some o
      rw [same.2 b hb]; exact hm.heap b o hw (keep b o hb hw e)
    · refine hR s2 (Moved.trans W.gtrans ((hm.mono more).then_heap (Nat.le_succ _) fun b o hb e=>?_) hm2) hD3
      rw [same.2 b (fun h:b=D=>hb (by rw [h]; exact List.mem_cons_self))]; exact e
end
end C
end
noncomputable section
set_option linter.all false
set_option maxRecDepth 100000
set_option maxHeartbeats 4000002
set_option autoImplicit false
namespace C
open PySem PySem.Spec PyProof.Rows L2
noncomputable section
variable {prog:Program} {w:World} {A:Around} {E:Value→Shared→Prop} {s:Shared} {κ:Type} [DecidableEq κ] {knd:PySem.KeyKind prog w κ}
noncomputable def told (key:Nat→κ) (val:Nat→Value):Nat→List (κ × Value)
  | 0=>[]
  | i+1=>stored (told key val i) (key i) (val i)
theorem Vz (l:List (κ × Value)) (k:κ) (v:Value):(stored l k v).length≤l.length+1:=by
  unfold stored
  split
  · rw [List.length_map]; omega
  · rw [List.length_append,List.length_singleton]; exact Nat.le_refl _
theorem Fw (key:Nat→κ) (val:Nat→Value):∀ i,(told key val i).length≤i
  | 0=>Nat.le_refl _
  | i+1=>Nat.le_trans (Vz _ _ _) (Nat.succ_le_succ (Fw key val i))
theorem Qk {l:Addr} {its:Array Value} {m:Nat} {sl:Array (Option Value)} {key:Nat→κ} {val:Nat→Value} {Q:Value→Shared→Prop} (nh:A.handled=none) (hl:s.heap.get? l=some { cls:=.type "list",dict:=none,data:=.seq its m,slots:=sl }) (hz:its.size≤sizeLine)
    (hit:∀ i v,its[i]? = some v→∃ t kx o n,v=.ref t∧s.heap.get? t=some o∧o.cls=.type "tuple" ∧ o.data=.seq #[kx,val i] n∧knd.is (key i) kx=true)
    (q:∀ h' tk,h'.DictOf knd s.heap.objs.size (told key val its.size)→(∀ b o,s.heap.get? b=some o→h'.get? b=some o)→Q (.ref s.heap.objs.size) { s with heap:=h',toks:=tk }) :
    wpAny (model prog w) A (call (.type "dict") [.ref l]) Q E s:=by
  refine callType_codes (Q₁:=fun ob z=>ob=.ref s.heap.objs.size∧z = { s with heap:=s.heap.push { cls:=.type "dict",data:=.dict #[] } }) F.kt_called_dict (F.kt_typeCall_dict_1 _) F.entry_dict_init (kt_code_dict_new _ ⟨rfl,rfl⟩) ?_
  rintro obj s₁ ⟨rfl,rfl⟩
  have new0:(s.heap.push { cls:=.type "dict",data:=.dict #[] }).DictOf knd s.heap.objs.size []:=Heap.DictOf.new s.heap
  have hl1:(s.heap.push { cls:=.type "dict",data:=.dict #[] }).get? l=some { cls:=.type "list",dict:=none,data:=.seq its m,slots:=sl }:=Heap.get?_push_of_some _ hl
  have hll:l<s.heap.objs.size:=Heap.lt_size hl
  refine ⟨new0.typeIs,F.args_dict_init_2 _ _,?_⟩
  unfold Builtin.«dict.__init__» Builtin.Dict.selfAndRest
  refine wpAny_bind (wpAny_bind (wpAny_notOrdered_dict new0.typeIs ?_))
  show wpAny _ _ (pure (s.heap.objs.size,[Value.ref l])) _ _ _
  refine wpAny_pure ?_
  show wpAny _ _ (Builtin.Dict.updateFrom "dict.__init__" s.heap.objs.size (.ref l) [] .none) _ _ _
  unfold Builtin.Dict.updateFrom; refine wpAny_bind (wpAny_typeOf (T := "list") ⟨_,hl1,rfl⟩ ?_)
  rw [if_pos (by decide)]
  refine wpAny_bind (Xr hl1 nh fun h2 tk e ne=>?_)
  rw [if_pos (show (none:Option Value).isNone=true from rfl)]
  have old2:∀ b o,(s.heap.push { cls:=.type "dict",data:=.dict #[] }).get? b=some o→h2.get? b=some o:=fun b o hb=>ne.keeps b o hb
  have hl2:h2.IsList l its:=⟨_,old2 _ _ hl1,rfl,m,rfl⟩
  have hD2:s.heap.objs.size<h2.objs.size:=by
    obtain ⟨o,es,ep,ho,rest⟩:=new0
    exact Heap.lt_size (old2 _ _ ho)
  refine wpAny_bind (wpAny_rule (wpAny_bind (wpAny_pyIter_list hl2 ?_)))
  refine wpAny_pure ⟨plainId_quiet sy _,?_⟩
  have nl:l≠h2.objs.size:=Nat.ne_of_lt (Nat.lt_trans hll hD2)
  have nD:s.heap.objs.size∉[h2.objs.size,l]:=by
    simp only [List.mem_cons,List.mem_singleton,List.not_mem_nil,or_false,not_or]
    exact ⟨Nat.ne_of_lt hD2,Nat.ne_of_gt hll⟩
  have hD3:(h2.push { cls:=.type "list_iterator",data:=.fields #[.ref l,.int 0 0] }).DictOf knd s.heap.objs.size (told key val 0):=by
    obtain ⟨o,es,ep,ho,rest⟩:=new0
    exact ⟨o,es,ep,Heap.get?_push_of_some _ (old2 _ _ ho),rest⟩
  refine V4 (knd:=knd) ((Walks.list (A:=A.in1.in1) (show A.in1.in1.handled=none from nh) h2.objs.size l nl its).toS) s.heap.objs.size nD .none s.heap (told key val) key val (fun _=>rfl) (fun i hi=>Nat.le_trans (Fw key val i) (Nat.le_trans hi hz))
    (fun i v hv=>?_) (its.size - 0) 0 0 _ rfl (Nat.zero_le _) ⟨⟨_,Heap.get?_push_size _ rfl,rfl,rfl⟩,hl2.push _⟩ (fun b o _ _ hb=>Heap.get?_push_of_some _ (old2 _ _ (Heap.get?_push_of_some _ hb))) hD3 fun s3 hm hD4=>?_
  · obtain ⟨t,kx,o,n,rfl,ht,hc,hd,hk⟩:=hit i v hv
    have tl:=Heap.lt_size ht
    refine ⟨t,kx,o,n,rfl,Nat.ne_of_lt tl,?_,ht,hc,hd,hk⟩
    simp only [List.mem_singleton]
    exact Nat.ne_of_lt (Nat.lt_trans tl hD2)
  · obtain ⟨h3,g3,d3,t3,o3⟩:=s3
    have eg:g3=s.gens:=hm.gens
    have ed:d3=s.drawn:=hm.drawn
    have eo:o3=s.os:=hm.os
    subst eg; subst ed; subst eo
    refine ⟨rfl,q h3 t3 hD4 fun b o hb=>?_⟩
    have bl:=Heap.lt_size hb
    refine hm.heap b o ?_ (Heap.get?_push_of_some _ (old2 _ _ (Heap.get?_push_of_some _ hb)))
    simp only [List.mem_cons,List.mem_singleton,List.not_mem_nil,or_false,not_or]
    exact ⟨Nat.ne_of_lt bl,Nat.ne_of_lt (Nat.lt_trans bl hD2)⟩
theorem N7 {l:Addr} {its:Array Value} {m:Nat} {sl:Array (Option Value)} {key:Nat→κ} {val:Nat→Value} {Q:Value→Shared→Prop} (nh:A.handled=none) (hl:s.heap.get? l=some { cls:=.type "tuple",dict:=none,data:=.seq its m,slots:=sl }) (hz:its.size≤sizeLine)
    (hit:∀ i v,its[i]? = some v→∃ t kx o n,v=.ref t∧s.heap.get? t=some o∧o.cls=.type "tuple" ∧ o.data=.seq #[kx,val i] n∧knd.is (key i) kx=true)
    (q:∀ h' tk,h'.DictOf knd s.heap.objs.size (told key val its.size)→(∀ b o,s.heap.get? b=some o→h'.get? b=some o)→Q (.ref s.heap.objs.size) { s with heap:=h',toks:=tk }) :
    wpAny (model prog w) A (call (.type "dict") [.ref l]) Q E s:=by
  refine callType_codes (Q₁:=fun ob z=>ob=.ref s.heap.objs.size∧z = { s with heap:=s.heap.push { cls:=.type "dict",data:=.dict #[] } }) F.kt_called_dict (F.kt_typeCall_dict_1 _) F.entry_dict_init (kt_code_dict_new _ ⟨rfl,rfl⟩) ?_
  rintro obj s₁ ⟨rfl,rfl⟩
  have new0:(s.heap.push { cls:=.type "dict",data:=.dict #[] }).DictOf knd s.heap.objs.size []:=Heap.DictOf.new s.heap
  have hl1:(s.heap.push { cls:=.type "dict",data:=.dict #[] }).get? l=some { cls:=.type "tuple",dict:=none,data:=.seq its m,slots:=sl }:=Heap.get?_push_of_some _ hl
  have hll:l<s.heap.objs.size:=Heap.lt_size hl
  refine ⟨new0.typeIs,F.args_dict_init_2 _ _,?_⟩
  unfold Builtin.«dict.__init__» Builtin.Dict.selfAndRest
  refine wpAny_bind (wpAny_bind (wpAny_notOrdered_dict new0.typeIs ?_))
  show wpAny _ _ (pure (s.heap.objs.size,[Value.ref l])) _ _ _
  refine wpAny_pure ?_
  show wpAny _ _ (Builtin.Dict.updateFrom "dict.__init__" s.heap.objs.size (.ref l) [] .none) _ _ _
  unfold Builtin.Dict.updateFrom; refine wpAny_bind (wpAny_typeOf (T := "tuple") ⟨_,hl1,rfl⟩ ?_)
  rw [if_pos (by decide)]
  refine wpAny_bind (W0 hl1 nh fun h2 tk e ne=>?_)
  rw [if_pos (show (none:Option Value).isNone=true from rfl)]
  have old2:∀ b o,(s.heap.push { cls:=.type "dict",data:=.dict #[] }).get? b=some o→h2.get? b=some o:=fun b o hb=>ne.keeps b o hb
  have hl2:h2.IsTuple l its:=⟨_,old2 _ _ hl1,rfl,m,rfl⟩
  have hD2:s.heap.objs.size<h2.objs.size:=by
    obtain ⟨o,es,ep,ho,rest⟩:=new0
    exact Heap.lt_size (old2 _ _ ho)
  refine wpAny_bind (wpAny_rule (wpAny_bind (wpAny_pyIter_tuple hl2 ?_)))
  refine wpAny_pure ⟨plainId_quiet sy _,?_⟩
  have nl:l≠h2.objs.size:=Nat.ne_of_lt (Nat.lt_trans hll hD2)
  have nD:s.heap.objs.size∉[h2.objs.size,l]:=by
    simp only [List.mem_cons,List.mem_singleton,List.not_mem_nil,or_false,not_or]
    exact ⟨Nat.ne_of_lt hD2,Nat.ne_of_gt hll⟩
  have hD3:(h2.push { cls:=.type "tuple_iterator",data:=.fields #[.ref l,.int 0 0] }).DictOf knd s.heap.objs.size (told key val 0):=by
    obtain ⟨o,es,ep,ho,rest⟩:=new0
    exact ⟨o,es,ep,Heap.get?_push_of_some _ (old2 _ _ ho),rest⟩
  refine V4 (knd:=knd) ((Walks.tuple (A:=A.in1.in1) (show A.in1.in1.handled=none from nh) h2.objs.size l nl its).toS) s.heap.objs.size nD .none s.heap (told key val) key val (fun _=>rfl) (fun i hi=>Nat.le_trans (Fw key val i) (Nat.le_trans hi hz))
    (fun i v hv=>?_) (its.size - 0) 0 0 _ rfl (Nat.zero_le _) ⟨⟨_,Heap.get?_push_size _ rfl,rfl,rfl⟩,hl2.push _⟩ (fun b o _ _ hb=>Heap.get?_push_of_some _ (old2 _ _ (Heap.get?_push_of_some _ hb))) hD3 fun s3 hm hD4=>?_
  · obtain ⟨t,kx,o,n,rfl,ht,hc,hd,hk⟩:=hit i v hv
    have tl:=Heap.lt_size ht
    refine ⟨t,kx,o,n,rfl,Nat.ne_of_lt tl,?_,ht,hc,hd,hk⟩
    simp only [List.mem_singleton]
    exact Nat.ne_of_lt (Nat.lt_trans tl hD2)
  · obtain ⟨h3,g3,d3,t3,o3⟩:=s3
    have eg:g3=s.gens:=hm.gens
    have ed:d3=s.drawn:=hm.drawn
    have eo:o3=s.os:=hm.os
    subst eg; subst ed; subst eo
    refine ⟨rfl,q h3 t3 hD4 fun b o hb=>?_⟩
    have bl:=Heap.lt_size hb
    refine hm.heap b o ?_ (Heap.get?_push_of_some _ (old2 _ _ (Heap.get?_push_of_some _ hb)))
    simp only [List.mem_cons,List.mem_singleton,List.not_mem_nil,or_false,not_or]
    exact ⟨Nat.ne_of_lt bl,Nat.ne_of_lt (Nat.lt_trans bl hD2)⟩
end
end C
end
noncomputable section
set_option linter.all false
set_option maxRecDepth 100000
set_option maxHeartbeats 4000002
set_option autoImplicit false
namespace C
open PySem PySem.Spec PyProof.Rows L2
theorem Rn {x:T} {xs:List T} {l:List (Key × T)} (h:Bs (x::xs)=some l):∃ k v q l',x=.tup [k,v]∧keyOf k=some q∧Bs xs=some l'∧l=(q,v)::l':=by
  match x,h with
  | .tup [k,v],h =>
    change (match keyOf k,Bs xs with | some q,some l=>some ((q,v)::l) | _,_=>none)=some l at h
    cases e1:keyOf k with
    | none=>rw [e1] at h; exact je h
    | some q =>
      cases e2:Bs xs with
      | none=>rw [e1,e2] at h; exact je h
      | some l'=>rw [e1,e2] at h; cases h; exact ⟨k,v,q,l',rfl,e1,rfl,rfl⟩
noncomputable section
variable {X:Cx} {pins:List (Addr × Obj)} {σ:L2.St} {H S:Hp} {s:Shared} {as:List Addr}
inductive Dt (h:Heap) (prog:Program) (w:World):List Value→List L2.Key→List Value→Prop where
  | nil:Dt h prog w [] [] []
  | cons {t:Addr} {kx wv:Value} {o:Obj} {n:Nat} {q:L2.Key} {us:List Value} {qs:List L2.Key} {ws:List Value}:h.get? t=some o→o.cls=.type "tuple" → o.data=.seq #[kx,wv] n→(kj prog w).is q kx=true →
      Dt h prog w us qs ws→Dt h prog w (.ref t::us) (q::qs) (wv::ws)
theorem Dt.get {h:Heap} {prog:Program} {w:World}:∀ {us:List Value} {qs:List L2.Key} {ws:List Value},Dt h prog w us qs ws→∀ (i:Nat) (v:Value),us[i]? = some v→∃ t kx o n,v=.ref t∧h.get? t=some o∧o.cls=.type "tuple" ∧ o.data=.seq #[kx,ws.getD i .none] n∧(kj prog w).is (qs.getD i (.inl 0)) kx=true
  := by
  intro us qs ws h
  induction h with
  | nil=>intro i v e; simp at e -- here
  | cons h1 h2 h3 h4 r ih =>
    intro i v e
    cases i with
    | zero=>simp at e; subst e; exact ⟨_,_,_,_,rfl,h1,h2,h3,h4⟩
    | succ i=>simpa using ih i v (by simpa using e) -- here
theorem Dt.len {h:Heap} {prog:Program} {w:World}:∀ {us:List Value} {qs:List L2.Key} {ws:List Value},Dt h prog w us qs ws→us.length=qs.length∧us.length=ws.length:=by
  intro us qs ws h
  induction h with
  | nil=>exact ⟨rfl,rfl⟩
  | cons _ _ _ _ _ ih=>exact ⟨congrArg (· + 1) ih.1,congrArg (· + 1) ih.2⟩
theorem pairs_at (I:L2.Inv X pins σ H s) (sub:Same S H):∀ {vs:List V} {xs:List T} {us:List Value} {l:List (L2.Key × T)},u6 X.K S as vs xs→Vals vs us→Bs xs=some l →
    ∃ ys ws,Dt s.heap X.prog X.w us (l.map (·.1)) ws∧Vals ys ws∧u6 X.K S as ys (l.map (·.2))
  | _,[],_,_,h0,r,e=>by cases h0; cases e; cases r; exact ⟨[],[],.nil,.nil,.nil⟩
  | _,_::_,_,_,h0,r,e=>by
    cases h0 with | cons h q=>?_
    obtain ⟨k,v,qk,l',rfl,e1,e2,rfl⟩:=Rn e
    cases r with
    | cons r1 r2 =>
      obtain ⟨ys,ws,p1,p2,p3⟩:=pairs_at I sub q r2 e2
      cases h with
      | tup g1 g2 =>
        cases g2 with
        | cons a1 g2 =>
          cases g2 with
          | cons a2 g2 =>
            cases g2
            cases r1
            obtain ⟨its,rv,⟨o,o1,o2,n,o3⟩,_⟩:=I.tuple (m9 sub g1)
            cases rv with
            | cons b1 rv =>
              cases rv with
              | cons b2 rv =>
                cases rv
                have ek:=Od a1 e1
                subst ek
                exact ⟨_::ys,_::ws,.cons o1 o2 o3 (Nq b1) p1,.cons b2 p2,.cons a2 p3⟩
theorem Nh (l:List (L2.Key × T)) {ys:List V} {ws:List Value} (hv:Vals ys ws) (hr:u6 X.K S as ys (l.map (·.2))):∀ i,i≤l.length →
    ∃ kv,KV kv (told (fun i=>(l.map (·.1)).getD i (.inl 0)) (fun i=>ws.getD i .none) i)∧Dc X.K S as kv ((l.take i).foldl (fun d p=>Cz p.1 p.2 d) [])
  | 0,_=>⟨[],.nil,.nil⟩
  | i+1,hi=>by
    obtain ⟨kv,k1,k2⟩:=Nh l hv hr i (by (clear hr hv; omega))
    have hlt:i<l.length:=Nat.lt_of_succ_le hi
    have e1:(l.map (·.2))[i]? = some l[i].2:=by rw [List.getElem?_map,List.getElem?_eq_getElem hlt]; rfl
    obtain ⟨y,h1,h2⟩:=hr.get e1
    obtain ⟨u,h3,h4⟩:=hv.get h1
    have e2:(l.map (·.1)).getD i (.inl 0)=l[i].1:=by rw [List.getD_eq_getElem?_getD,List.getElem?_map,List.getElem?_eq_getElem hlt]; rfl
    have e3:ws.getD i .none=u:=by rw [List.getD_eq_getElem?_getD,h3]; rfl
    refine ⟨putK kv l[i].1 y,?_,?_⟩
    · have:=k1.put l[i].1 h4
      show KV (putK kv l[i].1 y) (stored (told (fun i=>(l.map (·.1)).getD i (.inl 0)) (fun i=>ws.getD i .none) i) ((l.map (·.1)).getD i (.inl 0)) (ws.getD i .none))
      rw [e2,e3]
      exact this
    · rw [List.take_succ_eq_append_getElem hlt,List.foldl_append]
      exact k2.put h2
theorem Hz {Q:VK} {a:Addr} {vs:List V} {xs:List T} {l:List (L2.Key × T)} (hc:X.calm=true) (I:L2.Inv X pins σ H s) (sub:Same S H) (g1:SqL X.K S a vs) (g2:u6 X.K S as vs xs) (e:Bs xs=some l) (hz:xs.length≤sizeLine)
    (q:∀ p kv,H p=none→kv.length≤sizeLine→Dc X.K S as kv (l.foldl (fun d p=>Cz p.1 p.2 d) [])→Q (.ref p) (upd H p (.dK kv))):wpAny (model X.prog X.w) X.A (call (.type "dict") [.ref a]) (EP X pins σ Q) X.xe s:=by
  obtain ⟨its,r,p,_⟩:=I.list (jx sub g1)
  obtain ⟨⟨cls,dd,data,sl⟩,n,ho,hcl,hd0,hd⟩:=id p
  simp only at hcl hd0 hd
  subst hcl hd0 hd
  obtain ⟨ys,ws,p1,p2,p3⟩:=pairs_at I sub g2 r e
  have hlen:its.length=l.length:=by rw [p1.len.1,List.length_map]
  have hlx:vs.length=its.length:=r.length
  obtain ⟨kv,k1,k2⟩:=Nh l p2 p3 l.length (Nat.le_refl _)
  rw [List.take_length] at k2
  refine Qk (knd:=kj X.prog X.w) (key:=fun i=>(l.map (·.1)).getD i (.inl 0)) (val:=fun i=>ws.getD i .none) (I.ok.hd hc) ho (by rw [List.size_toArray,← hlx,g2.length]; exact hz)
    (fun i v hv=>p1.get i v (by rw [List.getElem?_toArray] at hv; exact hv)) fun h' tk hD old=>?_
  rw [show its.toArray.size=l.length by rw [List.size_toArray,hlen]] at hD
  have kl:kv.length≤sizeLine:=by
    rw [k1.length]
    exact Nat.le_trans (Fw _ _ _) (by rw [← hlen,← hlx,g2.length]; exact hz)
  have hp:H s.heap.objs.size=none:=I.hok.fresh (Nat.le_refl _)
  exact ⟨.ref s.heap.objs.size,_,I.laid (a:=s.heap.objs.size) (o:=.dK kv) (h':=h') (t':=tk) old (Nat.le_refl _) (Oc kl (beq_eq_false_iff_ne.mpr (Ne.symm (Nat.ne_of_lt I.big))) k1 hD),rfl,q _ kv hp kl k2⟩
theorem Gf {Q:VK} {a:Addr} {vs:List V} {xs:List T} {l:List (L2.Key × T)} (hc:X.calm=true) (I:L2.Inv X pins σ H s) (sub:Same S H) (g1:SqT X.K S a vs) (g2:u6 X.K S as vs xs) (e:Bs xs=some l) (hz:xs.length≤sizeLine)
    (q:∀ p kv,H p=none→kv.length≤sizeLine→Dc X.K S as kv (l.foldl (fun d p=>Cz p.1 p.2 d) [])→Q (.ref p) (upd H p (.dK kv))):wpAny (model X.prog X.w) X.A (call (.type "dict") [.ref a]) (EP X pins σ Q) X.xe s:=by
  obtain ⟨its,r,p,_⟩:=I.a8u (m9 sub g1)
  obtain ⟨⟨cls,dd,data,sl⟩,ho,hcl,hd0,n,hd⟩:=id p
  simp only at hcl hd0 hd
  subst hcl hd0 hd
  obtain ⟨ys,ws,p1,p2,p3⟩:=pairs_at I sub g2 r e
  have hlen:its.length=l.length:=by rw [p1.len.1,List.length_map]
  have hlx:vs.length=its.length:=r.length
  obtain ⟨kv,k1,k2⟩:=Nh l p2 p3 l.length (Nat.le_refl _)
  rw [List.take_length] at k2
  refine N7 (knd:=kj X.prog X.w) (key:=fun i=>(l.map (·.1)).getD i (.inl 0)) (val:=fun i=>ws.getD i .none) (I.ok.hd hc) ho (by rw [List.size_toArray,← hlx,g2.length]; exact hz)
    (fun i v hv=>p1.get i v (by rw [List.getElem?_toArray] at hv; exact hv)) fun h' tk hD old=>?_
  rw [show its.toArray.size=l.length by rw [List.size_toArray,hlen]] at hD
  have kl:kv.length≤sizeLine:=by
    rw [k1.length]
    exact Nat.le_trans (Fw _ _ _) (by rw [← hlen,← hlx,g2.length]; exact hz)
  have hp:H s.heap.objs.size=none:=I.hok.fresh (Nat.le_refl _)
  exact ⟨.ref s.heap.objs.size,_,I.laid (a:=s.heap.objs.size) (o:=.dK kv) (h':=h') (t':=tk) old (Nat.le_refl _) (Oc kl (beq_eq_false_iff_ne.mpr (Ne.symm (Nat.ne_of_lt I.big))) k1 hD),rfl,q _ kv hp kl k2⟩
end
noncomputable section
variable {X:Cx} {B:Bas} {a:Expr} {m:M T} {pos p:Pos}
theorem W2 (hc:X.calm=true):Qq X (.type "dict") Jj:=by
  intro pins s σ H xs us Q I rs z8
  obtain ⟨S,as,ts,w,sub,hr,hf,q⟩:=z8
  cases hr with
  | nil=>exact je hf
  | @cons x t xs' ts' h1 h2 =>
    cases h2 with
    | cons h3 h4=>cases h1 <;> exact je hf
    | nil =>
      obtain ⟨u,rfl,ru⟩:=rs.one
      cases h1 with
      | @lst a vs ts g1 g2 =>
        cases ru
        obtain ⟨hl,hf⟩:=yj hf
        obtain ⟨l,e1,e2⟩:=Option.map_eq_some_iff.mp hf
        subst e2
        refine Hz hc I sub g1 g2 e1 (Nat.le_trans (Nat.le_of_lt hl) ou) fun p kv hp _ k2=>?_
        have x:=Ext.laid sub hp (.dK kv)
        exact q _ _ _ x (.dic (.inl j5) (k2.mono x.s nol))
      | @tup a vs ts g1 g2 =>
        cases ru
        obtain ⟨hl,hf⟩:=yj hf
        obtain ⟨l,e1,e2⟩:=Option.map_eq_some_iff.mp hf
        subst e2
        refine Gf hc I sub g1 g2 e1 (Nat.le_trans (Nat.le_of_lt hl) ou) fun p kv hp _ k2=>?_
        have x:=Ext.laid sub hp (.dK kv)
        exact q _ _ _ x (.dic (.inl j5) (k2.mono x.s nol))
      | @dic a kvs ts g1 g2 =>
        cases ru
        cases hf
        refine Vc I (vd sub g1) fun p s' hp I'=>⟨.ref p,_,I',rfl,?_⟩
        have x:=Ext.laid sub hp (.dK kvs)
        exact q _ _ _ x (.dic (.inl j5) (g2.mono x.s nol))
      | _=>exact je hf
end
end C
end
noncomputable section
set_option linter.all false
set_option autoImplicit false
namespace C
open PySem PySem.Spec PyProof.Rows L2
theorem dj.zero {P:Program} {w:World} {K:PySem.W.Frag} {mg:Str→Option Value} {base:Heap} {x qual:Str} {st:Stmt} {f:Addr} {fd:FuncData} {ps:List Str} {k:Nat} (F:Fun K x qual st f fd) (h:mg x=some (.ref f)) (b:Binds K fd ps []):dj P w K mg base x k ps (fun _ _=>none):=by
  have no:∀ vs H Q E,¬ spF K ps.length (fun _ _=>none) vs H Q E:=fun vs H Q E z=>by
    obtain ⟨S,as,sto,ts,t,sto',_,_,_,_,e,_⟩:=z
    cases e
  exact ⟨f,fd,⟨fun vs H Q E z=>absurd z (no vs H Q E),fun A outer s H args us vs Q E _ _ _ _ z=>absurd z (no vs H Q E)⟩,b,F.kp,h⟩
end C
end
noncomputable section
set_option autoImplicit false
namespace C
open PySem
noncomputable def abw:List T→Option T
  | [.int i]=>some (.int i)
  | [.bl k]=>some (.int (if k then 1 else 0))
  | _=>none
end C
end
noncomputable section
set_option linter.all false
set_option maxRecDepth 100000
set_option maxHeartbeats 4000002
set_option autoImplicit false
namespace C
open PySem PySem.Spec PyProof.Rows L2
noncomputable section
variable {X:Cx} {B:Bas} {c e:Expr} {m:M T} {pos p:Pos} {u:S} {body:List Stmt}
theorem Xj:Qq X (.type "int") abw:=by
  intro pins s σ H xs us Q I rs z8
  obtain ⟨S,as,ts,w,sub,hr,hf,q⟩:=z8
  cases hr with
  | nil=>exact je hf
  | @cons x t xs' ts' h1 h2 =>
    cases h2 with
    | cons h3 h4=>cases h1 <;> exact je hf
    | nil =>
      cases h1 <;> first | exact je hf | skip
      · cases hf
        exact Pz pins s σ H _ us Q I rs (.inr ⟨_,rfl,q _ H S (Ext.refl sub) (.int _)⟩)
      · cases hf
        exact Pz pins s σ H _ us Q I rs (.inl ⟨_,rfl,q _ H S (Ext.refl sub) (.int _)⟩)
end
end C
end
noncomputable section
set_option linter.all false
set_option maxRecDepth 100000
set_option maxHeartbeats 4000002
set_option autoImplicit false
namespace C
open PySem PySem.Spec PyProof.Rows L2
noncomputable section
variable {X:Cx} {B:Bas} {e st:Expr} {te:TE} {m:M T} {pos p2 p3 p4:Pos} {j:Nat}
end
end C
end
noncomputable section
set_option linter.all false
set_option maxRecDepth 100000
set_option maxHeartbeats 4000002
set_option autoImplicit false
namespace C
open PySem PySem.Spec PyProof.Rows L2
noncomputable section
variable {X:Cx} {B:Bas} {a:Expr} {m:M T} {pos p:Pos}
noncomputable def a7j (K:PySem.W.Frag):List V→Hp→VK→Prop:=fun xs H Q=>∃ S as t u,Same S H∧u6 K S as xs [t]∧Jj [t]=some (.dic u)∧∀ p kv,H p=none→Dc K S as kv u→Q (.ref p) (upd H p (.dK kv))
theorem Vm (hc:X.calm=true):Ey X (.type "dict") (a7j X.K):=by
  intro pins s σ H xs us Q I rs z8
  obtain ⟨S,as,t,u,sub,hr,hf,q⟩:=z8
  cases hr with
  | cons h1 h2 =>
    cases h2
    obtain ⟨v,rfl,ru⟩:=rs.one
    cases h1 with
    | @lst a vs ts g1 g2 =>
      cases ru
      obtain ⟨hl,hf⟩:=yj hf
      obtain ⟨l,e1,e2⟩:=Option.map_eq_some_iff.mp hf
      cases e2
      exact Hz hc I sub g1 g2 e1 (Nat.le_trans (Nat.le_of_lt hl) ou) fun p kv hp _ k2=>q p kv hp k2
    | @tup a vs ts g1 g2 =>
      cases ru
      obtain ⟨hl,hf⟩:=yj hf
      obtain ⟨l,e1,e2⟩:=Option.map_eq_some_iff.mp hf
      cases e2
      exact Gf hc I sub g1 g2 e1 (Nat.le_trans (Nat.le_of_lt hl) ou) fun p kv hp _ k2=>q p kv hp k2
    | @dic a kvs ts g1 g2 =>
      cases ru
      cases hf
      exact Vc I (vd sub g1) fun p s' hp I'=>⟨.ref p,_,I',rfl,q p kvs hp g2⟩
    | _=>exact je hf
theorem Zk {t w:T} (h:Jj [t]=some w):∃ u,w=.dic u:=by
  cases t <;> first | exact je h | skip
  · obtain ⟨l,_,e⟩:=Option.map_eq_some_iff.mp (yj h).2; exact ⟨_,e.symm⟩
  · obtain ⟨l,_,e⟩:=Option.map_eq_some_iff.mp (yj h).2; exact ⟨_,e.symm⟩
  · cases h; exact ⟨_,rfl⟩
theorem a09 (hc:X.calm=true) (hg:Gl X "dict") (hm:X.mg "dict" = none) (ha:PE X a (tOf X.K B m)) (he:starEach [a] X.env=(false,eval a X.env)::starEach [] X.env:=by rfl) (hpl:(backTo pos (starEach [] X.env)).any (·.1)=false:=by rfl) :
    PE X (.Call (.Name "dict" p) [a] [] pos) (fOf X.K B (ig Jj (ak m dg))):=by
  refine (vh (Vm hc) hg hm PyProof.Rows.boot_dict (su ha wz he) (by decide) (by decide) he hpl).imp fun σ H Q z0=>?_
  obtain ⟨st,ps,S,as,R,t,st',e,q⟩:=z0
  obtain ⟨ts,e1,e2⟩:=Aw e
  obtain ⟨t1,s1,us,ea,en,rfl⟩:=vg e1
  cases en
  obtain ⟨u,rfl⟩:=Zk e2
  refine ⟨st,ps,S,as,R,t1,_,ea,fun v H1 S1 as1 R1=>⟨S1,as1,t1,u,R1.sub,.cons R1.top .nil,e2,fun p kv hp k2=>?_⟩⟩
  obtain ⟨bD,sD,nD,no⟩:=R1.fresh hp
  exact q p _ S1 as1 (R1.drop.a6w bD sD nD (fun j w e1 e2=>no j w e1 e2)) ⟨⟨kv,j5,k2⟩,sD,nD,bD⟩ (fun j w e1 e2=>no j w e1 e2)
end
end C
end
noncomputable section
set_option autoImplicit false
namespace C
open PySem
noncomputable def sIx (n d:Nat):Option Int→Nat
  | none=>d
  | some v=>if v<0 then (v+(n:Int)).toNat else min v.toNat n
noncomputable def a0b (xs:List T) (lo hi:Option Int):List T:=(xs.drop (sIx xs.length 0 lo)).take (sIx xs.length xs.length hi - sIx xs.length 0 lo)
noncomputable def a5f (lo hi:Option Int):T→Option T
  | .lst xs=>some (.lst (a0b xs lo hi))
  | .tup xs=>if sIx xs.length 0 lo=0∧sIx xs.length xs.length hi=xs.length then none else some (.tup (a0b xs lo hi))
  | _=>none
noncomputable def Vk:M (Option Int):=fun s=>some (none,s)
noncomputable def Gz (e:M T):M (Option Int):=fun s=>match e s with
  | some (.int i,s1)=>some (some i,s1)
  | _=>none
noncomputable def Cw (m:M T) (lo hi:M (Option Int)):M T:=fun s=>match m s with
  | some (t,s1)=>match lo s1 with
    | some (l,s2)=>match hi s2 with
      | some (h,s3)=>match a5f l h t with
        | some u=>some (u,s3)
        | none=>none
      | none=>none
    | none=>none
  | none=>none
end C
end
noncomputable section
set_option linter.all false
set_option autoImplicit false
namespace C
open PySem PySem.Sem
noncomputable def a7u:Bool→Heap→Addr→Addr→Nat→Prop
  | true,h,it,a,i=>h.IsListIter it a i
  | false,h,it,a,i=>h.IsTupleIter it a i
noncomputable def a66:Bool→Heap→Addr→Array Value→Prop
  | true,h,a,xs=>h.IsList a xs
  | false,h,a,xs=>h.IsTuple a xs
theorem a7u.to {k:Bool} {h h':Heap} {it a:Addr} {i:Nat} (x:a7u k h it a i) (e:∀ o,h.get? it=some o→h'.get? it=some o):a7u k h' it a i:=by
  cases k <;> obtain ⟨o,ho,r⟩:=x <;> exact ⟨o,e o ho,r⟩
theorem a7u.obj {k:Bool} {h:Heap} {it a:Addr} {i:Nat} (x:a7u k h it a i):∃ o,h.get? it=some o∧∀ v,o.data≠.cell v:=by
  cases k <;> obtain ⟨o,ho,_,d⟩:=x <;> exact ⟨o,ho,fun v z=>by rw [d] at z; cases z⟩
theorem a66.to {k:Bool} {h h':Heap} {a:Addr} {xs:Array Value} (x:a66 k h a xs) (e:∀ o,h.get? a=some o→h'.get? a=some o):a66 k h' a xs:=by
  cases k <;> obtain ⟨o,ho,r⟩:=x <;> exact ⟨o,e o ho,r⟩
noncomputable section
variable {prog:Program} {w:World} {A:Around} {E:Value→Shared→Prop} {s:Shared}
end
structure ac9 (h:Heap) (z ti to' i1 i2:Addr) (f:Value):Prop where
  zip:IsZip h z ti to' f
  its:IsPair h ti (.ref i1) (.ref i2)
  kept:∃ a b,IsPair h to' a b
structure Far (z ti to' i1 i2:Addr):Prop where
  nd:[z,ti,to',i1,i2].Nodup
theorem Far.all {z ti to' i1 i2:Addr} (f:Far z ti to' i1 i2):ti≠z∧to'≠z∧i1≠z∧i2≠z∧ti≠to'∧ti≠i1∧ti≠i2∧to'≠i1∧to'≠i2∧i1≠i2:=by
  have:=f.nd
  simp only [List.nodup_cons,List.mem_cons,List.not_mem_nil,or_false,not_or] at this
  obtain ⟨⟨a,b,c,d⟩,⟨e,f,g⟩,⟨h,i⟩,j,_⟩:=this
  exact ⟨Ne.symm a,Ne.symm b,Ne.symm c,Ne.symm d,e,f,g,h,i,j⟩
noncomputable section
variable {prog:Program} {w:World} {A:Around} {E:Value→Shared→Prop} {s:Shared}
end
noncomputable section
variable {prog:Program} {w:World} {A:Around} {E:Value→Shared→Prop} {s:Shared}
end
end C
end
noncomputable section
set_option linter.all false
set_option maxRecDepth 100000
set_option maxHeartbeats 4000002
set_option autoImplicit false
namespace C
open PySem PySem.Spec PyProof.Rows L2
noncomputable def Sq:Bool→PySem.W.Frag→Hp→Addr→List V→Prop
  | true,K,H,a,xs=>SqL K H a xs
  | false,K,H,a,xs=>SqT K H a xs
noncomputable section
variable {X:Cx} {pins:List (Addr × Obj)} {σ:L2.St} {H:Hp} {s:Shared} {a:Addr} {xs ys:List V} {k:Bool}
theorem Sq.inj (I:L2.Inv X pins σ H s) (h:Sq k X.K H a xs) (h':Sq k X.K H a ys):xs=ys:=by
  cases k with
  | true=>exact I.Nr h h'
  | false=>exact I.Ob h h'
end
noncomputable section
variable {X:Cx} {B:Bas} {a b:Expr} {m m1 m2:M T} {pos p:Pos} {elts:List Expr} {x1:Nat} {tpos:Pos}
theorem Sq.mono {k:Bool} {K:PySem.W.Frag} {S H:Hp} {a:Addr} {vs:List V} (e:Same S H) (h:Sq k K S a vs):Sq k K H a vs:=by
  cases k with
  | true=>exact jx e h
  | false=>exact m9 e h
end
end C
end
noncomputable section
set_option linter.all false
set_option maxRecDepth 100000
set_option maxHeartbeats 4000002
set_option autoImplicit false
namespace C
open PySem PySem.Spec PyProof.Rows L2
noncomputable section
variable {X:Cx}
variable {B:Bas} {o e:Expr} {m1 m2:M T} {apos cpos:Pos}
end
end C
end
noncomputable section
set_option linter.all false
set_option maxRecDepth 100000
set_option maxHeartbeats 4000002
set_option autoImplicit false
namespace C
open PySem PySem.Spec PyProof.Rows L2
theorem Tw (n d:Nat) (o:Option Int):sIx n d o=HT.sIx n d o:=by cases o <;> rfl
inductive oOf (K:PySem.W.Frag) (B:Bas) (m:M (Option Int)) (σ:L2.St) (H:Hp) (Q:Option Int→Hp→Prop):Prop
  | mk (st:Sta) (ps:List (V × T)) (S:Hp) (as:List Addr) (R:Rel K B st σ H ps S as) (o:Option Int) (st':Sta) (e:m st=some (o,st')) (q:∀ H' S' as',Rel K B st' σ H' ps S' as'→Q o H')
noncomputable section
variable {X:Cx} {B:Bas} {a e:Expr} {m:M T} {ml mh:M (Option Int)} {lo hi:Option Expr} {pos p2:Pos}
theorem a6d:PO X none (oOf X.K B Vk):=fun pins s σ H Q I ⟨st,ps,S,as,R,o,st',e,q⟩=>a5s pins s σ H Q I (by cases e; exact q H S as R)
theorem Rb (h:PE X e (tOf X.K B m)):PO X (some e) (oOf X.K B (Gz m)):=fun pins s σ H Q I z9=>a68 h pins s σ H Q I (by
  obtain ⟨st,ps,S,as,R,o,st',eo,q⟩:=z9
  unfold Gz at eo
  split at eo
  · rename_i i s1 e1
    cases eo
    refine ⟨st,ps,S,as,R,.int i,_,e1,fun v H1 S1 as1 R1=>?_⟩
    cases R1.top
    exact ⟨i,rfl,q H1 S1 as1 R1.drop⟩
  · cases eo)
theorem Wc {s s':Sta} {v:T} (h:Cw m ml mh s=some (v,s')):∃ t s1 l s2 u,m s=some (t,s1)∧ml s1=some (l,s2)∧mh s2=some (u,s')∧a5f l u t=some v:=by
  unfold Cw at h
  split at h
  · rename_i t s1 e1
    split at h
    · rename_i l s2 e2
      split at h
      · rename_i u s3 e3
        split at h
        · rename_i w e4; cases h; exact ⟨t,s1,l,s2,u,e1,e2,e3,e4⟩
        · cases h
      · cases h
    · cases h
  · cases h
theorem u6.takes {K:PySem.W.Frag} {S:Hp} {as:List Addr}:∀ (n:Nat) {vs:List V} {ts:List T},u6 K S as vs ts→u6 K S as (vs.take n) (ts.take n)
  | 0,_,_,_=>.nil
  | _+1,_,_,.nil=>.nil
  | n+1,_,_,.cons h r=>.cons h (u6.takes n r)
theorem Um {K:PySem.W.Frag} {S:Hp} {as:List Addr} {vs:List V} {ts:List T} (r:u6 K S as vs ts) (lo hi:Option Int):u6 K S as (a0t vs lo hi) (a0b ts lo hi):=by
  unfold a0t a0b
  rw [Tw,Tw,r.length]
  exact u6.takes _ (r.drop _)
theorem Uj (ha:PE X a (tOf X.K B m)) (hl:PO X lo (oOf X.K B ml)) (hh:PO X hi (oOf X.K B mh)):PE X (.Subscript a (.Slice lo hi none p2) pos) (tOf X.K B (Cw m ml mh)) :=
  (a2c (a5d.or a83) ha hl hh).imp fun σ H Q z9=>by
    obtain ⟨st,ps,S,as,R,t,st',e,q⟩:=z9
    obtain ⟨t1,s1,l,s2,u,e1,e2,e3,e4⟩:=Wc e
    refine ⟨st,ps,S,as,R,t1,s1,e1,fun v H1 S1 as1 R1=>⟨s1,_,S1,as1,R1,l,s2,e2,fun H2 S2 as2 R2=>⟨s2,_,S2,as2,R2,u,st',e3,fun H3 S3 as3 R3=>?_⟩⟩⟩
    have top:=R3.top
    cases top with
    | @lst b vs ts g1 g2 =>
      simp only [a5f] at e4; cases e4
      refine .inl ⟨b,vs,rfl,jx R3.sub g1,fun p hp=>?_⟩
      have x:=Ext.laid R3.sub hp (.lst (a0t vs l u))
      exact q _ _ _ _ ((R3.drop.ext x).push (.lst (SqL.of j5) ((Um g2 l u).mono x.s nol)))
    | @tup b vs ts g1 g2 =>
      simp only [a5f] at e4
      split at e4
      · cases e4
      · rename_i hw
        cases e4
        refine .inr ⟨b,vs,rfl,m9 R3.sub g1,?_,fun p hp=>?_⟩
        · rw [Tw,Tw,← g2.length] at hw; exact hw
        · have x:=Ext.laid R3.sub hp (.tup (a0t vs l u))
          exact q _ _ _ _ ((R3.drop.ext x).push (.tup (SqT.of j5) ((Um g2 l u).mono x.s nol)))
    | _=>exact je e4
end
noncomputable section
variable {prog:Program} {w:World} {A:Around} {E:Value→Shared→Prop} {s:Shared}
theorem a6f {α β:Type} {f g:α→Option β}:∀ {l:List α},(∀ a∈l,f a=g a)→l.filterMap f=l.filterMap g
  | [],_=>rfl
  | a::l,h=>by rw [List.filterMap_cons,List.filterMap_cons,h a List.mem_cons_self,a6f fun b hb=>h b (List.mem_cons_of_mem _ hb)]
end
noncomputable section
variable {X:Cx} {B:Bas} {e:Expr} {te:TE} {m m1 m2:M T} {pos p p2 p3 p4:Pos} {j:Nat}
end
end C
end
noncomputable section
end
noncomputable section
set_option linter.all false
set_option autoImplicit false
namespace C
open PySem PySem.Spec L2
noncomputable def Held (K:PySem.W.Frag) (u:Value) (t:T):Prop:=∃ v,RelV v u∧∀ S as,Rep K S as v t
noncomputable def Es (K:PySem.W.Frag) (us:List Value) (ts:List T):Prop:=∃ vs,Vals vs us∧∀ S as,u6 K S as vs ts
noncomputable section
variable {K:PySem.W.Frag}
theorem Held.int {i:Int} {tk:Tok}:Held K (.int i tk) (.int i):=⟨.int i,⟨tk,rfl⟩,fun _ _=>.int i⟩
theorem Held.str {x:Str} {tk:Tok}:Held K (.str x tk) (.str x):=⟨.str x,⟨tk,rfl⟩,fun _ _=>.str x⟩
theorem Held.bl {b:Bool}:Held K (.bool b) (.bl b):=⟨.bl b,rfl,fun _ _=>.bl b⟩
theorem Held.non:Held K .none .non:=⟨.non,rfl,fun _ _=>.non⟩
theorem Es.nil:Es K [] []:=⟨[],.nil,fun _ _=>.nil⟩
theorem Es.cons {u:Value} {t:T} {us:List Value} {ts:List T} (h:Held K u t) (hs:Es K us ts):Es K (u::us) (t::ts):=by
  obtain ⟨v,r,e⟩:=h
  obtain ⟨vs,rs,es⟩:=hs
  exact ⟨v::vs,.cons r rs,fun S as=>.cons (e S as) (es S as)⟩
theorem Held.tup {a:Addr} {us:List Value} {n:Nat} {sl:Array (Option Value)} {ts:List T} (h:K.lookup a=some ⟨.type "tuple",none,.seq us.toArray n,sl⟩) (hz:us.length≤1000) (hs:Es K us ts):Held K (.ref a) (.tup ts):=by
  obtain ⟨vs,rs,es⟩:=hs
  refine ⟨.ref a,rfl,fun S as=>.tup (.inr ⟨_,us.toArray,n,h,rfl,rfl,rfl,?_,?_⟩) (es S as)⟩
  · rw [List.size_toArray,sizeLine_eq]; omega
  · exact rs
theorem Held.lst {a:Addr} {us:List Value} {n:Nat} {sl:Array (Option Value)} {ts:List T} (h:K.lookup a=some ⟨.type "list",none,.seq us.toArray n,sl⟩) (hz:us.length≤1000) (hs:Es K us ts):Held K (.ref a) (.lst ts):=by
  obtain ⟨vs,rs,es⟩:=hs
  refine ⟨.ref a,rfl,fun S as=>.lst (.inr ⟨_,us.toArray,n,h,rfl,rfl,rfl,?_,?_⟩) (es S as)⟩
  · rw [List.size_toArray,sizeLine_eq]; omega
  · exact rs
end
noncomputable section
variable {X:Cx} {B:Bas} {pos:Pos}
theorem V8 {x:Str} {t:T} (hg:Gl X x) (h:∃ u,X.mg x=some u∧Held X.K u t) (hd:(x==("__debug__" : Str))=false:=by decide):PE X (.Name x pos) (tOf X.K B (au t)):=by
  obtain ⟨u,h,v,r,e⟩:=h
  exact Io (v:=v) (Zi hg h r hd) e
end
end C
end
noncomputable section
set_option linter.all false
set_option maxRecDepth 100000
set_option autoImplicit false
namespace C
open PySem PySem.Spec PyProof.Rows
noncomputable section
variable {prog:Program} {w:World} {A:Around} {E:Value→Shared→Prop} {s:Shared}
end
end C
end
noncomputable section
set_option linter.all false
set_option maxRecDepth 100000
set_option maxHeartbeats 4000002
set_option autoImplicit false
namespace C
open PySem PySem.Spec PyProof.Rows
noncomputable section
variable {prog:Program} {w:World} {A:Around} {R:Result→Shared→Prop} {I:Addr} {fp wr:List Addr} {G:Array GenState→Array GenState→Prop} {n:Nat} {P:Nat→Value→Prop} {St:Nat→Shared→Prop} -- here
end
noncomputable section
variable {prog:Program} {w:World} {A:Around} {E:Value→Shared→Prop} {s:Shared}
end
end C
end
noncomputable section
set_option linter.all false
set_option maxRecDepth 100000
set_option maxHeartbeats 4000002
set_option autoImplicit false
namespace C
open PySem PySem.Spec PyProof.Rows
noncomputable section
variable {prog:Program} {w:World} {A:Around} {E:Value→Shared→Prop} {s:Shared}
end
end C
end
noncomputable section
set_option linter.all false
set_option maxRecDepth 100000
set_option maxHeartbeats 4000002
set_option autoImplicit false
namespace C
open PySem PySem.Spec PyProof.Rows
noncomputable section
variable {prog:Program} {w:World} {A:Around} {E:Value→Shared→Prop} {s:Shared}
end
end C
end
noncomputable section
set_option linter.all false
set_option maxRecDepth 100000
set_option maxHeartbeats 4000002
set_option autoImplicit false
namespace C
open PySem PySem.Spec PyProof.Rows
noncomputable section
variable {prog:Program} {w:World} {A:Around} {E:Value→Shared→Prop} {s:Shared} {I a:Addr} {i n ep:Nat} {o:Obj} {es:Array (Int × Value)} {t:SetTable} {Q:Option Value→Shared→Prop}
end
end C
end
noncomputable section
set_option linter.all false
set_option maxRecDepth 100000
set_option maxHeartbeats 4000002
set_option autoImplicit false
namespace C
open PySem PySem.Spec PyProof.Rows
noncomputable section
variable {prog:Program} {w:World} {A:Around} {E:Value→Shared→Prop} {s:Shared} {I a q:Addr} {i n ep:Nat} {o:Obj} {es:Array (Int × Value)} {t:SetTable} {Q:Option Value→Shared→Prop} {ps:List Nat}
end
end C
end
noncomputable section
set_option linter.all false
set_option maxRecDepth 100000
set_option maxHeartbeats 4000002
set_option autoImplicit false
namespace C
open PySem PySem.Spec PyProof.Rows
noncomputable section
variable {prog:Program} {w:World} {A:Around} {E:Value→Shared→Prop} {s:Shared} {I a q:Addr} {n ep:Nat} {o:Obj} {es:Array (Int × Value)} {t:SetTable} {ps:List Nat}
end
end C
end
noncomputable section
set_option linter.all false
set_option maxRecDepth 100000
set_option maxHeartbeats 4000002
set_option autoImplicit false
namespace C
open PySem PySem.Spec PyProof.Rows
noncomputable section
variable {prog:Program} {w:World} {A:Around} {E:Value→Shared→Prop} {s:Shared} {a:Addr} {o:Obj} {l:List Str}
end
end C
end
noncomputable section
set_option linter.all false
set_option maxRecDepth 100000
set_option maxHeartbeats 4000002
set_option autoImplicit false
namespace C
open PySem PySem.Spec PyProof.Rows
noncomputable section
variable {prog:Program} {w:World} {A:Around} {E:Value→Shared→Prop} {s:Shared} {a:Addr} {o:Obj} {l:List Str}
end
end C
end
noncomputable section
set_option linter.all false
set_option maxRecDepth 100000
set_option maxHeartbeats 4000002
set_option autoImplicit false
namespace C
open PySem PySem.Spec PyProof.Rows L2
noncomputable section
variable {X:Cx} {B:Bas} {e:Expr} {m1:M T} {p1 p2 p3 p4:Pos}
end
end C
end
noncomputable section
set_option linter.all false
set_option maxRecDepth 100000
set_option maxHeartbeats 4000002
set_option autoImplicit false
namespace C
open PySem PySem.Spec PyProof.Rows L2
open AutoSeq1 (wpAny_loadPart') -- here
open MeetsSeq MeetsSeq2 MeetsSeq3 -- here
noncomputable section
variable {prog:Program} {w:World} -- here
end
noncomputable section
variable {X:Cx} {pins:List (Addr × Obj)} {σ:L2.St} {H S:Hp} {s:Shared} {as:List Addr}
end
end C
end
noncomputable section
set_option linter.all false
set_option maxRecDepth 100000
set_option maxHeartbeats 4000002
set_option autoImplicit false
namespace C
open PySem PySem.Spec PyProof.Rows L2
theorem a6t {K:PySem.W.Frag} {F:Fn} {H:Hp} {a:Addr} {ns:List Int} (hS:SqL K H a (ns.map V.int)) (hE:∃ st,F [.lst (ns.map T.int)] []=some (.bl true,st)):spF K 1 F [.ref a] H (fun v _=>v=.bl true) fun _ _ _=>False:=by
  obtain ⟨st,hF⟩:=hE
  have reps:∀ (S:Hp) (l:List Int),u6 K S [] (l.map V.int) (l.map T.int):=fun S l=>by
    induction l with
    | nil=>exact .nil
    | cons x l ih=>exact .cons (.int x) ih
  let S:Hp:=fun p=>if p=a then H p else none
  have sa:S a=H a:=if_pos rfl
  have sub:Same S H:=fun p u h=>by
    by_cases e:p=a
    · subst e; rw [← sa]; exact h
    · have:S p=none:=if_neg e
      rw [this] at h; cases h
  have sq:SqL K S a (ns.map V.int):=by
    rcases hS with h | h
    · refine .inl ?_
      unfold Rd at h ⊢
      rw [sa]; exact h
    · exact .inr h
  refine ⟨S,[],[],[.lst (ns.map T.int)],.bl true,st,sub,⟨rfl,.nil,fun n so e=>by simp at e⟩,.cons (.lst sq (reps S ns)) .nil,rfl,hF,fun v H' S' as' _ _ _ r=>?_⟩
  cases r
  rfl
end C
end
noncomputable section
set_option linter.all false
set_option autoImplicit false
namespace C
open PySem
end C
end
noncomputable section
set_option linter.all false
set_option autoImplicit false
namespace C
open PySem
noncomputable def abk (tbl:List (Str × Str)):T→Option T
  | .str x=>(tbl.lookup x).map .str
  | _=>none
noncomputable def Eu (lo:Int) (n:Nat):List T:=(List.range n).map fun (k:Nat)=>.int (lo+(k:Int))
noncomputable def Dg (a b:M T):M (List T):=fun s=>match a s with
  | some (.int lo,s1)=>match b s1 with
    | some (.int hi,s2)=>if lo.natAbs<lim∧hi.natAbs<lim then some (Eu lo (hi - lo).toNat,s2) else none
    | _=>none
  | _=>none
noncomputable def Y4 (k1 k2:Str):List T→Option T
  | [a,b]=>some (.dic [(.inr k1,a),(.inr k2,b)])
  | _=>none
end C
end
noncomputable section
set_option linter.all false
set_option maxRecDepth 100000
set_option autoImplicit false
namespace C
open PySem PySem.Spec L2
inductive a76 (w:World):List DictEntry→List (Str × Str)→Prop
  | nil:a76 w [] []
  | cons {k v:Str} {t u:Tok} {h:Int} {es:List DictEntry} {tbl:List (Str × Str)}:h=hashStr w k→a76 w es tbl→a76 w ({ hash:=h,key:=.str k t,val:=.str v u } :: es) ((k,v)::tbl)
noncomputable def Y9 (K:PySem.W.Frag) (w:World) (a:Addr) (tbl:List (Str × Str)):Prop :=
  ∃ es ep,K.lookup a=some ⟨.type "dict",none,.dict es ep,#[]⟩∧a76 w es.toList tbl∧(tbl.map (·.1)).Nodup
theorem a76.of {P:Program} {w:World} {es:List DictEntry} {tbl:List (Str × Str)} (h:a76 w es tbl) :
    ∃ vs:List (Key × Value),Pairs (kj P w) es vs∧vs.map (·.1)=tbl.map (fun p=>(Sum.inr p.1:Key))∧(∀ e∈es,∃ k,(kj P w).is k e.key=true∧e.hash=(kj P w).hash k) ∧
      ∀ x v,tbl.lookup x=some v→∃ tk,valueAt vs (Sum.inr x)=some (.str v tk):=by
  induction h with
  | nil=>exact ⟨[],.nil,rfl,fun e he=>(nomatch he),fun x v e=>(nomatch e)⟩
  | @cons k v t u h es tbl hh _ ih =>
    obtain ⟨vs,p,e1,e2,e3⟩:=ih
    refine ⟨(.inr k,.str v u)::vs,.cons (Jy k t) rfl p,by simp [e1],fun e he=>?_,fun x y e=>?_⟩
    · rcases List.mem_cons.mp he with rfl | he -- here
      · exact ⟨.inr k,Jy k t,hh⟩
      · exact e2 e he
    · rw [List.lookup_cons] at e
      unfold valueAt
      rw [List.find?_cons]
      by_cases hx:x=k
      · subst hx
        simp at e
        subst e
        exact ⟨u,by simp⟩
      · have h1:(x==k)=false:=beq_eq_false_iff_ne.mpr hx
        rw [h1] at e
        have h2:decide ((Sum.inr k:Key)=Sum.inr x)=false:=decide_eq_false fun z=>hx (Sum.inr.inj z).symm
        simp only [h2]
        exact e3 x y e
noncomputable section
variable {X:Cx} {B:Bas} {e:Expr} {m:M T} {pos p:Pos}
theorem a8s {x:Str} {tbl:List (Str × Str)} (hg:Gl X x) (h:∃ a,X.mg x=some (.ref a)∧Y9 X.K X.w a tbl) (he:PE X e (tOf X.K B m)) (hs:a78 e) (hd:(x==("__debug__" : Str))=false:=by decide) :
    PE X (.Subscript (.Name x p) e pos) (tOf X.K B (mUn (abk tbl) m)):=by
  obtain ⟨a,hm,es,ep,hk,tb,nd⟩:=h
  obtain ⟨vs,hp,e1,e2,e3⟩:=tb.of (P:=X.prog)
  intro pins s σ H Q I hw
  obtain ⟨st,ps,S,as,R,t,st',em,q⟩:=hw
  obtain ⟨k,em1,em2⟩:=Yo em
  refine Tg PySem.F.slot_dict_getitem.lookup hs (thn ((Zi (v:=.ref a) hg hm rfl hd) pins s σ H (fun v H'=>v=.ref a∧H'=H) I ⟨rfl,rfl⟩) fun u s1 z1=>?_)
  obtain ⟨v1,H1,I1,r1,rfl,rfl⟩:=z1
  obtain rfl:u=Value.ref a:=r1
  refine thn (he pins s1 σ H1 (fun v H2=>∃ y w',v=.str y∧tbl.lookup y=some w'∧Q (.str w') H2) I1 ⟨st,ps,S,as,R,k,st',em1,fun v H2 S2 as2 R2=>?_⟩) fun iv s2 z2=>?_
  · unfold abk at em2
    split at em2
    · rename_i y
      cases hl:tbl.lookup y with
      | none=>rw [hl] at em2; cases em2
      | some w' =>
        rw [hl] at em2
        cases em2
        have top:=R2.top
        cases top
        exact ⟨y,w',rfl,hl,q _ H2 S2 as2 (R2.drop.push (.str w'))⟩
    · cases em2
  · obtain ⟨v2,H2,I2,r2,y,w',rfl,hl,hq⟩:=z2
    have dd:s2.heap.DictOf (kj X.prog X.w) a vs:=⟨_,es,ep,I2.kIn a _ hk,⟨rfl,rfl,rfl⟩,rfl,fun e he=>e2 e (Array.mem_toList_iff.mpr he),hp,by
      rw [e1]
      have:(tbl.map fun p=>(Sum.inr p.1:Key))=(tbl.map (·.1)).map Sum.inr:=by rw [List.map_map]; rfl
      rw [this]
      exact List.Pairwise.map _ (fun a b hab z=>hab (Sum.inr.inj z)) nd⟩
    obtain ⟨tk,hv⟩:=e3 y w' hl
    exact ⟨dd.typeIs,wpAny_getItem_of (Nq (k:=.inr y) r2) dd.mapOf hv ⟨.str w',H2,I2.tok _,⟨tk,rfl⟩,hq⟩⟩
end
end C
end
noncomputable section
set_option linter.all false
set_option autoImplicit false
namespace C
open PySem
end C
end
noncomputable section
set_option linter.all false
set_option autoImplicit false
namespace C
open PySem
noncomputable def keysOf:List T→Option (List Key)
  | []=>some []
  | t::r=>match keyOf t,keysOf r with
    | some k,some q=>some (k::q)
    | _,_=>none
noncomputable def Bv (k:List Key):List (List Key × T)→Option T
  | []=>none
  | (q,t)::r=>if q=k then some t else Bv k r
noncomputable def Ud (k:List Key) (t:T) (kvs:List (List Key × T)):List (List Key × T) :=
  if kvs.any fun p=>decide (p.1=k) then kvs.map fun p=>if p.1=k then (p.1,t) else p else kvs++[(k,t)]
noncomputable def a03:M T:=fun s=>some (.obj s.sto.length,{ s with sto:=s.sto++[.dit []] })
noncomputable def n6 (o k:M T):M T:=fun s=>match o s with
  | some (.obj n,s1)=>match k s1 with
    | some (.tup ts,s2)=>match s2.sto[n]?,keysOf ts with
      | some (.dit kvs),some q=>match Bv q kvs with
        | some t=>some (t,s2)
        | none=>none
      | _,_=>none
    | _=>none
  | _=>none
noncomputable def Et (o:M T) (ks:M (List T)) (v:M T):S:=fun s=>match v s with
  | some (t,s1)=>match o s1 with
    | some (.obj n,s2)=>match ks s2 with
      | some (ts,s3)=>match s3.sto[n]?,keysOf ts with
        | some (.dit kvs),some q=>if kvs.length<lim then some (.next,{ s3 with sto:=s3.sto.set n (.dit (Ud q t kvs)) }) else none
        | _,_=>none
      | none=>none
    | _=>none
  | none=>none
end C
end
noncomputable section
set_option linter.all false
set_option maxRecDepth 100000
set_option maxHeartbeats 4000002
set_option autoImplicit false
namespace C
open PySem PySem.Spec PyProof.Rows L2
theorem O9 {o k:M T} {s s':Sta} {t:T} (h:n6 o k s=some (t,s')):∃ n s1 ts kvs q,o s=some (.obj n,s1)∧k s1=some (.tup ts,s')∧s'.sto[n]? = some (.dit kvs)∧keysOf ts=some q∧Bv q kvs=some t:=by
  unfold n6 at h
  split at h
  · rename_i n s1 e1
    split at h
    · rename_i ts s2 e2
      split at h
      · rename_i kvs q e3 e4
        split at h
        · rename_i t' e5
          cases h
          exact ⟨n,s1,ts,kvs,q,e1,e2,e3,e4,e5⟩
        · cases h
      · cases h
    · cases h
  · cases h
theorem Te {o:M T} {ks:M (List T)} {v:M T} {s s':Sta} {fl:Flow} (h:Et o ks v s=some (fl,s')) :
    ∃ t s1 n s2 ts s3 kvs q,v s=some (t,s1)∧o s1=some (.obj n,s2)∧ks s2=some (ts,s3)∧s3.sto[n]? = some (.dit kvs)∧keysOf ts=some q∧kvs.length<lim∧fl=.next∧s' = { s3 with sto:=s3.sto.set n (.dit (Ud q t kvs)) }:=by
  unfold Et at h
  split at h
  · rename_i t s1 e1
    split at h
    · rename_i n s2 e2
      split at h
      · rename_i ts s3 e3
        split at h
        · rename_i kvs q e4 e5
          split at h
          · rename_i hl
            cases h
            exact ⟨t,s1,n,s2,ts,s3,kvs,q,e1,e2,e3,e4,e5,hl,rfl,rfl⟩
          · cases h
        · cases h
      · cases h
    · cases h
  · cases h
noncomputable section
variable {K:PySem.W.Frag} {S:Hp} {as:List Addr}
theorem Xu:∀ {ts:List T} {vs:List V} {q:List L2.Key},u6 K S as vs ts→keysOf ts=some q→vs=q.map kV
  | [],_,_,h0,h=>by cases h0; cases h; rfl
  | t::r,_,q,h0,h=>by
    cases h0 with | cons a b=>?_
    simp only [keysOf] at h
    cases e1:keyOf t with
    | none=>rw [e1] at h; cases h
    | some k =>
      cases e2:keysOf r with
      | none=>rw [e1,e2] at h; cases h
      | some qs =>
        rw [e1,e2] at h
        cases h
        rw [Od a e1,Xu b e2,List.map_cons]
theorem Lz.get (k:List L2.Key):∀ {vs:List (List L2.Key × V)} {ts:List (List L2.Key × T)} {t:T},Lz K S as vs ts→Bv k ts=some t→∃ z,Ku vs k=some z∧Rep K S as z t
  | _,[],_,h0,h=>by cases h
  | _,(q,_)::_,t,h0,h=>by
    cases h0 with | cons a b=>?_
    unfold Bv at h
    by_cases e:q=k
    · rw [if_pos e] at h; cases h
      exact ⟨_,G6 e,a⟩
    · rw [if_neg e] at h
      obtain ⟨z,h1,h2⟩:=Lz.get k b h
      exact ⟨z,by rw [Fv e]; exact h1,h2⟩
theorem Lz.put {k:List L2.Key} {v:V} {t:T} (r:Rep K S as v t) {vs:List (List L2.Key × V)} {ts:List (List L2.Key × T)} (h:Lz K S as vs ts):Lz K S as (putK vs k v) (Ud k t ts):=by
  have any:∀ {vs:List (List L2.Key × V)} {ts:List (List L2.Key × T)},Lz K S as vs ts→(vs.any fun kv=>decide (kv.1=k))=(ts.any fun p=>decide (p.1=k)):=by
    intro vs ts h
    induction vs generalizing ts with
    | nil=>cases h; rfl
    | cons p r ih=>cases h with | cons h1 h2=>rw [List.any_cons,List.any_cons,ih h2]
  have mp:∀ {vs:List (List L2.Key × V)} {ts:List (List L2.Key × T)},Lz K S as vs ts→Lz K S as (vs.map fun kv=>if kv.1=k then (kv.1,v) else kv) (ts.map fun p=>if p.1=k then (p.1,t) else p):=by
    intro vs ts h
    induction vs generalizing ts with
    | nil=>cases h; exact .nil
    | cons p rr ih =>
      cases h with
      | @cons q v0 t0 _ _ h1 h2 =>
        rw [List.map_cons,List.map_cons]
        by_cases e:q=k
        · rw [if_pos e,if_pos e]; exact .cons r (ih h2)
        · rw [if_neg e,if_neg e]; exact .cons h1 (ih h2)
  have ap:∀ {vs:List (List L2.Key × V)} {ts:List (List L2.Key × T)},Lz K S as vs ts→Lz K S as (vs++[(k,v)]) (ts++[(k,t)]):=by
    intro vs ts h
    induction vs generalizing ts with
    | nil=>cases h; exact .cons r .nil
    | cons p rr ih=>cases h with | cons h1 h2=>exact .cons h1 (ih h2)
  unfold putK Ud
  rw [any h]
  split
  · exact mp h
  · exact ap h
end
noncomputable section
variable {X:Cx} {pins:List (Addr × Obj)} {σ:L2.St} {H:Hp} {s:Shared} {a b:Addr} {u:Value} {v:V} {A:Around} {E:Value→Shared→Prop}
theorem a9i {ks:List L2.Key} (I:Inv X pins σ H s) (e:SqT X.K H b (ks.map kV)):(tupleKind (kj X.prog X.w)).is s.heap ks b:=by
  obtain ⟨its,r,⟨o,h1,h2,n,h3⟩,_⟩:=I.tuple e
  exact ⟨o,its.toArray,n,h1,h2,h3,by simpa using Jb r⟩
theorem Wh {Q:Value→Shared→Prop} {kvs:List (List L2.Key × V)} {k:List L2.Key} (hu:A.units+1<cLine) (I:Inv X pins σ H s) (e:Rd H a (.dT kvs)) (eb:SqT X.K H b (k.map kV)) (l:Ku kvs k=some v) (h:∀ w' s',Inv X pins σ H s'→RelV v w'→Q w' s') :
    wpAny (model X.prog X.w) A (getItem (.ref a) (.ref b)) Q E s:=by
  obtain ⟨z,hd,xs,rel,dd⟩:=Ni I.hok e
  obtain ⟨w',hw,rw'⟩:=R7.some_of (v:=v) (o:=(atKey xs k).map (·.2)) (by rw [← l]; exact rel.val k)
  obtain ⟨p,hp,hp2⟩:=Option.map_eq_some_iff.mp hw
  refine wpAny_getItem_heap (tupleKind_room_in1 hu) (a9i I eb) dd hp ?_
  rw [hp2]
  exact h w' _ (I.tok _) rw'
end
noncomputable section
variable {X:Cx} {B:Bas} {o k e:Expr} {es:List Expr} {mo mk mv:M T} {ms:M (List T)} {td ty:TE} {i:Expr} {pos pos' p2:Pos} {j:Nat}
theorem a3b (hu:X.A.units+1<cLine) (ho:PE X o td) (hi:PE X i ty) (hs:a78 i) :
    PE X (.Subscript o i pos) (fun σ H Q=>td σ H fun x H1=>ty σ H1 fun y H2=>∃ a b v kvs q,x=.ref a∧y=.ref b∧Rd H2 a (.dT kvs)∧SqT X.K H2 b (q.map kV)∧Ku kvs q=some v∧Q v H2):=by
  intro pins s σ H Q I h
  refine Tg PySem.F.slot_dict_getitem.lookup hs (thn (ho pins s σ H _ I h) fun u s1 z1=>?_)
  obtain ⟨x,H1,I1,rx,q1⟩:=z1
  refine thn (hi pins s1 σ H1 _ I1 q1) fun iv s2 z2=>?_
  obtain ⟨y,H2,I2,ry,a,b,v,kvs,q,ex,ey,g1,g2,g3,q2⟩:=z2
  subst ex
  subst ey
  obtain rfl:u=Value.ref a:=rx
  obtain rfl:iv=Value.ref b:=ry
  refine ⟨?_,Wh hu I2 g1 g2 g3 fun w' s3 I3 rw'=>⟨v,H2,I3,rw',q2⟩⟩
  obtain ⟨_,_,xs,_,dd⟩:=Ni I2.hok g1
  exact dd.typeIs
theorem Zm:PE X (.Dict [] [] pos) (tOf X.K B a03):=a3f.imp fun σ H Q z9=>by
  obtain ⟨st,ps,S,as,R,t,st',e,q⟩:=z9
  cases e
  intro p hp
  exact q _ _ _ _ (R.newObj hp ⟨[],j5,.nil⟩)
theorem Ad (hu:X.A.units+1<cLine) (ho:PE X o (tOf X.K B mo)) (hk:PE X k (tOf X.K B mk)) (hs:a78 k):PE X (.Subscript o k pos) (tOf X.K B (n6 mo mk)):=(a3b hu ho hk hs).imp fun σ H Q z9=>by
  obtain ⟨st,ps,S,as,R,t,st',e,q⟩:=z9
  obtain ⟨n,s1,ts,kvs,qk,e1,e2,e3,e4,e5⟩:=O9 e
  refine ⟨st,ps,S,as,R,_,s1,e1,fun v H1 S1 as1 R1=>⟨s1,_,S1,as1,R1,_,st',e2,fun u H2 S2 as2 R2=>?_⟩⟩
  have t2:=R2.top2
  have t1:=R2.top
  cases t2 with
  | @obj _ a ha =>
    obtain ⟨a',h1,h2,vs,h3,h4⟩:=R2.sto.at' n _ e3
    rw [ha] at h1; cases h1
    cases t1 with
    | @tup b us _ g1 g2 =>
      have ey:=Xu g2 e4
      subst ey
      obtain ⟨z,z1,z2⟩:=h4.get qk e5
      exact ⟨a,b,z,vs,qk,rfl,rfl,.inl h3,m9 R2.sub g1,z1,q z H2 S2 as2 (R2.drop.drop.push z2)⟩
theorem a0p (hu:X.A.units+1<cLine) (ho:PE X o (tOf X.K B mo)) (hk:PA X es (aOf X.K B ms)) (hm:∀ st ts st',ms st=some (ts,st')→ts.length≤1000) (hv:PE X e (tOf X.K B mv)) (hs:swapsWith e (some (.Subscript o (.Tuple es j p2) pos')) pos.line X.env=pure false) :
    PS X (.Assign [.Subscript o (.Tuple es j p2) pos'] e pos) (sOf X.K B (Et mo ms mv)):=(Xc hu ho (a3n hk) hv hs).imp fun D σ H z9=>by
  obtain ⟨st,ps,S,as,R,fl,st',e,q⟩:=z9
  obtain ⟨t,s1,n,s2,ts,s3,kvs,qk,e1,e2,e3,e4,e5,hl,rfl,rfl⟩:=Te e
  refine ⟨st,ps,S,as,R,t,s1,e1,fun v H1 S1 as1 R1=>⟨s1,_,S1,as1,R1,_,s2,e2,fun x H2 S2 as2 R2=>⟨s2,_,S2,as2,R2,ts,s3,e3,fun us H3 S3 as3 R3 rs=>⟨?_,fun p hp=>?_⟩⟩⟩⟩
  · rw [rs.length]; exact Nat.le_of_lt (G8 (hm _ _ _ e3))
  · have x:=Ext.laid R3.sub hp (.tup us)
    have R4:=R3.ext x
    have t2:=R4.top
    have tv:Rep X.K _ as3 v t:=R4.pend _ (List.mem_cons_of_mem _ List.mem_cons_self)
    cases t2 with
    | @obj _ a ha =>
      obtain ⟨a',h1,h2,vs,h3,h4⟩:=R4.sto.at' n _ e4
      rw [ha] at h1; cases h1
      have ey:=Xu rs e5
      subst ey
      refine ⟨a,_,rfl,a4r.t h3 j5 (by rw [h4.length]; exact Nat.lt_of_lt_of_le hl ou),q _ _ _ as3 (R4.drop.drop.a7e e4 ha ⟨_,j5,h4.put tv⟩)⟩
end
end C
end
noncomputable section
set_option linter.all false
set_option autoImplicit false
namespace C
open PySem PySem.W PyProof.Rows
end C
end
noncomputable section
set_option linter.all false
set_option maxRecDepth 100000
set_option maxHeartbeats 4000002
set_option autoImplicit false
namespace C
open PySem PySem.Spec PyProof.Rows L2
theorem a4h {t u w:T} (h:neO t u=some w):∃ b,w=.bl b:=by
  unfold neO at h
  split at h
  · cases h; exact ⟨_,rfl⟩
  · cases h
noncomputable section
variable {X:Cx} {B:Bas} {a b c e:Expr} {m:M T} {pos p:Pos} {u v:S}
end
end C
end
noncomputable section
set_option linter.all false
set_option maxRecDepth 100000
set_option maxHeartbeats 4000002
namespace HT
open PySem PyProof.Rows
noncomputable section
variable {prog:Program} {w:World} {A:Around} {E:Value→Shared→Prop} {s:Shared}
end
end HT
namespace C
open PySem PySem.Spec PyProof.Rows L2
noncomputable section
variable {X:Cx} {B:Bas} {a:Expr} {m:M T} {ml mh:M (Option Int)} {lo hi:Option Expr} {pos p2:Pos}
end
end C
end
noncomputable section
set_option linter.all false
set_option maxRecDepth 100000
set_option maxHeartbeats 4000002
set_option autoImplicit false
namespace C
open PySem PySem.W PySem.Spec PyProof.Rows L2
inductive a5k (h:Heap):List Value→List Str→Prop where
  | nil:a5k h [] []
  | cons {a:Addr} {o:Obj} {xs:List Value} {n:Nat} {x:Str} {t:Tok} {vs:List Value} {l:List Str}:h.get? a=some o→o.cls=.type "tuple" → o.data=.seq (Value.str x t::xs).toArray n→a5k h vs l→a5k h (.ref a::vs) (x::l)
theorem a5k.length {h:Heap}:∀ {vs:List Value} {l:List Str},a5k h vs l→vs.length=l.length
  | _,_,.nil=>rfl
  | _,_,.cons _ _ _ r=>congrArg (· + 1) r.length
theorem a5k.get {h:Heap}:∀ {vs:List Value} {l:List Str} (i:Nat),a5k h vs l→i<l.length→∃ a o xs n t,vs.getD i Value.none=.ref a∧h.get? a=some o∧o.data=.seq (Value.str (l.getD i "") t::xs).toArray n
  | _,_,_,.nil,hi=>absurd hi (Nat.not_lt_zero _)
  | _,_,0,.cons a b c r,_=>⟨_,_,_,_,_,rfl,a,c⟩
  | _,_,i+1,.cons a b c r,hi=>by
    obtain ⟨a,o,xs,n,t,e1,e2,e3⟩:=r.get i (Nat.lt_of_succ_lt_succ hi)
    exact ⟨a,o,xs,n,t,by simpa using e1,e2,by simpa using e3⟩
noncomputable section
variable {prog:Program} {w:World} {A:Around} {E:Value→Shared→Prop} {s:Shared}
end
noncomputable section
variable {X:Cx} {pins:List (Addr × Obj)} {σ:L2.St} {H S:Hp} {s:Shared} {as:List Addr}
end
end C
end
noncomputable section
set_option linter.all false
set_option maxRecDepth 100000
set_option autoImplicit false
namespace C
open PySem L2
theorem Jw {a b:M T} {ts:List T} {s s':Sta} (h:Dg a b s=some (ts,s')):∃ (lo hi:Int) (s1:Sta),a s=some (.int lo,s1)∧b s1=some (.int hi,s')∧(-1000000<lo∧lo<1000000∧-1000000<hi∧hi<1000000)∧ts=Eu lo (hi - lo).toNat:=by
  unfold Dg at h
  split at h
  · rename_i lo s1 e1
    split at h
    · rename_i hi s2 e2
      split at h
      · rename_i hl; cases h; exact ⟨lo,hi,s1,e1,e2,by have:lo.natAbs<1000000∧hi.natAbs<1000000:=hl; (clear e2 hl e1; omega),rfl⟩
      · cases h
    · cases h
  · cases h
theorem Tc {lo:Int} {n i:Nat} {t:T} (h:(Eu lo n)[i]? = some t):i<n∧t=.int (lo+(i:Int)):=by
  unfold Eu at h
  rw [List.getElem?_map] at h
  cases z:(List.range n)[i]? with
  | none=>rw [z] at h; cases h
  | some k =>
    rw [z] at h; cases h
    obtain ⟨hi,e⟩:=List.getElem?_eq_some_iff.mp z
    rw [List.getElem_range] at e; subst e
    rw [List.length_range] at hi
    exact ⟨hi,rfl⟩
theorem a02 {m1 m2:M T}:∀ st ts st',Dg m1 m2 st=some (ts,st')→ts.length≤sizeLine:=fun st ts st' e=>by
  obtain ⟨lo,hi,s1,_,_,hl,rfl⟩:=Jw e
  unfold Eu
  rw [List.length_map,List.length_range,sizeLine_eq]
  omega
noncomputable section
variable {X:Cx} {B:Bas} {a b tg:Expr} {m1 m2:M T} {pos p:Pos}
theorem Zd (hg:Gl X "range") (hm:X.mg "range" = none) (h1:PE X a (tOf X.K B m1)) (h2:PE X b (tOf X.K B m2)) (hs:starEach [a,b] X.env=[(false,eval a X.env),(false,eval b X.env)]:=by rfl) (hs2:starEach [b] X.env=[(false,eval b X.env)]:=by rfl) :
    PI X tg (.Call (.Name "range" p) [a,b] [] pos) (iOf X.K B (Dg m1 m2)):=by
  intro pins s σ H R I hw
  refine Y5 (ta:=Vr (tOf X.K B m1) (Vr (tOf X.K B m2) a81)) hg hm (su h1 (su h2 wz hs2) (by rw [hs,hs2])) hs hs2 pins s σ H R I ?_
  obtain ⟨st,ps,S,as,Rl,ts,st',e,hz,q⟩:=hw
  obtain ⟨lo,hi,s1,e1,e2,hl,rfl⟩:=Jw e
  refine ⟨st,ps,S,as,Rl,_,_,e1,fun v H1 S1 as1 R1=>⟨s1,_,S1,as1,R1,_,_,e2,fun u H2 S2 as2 R2=>?_⟩⟩
  have t2:=R2.top
  have t1:=R2.top2
  cases t2
  cases t1
  refine ⟨lo,hi,rfl,by (clear R2 R1 q hz e e2 e1 Rl I hs2 hs h2 h1 hm hg; omega),q _ H2 S2 as2 [] R2.drop.drop fun S3 as3 H3 _ hh=>⟨fun i t e=>?_,fun i hj=>?_⟩⟩
  · obtain ⟨hi,rfl⟩:=Tc e
    refine ⟨hi,fun x H' y=>⟨S3,by rw [y.1]; exact Ext.refl hh,?_⟩⟩
    have:=y.2; subst this
    exact .int _
  · show (hi - lo).toNat≤i
    unfold Eu at hj
    rwa [List.length_map,List.length_range] at hj
end
end C
end
noncomputable section
set_option linter.all false
set_option maxRecDepth 100000
set_option maxHeartbeats 4000002
set_option autoImplicit false
namespace C
open PySem PySem.Spec PyProof.Rows L2
noncomputable section
variable {K:PySem.W.Frag} {S:Hp} {as:List Addr}
end
noncomputable section
variable {X:Cx} {B:Bas} {a b e:Expr} {m m2:M T} {pos p1:Pos} {es:List Expr} {ms:M (List T)}
theorem Rel.base {K:PySem.W.Frag} {B:Bas} {st:Sta} {σ:L2.St} {H S:Hp} {ps:List (V × T)} {as:List Addr} (r:Rel K B st σ H ps S as):Rel K ⟨S,as,B.H⟩ st σ H ps S as :=
  ⟨r.sub,⟨Same.refl _,nol,fun p o h1 h2 h3=>by
    change S p=none at h2
    have b2:B.S p=none:=by
      cases q:B.S p with
      | none=>rfl
      | some u=>have:=r.grow.same _ _ q; rw [h2] at this; cases this
    have b3:p∉B.as:=fun q=>by obtain ⟨l,e⟩:=r.grow.more; exact h3 (by show p∈as; rw [e]; exact List.mem_append_left _ q)
    exact ⟨(r.grow.keep p o h1 b2 b3).1,h2,h3⟩⟩,fun i t f e=>by
      obtain ⟨v,h1,h2,h3⟩:=r.slots i t f e
      exact ⟨v,h1,h2,fun q=>by obtain ⟨p,ep,o⟩:=h3 q; exact ⟨p,ep,o.own,o.out,o.nas,o.new⟩⟩,r.apart,r.sto,r.pend,r.len⟩
end
end C
end
noncomputable section
set_option linter.all false
set_option maxRecDepth 100000
set_option maxHeartbeats 4000002
set_option autoImplicit false
namespace C
open PySem PySem.Spec
noncomputable section
variable {prog:Program} {w:World} {A:Around} {E:Value→Shared→Prop} {s:Shared} {it l:Addr} {xs:Array Value}
end
end C
end
noncomputable section
set_option linter.all false
set_option maxRecDepth 100000
set_option maxHeartbeats 4000002
set_option autoImplicit false
namespace C
open PySem PySem.Spec PyProof.Rows L2
noncomputable section
variable {X:Cx} {B:Bas} {a b e e1 e2:Expr} {m m1 m2:M T} {pos p1 p2 p3 p4:Pos} {lo hi:Option Expr} {ml mh:M (Option Int)}
theorem Rel.pin {K:PySem.W.Frag} {st:Sta} {σ:L2.St} {H S:Hp} {ps:List (V × T)} {as:List Addr} {p:Addr} {ob:HO} (r:Rel K B st σ H ps S as) (hp:H p=none) :
    Rel K ⟨S,as,upd B.H p ob⟩ st σ (upd H p ob) ps S as:=by
  obtain ⟨bD,sD,nD,no⟩:=r.fresh hp
  have r2:=(r.a6w (ob:=ob) bD sD nD no).base
  refine ⟨r2.sub,⟨Same.refl _,nol,fun q o h1 h2 h3=>?_⟩,fun i t f ei=>?_,r2.apart,r2.sto,r2.pend,r2.len⟩
  · by_cases hq:q=p
    · subst hq
      change upd B.H q ob q=some o at h1
      rw [j5] at h1
      cases h1
      exact ⟨j5,sD,nD⟩
    · change upd B.H p ob q=some o at h1
      rw [jt hq] at h1
      exact r2.grow.keep q o h1 h2 h3
  · obtain ⟨v,h1,h2,h3⟩:=r2.slots i t f ei
    refine ⟨v,h1,h2,fun q=>?_⟩
    obtain ⟨p',ep,o⟩:=h3 q
    refine ⟨p',ep,o.own,o.out,o.nas,?_⟩
    have:p'≠p:=fun z=>by
      subst z
      subst ep
      subst q
      exact no i t ei h1
    change upd B.H p ob p'=none
    rw [jt this]
    exact o.new
theorem Rel.aa8 {K:PySem.W.Frag} {st st':Sta} {σ σ':L2.St} {H H' S S':Hp} {ps ps':List (V × T)} {as as':List Addr} {p:Addr} {ob:HO} (r:Rel K B st σ H ps S as) (hp:H p=none) (r':Rel K ⟨S,as,upd B.H p ob⟩ st' σ' H' ps' S' as') :
    Rel K B st' σ' H' ps' S' as'∧H' p=some ob∧B.H p=none∧S' p=none∧p∉as'∧Iw st' σ' p:=by
  obtain ⟨bD,sD,nD,no⟩:=r.fresh hp
  obtain ⟨k1,k2,k3⟩:=r'.grow.keep p ob j5 sD nD
  refine ⟨⟨r'.sub,⟨r.grow.same.trans r'.grow.same,?_,fun q o h1 h2 h3=>?_⟩,fun i t f ei=>?_,r'.apart,r'.sto,r'.pend,r'.len⟩,k1,bD,k2,k3,fun i t ei es=>?_⟩
  · obtain ⟨l,el⟩:=r.grow.more
    obtain ⟨l',el'⟩:=r'.grow.more
    exact ⟨l++l',by rw [el',← List.append_assoc,← el]⟩
  · have hq:q≠p:=fun z=>by subst z; rw [bD] at h1; cases h1
    obtain ⟨x,y,z⟩:=r.grow.keep q o h1 h2 h3
    exact r'.grow.keep q o (by change upd B.H p ob q=some o; rw [jt hq]; exact h1) y z
  · obtain ⟨v,h1,h2,h3⟩:=r'.slots i t f ei
    refine ⟨v,h1,h2,fun q=>?_⟩
    obtain ⟨p',ep,o⟩:=h3 q
    have:p'≠p:=fun z=>by
      have:=o.new
      subst z
      change upd B.H p' ob p'=none at this
      rw [j5] at this; cases this
    exact ⟨p',ep,o.own,o.out,o.nas,by have:=o.new; change upd B.H p ob p'=none at this; rwa [jt ‹p'≠p›] at this⟩
  · obtain ⟨v,h1,h2,h3⟩:=r'.slots i t true ei
    obtain ⟨p',ep,o⟩:=h3 rfl
    rw [es] at h1
    cases h1
    cases ep
    have:=o.new
    change upd B.H p ob p=none at this
    rw [j5] at this; cases this
theorem a2s {k1 k2:Str} {j1 j2:Nat} (h1:∀ B,PE X e1 (tOf X.K B m1)) (h2:∀ B,PE X e2 (tOf X.K B m2)) (hk:k1≠k2) :
    PE X (.Dict [some (.Constant (.str k1) j1 p1),some (.Constant (.str k2) j2 p2)] [e1,e2] pos) (fOf X.K B (ig (Y4 k1 k2) (ak m1 (ak m2 dg)))) :=
  (a5e (V1 Yx (peE h1) (V1 Yx (peE h2) a6q)) rfl rfl (by simp) (by simp)).imp fun σ H Q z9=>by
    obtain ⟨st,ps,S,as,R,t,st',ev,q⟩:=z9
    intro p hp
    obtain ⟨ts,ea,eb⟩:=Aw ev
    obtain ⟨t1,s1,us,c1,cr,rfl⟩:=vg ea
    obtain ⟨t2,s2,us2,c2,cr2,rfl⟩:=vg cr
    cases cr2
    simp only [Y4] at eb
    cases eb
    refine ⟨_,st,ps,S,as,R.pin (ob:=.dK []) hp,t1,s1,c1,fun v1 H1 S1 as1 R1=>?_⟩
    refine ⟨_,s1,_,S1,as1,R1,t2,_,c2,fun v2 H2 S2 as2 R2=>?_⟩
    obtain ⟨R3,a1,a2,a3,a4,a5⟩:=R.aa8 hp R2
    refine ⟨a1,[(.inr k1,v1),(.inr k2,v2)],rfl,by simp,?_⟩
    have em:Kc [] [((.inr k1:L2.Key),v1),(.inr k2,v2)]=[(.inr k1,v1),(.inr k2,v2)]:=by
      have hne:¬ ((.inr k1:L2.Key)=.inr k2):=fun z=>hk (Sum.inr.inj z)
      simp [Kc,putK,hne]
    rw [em]
    exact q p _ S2 as2 (R3.drop.drop.a6w a2 a3 a4 a5) ⟨⟨_,j5,.cons R3.top2 (.cons R3.top .nil)⟩,a3,a4,a2⟩ a5
end
end C
end
noncomputable section
set_option linter.all false
set_option maxRecDepth 100000
set_option maxHeartbeats 4000002
set_option autoImplicit false
namespace C
open PySem PySem.Spec PyProof.Rows L2
noncomputable section
variable {X:Cx} {B:Bas} {e1:Expr} {m1:M T} {pos p1:Pos}
end
end C
end
noncomputable section
namespace C
open PySem
end C
end
noncomputable section
namespace C
noncomputable def a6h (a:M T):M (List T):=fun s=>match a s with
  | some (.lst xs,s1)=>if xs.length<lim then some (xs.reverse,s1) else none
  | _=>none
end C
end
noncomputable section
set_option linter.all false
set_option maxRecDepth 100000
set_option maxHeartbeats 4000002
set_option autoImplicit false
namespace C
open PySem PySem.Spec PyProof.Rows L2
noncomputable def Itb (K:PySem.W.Frag) (a:Addr) (n:Nat):It :=
  ⟨fun i H=>∃ xs x,SqL K H a xs∧xs.length=n∧xs.reverse[i]? = some x,fun i H x H'=>H'=H∧∀ xs,SqL K H a xs→xs.reverse[i]? = some x,fun i H=>∃ xs,SqL K H a xs∧xs.length=n∧n≤i⟩
theorem a1h {P:Program} {w:World} {K:PySem.W.Frag} {tg:Expr} (a it:Addr) (n:Nat):Turn P w K tg (Itb K a n) [it] it (fun i h=>i≤n∧h.IsRevIter it a ((n:Int) - 1 - (i:Int))) where
  mem:=by simp
  obj:=fun i h st b hb=>by
    have e:b=it:=by simpa using hb
    subst e
    obtain ⟨_,o,e,c,d⟩:=st
    exact ⟨o,e,fun v z=>by rw [d] at z; cases z⟩
  keep:=fun i h h' st k=>⟨st.1,st.2.at fun o e=>k it (by simp) o e⟩
  item:=by
    intro X hP hw hK hc i pins s σ H E I hf st hg
    subst hP hw hK
    obtain ⟨hi,st⟩:=st
    obtain ⟨xs,x,hq,hn,hx⟩:=hg
    obtain ⟨its,rv,p,hz⟩:=I.list hq
    have lt:i<n:=by
      have:=(List.getElem?_eq_some_iff.mp hx).1
      rw [List.length_reverse,hn] at this; exact this
    have hx':xs[n - 1 - i]? = some x:=by
      rw [List.getElem?_reverse (by rw [hn]; exact lt),hn] at hx; exact hx
    obtain ⟨u,hu,ru⟩:=rv.get hx'
    obtain ⟨f0,f1,f2,f3,f4,f5⟩:=hf it (by simp)
    have e1:(n:Int) - 1 - (i:Int)=((n - 1 - i:Nat):Int):=by omega
    rw [e1] at st
    refine wpAny_pyNext_rev_item st p.isList (x:=u) (by simpa using hu) fun h' st' sb=>?_
    have I1:Inv X pins σ H { s with heap:=h' }:=I.turned (t':=s.toks) (fun b o hb e=>(sb.2 b hb).trans e) f0 f1 f3 f4 f5
    obtain ⟨o,e,c,d⟩:=id st'
    have e2:((n - 1 - i:Nat):Int) - 1=(n:Int) - 1 - ((i+1:Nat):Int):=by omega
    rw [e2] at st'
    exact ⟨u,rfl,a1d (s:={ s with heap:=h' }) e c d (by decide) ⟨x,H,I1,ru,⟨rfl,fun ys hy=>by rw [I.Nr hy hq]; exact hx⟩,⟨lt,st'⟩,fun b hb=>(hf b hb).1⟩⟩
  done:=by
    intro X hP hw hK hc i pins s σ H E I hf st hg
    subst hP hw hK
    obtain ⟨hi,st⟩:=st
    obtain ⟨xs,hq,hn,hx⟩:=hg
    obtain ⟨f0,f1,f2,f3,f4,f5⟩:=hf it (by simp)
    have e1:(n:Int) - 1 - (i:Int) = -1:=by omega
    rw [e1] at st
    exact wpAny_pyNext_rev_end (I.ok.hd hc) st fun h' eb=>⟨rfl,I.turned (t':=s.toks) (fun b o hb e=>eb b o hb e) f0 f1 f3 f4 f5⟩
  self:=fun _ _ _ _ _ st h=>wpAny_pyIter_revIter st.2 h
theorem itB {K:PySem.W.Frag} {S:Hp} {as:List Addr} {H:Hp} {p:Addr} {vs:List V} {ts:List T} {n:Nat} (sub:Same S H) (h:SqL K H p vs) (hn:vs.length=n) (r:u6 K S as vs ts):Jm K S as H (Itb K p n) ts.reverse where
  go:=fun i t e=>by
    obtain ⟨v,hv,rv⟩:=(r.reverse).get e
    exact ⟨⟨vs,v,h,hn,hv⟩,fun x H' y=>⟨S,by rw [y.1]; exact Ext.refl sub,by have:=y.2 vs h; rw [hv] at this; cases this; exact rv⟩⟩
  stop:=fun i hi=>⟨vs,h,hn,by rw [← hn,r.length,← List.length_reverse]; exact hi⟩
theorem a9b {m:M T}:∀ st ts st',a6h m st=some (ts,st')→ts.length≤sizeLine:=fun st ts st' e=>by
  unfold a6h at e
  split at e
  · split at e
    · rename_i h; cases e; rw [List.length_reverse]; exact Nat.le_trans (Nat.le_of_lt h) ou
    · cases e
  · cases e
noncomputable section
variable {X:Cx} {B:Bas} {tg a:Expr} {m:M T} {p2 p3:Pos}
theorem a9j (hg2:Gl X "reversed") (hm2:X.mg "reversed" = none) (ha:PE X a (tOf X.K B m))
    (hs:starEach [a] X.env=(false,eval a X.env)::starEach [] X.env:=by rfl) (hp2:(backTo p3 (starEach [] X.env)).any (·.1)=false:=by rfl) :
    PI X tg (.Call (.Name "reversed" p2) [a] [] p3) (iOf X.K B (a6h m)):=by
  intro pins s σ H R I hw
  obtain ⟨st,ps,S,as,Rl,ts,st',e,hz,q⟩:=hw
  unfold a6h at e
  split at e
  · rename_i xs s1 e1
    split at e
    · rename_i hl
      cases e
      have pa:=su ha wz hs
      refine Call_ (Ly I hg2 hm2 (by rfl) (PyProof.Rows.callWith_type1 (thn (pa p3 pins s σ H (fun vs H2=>∃ c ws S2 as2,vs=[.ref c]∧Rel X.K B st' σ H2 ((.ref c,.lst xs)::ps) S2 as2∧SqL X.K S2 c ws∧u6 X.K S2 as2 ws xs) I ?_) fun us s2 z=>?_) hs hp2))
      · refine ⟨st,ps,S,as,Rl,_,_,e1,fun v H1 S1 as1 R1=>?_⟩
        have tp:=R1.top
        cases tp with
        | @lst c ws _ g1 g2=>exact ⟨c,ws,S1,as1,rfl,R1,g1,g2⟩
      obtain ⟨vs,H1,I1,r1,c,ws,S2,as2,rfl,R2,g1,g2⟩:=z
      cases r1 with
      | cons r rr =>
        cases rr
        cases r
        obtain ⟨its,rv,pl,hz'⟩:=I1.list (jx R2.sub g1)
        have hn:ws.length=its.toArray.size:=by rw [rv.length]; simp
        refine call_reversed_list pl.isList ?_
        refine wpAny_pyIter_revIter (l:=c) (i:=(its.toArray.size:Int) - 1) ⟨_,Heap.get?_push_size _ rfl,rfl,rfl⟩ ?_
        refine ⟨s2.heap.objs.size,[s2.heap.objs.size],_,_,H1,rfl,I1.kept (t':=s2.toks) fun b o e=>Heap.get?_push_of_some _ e,a1h c _ its.toArray.size,⟨Nat.zero_le _,?_⟩,fun b hb=>?_,?_⟩
        · refine ⟨_,Heap.get?_push_size _ rfl,rfl,?_⟩
          show _=Data.fields #[.ref c,rawInt ((its.toArray.size:Int) - 1 - ((0:Nat):Int))]
          rw [show ((its.toArray.size:Int) - 1 - ((0:Nat):Int))=(its.toArray.size:Int) - 1 by omega]
          rfl
        · have e:b=s2.heap.objs.size:=by simpa using hb
          subst e
          exact I1.a84 (Nat.le_refl _) (I1.hok.fresh (Nat.le_refl _))
        · refine q _ H1 S2 as2 [(.ref c,.lst xs)] R2 fun S3 as3 H3 hp hh=>?_
          have:=hp _ List.mem_cons_self
          cases this with
          | @lst _ vs2 _ hs2 hr2 =>
            refine itB hh (jx hh hs2) ?_ hr2
            rw [hr2.length,← g2.length,hn]
    · cases e
  · cases e
end
end C
end
noncomputable section
set_option linter.all false
namespace K
open C PySem
noncomputable def uz:Fn:=j9 6
  (j8 (sNew 2 (au (.dic [])))
  (j8 (uo (qj [3,4]) (m5 (bf 1))
  (qu 2 (bf 3) (mOp u5 (Gj 2 (bf 3) (au (.int 0))) (bf 4))))
  (j8 (nj 5 (mj 1 [2] (hName 0) (m5 (ig Mz (ak (bf 2) dg))) (iu (mOp neO (mOp cu (bf 1) (bf 0)) (au (.int 0)))) (ig (fun l=>some (.tup l)) (ak (bf 0) (ak (mOp cu (bf 1) (bf 0)) dg)))))
  (jz (ig (fun l=>some (.tup l)) (ak (bf 0) (ak (ig Bm (ak (bf 5) dg)) dg)))))))
noncomputable def K6:Fn:=j9 2
  (jz (dw uz (ak (mOp u5 (mOp cu (bf 0) (au (.int 0))) (mOp cu (bf 1) (au (.int 0)))) (ak (mOp u5 (mOp cu (bf 0) (au (.int 1))) (mOp cu (bf 1) (au (.int 1)))) dg))))
noncomputable def Yd:Fn:=j9 2
  (jz (dw uz (ak (mOp O7 (mOp cu (bf 0) (au (.int 0))) (bf 1)) (ak (mj 2 [1] (qj [0,1]) (m5 (mOp cu (bf 0) (au (.int 1)))) jm (ig (fun l=>some (.tup l)) (ak (bf 0) (ak (mOp O7 (bf 1) (bf 2)) dg)))) dg))))
noncomputable def qz:Fn:=j9 2
  (jz (dw K6 (ak (bf 0) (ak (dw Yd (ak (bf 1) (ak (mUn Bo (au (.int 1))) dg))) dg))))
noncomputable def Dn:Fn:=j9 2
  (jz (mOp u5 (mOp cu (bf 0) (au (.int 0))) (ig a9p (ak (mj 2 [1] (qj [0,1]) (m5 (mOp cu (bf 0) (au (.int 1)))) jm (mOp O7 (bf 1) (mOp cu (bf 2) (bf 0)))) dg))))
noncomputable def Q6:Fn:=j9 7
  (j8 (nj 2 (mOp cu (bf 0) (au (.int 0))))
  (j8 (sNew 3 (ig (fun l=>some (.lst l)) dg))
  (j8 (uo (qj [4,5]) (m5 (mOp cu (bf 0) (au (.int 1))))
  (j8 (nj 6 (ig a8m (ak (bf 1) (ak (bf 4) (ak (ig (fun l=>some (.tup l)) (ak (au (.int 0)) (ak (ig (fun l=>some (.tup l)) (ak (ig (fun l=>some (.tup l)) (ak (bf 4) (ak (au (.int 1)) dg))) dg)) dg))) dg)))))
  (j8 (nj 2 (mOp u5 (bf 2) (mOp O7 (bf 5) (mOp cu (bf 6) (au (.int 0))))))
  (j4 3 (mOp cu (dw Yd (ak (bf 6) (ak (bf 5) dg))) (au (.int 1)))))))
  (jz (dw uz (ak (bf 2) (ak (bf 3) dg)))))))
mutual
noncomputable def rm:Nat→Fn
  | 0=>fun _ _=>none
  | n+1=>j9 4
      (j8 (nj 3 (mOp cu (bf 0) (au (.int 0))))
      (j8 (sIf (iu (mOp eqO (bf 3) (au (.str "most"))))
      (jz (mOp leT (dw Dn (ak (mOp cu (bf 0) (au (.int 1))) (ak (bf 1) dg))) (au (.int 0))))
      tu)
      (j8 (sIf (iu (mOp eqO (bf 3) (au (.str "rest"))))
      (jz (mOp eqO (mOp uy (dw Dn (ak (mOp cu (bf 0) (au (.int 1))) (ak (bf 1) dg))) (mOp cu (bf 0) (au (.int 2)))) (au (.int 0))))
      tu)
      (j8 (sIf (iu (mOp eqO (bf 3) (au (.str "at"))))
      (jz (mOp eqO (mOp cu (bf 2) (mOp cu (bf 0) (au (.int 1)))) (mOp cu (bf 0) (au (.int 2)))))
      tu)
      (j8 (sIf (iu (mOp eqO (bf 3) (au (.str "not"))))
      (jz (qb (yw (iu (dw (rm n) (ak (mOp cu (bf 0) (au (.int 1))) (ak (bf 1) (ak (bf 2) dg))))))))
      tu)
      (j8 (sIf (iu (mOp eqO (bf 3) (au (.str "and"))))
      (jz (qb (yw (iu (dw (yr n) (ak (au (.bl false)) (ak (mOp cu (bf 0) (au (.int 1))) (ak (bf 1) (ak (bf 2) dg)))))))))
      tu)
      (jz (dw (yr n) (ak (au (.bl true)) (ak (mOp cu (bf 0) (au (.int 1))) (ak (bf 1) (ak (bf 2) dg))))))))))))
noncomputable def yr:Nat→Fn
  | 0=>fun _ _=>none
  | n+1=>j9 5
      (j8 (uo (hName 4) (m5 (bf 1))
      (sIf (iu (mOp eqO (dw (rm n) (ak (bf 4) (ak (bf 2) (ak (bf 3) dg)))) (bf 0)))
      (jz (au (.bl true)))
      tu))
      (jz (au (.bl false))))
end
noncomputable def u9:Fn:=j9 3
  (j8 (sIf (iu (mOp neO (mOp cu (bf 0) (au (.int 1))) (bf 1)))
  (jz (bf 0))
  tu)
  (jz (mIf (iu (mOp eqO (mOp cu (bf 0) (au (.int 2))) (bf 2))) (au (.tup [(.str "and"),(.tup [])])) (au (.tup [(.str "or"),(.tup [])])))))
mutual
noncomputable def j7:Nat→Fn
  | 0=>fun _ _=>none
  | n+1=>j9 5
      (j8 (nj 4 (mOp cu (bf 0) (au (.int 0))))
      (j8 (sIf (iu (mOp eqO (bf 4) (au (.str "most"))))
      (jz (ig (fun l=>some (.tup l)) (ak (au (.str "most")) (ak (dw Q6 (ak (mOp cu (bf 0) (au (.int 1))) (ak (bf 2) dg))) dg))))
      tu)
      (j8 (sIf (iu (mOp eqO (bf 4) (au (.str "rest"))))
      (jz (ig (fun l=>some (.tup l)) (ak (au (.str "rest")) (ak (dw Q6 (ak (mOp cu (bf 0) (au (.int 1))) (ak (bf 2) dg))) (ak (mOp cu (bf 0) (au (.int 2))) dg)))))
      tu)
      (j8 (sIf (iu (mOp eqO (bf 4) (au (.str "at"))))
      (jz (dw u9 (ak (bf 0) (ak (bf 1) (ak (bf 3) dg)))))
      tu)
      (j8 (sIf (iu (mOp eqO (bf 4) (au (.str "not"))))
      (jz (ig (fun l=>some (.tup l)) (ak (au (.str "not")) (ak (dw (j7 n) (ak (mOp cu (bf 0) (au (.int 1))) (ak (bf 1) (ak (bf 2) (ak (bf 3) dg))))) dg))))
      tu)
      (jz (ig (fun l=>some (.tup l)) (ak (bf 4) (ak (ig Bm (ak (mj 1 [1,2,3] (hName 0) (m5 (mOp cu (bf 0) (au (.int 1)))) jm (dw (j7 n) (ak (bf 0) (ak (bf 1) (ak (bf 2) (ak (bf 3) dg)))))) dg)) dg)))))))))
end
noncomputable def yq:Fn:=j9 4
  (jz (dw (j7 40) (ak (bf 0) (ak (bf 1) (ak (ig Jj (ak (bf 2) dg)) (ak (bf 3) dg))))))
noncomputable def uc:Fn:=j9 2
  (jz (dw (rm 40) (ak (bf 0) (ak (bf 1) (ak (au (.dic [])) dg)))))
noncomputable def jy:Fn:=j9 1
  (jz (mOp u5 (au (.str "@")) (bf 0)))
noncomputable def kh:Fn:=j9 2
  (jz (ig (fun l=>some (.tup l)) (ak (au (.str "and")) (ak (ig (fun l=>some (.tup l)) (ak (ig (fun l=>some (.tup l)) (ak (au (.str "most")) (ak (ig (fun l=>some (.tup l)) (ak (mUn Bo (bf 1)) (ak (ig (fun l=>some (.tup l)) (ak (ig (fun l=>some (.tup l)) (ak (bf 0) (ak (au (.int 1)) dg))) dg)) dg))) dg))) (ak (ig (fun l=>some (.tup l)) (ak (au (.str "most")) (ak (ig (fun l=>some (.tup l)) (ak (bf 1) (ak (ig (fun l=>some (.tup l)) (ak (ig (fun l=>some (.tup l)) (ak (bf 0) (ak (mUn Bo (au (.int 1))) dg))) dg)) dg))) dg))) dg))) dg))))
noncomputable def qt:Fn:=j9 2
  (jz (ig (fun l=>some (.tup l)) (ak (au (.str "or")) (ak (ig (fun l=>some (.tup l)) (ak (ig (fun l=>some (.tup l)) (ak (au (.str "most")) (ak (ig (fun l=>some (.tup l)) (ak (mOp Bg (au (.int 1)) (bf 1)) (ak (ig (fun l=>some (.tup l)) (ak (ig (fun l=>some (.tup l)) (ak (bf 0) (ak (au (.int 1)) dg))) dg)) dg))) dg))) (ak (ig (fun l=>some (.tup l)) (ak (au (.str "most")) (ak (ig (fun l=>some (.tup l)) (ak (mOp u5 (bf 1) (au (.int 1))) (ak (ig (fun l=>some (.tup l)) (ak (ig (fun l=>some (.tup l)) (ak (bf 0) (ak (mUn Bo (au (.int 1))) dg))) dg)) dg))) dg))) dg))) dg))))
mutual
noncomputable def gk:Nat→Fn
  | 0=>fun _ _=>none
  | n+1=>j9 2
      (j8 (nj 1 (mOp cu (bf 0) (au (.int 0))))
      (j8 (sIf (iu (mOp eqO (bf 1) (au (.str "at"))))
      (jz (dw kh (ak (dw jy (ak (mOp cu (bf 0) (au (.int 1))) dg)) (ak (mOp cu (bf 0) (au (.int 2))) dg))))
      tu)
      (j8 (sIf (iu (mOp eqO (bf 1) (au (.str "not"))))
      (jz (dw (fj n) (ak (mOp cu (bf 0) (au (.int 1))) dg)))
      tu)
      (j8 (sIf (iu (mOp inT (bf 1) (ig (fun l=>some (.tup l)) (ak (au (.str "and")) (ak (au (.str "or")) dg)))))
      (jz (ig (fun l=>some (.tup l)) (ak (bf 1) (ak (ig Bm (ak (mj 1 [] (hName 0) (m5 (mOp cu (bf 0) (au (.int 1)))) jm (dw (gk n) (ak (bf 0) dg))) dg)) dg))))
      tu)
      (jz (bf 0))))))
noncomputable def fj:Nat→Fn
  | 0=>fun _ _=>none
  | n+1=>j9 2
      (j8 (nj 1 (mOp cu (bf 0) (au (.int 0))))
      (j8 (sIf (iu (mOp eqO (bf 1) (au (.str "most"))))
      (jz (ig (fun l=>some (.tup l)) (ak (au (.str "most")) (ak (dw qz (ak (ig (fun l=>some (.tup l)) (ak (au (.int 1)) (ak (ig (fun l=>some (.tup l)) dg) dg))) (ak (mOp cu (bf 0) (au (.int 1))) dg))) dg))))
      tu)
      (j8 (sIf (iu (mOp eqO (bf 1) (au (.str "rest"))))
      (jz (ig (fun l=>some (.tup l)) (ak (au (.str "or")) (ak (ig Bm (ak (mj 1 [0] (hName 0) (Dg (au (.int 1)) (mOp cu (bf 0) (au (.int 2)))) jm (ig (fun l=>some (.tup l)) (ak (au (.str "rest")) (ak (dw qz (ak (mOp cu (bf 1) (au (.int 1))) (ak (ig (fun l=>some (.tup l)) (ak (bf 0) (ak (ig (fun l=>some (.tup l)) dg) dg))) dg))) (ak (mOp cu (bf 1) (au (.int 2))) dg))))) dg)) dg))))
      tu)
      (j8 (sIf (iu (mOp eqO (bf 1) (au (.str "at"))))
      (jz (dw qt (ak (dw jy (ak (mOp cu (bf 0) (au (.int 1))) dg)) (ak (mOp cu (bf 0) (au (.int 2))) dg))))
      tu)
      (j8 (sIf (iu (mOp eqO (bf 1) (au (.str "not"))))
      (jz (dw (gk n) (ak (mOp cu (bf 0) (au (.int 1))) dg)))
      tu)
      (jz (ig (fun l=>some (.tup l)) (ak (mUn (abk [("and","or"),("or","and")]) (bf 1)) (ak (ig Bm (ak (mj 1 [] (hName 0) (m5 (mOp cu (bf 0) (au (.int 1)))) jm (dw (fj n) (ak (bf 0) dg))) dg)) dg)))))))))
end
noncomputable def vq:Fn:=j9 5
  (j8 (sNew 2 (ig (fun l=>some (.lst l)) dg))
  (j8 (uo (qj [3,4]) (m5 (mOp cu (bf 0) (au (.int 1))))
  (sIf (iu (mOp neO (bf 3) (mOp cu (mOp cu (mOp cu (bf 0) (au (.int 2))) (bf 1)) (au (.int 0)))))
  (j4 2 (mj 1 [1,3] (hName 0) (ji (bf 4)) jm (ig (fun l=>some (.tup l)) (ak (au (.str "other")) (ak (bf 1) (ak (bf 2) (ak (bf 0) dg)))))))
  tu))
  (jz (bf 2))))
noncomputable def wg:Fn:=j9 4
  (j8 (nj 1 (ig Ml (ak (ig yg (ak (mOp cu (bf 0) (au (.int 2))) dg)) dg)))
  (j8 (sNew 2 (mj 2 [] (qj [0,1]) (m5 (mOp cu (bf 0) (au (.int 1)))) jm (ig (fun l=>some (.tup l)) (ak (au (.str "start")) (ak (bf 0) dg)))))
  (j8 (j4 2 (mj 1 [] (hName 0) (m5 (bf 1)) jm (ig (fun l=>some (.tup l)) (ak (au (.str "own")) (ak (bf 0) dg)))))
  (j8 (uo (hName 3) (m5 (bf 1))
  (j4 2 (dw vq (ak (bf 0) (ak (bf 3) dg)))))
  (jz (bf 2))))))
noncomputable def ql:Fn:=j9 3
  (jz (ig (fun l=>some (.tup l)) (ak (au (.str "and")) (ak (ig (fun l=>some (.tup l)) (ak (ig (fun l=>some (.tup l)) (ak (au (.str "most")) (ak (dw qz (ak (bf 1) (ak (bf 0) dg))) dg))) (ak (ig (fun l=>some (.tup l)) (ak (au (.str "most")) (ak (dw qz (ak (bf 0) (ak (bf 2) dg))) dg))) dg))) dg))))
noncomputable def qx:Fn:=j9 8
  (j8 (sNew 2 (au (.dic [])))
  (j8 (uo (qj [3,4,5,6,7]) (m5 (mOp cu (bf 0) (au (.int 0))))
  (qu 2 (bf 3) (ig (fun l=>some (.tup l)) (ak (ig (fun l=>some (.tup l)) (ak (bf 5) (ak (ig (fun l=>some (.tup l)) dg) dg))) (ak (ig (fun l=>some (.tup l)) (ak (bf 6) (ak (ig (fun l=>some (.tup l)) dg) dg))) dg)))))
  (jz (mj 2 [2] (qj [0,1]) (m5 (bf 1)) jm (dw ql (ak (bf 1) (ak (mOp cu (mOp cu (bf 2) (bf 0)) (au (.int 0))) (ak (mOp cu (mOp cu (bf 2) (bf 0)) (au (.int 1))) dg))))))))
noncomputable def o9:Fn:=j9 6
  (j8 (sNx (nj 4 (mOp u5 (ig (fun l=>some (.lst l)) (ak (ig (fun l=>some (.tup l)) (ak (mOp cu (bf 2) (au (.int 0))) (ak (mOp cu (bf 2) (au (.int 1))) dg))) dg)) (bf 3))))
  (j8 (sNx (sNew 5 (mj 2 [] (qj [0,1]) (m5 (bf 4)) jm (dw (gk 40) (ak (ig (fun l=>some (.tup l)) (ak (au (.str "at")) (ak (bf 0) (ak (bf 1) dg)))) dg)))))
  (j8 (sNx (j4 5 (mj 1 [1] (hName 0) (m5 (bf 4)) jm (dw (gk 40) (ak (n6 (bf 1) (bf 0)) dg)))))
  (j8 (sNx (j6 5 (dw (gk 40) (ak (mOp cu (bf 2) (au (.int 2))) dg))))
  (j8 (sNx (j4 5 (dw qx (ak (bf 0) (ak (mOp cu (bf 2) (au (.int 3))) dg)))))
  (jh 5))))))
noncomputable def lu:Fn:=j9 6
  (j8 (sNew 5 (dw o9 (ak (bf 0) (ak (bf 1) (ak (bf 2) (ak (bf 3) dg))))))
  (j8 (j6 5 (dw (fj 40) (ak (dw yq (ak (bf 4) (ak (mOp cu (bf 2) (au (.int 0))) (ak (mOp cu (bf 2) (au (.int 3))) (ak (mOp cu (bf 2) (au (.int 4))) dg))))) dg)))
  (jz (bf 5))))
noncomputable def ud:Fn:=j9 4
  (j8 (sNew 3 (mj 1 [] (hName 0) (m5 (mOp cu (bf 0) (au (.int 0)))) jm (dw kh (ak (mOp cu (bf 0) (au (.int 0))) (ak (mOp cu (bf 0) (au (.int 4))) dg)))))
  (j8 (j4 3 (mj 2 [] (qj [0,1]) (m5 (mOp cu (bf 0) (au (.int 1)))) jm (dw kh (ak (dw jy (ak (bf 0) dg)) (ak (au (.int 0)) dg)))))
  (j8 (j6 3 (dw (fj 40) (ak (n6 (bf 1) (ig (fun l=>some (.tup l)) (ak (bf 2) (ak (au (.int 0)) dg)))) dg)))
  (jz (bf 3)))))
noncomputable def jo:Fn:=j9 6
  (j8 (sIf (iu (mOp eqO (mOp cu (bf 2) (au (.int 0))) (au (.str "start"))))
  (jz (dw ud (ak (bf 0) (ak (bf 1) (ak (mOp cu (bf 2) (au (.int 1))) dg)))))
  tu)
  (j8 (nj 3 (mOp cu (mOp cu (bf 0) (au (.int 2))) (mOp cu (bf 2) (au (.int 1)))))
  (j8 (sIf (iu (mOp eqO (mOp cu (bf 2) (au (.int 0))) (au (.str "own"))))
  (j8 (nj 4 (n6 (bf 1) (ig (fun l=>some (.tup l)) (ak (mOp cu (bf 3) (au (.int 0))) (ak (mOp cu (bf 3) (au (.int 4))) dg)))))
  (jz (dw lu (ak (bf 0) (ak (bf 1) (ak (bf 3) (ak (ig (fun l=>some (.lst l)) dg) (ak (bf 4) dg))))))))
  tu)
  (j8 (nj 5 (ig (fun l=>some (.tup l)) (ak (mOp cu (bf 2) (au (.int 2))) (ak (mOp cu (bf 2) (au (.int 3))) dg))))
  (jz (dw lu (ak (bf 0) (ak (bf 1) (ak (bf 3) (ak (ig (fun l=>some (.lst l)) (ak (bf 5) dg)) (ak (n6 (bf 1) (bf 5)) dg)))))))))))
noncomputable def jj:Fn:=j9 2
  (j8 (sIf (iu (mOp ltT (bf 1) (ig yg (ak (bf 0) dg))))
  (jz (mOp cu (bf 0) (bf 1)))
  tu)
  (jz (au (.int 0))))
noncomputable def o8:Fn:=j9 2
  (j8 (nj 1 (ig (fun l=>some (.lst l)) (ak (ig (fun l=>some (.tup l)) (ak (au (.str "x")) (ak (mOp Bg (mOp uy (mOp ju (bf 0) (au (.int 7))) (au (.int 3))) (au (.int 1))) dg))) (ak (ig (fun l=>some (.tup l)) (ak (au (.str "y")) (ak (mOp Bg (mOp uy (mOp ju (bf 0) (au (.int 21))) (au (.int 3))) (au (.int 1))) dg))) dg))))
  (jz (ig (fun l=>some (.tup l)) (ak (mOp Bg (mOp uy (bf 0) (au (.int 7))) (au (.int 3))) (ak (ig Bm (ak (mj 1 [] (hName 0) (m5 (bf 1)) (iu (mOp neO (mOp cu (bf 0) (au (.int 1))) (au (.int 0)))) (bf 0)) dg)) dg)))))
noncomputable def ni:Fn:=j9 2
  (j8 (sIf (iu (mOp eqO (mOp uy (bf 0) (au (.int 4))) (au (.int 0))))
  (jz (ig (fun l=>some (.tup l)) (ak (au (.str "most")) (ak (dw o8 (ak (mOp ju (bf 0) (au (.int 4))) dg)) dg))))
  tu)
  (j8 (sIf (iu (mOp eqO (mOp uy (bf 0) (au (.int 4))) (au (.int 1))))
  (jz (ig (fun l=>some (.tup l)) (ak (au (.str "at")) (ak (mOp cu (au (.str "qpr")) (mOp uy (mOp ju (bf 0) (au (.int 4))) (bf 1))) (ak (mOp uy (mOp ju (bf 0) (au (.int 12))) (au (.int 2))) dg)))))
  tu)
  (j8 (sIf (iu (mOp eqO (mOp uy (bf 0) (au (.int 4))) (au (.int 2))))
  (jz (ig (fun l=>some (.tup l)) (ak (au (.str "rest")) (ak (dw o8 (ak (mOp ju (bf 0) (au (.int 44))) dg)) (ak (mOp u5 (au (.int 2)) (mOp uy (mOp ju (bf 0) (au (.int 4))) (au (.int 11)))) dg)))))
  tu)
  (jz (ig (fun l=>some (.tup l)) (ak (au (.str "and")) (ak (ig (fun l=>some (.tup l)) dg) dg)))))))
noncomputable def jq:Fn:=j9 6
  (j8 (nj 2 (dw ni (ak (mOp ju (bf 0) (au (.int 4))) (ak (bf 1) dg))))
  (j8 (nj 3 (dw ni (ak (mOp ju (bf 0) (au (.int 4000))) (ak (bf 1) dg))))
  (j8 (nj 4 (dw ni (ak (mOp ju (bf 0) (au (.int 50))) (ak (bf 1) dg))))
  (j8 (nj 5 (ig (fun l=>some (.lst l)) (ak (bf 2) (ak (ig (fun l=>some (.tup l)) (ak (au (.str "and")) (ak (ig (fun l=>some (.tup l)) dg) dg))) (ak (ig (fun l=>some (.tup l)) (ak (au (.str "or")) (ak (ig (fun l=>some (.tup l)) (ak (bf 2) (ak (bf 3) dg))) dg))) (ak (ig (fun l=>some (.tup l)) (ak (au (.str "not")) (ak (bf 2) dg))) dg))))))
  (j8 (sIf (iu (mOp eqO (mOp uy (mOp ju (bf 0) (au (.int 4))) (au (.int 3))) (au (.int 1))))
  (nj 5 (ig (fun l=>some (.lst l)) (ak (ig (fun l=>some (.tup l)) (ak (au (.str "and")) (ak (ig (fun l=>some (.tup l)) (ak (bf 2) (ak (ig (fun l=>some (.tup l)) (ak (au (.str "and")) (ak (ig (fun l=>some (.tup l)) dg) dg))) (ak (bf 3) (ak (bf 4) dg))))) dg))) (ak (bf 2) (ak (ig (fun l=>some (.tup l)) (ak (au (.str "or")) (ak (ig (fun l=>some (.tup l)) (ak (bf 2) (ak (bf 3) (ak (ig (fun l=>some (.tup l)) (ak (au (.str "or")) (ak (ig (fun l=>some (.tup l)) dg) dg))) (ak (bf 4) dg))))) dg))) (ak (bf 2) dg))))))
  tu)
  (jz (mOp cu (bf 5) (mOp uy (bf 0) (au (.int 4))))))))))
noncomputable def v7:Fn:=j9 12
  (j8 (nj 1 (dw jj (ak (bf 0) (ak (au (.int 0)) dg))))
  (j8 (nj 2 (ig (fun l=>some (.lst l)) (ak (ig (fun l=>some (.tup l)) (ak (au (.str "x")) (ak (au (.str "")) (ak (au (.int 0)) (ak (mOp uy (bf 1) (au (.int 3))) (ak (mOp uy (mOp ju (bf 1) (au (.int 9))) (mOp u5 (au (.int 1)) (mOp uy (bf 1) (au (.int 3))))) dg)))))) (ak (ig (fun l=>some (.tup l)) (ak (au (.str "y")) (ak (au (.str "")) (ak (au (.int 0)) (ak (mOp uy (mOp ju (bf 1) (au (.int 3))) (au (.int 2))) (ak (au (.int 0)) dg)))))) dg))))
  (j8 (nj 3 (Cw (ig (fun l=>some (.lst l)) (ak (ig (fun l=>some (.tup l)) (ak (au (.str "q")) (ak (mOp u5 (au (.int 2)) (mOp uy (mOp ju (bf 1) (au (.int 27))) (au (.int 2)))) dg))) (ak (ig (fun l=>some (.tup l)) (ak (au (.str "p")) (ak (au (.int 2)) dg))) (ak (ig (fun l=>some (.tup l)) (ak (au (.str "r")) (ak (au (.int 2)) dg))) dg)))) Vk (Gz (mOp u5 (au (.int 1)) (mOp uy (mOp ju (bf 1) (au (.int 270))) (au (.int 3)))))))
  (j8 (sNew 4 (ig (fun l=>some (.lst l)) dg))
  (j8 (uo (hName 5) (ji (mOp uy (mOp ju (bf 1) (au (.int 54))) (au (.int 5))))
  (j8 (nj 6 (dw jj (ak (bf 0) (ak (mOp u5 (au (.int 1)) (bf 5)) dg))))
  (j8 (sGo (qj [7,8]) (mOp cu (bf 3) (mOp uy (bf 6) (ig yg (ak (bf 3) dg)))))
  (j8 (nj 9 (dw o8 (ak (mOp ju (bf 6) (au (.int 24))) dg)))
  (j8 (nj 10 (ig (fun l=>some (.lst l)) (ak (ig (fun l=>some (.tup l)) dg) (ak (ig (fun l=>some (.tup l)) (ak (ig (fun l=>some (.tup l)) (ak (au (.str "x")) (ak (bf 9) dg))) dg)) (ak (ig (fun l=>some (.tup l)) (ak (ig (fun l=>some (.tup l)) (ak (au (.str "x")) (ak (bf 9) dg))) (ak (ig (fun l=>some (.tup l)) (ak (au (.str "y")) (ak (dw o8 (ak (mOp ju (bf 6) (au (.int 1512))) dg)) dg))) dg))) dg)))))
  (j8 (nj 11 (dw jq (ak (mOp ju (bf 6) (au (.int 100000))) (ak (ig yg (ak (bf 3) dg)) dg))))
  (j6 4 (ig (fun l=>some (.tup l)) (ak (bf 7) (ak (mOp uy (mOp ju (bf 6) (au (.int 6))) (bf 8)) (ak (bf 11) (ak (mOp cu (bf 10) (mOp uy (mOp ju (bf 6) (au (.int 2))) (au (.int 3)))) (ak (mOp uy (mOp ju (bf 6) (au (.int 12))) (bf 8)) dg)))))))))))))
  (jz (ig (fun l=>some (.tup l)) (ak (bf 2) (ak (bf 3) (ak (bf 4) (ak (ig (fun l=>some (.tup l)) dg) dg)))))))))))
noncomputable def ug:Fn:=j9 7
  (j8 (nj 2 a03)
  (j8 (nj 3 (au (.int 6)))
  (j8 (uo (qj [4,5]) (m5 (mOp cu (bf 1) (au (.int 1))))
  (uo (hName 6) (ji (bf 5))
  (j8 (Et (bf 2) (ak (bf 4) (ak (bf 6) dg)) (dw jq (ak (dw jj (ak (bf 0) (ak (bf 3) dg))) (ak (ig yg (ak (mOp cu (bf 1) (au (.int 1))) dg)) dg))))
  (nj 3 (mOp u5 (bf 3) (au (.int 1)))))))
  (jz (bf 2)))))
noncomputable def Ag:Fn:=j9 9
  (j8 (nj 1 (mOp u5 (mj 1 [] (hName 0) (m5 (mOp cu (bf 0) (au (.int 0)))) jm (ig (fun l=>some (.tup l)) (ak (mOp cu (bf 0) (au (.int 0))) (ak (mOp cu (bf 0) (au (.int 3))) dg)))) (mj 2 [] (qj [0,1]) (m5 (mOp cu (bf 0) (au (.int 1)))) jm (ig (fun l=>some (.tup l)) (ak (mOp u5 (au (.str "@")) (bf 0)) (ak (mOp Bg (bf 1) (au (.int 1))) dg))))))
  (j8 (nj 2 (ig (fun l=>some (.lst l)) (ak (au (.dic [])) dg)))
  (j8 (uo (qj [3,4]) (m5 (bf 1))
  (j8 (sNew 5 (ig (fun l=>some (.lst l)) dg))
  (j8 (uo (hName 6) (m5 (bf 2))
  (uo (hName 7) (ji (mOp u5 (bf 4) (au (.int 1))))
  (j8 (sNew 8 (ig Jj (ak (bf 6) dg)))
  (j8 (qu 8 (bf 3) (bf 7))
  (j6 5 (bf 8))))))
  (nj 2 (bf 5)))))
  (jz (bf 2)))))
noncomputable def ur:Fn:=j9 4
  (j8 (sNew 1 (ig (Y4 "x" "y") (ak (mOp cu (mOp cu (mOp cu (bf 0) (au (.int 0))) (au (.int 0))) (au (.int 4))) (ak (au (.int 0)) dg))))
  (j8 (uo (qj [2,3]) (m5 (mOp cu (bf 0) (au (.int 1))))
  (qu 1 (mOp u5 (au (.str "@")) (bf 2)) (au (.int 0))))
  (jz (bf 1))))
mutual
noncomputable def iy:Nat→Fn
  | 0=>fun _ _=>none
  | n+1=>j9 4
      (j8 (sIf (mOr (iu (mOp eqO (mOp cu (bf 0) (au (.int 0))) (au (.str "most")))) (iu (mOp eqO (mOp cu (bf 0) (au (.int 0))) (au (.str "rest")))))
      (j8 (nj 2 (mOp u5 (mOp cu (mOp cu (bf 0) (au (.int 1))) (au (.int 0))) (ig a9p (ak (mj 2 [1] (qj [0,1]) (m5 (mOp cu (mOp cu (bf 0) (au (.int 1))) (au (.int 1)))) jm (mOp O7 (bf 1) (mOp cu (bf 2) (bf 0)))) dg))))
      (j8 (sIf (iu (mOp eqO (mOp cu (bf 0) (au (.int 0))) (au (.str "most"))))
      (jz (mOp leT (bf 2) (au (.int 0))))
      tu)
      (jz (mOp eqO (mOp uy (bf 2) (mOp cu (bf 0) (au (.int 2)))) (au (.int 0))))))
      tu)
      (j8 (sIf (iu (mOp eqO (mOp cu (bf 0) (au (.int 0))) (au (.str "at"))))
      (jz (mOp eqO (mOp cu (bf 1) (mOp u5 (au (.str "@")) (mOp cu (bf 0) (au (.int 1))))) (mOp cu (bf 0) (au (.int 2)))))
      tu)
      (j8 (sIf (iu (mOp eqO (mOp cu (bf 0) (au (.int 0))) (au (.str "not"))))
      (jz (qb (yw (iu (dw (iy n) (ak (mOp cu (bf 0) (au (.int 1))) (ak (bf 1) dg)))))))
      tu)
      (j8 (nj 3 (mj 1 [1] (hName 0) (m5 (mOp cu (bf 0) (au (.int 1)))) jm (dw (iy n) (ak (bf 0) (ak (bf 1) dg)))))
      (jz (mOp cu (ig (fun l=>some (.lst l)) (ak (ig aan (ak (bf 3) dg)) (ak (ig ab8 (ak (bf 3) dg)) dg))) (ig abw (ak (mOp eqO (mOp cu (bf 0) (au (.int 0))) (au (.str "or"))) dg))))))))
end
noncomputable def qy:Fn:=j9 3
  (j8 (uo (hName 2) (a6h (bf 0))
  (sIf (yw (iu (dw uc (ak (bf 2) (ak (bf 1) dg)))))
  (jz (au (.bl false)))
  tu))
  (jz (au (.bl true))))
noncomputable def yd:Fn:=j9 8
  (j8 (nj 4 (dw jo (ak (bf 0) (ak (bf 1) (ak (ig (fun l=>some (.tup l)) (ak (au (.str "start")) (ak (bf 3) dg))) dg)))))
  (j8 (nj 5 (dw ur (ak (bf 0) dg)))
  (j8 (uo (hName 6) (m5 (bf 2))
  (j8 (nj 7 (qb (Bu (iu (mOp eqO (bf 6) (bf 5))) (iu (qb (yw (iu (dw (iy 40) (ak (n6 (bf 1) (ig (fun l=>some (.tup l)) (ak (bf 3) (ak (au (.int 0)) dg)))) (ak (bf 6) dg))))))))))
  (sIf (iu (mOp neO (dw qy (ak (bf 4) (ak (bf 6) dg))) (bf 7)))
  (jz (au (.bl false)))
  tu)))
  (jz (au (.bl true))))))
noncomputable def Ab:Fn:=j9 18
  (j8 (sIf (iu (mOp eqO (ig yg (ak (mOp cu (bf 0) (au (.int 2))) dg)) (au (.int 0))))
  (jz (bf 1))
  tu)
  (j8 (nj 3 (mOp uy (bf 2) (ig yg (ak (mOp cu (bf 0) (au (.int 2))) dg))))
  (j8 (sGo (qj [4,5,6,7,8]) (mOp cu (mOp cu (bf 0) (au (.int 2))) (bf 3)))
  (j8 (sIf (mOr (iu (mOp neO (mOp cu (bf 1) (mOp u5 (au (.str "@")) (bf 4))) (bf 5))) (yw (iu (dw (iy 40) (ak (bf 6) (ak (bf 1) dg))))))
  (jz (bf 1))
  tu)
  (j8 (sNew 9 (ig Jj (ak (bf 1) dg)))
  (j8 (uo (qj [10,11]) (m5 (bf 7))
  (j8 (qu 9 (bf 10) (mOp cu (bf 11) (au (.int 0))))
  (uo (qj [12,13]) (m5 (mOp cu (bf 11) (au (.int 1))))
  (qu 9 (bf 10) (mOp u5 (wu 9 (bf 10)) (mOp O7 (bf 13) (mOp cu (bf 1) (bf 12))))))))
  (j8 (qu 9 (mOp u5 (au (.str "@")) (bf 4)) (bf 8))
  (j8 (uo (qj [12,14,15,16,17]) (m5 (mOp cu (bf 0) (au (.int 0))))
  (sIf (mOr (iu (mOp ltT (wu 9 (bf 12)) (bf 15))) (iu (mOp ltT (bf 16) (wu 9 (bf 12)))))
  (jz (bf 1))
  tu))
  (jz (bf 9))))))))))
noncomputable def a06:Fn:=j9 10
  (j8 (nj 1 (dw v7 (ak (bf 0) dg)))
  (j8 (nj 2 (dw ug (ak (bf 0) (ak (bf 1) dg))))
  (j8 (nj 3 (dw Ag (ak (bf 1) dg)))
  (j8 (uo (qj [4,5]) (m5 (mOp cu (bf 1) (au (.int 1))))
  (sIf (yw (iu (dw yd (ak (bf 1) (ak (bf 2) (ak (bf 3) (ak (bf 4) dg)))))))
  (jz (au (.bl false)))
  tu))
  (j8 (uo (hName 6) (m5 (dw wg (ak (bf 1) dg)))
  (j8 (nj 7 (dw jo (ak (bf 1) (ak (bf 2) (ak (bf 6) dg)))))
  (uo (hName 8) (m5 (bf 3))
  (sIf (iu (dw qy (ak (bf 7) (ak (bf 8) dg))))
  (jz (au (.bl true)))
  tu))))
  (j8 (nj 8 (dw ur (ak (bf 1) dg)))
  (j8 (uo (hName 9) (m5 (mOp u5 (ig (fun l=>some (.lst l)) (ak (au (.int 0)) dg)) (Cw (bf 0) (Gz (au (.int 1))) (Gz (au (.int 63))))))
  (j8 (uo (qj [4,5]) (m5 (mOp cu (bf 1) (au (.int 1))))
  (sIf (yw (iu (dw (iy 40) (ak (n6 (bf 2) (ig (fun l=>some (.tup l)) (ak (bf 4) (ak (mOp cu (bf 8) (mOp u5 (au (.str "@")) (bf 4))) dg)))) (ak (bf 8) dg)))))
  (jz (au (.bl false)))
  tu))
  (nj 8 (dw Ab (ak (bf 1) (ak (bf 8) (ak (bf 9) dg)))))))
  (jz (au (.bl true))))))))))
end K
end
noncomputable section
set_option linter.all false
set_option maxRecDepth 100000
set_option maxHeartbeats 8000000
namespace D
open PySem L2 C
noncomputable def top (i:Nat):Stmt:=PySem.Challenge.pw_calm_k43_the_start_and_all_stands.main.body.getD i (.Pass ⟨0,0,0,0⟩)
noncomputable section
variable {P:Program} {w:World} {K:PySem.W.Frag} {mg:Str→Option Value} {base:Heap} {f:Addr} {fd:FuncData}
noncomputable abbrev Iu:Stmt:=top 1
theorem Oo:jc ["number","pairs","times","box","many","parts"] ["number","pairs"] (gj Iu):=⟨rfl,rfl,rfl,by decide +kernel,rfl,by decide +kernel,by decide +kernel⟩
theorem Wx (F:Fun K "sum_of" "sum_of" Iu f fd) (b_sorted:mg "sorted" = none) (b_tuple:mg "tuple" = none):yc P w K mg base CX0 1 f fd ["number","pairs"] (spF K (["number","pairs"]:List Str).length _root_.K.uz):=by
  refine jl (N:=["number","pairs","times","box","many","parts"]) F Oo (by decide)  fun cdv A outer s H E B hr=>?_
  have hu:=um hr
  have hq:=hr.units
  have nd:(["number","pairs","times","box","many","parts"]:List Str).Nodup:=Oo.nd
  refine d8 ?_ ?_
  · exact Bt 2 (jk nd rfl (Or.inr rfl) Ma) (fun _ _ _ h=>h)
  · refine d8 ?_ ?_
    · refine uw ?_ ?_ ?_ ?_ ?_ ?_
      · exact PassesOwn.never
      · exact rfl
      · exact m8 (ao 1 (pv 1))
      · exact v8 (is:=[3,4]) (v9 rfl (gn (dz nd rfl (Or.inl rfl)) (gn (dz nd rfl (Or.inl rfl)) qg)))
      · exact fu (Ai 2 hu (pv 2) (ao 3 (pv 3)) (jf nu (Z2 2 hu (pv 2) (ao 3 (pv 3)) cj ⟨rfl,rfl,rfl,rfl⟩) (ao 4 (pv 4))) rfl)
      · exact m7
    · refine d8 ?_ ?_
      · exact jw 5 (Jc (N:=["box","times"]) ⟨rfl,rfl,by decide +kernel,by decide +kernel⟩ rfl (m8 (n8 (vp (Q0 (by rfl)) (by rfl) b_sorted PyProof.Rows.boot_sorted (aj (ao 2 (pv 2)) cg)))) (fun C s₀ H₀ ex pn=>pgE fun B=>(p8 0 (dz (show (["box","times"]:List Str).Nodup by decide +kernel) rfl (Or.inl rfl)))) (fun C s₀ H₀ ex pn=>(Us fun B=>(lg (Le hq) (gw hu (ao 1 (pv 1)) (ao 0 (pv 0)) (fun _ _=>rfl)) cj (jr _)))) (fun C s₀ H₀ ex pn=>peE fun B=>(g8 (aj (ao 0 (pv 0)) (aj (gw hu (ao 1 (pv 1)) (ao 0 (pv 0)) (fun _ _=>rfl)) cg)) (dh (aq (aq d7)) (by decide)))) (dz nd rfl (Or.inl rfl)) rfl) (fun σ H Q h=>Li ⟨rfl,fun j k h=>match j,h with | 0,h=>(by cases h; exact ⟨_,rfl,rfl,⟨.inl rfl,.inr (.inl rfl),.inl rfl⟩⟩) | _+1,h=>(by cases h)⟩ m7 (Z0 h))
      · exact fu (iz (g8 (aj (ao 0 (pv 0)) (aj (n8 (vh yp (by rfl) b_tuple PyProof.Rows.boot_tuple (aj (ao 5 (pv 5)) cg))) cg)) (dh (aq (aq d7)) (by decide))))
theorem Yp (F:Fun K "sum_of" "sum_of" Iu f fd) (hmg:mg "sum_of" = some (.ref f)) (b_sorted:mg "sorted" = none) (b_tuple:mg "tuple" = none):dj P w K mg base "sum_of" 1 ["number","pairs"] _root_.K.uz :=
  ⟨f,fd,Wx F b_sorted b_tuple,F.binds (ps:=["number","pairs"]) fun _ _ _ _ _ _ us hl=>bd2 (fun _ _=>rfl) us hl,F.kp,hmg⟩
noncomputable abbrev Ue:Stmt:=top 2
theorem a00:jc ["one","other"] ["one","other"] (gj Ue):=⟨rfl,rfl,rfl,by decide +kernel,rfl,by decide +kernel,by decide +kernel⟩
theorem a5c (F:Fun K "plus" "plus" Ue f fd) (d_sum_of:dj P w K mg base "sum_of" 1 ["number","pairs"] (_root_.K.uz)):yc P w K mg base CX0 2 f fd ["one","other"] (spF K (["one","other"]:List Str).length _root_.K.K6):=by
  have d_sum_of:=d_sum_of.mono (show 1≤1 by first | decide | omega)
  refine jl (N:=["one","other"]) F a00 (by decide)  fun cdv A outer s H E B hr=>?_
  have hu:=um hr
  have hq:=hr.units
  have nd:(["one","other"]:List Str).Nodup:=a00.nd
  refine fu ?_
  · refine iz ?_
    · refine d9 d_sum_of ?_ ?_ ?_ ?_
      · exact hr
      · exact by rfl
      · exact aj (jf nu (gw hu (ao 0 (pv 0)) cj (fun _ _=>rfl)) (gw hu (ao 1 (pv 1)) cj (fun _ _=>rfl))) (aj (jf nu (gw hu (ao 0 (pv 0)) cj (fun _ _=>rfl)) (gw hu (ao 1 (pv 1)) cj (fun _ _=>rfl))) cg)
      · exact bw (bw eq_nil)
theorem a4s (F:Fun K "plus" "plus" Ue f fd) (hmg:mg "plus" = some (.ref f)) (d_sum_of:dj P w K mg base "sum_of" 1 ["number","pairs"] (_root_.K.uz)):dj P w K mg base "plus" 2 ["one","other"] _root_.K.K6 :=
  ⟨f,fd,a5c F d_sum_of,F.binds (ps:=["one","other"]) fun _ _ _ _ _ _ us hl=>bd2 (fun _ _=>rfl) us hl,F.kp,hmg⟩
noncomputable abbrev s_by:Stmt:=top 4
theorem a8g:jc ["one","times"] ["one","times"] (gj s_by):=⟨rfl,rfl,rfl,by decide +kernel,rfl,by decide +kernel,by decide +kernel⟩
theorem aai (F:Fun K "by" "by" s_by f fd) (d_sum_of:dj P w K mg base "sum_of" 1 ["number","pairs"] (_root_.K.uz)):yc P w K mg base CX0 2 f fd ["one","times"] (spF K (["one","times"]:List Str).length _root_.K.Yd):=by
  have d_sum_of:=d_sum_of.mono (show 1≤1 by first | decide | omega)
  refine jl (N:=["one","times"]) F a8g (by decide)  fun cdv A outer s H E B hr=>?_
  have hu:=um hr
  have hq:=hr.units
  have nd:(["one","times"]:List Str).Nodup:=a8g.nd
  refine fu ?_
  · refine iz ?_
    · refine d9 d_sum_of ?_ ?_ ?_ ?_
      · exact hr
      · exact by rfl
      · refine aj ?_ ?_
        · exact jf Gn (gw hu (ao 0 (pv 0)) cj (fun _ _=>rfl)) (ao 1 (pv 1))
        · refine aj ?_ ?_
          · refine qm ?_
            · refine w6 (N:=["box","many","times"]) ?_ ?_ ?_ ?_ ?_ ?_ ?_ ?_
              · exact ⟨rfl,fun j k h=>match j,h with | 0,h=>(by cases h; exact ⟨_,rfl,rfl,⟨.inl rfl,.inr (.inl rfl),.inl rfl⟩⟩) | _+1,h=>(by cases h)⟩
              · exact ⟨rfl,rfl,by decide +kernel,by decide +kernel⟩
              · exact rfl
              · exact m8 (gw hu (ao 0 (pv 0)) cj (fun _ _=>rfl))
              · exact m7
              · exact fun C s₀ H₀ ex pn=>pgE fun B=>(v8 (is:=[0,1]) (v9 rfl (gn (dz (show (["box","many","times"]:List Str).Nodup by decide +kernel) rfl (Or.inl rfl)) (gn (dz (show (["box","many","times"]:List Str).Nodup by decide +kernel) rfl (Or.inl rfl)) qg))))
              · exact fun C s₀ H₀ ex pn=>qe
              · exact fun C s₀ H₀ ex pn=>peE fun B=>(g8 (aj (ao 0 (pv 0)) (aj (jf Gn (ao 1 (pv 1)) (ao 2 (pv 2))) cg)) (dh (aq (aq d7)) (by decide)))
          · exact cg
      · exact bw (bw eq_nil)
theorem aaw (F:Fun K "by" "by" s_by f fd) (hmg:mg "by" = some (.ref f)) (d_sum_of:dj P w K mg base "sum_of" 1 ["number","pairs"] (_root_.K.uz)):dj P w K mg base "by" 2 ["one","times"] _root_.K.Yd :=
  ⟨f,fd,aai F d_sum_of,F.binds (ps:=["one","times"]) fun _ _ _ _ _ _ us hl=>bd2 (fun _ _=>rfl) us hl,F.kp,hmg⟩
noncomputable abbrev Nt:Stmt:=top 3
theorem Uw:jc ["one","other"] ["one","other"] (gj Nt):=⟨rfl,rfl,rfl,by decide +kernel,rfl,by decide +kernel,by decide +kernel⟩
theorem a1r (F:Fun K "minus" "minus" Nt f fd) (d_by:dj P w K mg base "by" 2 ["one","times"] (_root_.K.Yd)) (d_plus:dj P w K mg base "plus" 2 ["one","other"] (_root_.K.K6)):yc P w K mg base CX0 3 f fd ["one","other"] (spF K (["one","other"]:List Str).length _root_.K.qz):=by
  have d_by:=d_by.mono (show 2≤2 by first | decide | omega)
  have d_plus:=d_plus.mono (show 2≤2 by first | decide | omega)
  refine jl (N:=["one","other"]) F Uw (by decide)  fun cdv A outer s H E B hr=>?_
  have hu:=um hr
  have hq:=hr.units
  have nd:(["one","other"]:List Str).Nodup:=Uw.nd
  exact fu (iz (d9 d_plus hr (by rfl) (aj (ao 0 (pv 0)) (aj (d9 d_by hr (by rfl) (aj (ao 1 (pv 1)) (aj (a3h Nm cj) cg)) (bw (bw eq_nil))) cg)) (bw (bw eq_nil))))
theorem a1k (F:Fun K "minus" "minus" Nt f fd) (hmg:mg "minus" = some (.ref f)) (d_by:dj P w K mg base "by" 2 ["one","times"] (_root_.K.Yd)) (d_plus:dj P w K mg base "plus" 2 ["one","other"] (_root_.K.K6)):dj P w K mg base "minus" 3 ["one","other"] _root_.K.qz :=
  ⟨f,fd,a1r F d_by d_plus,F.binds (ps:=["one","other"]) fun _ _ _ _ _ _ us hl=>bd2 (fun _ _=>rfl) us hl,F.kp,hmg⟩
noncomputable abbrev Mq:Stmt:=top 5
theorem Ui:jc ["one","book"] ["one","book"] (gj Mq):=⟨rfl,rfl,rfl,by decide +kernel,rfl,by decide +kernel,by decide +kernel⟩
theorem a2b (F:Fun K "value" "value" Mq f fd) (b_sum:mg "sum" = none):yc P w K mg base CX0 1 f fd ["one","book"] (spF K (["one","book"]:List Str).length _root_.K.Dn):=by
  refine jl (N:=["one","book"]) F Ui (by decide)  fun cdv A outer s H E B hr=>?_
  have hu:=um hr
  have hq:=hr.units
  have nd:(["one","book"]:List Str).Nodup:=Ui.nd
  refine fu ?_
  · refine iz ?_
    · refine jf ?_ ?_ ?_
      · exact nu
      · exact gw hu (ao 0 (pv 0)) cj (fun _ _=>rfl)
      · refine n8 ?_
        · refine vp (Ny (by rfl)) ?_ ?_ PyProof.Rows.boot_sum ?_
          · exact by rfl
          · exact b_sum
          · refine aj ?_ ?_
            · refine qm ?_
              · refine w6 (N:=["box","times","book"]) ?_ ?_ ?_ ?_ ?_ ?_ ?_ ?_
                · exact ⟨rfl,fun j k h=>match j,h with | 0,h=>(by cases h; exact ⟨_,rfl,rfl,⟨.inl rfl,.inr (.inl rfl),.inl rfl⟩⟩) | _+1,h=>(by cases h)⟩
                · exact ⟨rfl,rfl,by decide +kernel,by decide +kernel⟩
                · exact rfl
                · exact m8 (gw hu (ao 0 (pv 0)) cj (fun _ _=>rfl))
                · exact m7
                · exact fun C s₀ H₀ ex pn=>pgE fun B=>(v8 (is:=[0,1]) (v9 rfl (gn (dz (show (["box","times","book"]:List Str).Nodup by decide +kernel) rfl (Or.inl rfl)) (gn (dz (show (["box","times","book"]:List Str).Nodup by decide +kernel) rfl (Or.inl rfl)) qg))))
                · exact fun C s₀ H₀ ex pn=>qe
                · exact fun C s₀ H₀ ex pn=>peE fun B=>(jf Gn (ao 1 (pv 1)) (gw hu (ao 2 (pv 2)) (ao 0 (pv 0)) (fun _ _=>rfl)))
            · exact cg
theorem a1g (F:Fun K "value" "value" Mq f fd) (hmg:mg "value" = some (.ref f)) (b_sum:mg "sum" = none):dj P w K mg base "value" 1 ["one","book"] _root_.K.Dn :=
  ⟨f,fd,a2b F b_sum,F.binds (ps:=["one","book"]) fun _ _ _ _ _ _ us hl=>bd2 (fun _ _=>rfl) us hl,F.kp,hmg⟩
noncomputable abbrev a0z:Stmt:=top 6
theorem a3l:jc ["one","sets","number","pairs","box","times","inner"] ["one","sets"] (gj a0z):=⟨rfl,rfl,rfl,by decide +kernel,rfl,by decide +kernel,by decide +kernel⟩
theorem a85 (F:Fun K "put" "put" a0z f fd) (d_by:dj P w K mg base "by" 2 ["one","times"] (_root_.K.Yd)) (d_sum_of:dj P w K mg base "sum_of" 1 ["number","pairs"] (_root_.K.uz)):yc P w K mg base CX0 3 f fd ["one","sets"] (spF K (["one","sets"]:List Str).length _root_.K.Q6):=by
  have d_by:=d_by.mono (show 2≤2 by first | decide | omega)
  have d_sum_of:=d_sum_of.mono (show 1≤2 by first | decide | omega)
  refine jl (N:=["one","sets","number","pairs","box","times","inner"]) F a3l (by decide)  fun cdv A outer s H E B hr=>?_
  have hu:=um hr
  have hq:=hr.units
  have nd:(["one","sets","number","pairs","box","times","inner"]:List Str).Nodup:=a3l.nd
  refine d8 ?_ ?_
  · exact jw 2 (jk nd rfl (Or.inl rfl) (gw hu (ao 0 (pv 0)) cj (fun _ _=>rfl))) (fun _ _ _ h=>h)
  · refine d8 ?_ ?_
    · exact Bt 3 (jk nd rfl (Or.inl rfl) (V9 cg (dh d7 (by decide)))) (fun _ _ _ h=>h)
    · refine d8 ?_ ?_
      · refine uw ?_ ?_ ?_ ?_ ?_ ?_
        · exact PassesOwn.never
        · exact rfl
        · exact m8 (gw hu (ao 0 (pv 0)) cj (fun _ _=>rfl))
        · exact v8 (is:=[4,5]) (v9 rfl (gn (dz nd rfl (Or.inl rfl)) (gn (dz nd rfl (Or.inl rfl)) qg)))
        · refine d8 ?_ ?_
          · refine @jw _ _ _ _ (tOf _ _ _) _ ?_ (fun _ _ _ h=>h)
            · refine jk ?_ ?_ ?_ ?_
              · exact nd
              · exact rfl
              · exact Or.inl rfl
              · refine a8d ?_ ?_ ?_ ?_ ?_
                · exact hu
                · exact ao 1 (pv 1)
                · exact ao 4 (pv 4)
                · exact g8 (aj cj (aj (g8 (aj (g8 (aj (ao 4 (pv 4)) (aj cj cg)) (dh (aq (aq d7)) (by decide))) cg) (dh (aq d7) (by decide))) cg)) (dh (aq (aq d7)) (by decide))
                · exact ⟨rfl,rfl,rfl,rfl⟩
          · refine d8 ?_ ?_
            · exact jw 2 (jk nd rfl (Or.inl rfl) (jf nu (ao 2 (pv 2)) (jf Gn (ao 5 (pv 5)) (gw hu (ao 6 (pv 6)) cj (fun _ _=>rfl))))) (fun _ _ _ h=>h)
            · exact fu (Ah 3 (yx (Ii PySem.F.plainAttrs_list PySem.F.slot_list_extend PySem.F.type_list_extend yh (pv 3) (su (gw hu (d9 d_by hr (by rfl) (aj (ao 6 (pv 6)) (aj (ao 5 (pv 5)) cg)) (bw (bw eq_nil))) cj (fun _ _=>rfl)) wz))))
        · exact m7
      · exact fu (iz (d9 d_sum_of hr (by rfl) (aj (ao 2 (pv 2)) (aj (ao 3 (pv 3)) cg)) (bw (bw eq_nil))))
theorem a7t (F:Fun K "put" "put" a0z f fd) (hmg:mg "put" = some (.ref f)) (d_by:dj P w K mg base "by" 2 ["one","times"] (_root_.K.Yd)) (d_sum_of:dj P w K mg base "sum_of" 1 ["number","pairs"] (_root_.K.uz)):dj P w K mg base "put" 3 ["one","sets"] _root_.K.Q6 :=
  ⟨f,fd,a85 F d_by d_sum_of,F.binds (ps:=["one","sets"]) fun _ _ _ _ _ _ us hl=>bd2 (fun _ _=>rfl) us hl,F.kp,hmg⟩
noncomputable abbrev J5:Stmt:=top 10
theorem Vd:jc ["remark","book","places","kind"] ["remark","book","places"] (gj J5):=⟨rfl,rfl,rfl,by decide +kernel,rfl,by decide +kernel,by decide +kernel⟩
theorem a1w (F:Fun K "holds" "holds" J5 f fd) {nn:Nat} (d_any_is:dj P w K mg base "any_is" (1+nn) ["wanted","members","book","places"] (_root_.K.yr nn)) (d_holds:dj P w K mg base "holds" (1+nn) ["remark","book","places"] (_root_.K.rm nn)) (d_value:dj P w K mg base "value" 1 ["one","book"] (_root_.K.Dn)):yc P w K mg base CX0 (1+nn+1) f fd ["remark","book","places"] (spF K (["remark","book","places"]:List Str).length (_root_.K.rm (nn+1))):=by
  have d_any_is:=d_any_is.mono (show (1+nn)≤(1+nn) by first | decide | omega)
  have d_holds:=d_holds.mono (show (1+nn)≤(1+nn) by first | decide | omega)
  have d_value:=d_value.mono (show 1≤(1+nn) by first | decide | omega)
  refine jl (N:=["remark","book","places","kind"]) F Vd (by decide)  fun cdv A outer s H E B hr=>?_
  have hu:=um hr
  have hq:=hr.units
  have nd:(["remark","book","places","kind"]:List Str).Nodup:=Vd.nd
  refine d8 ?_ ?_
  · exact jw 3 (jk nd rfl (Or.inl rfl) (gw hu (ao 0 (pv 0)) cj (fun _ _=>rfl))) (fun _ _ _ h=>h)
  · refine d8 ?_ ?_
    · exact uf (lg (mq hq) (ao 3 (pv 3)) iw (jr _))   (fu (iz (Hw a3k (d9 d_value hr (by rfl) (aj (gw hu (ao 0 (pv 0)) cj (fun _ _=>rfl)) (aj (ao 1 (pv 1)) cg)) (bw (bw eq_nil))) cj (jr _))))   lq
    · refine d8 ?_ ?_
      · refine uf ?_ ?_ ?_
        · exact lg (mq hq) (ao 3 (pv 3)) iw (jr _)
        · exact fu (iz (Hw (mq hq) (jf nq (d9 d_value hr (by rfl) (aj (gw hu (ao 0 (pv 0)) cj (fun _ _=>rfl)) (aj (ao 1 (pv 1)) cg)) (bw (bw eq_nil))) (gw hu (ao 0 (pv 0)) cj (fun _ _=>rfl))) cj (jr _)))
        · exact lq
      · refine d8 ?_ ?_
        · exact uf (lg (mq hq) (ao 3 (pv 3)) iw (jr _))   (fu (iz (Hw (mq hq) (gw hu (ao 2 (pv 2)) (gw hu (ao 0 (pv 0)) cj (fun _ _=>rfl)) (fun _ _=>rfl)) (gw hu (ao 0 (pv 0)) cj (fun _ _=>rfl)) (jr _))))   lq
        · refine d8 ?_ ?_
          · exact uf (lg (mq hq) (ao 3 (pv 3)) iw (jr _))   (fu (iz (U7 (d9 d_holds hr (by rfl) (aj (gw hu (ao 0 (pv 0)) cj (fun _ _=>rfl)) (aj (ao 1 (pv 1)) (aj (ao 2 (pv 2)) cg))) (bw (bw (bw eq_nil)))))))   lq
          · refine d8 ?_ ?_
            · refine uf ?_ ?_ ?_
              · exact lg (mq hq) (ao 3 (pv 3)) iw (jr _)
              · exact fu (iz (U7 (d9 d_any_is hr (by rfl) (aj Ie (aj (gw hu (ao 0 (pv 0)) cj (fun _ _=>rfl)) (aj (ao 1 (pv 1)) (aj (ao 2 (pv 2)) cg)))) (bw (bw (bw (bw eq_nil)))))))
              · exact lq
            · exact fu (iz (d9 d_any_is hr (by rfl) (aj Ie (aj (gw hu (ao 0 (pv 0)) cj (fun _ _=>rfl)) (aj (ao 1 (pv 1)) (aj (ao 2 (pv 2)) cg)))) (bw (bw (bw (bw eq_nil))))))
theorem a2j (F:Fun K "holds" "holds" J5 f fd) (hmg:mg "holds" = some (.ref f)) {nn:Nat} (d_any_is:dj P w K mg base "any_is" (1+nn) ["wanted","members","book","places"] (_root_.K.yr nn)) (d_holds:dj P w K mg base "holds" (1+nn) ["remark","book","places"] (_root_.K.rm nn)) (d_value:dj P w K mg base "value" 1 ["one","book"] (_root_.K.Dn)):dj P w K mg base "holds" (1+nn+1) ["remark","book","places"] (_root_.K.rm (nn+1)) :=
  ⟨f,fd,a1w F d_any_is d_holds d_value,F.binds (ps:=["remark","book","places"]) fun _ _ _ _ _ _ us hl=>bd3 (fun _ _ _=>rfl) us hl,F.kp,hmg⟩
noncomputable abbrev Ez:Stmt:=top 11
theorem Pk:jc ["wanted","members","book","places","member"] ["wanted","members","book","places"] (gj Ez):=⟨rfl,rfl,rfl,by decide +kernel,rfl,by decide +kernel,by decide +kernel⟩
theorem Y7 (F:Fun K "any_is" "any_is" Ez f fd) {nn:Nat} (d_holds:dj P w K mg base "holds" (1+nn) ["remark","book","places"] (_root_.K.rm nn)):yc P w K mg base CX0 (1+nn+1) f fd ["wanted","members","book","places"] (spF K (["wanted","members","book","places"]:List Str).length (_root_.K.yr (nn+1))):=by
  have d_holds:=d_holds.mono (show (1+nn)≤(1+nn) by first | decide | omega)
  refine jl (N:=["wanted","members","book","places","member"]) F Pk (by decide)  fun cdv A outer s H E B hr=>?_
  have hu:=um hr
  have hq:=hr.units
  have nd:(["wanted","members","book","places","member"]:List Str).Nodup:=Pk.nd
  refine d8 ?_ ?_
  · refine uw ?_ ?_ ?_ ?_ ?_ ?_
    · exact PassesOwn.never
    · exact rfl
    · exact m8 (ao 1 (pv 1))
    · exact p8 4 (dz nd rfl (Or.inl rfl))
    · exact fu (uf (lg (mq hq) (d9 d_holds hr (by rfl) (aj (ao 4 (pv 4)) (aj (ao 2 (pv 2)) (aj (ao 3 (pv 3)) cg))) (bw (bw (bw eq_nil)))) (ao 0 (pv 0)) (jr _))   (fu (iz Ie))   lq)
    · exact m7
  · exact fu (iz Ie)
theorem Yt (F:Fun K "any_is" "any_is" Ez f fd) (hmg:mg "any_is" = some (.ref f)) {nn:Nat} (d_holds:dj P w K mg base "holds" (1+nn) ["remark","book","places"] (_root_.K.rm nn)):dj P w K mg base "any_is" (1+nn+1) ["wanted","members","book","places"] (_root_.K.yr (nn+1)) :=
  ⟨f,fd,Y7 F d_holds,F.binds (ps:=["wanted","members","book","places"]) fun _ _ _ _ _ _ us hl=>bd4 (fun _ _ _ _=>rfl) us hl,F.kp,hmg⟩
theorem Oi {f_holds:Addr} {fd_holds:FuncData} {f_any_is:Addr} {fd_any_is:FuncData} (F_holds:Fun K "holds" "holds" J5 f_holds fd_holds) (h_holds:mg "holds" = some (.ref f_holds)) (F_any_is:Fun K "any_is" "any_is" Ez f_any_is fd_any_is) (h_any_is:mg "any_is" = some (.ref f_any_is)) (d_value:dj P w K mg base "value" 1 ["one","book"] _root_.K.Dn):∀ nn:Nat,dj P w K mg base "holds" (1+nn) ["remark","book","places"] (_root_.K.rm nn)∧dj P w K mg base "any_is" (1+nn) ["wanted","members","book","places"] (_root_.K.yr nn)
  | 0=>⟨dj.zero F_holds h_holds (F_holds.binds (ps:=["remark","book","places"]) fun _ _ _ _ _ _ us hl=>bd3 (fun _ _ _=>rfl) us hl),dj.zero F_any_is h_any_is (F_any_is.binds (ps:=["wanted","members","book","places"]) fun _ _ _ _ _ _ us hl=>bd4 (fun _ _ _ _=>rfl) us hl)⟩
  | nn+1=>by
    have ih:=Oi F_holds h_holds F_any_is h_any_is d_value nn
    obtain ⟨d_holds,d_any_is⟩:=ih
    exact ⟨a2j F_holds h_holds d_any_is d_holds d_value,Yt F_any_is h_any_is d_holds⟩
noncomputable abbrev zp:Stmt:=top 14
theorem Em:jc ["remark","hand","to"] ["remark","hand","to"] (gj zp):=⟨rfl,rfl,rfl,by decide +kernel,rfl,by decide +kernel,by decide +kernel⟩
theorem Ks (F:Fun K "place_ahead" "place_ahead" zp f fd) (c_FALSE_ONE:∃ u,mg "FALSE_ONE" = some u∧Held K u (.tup [(.str "or"),(.tup [])])) (c_TRUE_ONE:∃ u,mg "TRUE_ONE" = some u∧Held K u (.tup [(.str "and"),(.tup [])])):yc P w K mg base CX0 1 f fd ["remark","hand","to"] (spF K (["remark","hand","to"]:List Str).length _root_.K.u9):=by
  refine jl (N:=["remark","hand","to"]) F Em (by decide)  fun cdv A outer s H E B hr=>?_
  have hu:=um hr
  have hq:=hr.units
  have nd:(["remark","hand","to"]:List Str).Nodup:=Em.nd
  refine d8 ?_ ?_
  · exact uf (lg (Le hq) (gw hu (ao 0 (pv 0)) cj (fun _ _=>rfl)) (ao 1 (pv 1)) (jr _))   (fu (iz (ao 0 (pv 0))))   lq
  · exact fu (iz (a1u (lg (mq hq) (gw hu (ao 0 (pv 0)) cj (fun _ _=>rfl)) (ao 2 (pv 2)) (jr _)) (V8 (by rfl) c_TRUE_ONE) (V8 (by rfl) c_FALSE_ONE)))
theorem Kg (F:Fun K "place_ahead" "place_ahead" zp f fd) (hmg:mg "place_ahead" = some (.ref f)) (c_FALSE_ONE:∃ u,mg "FALSE_ONE" = some u∧Held K u (.tup [(.str "or"),(.tup [])])) (c_TRUE_ONE:∃ u,mg "TRUE_ONE" = some u∧Held K u (.tup [(.str "and"),(.tup [])])):dj P w K mg base "place_ahead" 1 ["remark","hand","to"] _root_.K.u9 :=
  ⟨f,fd,Ks F c_FALSE_ONE c_TRUE_ONE,F.binds (ps:=["remark","hand","to"]) fun _ _ _ _ _ _ us hl=>bd3 (fun _ _ _=>rfl) us hl,F.kp,hmg⟩
noncomputable abbrev xg:Stmt:=top 13
theorem Ep:jc ["remark","hand","sets","to","kind"] ["remark","hand","sets","to"] (gj xg):=⟨rfl,rfl,rfl,by decide +kernel,rfl,by decide +kernel,by decide +kernel⟩
theorem Kq (F:Fun K "asked_ahead" "asked_ahead" xg f fd) {nn:Nat} (d_asked_ahead:dj P w K mg base "asked_ahead" (3+nn) ["remark","hand","sets","to"] (_root_.K.j7 nn)) (d_place_ahead:dj P w K mg base "place_ahead" 1 ["remark","hand","to"] (_root_.K.u9)) (d_put:dj P w K mg base "put" 3 ["one","sets"] (_root_.K.Q6)) (b_tuple:mg "tuple" = none):yc P w K mg base CX0 (3+nn+1) f fd ["remark","hand","sets","to"] (spF K (["remark","hand","sets","to"]:List Str).length (_root_.K.j7 (nn+1))):=by
  have d_asked_ahead:=d_asked_ahead.mono (show (3+nn)≤(3+nn) by first | decide | omega)
  have d_place_ahead:=d_place_ahead.mono (show 1≤(3+nn) by first | decide | omega)
  have d_put:=d_put.mono (show 3≤(3+nn) by first | decide | omega)
  refine jl (N:=["remark","hand","sets","to","kind"]) F Ep (by decide)  fun cdv A outer s H E B hr=>?_
  have hu:=um hr
  have hq:=hr.units
  have nd:(["remark","hand","sets","to","kind"]:List Str).Nodup:=Ep.nd
  refine d8 ?_ ?_
  · exact jw 4 (jk nd rfl (Or.inl rfl) (gw hu (ao 0 (pv 0)) cj (fun _ _=>rfl))) (fun _ _ _ h=>h)
  · refine d8 ?_ ?_
    · refine uf ?_ ?_ ?_
      · exact lg (mq hq) (ao 4 (pv 4)) iw (jr _)
      · exact fu (iz (g8 (aj iw (aj (d9 d_put hr (by rfl) (aj (gw hu (ao 0 (pv 0)) cj (fun _ _=>rfl)) (aj (ao 2 (pv 2)) cg)) (bw (bw eq_nil))) cg)) (dh (aq (aq d7)) (by decide))))
      · exact lq
    · refine d8 ?_ ?_
      · refine uf ?_ ?_ ?_
        · exact lg (mq hq) (ao 4 (pv 4)) iw (jr _)
        · refine fu ?_
          · refine iz ?_
            · refine g8 ?_ ?_
              · exact aj iw (aj (d9 d_put hr (by rfl) (aj (gw hu (ao 0 (pv 0)) cj (fun _ _=>rfl)) (aj (ao 2 (pv 2)) cg)) (bw (bw eq_nil))) (aj (gw hu (ao 0 (pv 0)) cj (fun _ _=>rfl)) cg))
              · exact dh (aq (aq (aq d7))) (by decide)
        · exact lq
      · refine d8 ?_ ?_
        · exact uf (lg (mq hq) (ao 4 (pv 4)) iw (jr _))   (fu (iz (d9 d_place_ahead hr (by rfl) (aj (ao 0 (pv 0)) (aj (ao 1 (pv 1)) (aj (ao 3 (pv 3)) cg))) (bw (bw (bw eq_nil))))))   lq
        · refine d8 ?_ ?_
          · refine uf ?_ ?_ ?_
            · exact lg (mq hq) (ao 4 (pv 4)) iw (jr _)
            · refine fu ?_
              · refine iz ?_
                · refine g8 ?_ ?_
                  · exact aj iw (aj (d9 d_asked_ahead hr (by rfl) (aj (gw hu (ao 0 (pv 0)) cj (fun _ _=>rfl)) (aj (ao 1 (pv 1)) (aj (ao 2 (pv 2)) (aj (ao 3 (pv 3)) cg)))) (bw (bw (bw (bw eq_nil))))) cg)
                  · exact dh (aq (aq d7)) (by decide)
            · exact lq
          · refine fu ?_
            · refine iz ?_
              · refine g8 ?_ ?_
                · refine aj ?_ ?_
                  · exact ao 4 (pv 4)
                  · refine aj ?_ ?_
                    · refine n8 ?_
                      · refine vh yp ?_ ?_ PyProof.Rows.boot_tuple ?_
                        · exact by rfl
                        · exact b_tuple
                        · refine aj ?_ ?_
                          · refine qm ?_
                            · refine w6 (N:=["member","hand","sets","to"]) ?_ ?_ ?_ ?_ ?_ ?_ ?_ ?_
                              · refine ⟨rfl,fun j k h=>match j,h with | 0,h=>(by cases h; exact ⟨_,rfl,rfl,⟨.inl rfl,.inr (.inl rfl),.inl rfl⟩⟩) | 1,h=>(by cases h; exact ⟨_,rfl,rfl,⟨.inl rfl,.inr (.inl rfl),.inl rfl⟩⟩) | 2,h=>(by cases h; exact ⟨_,rfl,rfl,⟨.inl rfl,.inr (.inl rfl),.inl rfl⟩⟩) | _+3,h=>(by cases h)⟩
                              · exact ⟨rfl,rfl,by decide +kernel,by decide +kernel⟩
                              · exact rfl
                              · exact m8 (gw hu (ao 0 (pv 0)) cj (fun _ _=>rfl))
                              · exact m7
                              · exact fun C s₀ H₀ ex pn=>pgE fun B=>(p8 0 (dz (show (["member","hand","sets","to"]:List Str).Nodup by decide +kernel) rfl (Or.inl rfl)))
                              · exact fun C s₀ H₀ ex pn=>qe
                              · exact fun C s₀ H₀ ex pn=>peE fun B=>(d9 d_asked_ahead hr (by rfl) (aj (ao 0 (pv 0)) (aj (ao 1 (pv 1)) (aj (ao 2 (pv 2)) (aj (ao 3 (pv 3)) cg)))) (bw (bw (bw (bw eq_nil)))))
                          · exact cg
                    · exact cg
                · exact dh (aq (aq d7)) (by decide)
theorem Lb (F:Fun K "asked_ahead" "asked_ahead" xg f fd) (hmg:mg "asked_ahead" = some (.ref f)) {nn:Nat} (d_asked_ahead:dj P w K mg base "asked_ahead" (3+nn) ["remark","hand","sets","to"] (_root_.K.j7 nn)) (d_place_ahead:dj P w K mg base "place_ahead" 1 ["remark","hand","to"] (_root_.K.u9)) (d_put:dj P w K mg base "put" 3 ["one","sets"] (_root_.K.Q6)) (b_tuple:mg "tuple" = none):dj P w K mg base "asked_ahead" (3+nn+1) ["remark","hand","sets","to"] (_root_.K.j7 (nn+1)) :=
  ⟨f,fd,Kq F d_asked_ahead d_place_ahead d_put b_tuple,F.binds (ps:=["remark","hand","sets","to"]) fun _ _ _ _ _ _ us hl=>bd4 (fun _ _ _ _=>rfl) us hl,F.kp,hmg⟩
theorem Dl {f_asked_ahead:Addr} {fd_asked_ahead:FuncData} (F_asked_ahead:Fun K "asked_ahead" "asked_ahead" xg f_asked_ahead fd_asked_ahead) (h_asked_ahead:mg "asked_ahead" = some (.ref f_asked_ahead)) (d_place_ahead:dj P w K mg base "place_ahead" 1 ["remark","hand","to"] _root_.K.u9) (d_put:dj P w K mg base "put" 3 ["one","sets"] _root_.K.Q6) (b_tuple:mg "tuple" = none):∀ nn:Nat,dj P w K mg base "asked_ahead" (3+nn) ["remark","hand","sets","to"] (_root_.K.j7 nn)
  | 0=>dj.zero F_asked_ahead h_asked_ahead (F_asked_ahead.binds (ps:=["remark","hand","sets","to"]) fun _ _ _ _ _ _ us hl=>bd4 (fun _ _ _ _=>rfl) us hl)
  | nn+1=>by
    have ih:=Dl F_asked_ahead h_asked_ahead d_place_ahead d_put b_tuple nn
    have d_asked_ahead:=ih
    exact Lb F_asked_ahead h_asked_ahead d_asked_ahead d_place_ahead d_put b_tuple
noncomputable abbrev Ik:Stmt:=top 12
theorem Pj:jc ["remark","hand","sets","to"] ["remark","hand","sets","to"] (gj Ik):=⟨rfl,rfl,rfl,by decide +kernel,rfl,by decide +kernel,by decide +kernel⟩
theorem a07 (F:Fun K "behind" "behind" Ik f fd) (d_asked_ahead:dj P w K mg base "asked_ahead" 43 ["remark","hand","sets","to"] (_root_.K.j7 40)) (b_dict:mg "dict" = none):yc P w K mg base CX0 44 f fd ["remark","hand","sets","to"] (spF K (["remark","hand","sets","to"]:List Str).length _root_.K.yq):=by
  have d_asked_ahead:=d_asked_ahead.mono (show 43≤43 by first | decide | omega)
  refine jl (N:=["remark","hand","sets","to"]) F Pj (by decide)  fun cdv A outer s H E B hr=>?_
  have hu:=um hr
  have hq:=hr.units
  have nd:(["remark","hand","sets","to"]:List Str).Nodup:=Pj.nd
  refine fu ?_
  · refine iz ?_
    · refine d9 d_asked_ahead ?_ ?_ ?_ ?_
      · exact hr
      · exact by rfl
      · exact aj (ao 0 (pv 0)) (aj (ao 1 (pv 1)) (aj (n8 (vh (W2 (by rfl)) (by rfl) b_dict PyProof.Rows.boot_dict (aj (ao 2 (pv 2)) cg))) (aj (ao 3 (pv 3)) cg)))
      · exact bw (bw (bw (bw eq_nil)))
theorem Wq (F:Fun K "behind" "behind" Ik f fd) (hmg:mg "behind" = some (.ref f)) (d_asked_ahead:dj P w K mg base "asked_ahead" 43 ["remark","hand","sets","to"] (_root_.K.j7 40)) (b_dict:mg "dict" = none):dj P w K mg base "behind" 44 ["remark","hand","sets","to"] _root_.K.yq :=
  ⟨f,fd,a07 F d_asked_ahead b_dict,F.binds (ps:=["remark","hand","sets","to"]) fun _ _ _ _ _ _ us hl=>bd4 (fun _ _ _ _=>rfl) us hl,F.kp,hmg⟩
noncomputable abbrev Cj:Stmt:=top 17
theorem Ia:jc ["form","book"] ["form","book"] (gj Cj):=⟨rfl,rfl,rfl,by decide +kernel,rfl,by decide +kernel,by decide +kernel⟩
theorem Qw (F:Fun K "form_true" "form_true" Cj f fd) (d_holds:dj P w K mg base "holds" 41 ["remark","book","places"] (_root_.K.rm 40)):yc P w K mg base CX0 42 f fd ["form","book"] (spF K (["form","book"]:List Str).length _root_.K.uc):=by
  have d_holds:=d_holds.mono (show 41≤41 by first | decide | omega)
  refine jl (N:=["form","book"]) F Ia (by decide)  fun cdv A outer s H E B hr=>?_
  have hu:=um hr
  have hq:=hr.units
  have nd:(["form","book"]:List Str).Nodup:=Ia.nd
  exact fu (iz (d9 d_holds hr (by rfl) (aj (ao 0 (pv 0)) (aj (ao 1 (pv 1)) (aj (qm Ma) cg))) (bw (bw (bw eq_nil)))))
theorem O4 (F:Fun K "form_true" "form_true" Cj f fd) (hmg:mg "form_true" = some (.ref f)) (d_holds:dj P w K mg base "holds" 41 ["remark","book","places"] (_root_.K.rm 40)):dj P w K mg base "form_true" 42 ["form","book"] _root_.K.uc :=
  ⟨f,fd,Qw F d_holds,F.binds (ps:=["form","book"]) fun _ _ _ _ _ _ us hl=>bd2 (fun _ _=>rfl) us hl,F.kp,hmg⟩
noncomputable abbrev Cm:Stmt:=top 18
theorem Ho:jc ["hand"] ["hand"] (gj Cm):=⟨rfl,rfl,rfl,by decide +kernel,rfl,by decide +kernel,by decide +kernel⟩
theorem Oz (F:Fun K "place_box" "place_box" Cm f fd):yc P w K mg base CX0 1 f fd ["hand"] (spF K (["hand"]:List Str).length _root_.K.jy):=by
  refine jl (N:=["hand"]) F Ho (by decide)  fun cdv A outer s H E B hr=>?_
  have hu:=um hr
  have hq:=hr.units
  have nd:(["hand"]:List Str).Nodup:=Ho.nd
  exact fu (iz (jf nu iw (ao 0 (pv 0))))
theorem Qd (F:Fun K "place_box" "place_box" Cm f fd) (hmg:mg "place_box" = some (.ref f)):dj P w K mg base "place_box" 1 ["hand"] _root_.K.jy :=
  ⟨f,fd,Oz F,F.binds (ps:=["hand"]) fun _ _ _ _ _ _ us hl=>bd1 (fun _=>rfl) us hl,F.kp,hmg⟩
noncomputable abbrev Bb:Stmt:=top 19
theorem Ft:jc ["box","number"] ["box","number"] (gj Bb):=⟨rfl,rfl,rfl,by decide +kernel,rfl,by decide +kernel,by decide +kernel⟩
theorem Ms (F:Fun K "equal_form" "equal_form" Bb f fd):yc P w K mg base CX0 1 f fd ["box","number"] (spF K (["box","number"]:List Str).length _root_.K.kh):=by
  refine jl (N:=["box","number"]) F Ft (by decide)  fun cdv A outer s H E B hr=>?_
  have hu:=um hr
  have hq:=hr.units
  have nd:(["box","number"]:List Str).Nodup:=Ft.nd
  refine fu ?_
  · refine iz ?_
    · refine g8 ?_ ?_
      · refine aj ?_ ?_
        · exact iw
        · refine aj ?_ ?_
          · refine g8 ?_ ?_
            · refine aj ?_ ?_
              · refine g8 ?_ ?_
                · refine aj ?_ ?_
                  · exact iw
                  · refine aj ?_ ?_
                    · exact g8 (aj (a3h Nm (ao 1 (pv 1))) (aj (g8 (aj (g8 (aj (ao 0 (pv 0)) (aj cj cg)) (dh (aq (aq d7)) (by decide))) cg) (dh (aq d7) (by decide))) cg)) (dh (aq (aq d7)) (by decide))
                    · exact cg
                · exact dh (aq (aq d7)) (by decide)
              · refine aj ?_ ?_
                · refine g8 ?_ ?_
                  · refine aj ?_ ?_
                    · exact iw
                    · refine aj ?_ ?_
                      · exact g8 (aj (ao 1 (pv 1)) (aj (g8 (aj (g8 (aj (ao 0 (pv 0)) (aj (a3h Nm cj) cg)) (dh (aq (aq d7)) (by decide))) cg) (dh (aq d7) (by decide))) cg)) (dh (aq (aq d7)) (by decide))
                      · exact cg
                  · exact dh (aq (aq d7)) (by decide)
                · exact cg
            · exact dh (aq (aq d7)) (by decide)
          · exact cg
      · exact dh (aq (aq d7)) (by decide)
theorem Np (F:Fun K "equal_form" "equal_form" Bb f fd) (hmg:mg "equal_form" = some (.ref f)):dj P w K mg base "equal_form" 1 ["box","number"] _root_.K.kh :=
  ⟨f,fd,Ms F,F.binds (ps:=["box","number"]) fun _ _ _ _ _ _ us hl=>bd2 (fun _ _=>rfl) us hl,F.kp,hmg⟩
noncomputable abbrev yt:Stmt:=top 20
theorem Dp:jc ["box","number"] ["box","number"] (gj yt):=⟨rfl,rfl,rfl,by decide +kernel,rfl,by decide +kernel,by decide +kernel⟩
theorem J7 (F:Fun K "unequal_form" "unequal_form" yt f fd):yc P w K mg base CX0 1 f fd ["box","number"] (spF K (["box","number"]:List Str).length _root_.K.qt):=by
  refine jl (N:=["box","number"]) F Dp (by decide)  fun cdv A outer s H E B hr=>?_
  have hu:=um hr
  have hq:=hr.units
  have nd:(["box","number"]:List Str).Nodup:=Dp.nd
  refine fu ?_
  · refine iz ?_
    · refine g8 ?_ ?_
      · refine aj ?_ ?_
        · exact iw
        · refine aj ?_ ?_
          · refine g8 ?_ ?_
            · refine aj ?_ ?_
              · refine g8 ?_ ?_
                · refine aj ?_ ?_
                  · exact iw
                  · refine aj ?_ ?_
                    · refine g8 ?_ ?_
                      · exact aj (jf Jf cj (ao 1 (pv 1))) (aj (g8 (aj (g8 (aj (ao 0 (pv 0)) (aj cj cg)) (dh (aq (aq d7)) (by decide))) cg) (dh (aq d7) (by decide))) cg)
                      · exact dh (aq (aq d7)) (by decide)
                    · exact cg
                · exact dh (aq (aq d7)) (by decide)
              · refine aj ?_ ?_
                · refine g8 ?_ ?_
                  · refine aj ?_ ?_
                    · exact iw
                    · refine aj ?_ ?_
                      · refine g8 ?_ ?_
                        · exact aj (jf nu (ao 1 (pv 1)) cj) (aj (g8 (aj (g8 (aj (ao 0 (pv 0)) (aj (a3h Nm cj) cg)) (dh (aq (aq d7)) (by decide))) cg) (dh (aq d7) (by decide))) cg)
                        · exact dh (aq (aq d7)) (by decide)
                      · exact cg
                  · exact dh (aq (aq d7)) (by decide)
                · exact cg
            · exact dh (aq (aq d7)) (by decide)
          · exact cg
      · exact dh (aq (aq d7)) (by decide)
theorem J9 (F:Fun K "unequal_form" "unequal_form" yt f fd) (hmg:mg "unequal_form" = some (.ref f)):dj P w K mg base "unequal_form" 1 ["box","number"] _root_.K.qt :=
  ⟨f,fd,J7 F,F.binds (ps:=["box","number"]) fun _ _ _ _ _ _ us hl=>bd2 (fun _ _=>rfl) us hl,F.kp,hmg⟩
noncomputable abbrev yu:Stmt:=top 21
theorem Fd:jc ["remark","kind"] ["remark"] (gj yu):=⟨rfl,rfl,rfl,by decide +kernel,rfl,by decide +kernel,by decide +kernel⟩
theorem Nk (F:Fun K "plain_form" "plain_form" yu f fd) {nn:Nat} (d_against_form:dj P w K mg base "against_form" (3+nn) ["remark"] (_root_.K.fj nn)) (d_equal_form:dj P w K mg base "equal_form" 1 ["box","number"] (_root_.K.kh)) (d_place_box:dj P w K mg base "place_box" 1 ["hand"] (_root_.K.jy)) (d_plain_form:dj P w K mg base "plain_form" (3+nn) ["remark"] (_root_.K.gk nn)) (b_tuple:mg "tuple" = none):yc P w K mg base CX0 (3+nn+1) f fd ["remark"] (spF K (["remark"]:List Str).length (_root_.K.gk (nn+1))):=by
  have d_against_form:=d_against_form.mono (show (3+nn)≤(3+nn) by first | decide | omega)
  have d_equal_form:=d_equal_form.mono (show 1≤(3+nn) by first | decide | omega)
  have d_place_box:=d_place_box.mono (show 1≤(3+nn) by first | decide | omega)
  have d_plain_form:=d_plain_form.mono (show (3+nn)≤(3+nn) by first | decide | omega)
  refine jl (N:=["remark","kind"]) F Fd (by decide)  fun cdv A outer s H E B hr=>?_
  have hu:=um hr
  have hq:=hr.units
  have nd:(["remark","kind"]:List Str).Nodup:=Fd.nd
  refine d8 ?_ ?_
  · exact jw 1 (jk nd rfl (Or.inl rfl) (gw hu (ao 0 (pv 0)) cj (fun _ _=>rfl))) (fun _ _ _ h=>h)
  · refine d8 ?_ ?_
    · refine uf ?_ ?_ ?_
      · exact lg (mq hq) (ao 1 (pv 1)) iw (jr _)
      · exact fu (iz (d9 d_equal_form hr (by rfl) (aj (d9 d_place_box hr (by rfl) (aj (gw hu (ao 0 (pv 0)) cj (fun _ _=>rfl)) cg) (bw eq_nil)) (aj (gw hu (ao 0 (pv 0)) cj (fun _ _=>rfl)) cg)) (bw (bw eq_nil))))
      · exact lq
    · refine d8 ?_ ?_
      · exact uf (lg (mq hq) (ao 1 (pv 1)) iw (jr _))   (fu (iz (d9 d_against_form hr (by rfl) (aj (gw hu (ao 0 (pv 0)) cj (fun _ _=>rfl)) cg) (bw eq_nil))))   lq
      · refine d8 ?_ ?_
        · refine uf ?_ ?_ ?_
          · exact lg (a7m hq) (ao 1 (pv 1)) (g8 (aj iw (aj iw cg)) (dh (aq (aq d7)) (by decide))) rfl
          · refine fu ?_
            · refine iz ?_
              · refine g8 ?_ ?_
                · refine aj ?_ ?_
                  · exact ao 1 (pv 1)
                  · refine aj ?_ ?_
                    · refine n8 ?_
                      · refine vh yp ?_ ?_ PyProof.Rows.boot_tuple ?_
                        · exact by rfl
                        · exact b_tuple
                        · refine aj ?_ ?_
                          · refine qm ?_
                            · refine w6 (N:=["member"]) ?_ ?_ ?_ ?_ ?_ ?_ ?_ ?_
                              · exact ⟨rfl,fun j k h=>match j,h with | _+0,h=>(by cases h)⟩
                              · exact ⟨rfl,rfl,by decide +kernel,by decide +kernel⟩
                              · exact rfl
                              · exact m8 (gw hu (ao 0 (pv 0)) cj (fun _ _=>rfl))
                              · exact m7
                              · exact fun C s₀ H₀ ex pn=>pgE fun B=>(p8 0 (dz (show (["member"]:List Str).Nodup by decide +kernel) rfl (Or.inl rfl)))
                              · exact fun C s₀ H₀ ex pn=>qe
                              · exact fun C s₀ H₀ ex pn=>peE fun B=>(d9 d_plain_form hr (by rfl) (aj (ao 0 (pv 0)) cg) (bw eq_nil))
                          · exact cg
                    · exact cg
                · exact dh (aq (aq d7)) (by decide)
          · exact lq
        · exact fu (iz (ao 0 (pv 0)))
theorem Mu (F:Fun K "plain_form" "plain_form" yu f fd) (hmg:mg "plain_form" = some (.ref f)) {nn:Nat} (d_against_form:dj P w K mg base "against_form" (3+nn) ["remark"] (_root_.K.fj nn)) (d_equal_form:dj P w K mg base "equal_form" 1 ["box","number"] (_root_.K.kh)) (d_place_box:dj P w K mg base "place_box" 1 ["hand"] (_root_.K.jy)) (d_plain_form:dj P w K mg base "plain_form" (3+nn) ["remark"] (_root_.K.gk nn)) (b_tuple:mg "tuple" = none):dj P w K mg base "plain_form" (3+nn+1) ["remark"] (_root_.K.gk (nn+1)) :=
  ⟨f,fd,Nk F d_against_form d_equal_form d_place_box d_plain_form b_tuple,F.binds (ps:=["remark"]) fun _ _ _ _ _ _ us hl=>bd1 (fun _=>rfl) us hl,F.kp,hmg⟩
noncomputable abbrev vf:Stmt:=top 22
theorem Ds:jc ["remark","kind"] ["remark"] (gj vf):=⟨rfl,rfl,rfl,by decide +kernel,rfl,by decide +kernel,by decide +kernel⟩
theorem Ke (F:Fun K "against_form" "against_form" vf f fd) {nn:Nat} (d_against_form:dj P w K mg base "against_form" (3+nn) ["remark"] (_root_.K.fj nn)) (d_minus:dj P w K mg base "minus" 3 ["one","other"] (_root_.K.qz)) (d_place_box:dj P w K mg base "place_box" 1 ["hand"] (_root_.K.jy)) (d_plain_form:dj P w K mg base "plain_form" (3+nn) ["remark"] (_root_.K.gk nn)) (d_unequal_form:dj P w K mg base "unequal_form" 1 ["box","number"] (_root_.K.qt)) (b_range:mg "range" = none) (b_tuple:mg "tuple" = none) (c_TURNED:∃ a,mg "TURNED" = some (.ref a)∧Y9 K w a [("and","or"),("or","and")]):yc P w K mg base CX0 (3+nn+1) f fd ["remark"] (spF K (["remark"]:List Str).length (_root_.K.fj (nn+1))):=by
  have d_against_form:=d_against_form.mono (show (3+nn)≤(3+nn) by first | decide | omega)
  have d_minus:=d_minus.mono (show 3≤(3+nn) by first | decide | omega)
  have d_place_box:=d_place_box.mono (show 1≤(3+nn) by first | decide | omega)
  have d_plain_form:=d_plain_form.mono (show (3+nn)≤(3+nn) by first | decide | omega)
  have d_unequal_form:=d_unequal_form.mono (show 1≤(3+nn) by first | decide | omega)
  refine jl (N:=["remark","kind"]) F Ds (by decide)  fun cdv A outer s H E B hr=>?_
  have hu:=um hr
  have hq:=hr.units
  have nd:(["remark","kind"]:List Str).Nodup:=Ds.nd
  refine d8 ?_ ?_
  · exact jw 1 (jk nd rfl (Or.inl rfl) (gw hu (ao 0 (pv 0)) cj (fun _ _=>rfl))) (fun _ _ _ h=>h)
  · refine d8 ?_ ?_
    · refine uf ?_ ?_ ?_
      · exact lg (mq hq) (ao 1 (pv 1)) iw (jr _)
      · refine fu ?_
        · refine iz ?_
          · refine g8 ?_ ?_
            · refine aj ?_ ?_
              · exact iw
              · exact aj (d9 d_minus hr (by rfl) (aj (g8 (aj cj (aj (g8 cg (dh d7 (by decide))) cg)) (dh (aq (aq d7)) (by decide))) (aj (gw hu (ao 0 (pv 0)) cj (fun _ _=>rfl)) cg)) (bw (bw eq_nil))) cg
            · exact dh (aq (aq d7)) (by decide)
      · exact lq
    · refine d8 ?_ ?_
      · refine uf ?_ ?_ ?_
        · exact lg (mq hq) (ao 1 (pv 1)) iw (jr _)
        · refine fu ?_
          · refine iz ?_
            · refine g8 ?_ ?_
              · refine aj ?_ ?_
                · exact iw
                · refine aj ?_ ?_
                  · refine n8 ?_
                    · refine vh yp ?_ ?_ PyProof.Rows.boot_tuple ?_
                      · exact by rfl
                      · exact b_tuple
                      · refine aj ?_ ?_
                        · refine qm ?_
                          · refine w6 (N:=["k","remark"]) ?_ ?_ ?_ ?_ ?_ ?_ ?_ ?_
                            · exact ⟨rfl,fun j k h=>match j,h with | 0,h=>(by cases h; exact ⟨_,rfl,rfl,⟨.inl rfl,.inr (.inl rfl),.inl rfl⟩⟩) | _+1,h=>(by cases h)⟩
                            · exact ⟨rfl,rfl,by decide +kernel,by decide +kernel⟩
                            · exact rfl
                            · exact Zd (by rfl) b_range cj (gw hu (ao 0 (pv 0)) cj (fun _ _=>rfl))
                            · exact a02
                            · exact fun C s₀ H₀ ex pn=>pgE fun B=>(p8 0 (dz (show (["k","remark"]:List Str).Nodup by decide +kernel) rfl (Or.inl rfl)))
                            · exact fun C s₀ H₀ ex pn=>qe
                            · intro C s₀ H₀ ex pn
                              refine peE ?_
                              intro B
                              refine g8 ?_ ?_
                              · refine aj ?_ ?_
                                · exact iw
                                · refine aj ?_ ?_
                                  · exact d9 d_minus hr (by rfl) (aj (gw hu (ao 1 (pv 1)) cj (fun _ _=>rfl)) (aj (g8 (aj (ao 0 (pv 0)) (aj (g8 cg (dh d7 (by decide))) cg)) (dh (aq (aq d7)) (by decide))) cg)) (bw (bw eq_nil))
                                  · exact aj (gw hu (ao 1 (pv 1)) cj (fun _ _=>rfl)) cg
                              · exact dh (aq (aq (aq d7))) (by decide)
                        · exact cg
                  · exact cg
              · exact dh (aq (aq d7)) (by decide)
        · exact lq
      · refine d8 ?_ ?_
        · refine uf ?_ ?_ ?_
          · exact lg (mq hq) (ao 1 (pv 1)) iw (jr _)
          · exact fu (iz (d9 d_unequal_form hr (by rfl) (aj (d9 d_place_box hr (by rfl) (aj (gw hu (ao 0 (pv 0)) cj (fun _ _=>rfl)) cg) (bw eq_nil)) (aj (gw hu (ao 0 (pv 0)) cj (fun _ _=>rfl)) cg)) (bw (bw eq_nil))))
          · exact lq
        · refine d8 ?_ ?_
          · exact uf (lg (mq hq) (ao 1 (pv 1)) iw (jr _))   (fu (iz (d9 d_plain_form hr (by rfl) (aj (gw hu (ao 0 (pv 0)) cj (fun _ _=>rfl)) cg) (bw eq_nil))))   lq
          · refine fu ?_
            · refine iz ?_
              · refine g8 ?_ ?_
                · refine aj ?_ ?_
                  · exact a8s (by rfl) c_TURNED (ao 1 (pv 1)) (fun _ _=>rfl)
                  · refine aj ?_ ?_
                    · refine n8 ?_
                      · refine vh yp ?_ ?_ PyProof.Rows.boot_tuple ?_
                        · exact by rfl
                        · exact b_tuple
                        · refine aj ?_ ?_
                          · refine qm ?_
                            · refine w6 (N:=["member"]) ?_ ?_ ?_ ?_ ?_ ?_ ?_ ?_
                              · exact ⟨rfl,fun j k h=>match j,h with | _+0,h=>(by cases h)⟩
                              · exact ⟨rfl,rfl,by decide +kernel,by decide +kernel⟩
                              · exact rfl
                              · exact m8 (gw hu (ao 0 (pv 0)) cj (fun _ _=>rfl))
                              · exact m7
                              · exact fun C s₀ H₀ ex pn=>pgE fun B=>(p8 0 (dz (show (["member"]:List Str).Nodup by decide +kernel) rfl (Or.inl rfl)))
                              · exact fun C s₀ H₀ ex pn=>qe
                              · exact fun C s₀ H₀ ex pn=>peE fun B=>(d9 d_against_form hr (by rfl) (aj (ao 0 (pv 0)) cg) (bw eq_nil))
                          · exact cg
                    · exact cg
                · exact dh (aq (aq d7)) (by decide)
theorem Jz (F:Fun K "against_form" "against_form" vf f fd) (hmg:mg "against_form" = some (.ref f)) {nn:Nat} (d_against_form:dj P w K mg base "against_form" (3+nn) ["remark"] (_root_.K.fj nn)) (d_minus:dj P w K mg base "minus" 3 ["one","other"] (_root_.K.qz)) (d_place_box:dj P w K mg base "place_box" 1 ["hand"] (_root_.K.jy)) (d_plain_form:dj P w K mg base "plain_form" (3+nn) ["remark"] (_root_.K.gk nn)) (d_unequal_form:dj P w K mg base "unequal_form" 1 ["box","number"] (_root_.K.qt)) (b_range:mg "range" = none) (b_tuple:mg "tuple" = none) (c_TURNED:∃ a,mg "TURNED" = some (.ref a)∧Y9 K w a [("and","or"),("or","and")]):dj P w K mg base "against_form" (3+nn+1) ["remark"] (_root_.K.fj (nn+1)) :=
  ⟨f,fd,Ke F d_against_form d_minus d_place_box d_plain_form d_unequal_form b_range b_tuple c_TURNED,F.binds (ps:=["remark"]) fun _ _ _ _ _ _ us hl=>bd1 (fun _=>rfl) us hl,F.kp,hmg⟩
theorem Ej {f_plain_form:Addr} {fd_plain_form:FuncData} {f_against_form:Addr} {fd_against_form:FuncData} (F_plain_form:Fun K "plain_form" "plain_form" yu f_plain_form fd_plain_form) (h_plain_form:mg "plain_form" = some (.ref f_plain_form)) (F_against_form:Fun K "against_form" "against_form" vf f_against_form fd_against_form) (h_against_form:mg "against_form" = some (.ref f_against_form)) (d_equal_form:dj P w K mg base "equal_form" 1 ["box","number"] _root_.K.kh) (d_minus:dj P w K mg base "minus" 3 ["one","other"] _root_.K.qz) (d_place_box:dj P w K mg base "place_box" 1 ["hand"] _root_.K.jy) (d_unequal_form:dj P w K mg base "unequal_form" 1 ["box","number"] _root_.K.qt) (b_range:mg "range" = none) (b_tuple:mg "tuple" = none) (c_TURNED:∃ a,mg "TURNED" = some (.ref a)∧Y9 K w a [("and","or"),("or","and")]):∀ nn:Nat,dj P w K mg base "plain_form" (3+nn) ["remark"] (_root_.K.gk nn)∧dj P w K mg base "against_form" (3+nn) ["remark"] (_root_.K.fj nn)
  | 0=>⟨dj.zero F_plain_form h_plain_form (F_plain_form.binds (ps:=["remark"]) fun _ _ _ _ _ _ us hl=>bd1 (fun _=>rfl) us hl),dj.zero F_against_form h_against_form (F_against_form.binds (ps:=["remark"]) fun _ _ _ _ _ _ us hl=>bd1 (fun _=>rfl) us hl)⟩
  | nn+1=>by
    have ih:=Ej F_plain_form h_plain_form F_against_form h_against_form d_equal_form d_minus d_place_box d_unequal_form b_range b_tuple c_TURNED nn
    obtain ⟨d_plain_form,d_against_form⟩:=ih
    exact ⟨Mu F_plain_form h_plain_form d_against_form d_equal_form d_place_box d_plain_form b_tuple,Jz F_against_form h_against_form d_against_form d_minus d_place_box d_plain_form d_unequal_form b_range b_tuple c_TURNED⟩
noncomputable abbrev Cp:Stmt:=top 25
theorem Hv:jc ["program","number","duties","hand","places"] ["program","number"] (gj Cp):=⟨rfl,rfl,rfl,by decide +kernel,rfl,by decide +kernel,by decide +kernel⟩
theorem Nz (F:Fun K "others_of" "others_of" Cp f fd) (b_range:mg "range" = none):yc P w K mg base CX0 1 f fd ["program","number"] (spF K (["program","number"]:List Str).length _root_.K.vq):=by
  refine jl (N:=["program","number","duties","hand","places"]) F Hv (by decide)  fun cdv A outer s H E B hr=>?_
  have hu:=um hr
  have hq:=hr.units
  have nd:(["program","number","duties","hand","places"]:List Str).Nodup:=Hv.nd
  refine d8 ?_ ?_
  · exact Bt 2 (jk nd rfl (Or.inl rfl) (V9 cg (dh d7 (by decide)))) (fun _ _ _ h=>h)
  · refine d8 ?_ ?_
    · refine uw ?_ ?_ ?_ ?_ ?_ ?_
      · exact PassesOwn.never
      · exact rfl
      · exact m8 (gw hu (ao 0 (pv 0)) cj (fun _ _=>rfl))
      · exact v8 (is:=[3,4]) (v9 rfl (gn (dz nd rfl (Or.inr rfl)) (gn (dz nd rfl (Or.inl rfl)) qg)))
      · refine fu ?_
        · refine uf ?_ ?_ ?_
          · exact lg (Le hq) (ao 3 (pv 3)) (gw hu (gw hu (gw hu (ao 0 (pv 0)) cj (fun _ _=>rfl)) (ao 1 (pv 1)) (fun _ _=>rfl)) cj (fun _ _=>rfl)) (jr _)
          · refine fu ?_
            · refine Ah _ ?_
              · refine yx ?_
                · refine Ii PySem.F.plainAttrs_list PySem.F.slot_list_extend PySem.F.type_list_extend yh ?_ ?_
                  · exact pv 2
                  · refine su ?_ ?_
                    · refine qm ?_
                      · refine w6 (N:=["place","number","hand"]) ?_ ?_ ?_ ?_ ?_ ?_ ?_ ?_
                        · exact ⟨rfl,fun j k h=>match j,h with | 0,h=>(by cases h; exact ⟨_,rfl,rfl,⟨.inl rfl,.inr (.inl rfl),.inl rfl⟩⟩) | 1,h=>(by cases h; exact ⟨_,rfl,rfl,⟨.inl rfl,.inr (.inl rfl),.inl rfl⟩⟩) | _+2,h=>(by cases h)⟩
                        · exact ⟨rfl,rfl,by decide +kernel,by decide +kernel⟩
                        · exact rfl
                        · exact Ip (by rfl) b_range (ao 4 (pv 4))
                        · exact Il
                        · exact fun C s₀ H₀ ex pn=>pgE fun B=>(p8 0 (dz (show (["place","number","hand"]:List Str).Nodup by decide +kernel) rfl (Or.inl rfl)))
                        · exact fun C s₀ H₀ ex pn=>qe
                        · exact fun C s₀ H₀ ex pn=>peE fun B=>(g8 (aj iw (aj (ao 1 (pv 1)) (aj (ao 2 (pv 2)) (aj (ao 0 (pv 0)) cg)))) (dh (aq (aq (aq (aq d7)))) (by decide)))
                    · exact wz
          · exact lq
      · exact m7
    · exact fu (iz (ao 2 (pv 2)))
theorem Qs (F:Fun K "others_of" "others_of" Cp f fd) (hmg:mg "others_of" = some (.ref f)) (b_range:mg "range" = none):dj P w K mg base "others_of" 1 ["program","number"] _root_.K.vq :=
  ⟨f,fd,Nz F b_range,F.binds (ps:=["program","number"]) fun _ _ _ _ _ _ us hl=>bd2 (fun _ _=>rfl) us hl,F.kp,hmg⟩
noncomputable abbrev Ck:Stmt:=top 24
theorem Hr:jc ["program","numbers","duties","number"] ["program"] (gj Ck):=⟨rfl,rfl,rfl,by decide +kernel,rfl,by decide +kernel,by decide +kernel⟩
theorem Qy (F:Fun K "duties_of" "duties_of" Ck f fd) (d_others_of:dj P w K mg base "others_of" 1 ["program","number"] (_root_.K.vq)) (b_len:mg "len" = none) (b_list:mg "list" = none) (b_range:mg "range" = none):yc P w K mg base CX0 2 f fd ["program"] (spF K (["program"]:List Str).length _root_.K.wg):=by
  have d_others_of:=d_others_of.mono (show 1≤1 by first | decide | omega)
  refine jl (N:=["program","numbers","duties","number"]) F Hr (by decide)  fun cdv A outer s H E B hr=>?_
  have hu:=um hr
  have hq:=hr.units
  have nd:(["program","numbers","duties","number"]:List Str).Nodup:=Hr.nd
  refine d8 ?_ ?_
  · exact jw 1 (jk nd rfl (Or.inl rfl) (a0c rfl (by rfl) b_list (by rfl) b_range (n8 (vp Af (by rfl) b_len PySem.boot_len (aj (gw hu (ao 0 (pv 0)) cj (fun _ _=>rfl)) cg))))) (fun _ _ _ h=>h)
  · refine d8 ?_ ?_
    · exact Bt 2 (Jc (N:=["hand","places"]) ⟨rfl,rfl,by decide +kernel,by decide +kernel⟩ rfl (m8 (gw hu (ao 0 (pv 0)) cj (fun _ _=>rfl))) (fun C s₀ H₀ ex pn=>pgE fun B=>(v8 (is:=[0,1]) (v9 rfl (gn (dz (show (["hand","places"]:List Str).Nodup by decide +kernel) rfl (Or.inl rfl)) (gn (dz (show (["hand","places"]:List Str).Nodup by decide +kernel) rfl (Or.inl rfl)) qg))))) (fun C s₀ H₀ ex pn=>qe) (fun C s₀ H₀ ex pn=>peE fun B=>(g8 (aj iw (aj (ao 0 (pv 0)) cg)) (dh (aq (aq d7)) (by decide)))) (dz nd rfl (Or.inl rfl)) rfl) (fun σ H Q h=>Li ⟨rfl,fun j k h=>match j,h with | _+0,h=>(by cases h)⟩ m7 h)
    · refine d8 ?_ ?_
      · refine Ah _ ?_
        · refine yx ?_
          · refine Ii PySem.F.plainAttrs_list PySem.F.slot_list_extend PySem.F.type_list_extend yh ?_ ?_
            · exact pv 2
            · refine su ?_ ?_
              · refine qm ?_
                · refine w6 (N:=["number"]) ?_ ?_ ?_ ?_ ?_ ?_ ?_ ?_
                  · exact ⟨rfl,fun j k h=>match j,h with | _+0,h=>(by cases h)⟩
                  · exact ⟨rfl,rfl,by decide +kernel,by decide +kernel⟩
                  · exact rfl
                  · exact m8 (ao 1 (pv 1))
                  · exact m7
                  · exact fun C s₀ H₀ ex pn=>pgE fun B=>(p8 0 (dz (show (["number"]:List Str).Nodup by decide +kernel) rfl (Or.inl rfl)))
                  · exact fun C s₀ H₀ ex pn=>qe
                  · exact fun C s₀ H₀ ex pn=>peE fun B=>(g8 (aj iw (aj (ao 0 (pv 0)) cg)) (dh (aq (aq d7)) (by decide)))
              · exact wz
      · refine d8 ?_ ?_
        · refine uw ?_ ?_ ?_ ?_ ?_ ?_
          · exact PassesOwn.never
          · exact rfl
          · exact m8 (ao 1 (pv 1))
          · exact p8 3 (dz nd rfl (Or.inl rfl))
          · exact fu (Ah 2 (yx (Ii PySem.F.plainAttrs_list PySem.F.slot_list_extend PySem.F.type_list_extend yh (pv 2) (su (d9 d_others_of hr (by rfl) (aj (ao 0 (pv 0)) (aj (ao 3 (pv 3)) cg)) (bw (bw eq_nil))) wz))))
          · exact m7
        · exact fu (iz (ao 2 (pv 2)))
theorem Pq (F:Fun K "duties_of" "duties_of" Ck f fd) (hmg:mg "duties_of" = some (.ref f)) (d_others_of:dj P w K mg base "others_of" 1 ["program","number"] (_root_.K.vq)) (b_len:mg "len" = none) (b_list:mg "list" = none) (b_range:mg "range" = none):dj P w K mg base "duties_of" 2 ["program"] _root_.K.wg :=
  ⟨f,fd,Qy F d_others_of b_len b_list b_range,F.binds (ps:=["program"]) fun _ _ _ _ _ _ us hl=>bd1 (fun _=>rfl) us hl,F.kp,hmg⟩
noncomputable abbrev zu:Stmt:=top 31
theorem Ek:jc ["one","low","high"] ["one","low","high"] (gj zu):=⟨rfl,rfl,rfl,by decide +kernel,rfl,by decide +kernel,by decide +kernel⟩
theorem Ko (F:Fun K "within_form" "within_form" zu f fd) (d_minus:dj P w K mg base "minus" 3 ["one","other"] (_root_.K.qz)):yc P w K mg base CX0 4 f fd ["one","low","high"] (spF K (["one","low","high"]:List Str).length _root_.K.ql):=by
  have d_minus:=d_minus.mono (show 3≤3 by first | decide | omega)
  refine jl (N:=["one","low","high"]) F Ek (by decide)  fun cdv A outer s H E B hr=>?_
  have hu:=um hr
  have hq:=hr.units
  have nd:(["one","low","high"]:List Str).Nodup:=Ek.nd
  refine fu ?_
  · refine iz ?_
    · refine g8 ?_ ?_
      · refine aj ?_ ?_
        · exact iw
        · refine aj ?_ ?_
          · refine g8 ?_ ?_
            · refine aj ?_ ?_
              · exact g8 (aj iw (aj (d9 d_minus hr (by rfl) (aj (ao 1 (pv 1)) (aj (ao 0 (pv 0)) cg)) (bw (bw eq_nil))) cg)) (dh (aq (aq d7)) (by decide))
              · exact aj (g8 (aj iw (aj (d9 d_minus hr (by rfl) (aj (ao 0 (pv 0)) (aj (ao 2 (pv 2)) cg)) (bw (bw eq_nil))) cg)) (dh (aq (aq d7)) (by decide))) cg
            · exact dh (aq (aq d7)) (by decide)
          · exact cg
      · exact dh (aq (aq d7)) (by decide)
theorem Kr (F:Fun K "within_form" "within_form" zu f fd) (hmg:mg "within_form" = some (.ref f)) (d_minus:dj P w K mg base "minus" 3 ["one","other"] (_root_.K.qz)):dj P w K mg base "within_form" 4 ["one","low","high"] _root_.K.ql :=
  ⟨f,fd,Ko F d_minus,F.binds (ps:=["one","low","high"]) fun _ _ _ _ _ _ us hl=>bd3 (fun _ _ _=>rfl) us hl,F.kp,hmg⟩
noncomputable abbrev Cr:Stmt:=top 30
theorem Hl:jc ["program","sets","ends","box","owner","low","high","start"] ["program","sets"] (gj Cr):=⟨rfl,rfl,rfl,by decide +kernel,rfl,by decide +kernel,by decide +kernel⟩
theorem Ol (F:Fun K "set_forms" "set_forms" Cr f fd) (d_within_form:dj P w K mg base "within_form" 4 ["one","low","high"] (_root_.K.ql)):yc P w K mg base CX0 5 f fd ["program","sets"] (spF K (["program","sets"]:List Str).length _root_.K.qx):=by
  have d_within_form:=d_within_form.mono (show 4≤4 by first | decide | omega)
  refine jl (N:=["program","sets","ends","box","owner","low","high","start"]) F Hl (by decide)  fun cdv A outer s H E B hr=>?_
  have hu:=um hr
  have hq:=hr.units
  have nd:(["program","sets","ends","box","owner","low","high","start"]:List Str).Nodup:=Hl.nd
  refine d8 ?_ ?_
  · exact Bt 2 (jk nd rfl (Or.inr rfl) Ma) (fun _ _ _ h=>h)
  · refine d8 ?_ ?_
    · refine uw ?_ ?_ ?_ ?_ ?_ ?_
      · exact PassesOwn.never
      · exact rfl
      · exact m8 (gw hu (ao 0 (pv 0)) cj (fun _ _=>rfl))
      · exact v8 (is:=[3,4,5,6,7]) (v9 rfl (gn (dz nd rfl (Or.inl rfl)) (gn (dz nd rfl (Or.inl rfl)) (gn (dz nd rfl (Or.inl rfl)) (gn (dz nd rfl (Or.inl rfl)) (gn (dz nd rfl (Or.inl rfl)) qg))))))
      · refine fu ?_
        · refine Ai _ ?_ ?_ ?_ ?_ ?_
          · exact hu
          · exact pv 2
          · exact ao 3 (pv 3)
          · refine g8 ?_ ?_
            · refine aj ?_ ?_
              · exact g8 (aj (ao 5 (pv 5)) (aj (g8 cg (dh d7 (by decide))) cg)) (dh (aq (aq d7)) (by decide))
              · exact aj (g8 (aj (ao 6 (pv 6)) (aj (g8 cg (dh d7 (by decide))) cg)) (dh (aq (aq d7)) (by decide))) cg
            · exact dh (aq (aq d7)) (by decide)
          · exact rfl
      · exact m7
    · refine fu ?_
      · refine iz ?_
        · refine qm ?_
          · refine w6 (N:=["box","one","ends"]) ?_ ?_ ?_ ?_ ?_ ?_ ?_ ?_
            · exact ⟨rfl,fun j k h=>match j,h with | 0,h=>(by cases h; exact ⟨_,rfl,rfl,⟨.inl rfl,.inr (.inl rfl),.inl rfl⟩⟩) | _+1,h=>(by cases h)⟩
            · exact ⟨rfl,rfl,by decide +kernel,by decide +kernel⟩
            · exact rfl
            · exact m8 (ao 1 (pv 1))
            · exact m7
            · exact fun C s₀ H₀ ex pn=>pgE fun B=>(v8 (is:=[0,1]) (v9 rfl (gn (dz (show (["box","one","ends"]:List Str).Nodup by decide +kernel) rfl (Or.inl rfl)) (gn (dz (show (["box","one","ends"]:List Str).Nodup by decide +kernel) rfl (Or.inl rfl)) qg))))
            · exact fun C s₀ H₀ ex pn=>qe
            · intro C s₀ H₀ ex pn
              refine peE ?_
              intro B
              refine d9 d_within_form ?_ ?_ ?_ ?_
              · exact hr
              · exact by rfl
              · exact aj (ao 1 (pv 1)) (aj (gw hu (gw hu (ao 2 (pv 2)) (ao 0 (pv 0)) (fun _ _=>rfl)) cj (fun _ _=>rfl)) (aj (gw hu (gw hu (ao 2 (pv 2)) (ao 0 (pv 0)) (fun _ _=>rfl)) cj (fun _ _=>rfl)) cg))
              · exact bw (bw (bw eq_nil))
theorem Qv (F:Fun K "set_forms" "set_forms" Cr f fd) (hmg:mg "set_forms" = some (.ref f)) (d_within_form:dj P w K mg base "within_form" 4 ["one","low","high"] (_root_.K.ql)):dj P w K mg base "set_forms" 5 ["program","sets"] _root_.K.qx :=
  ⟨f,fd,Ol F d_within_form,F.binds (ps:=["program","sets"]) fun _ _ _ _ _ _ us hl=>bd2 (fun _ _=>rfl) us hl,F.kp,hmg⟩
noncomputable abbrev zx:Stmt:=top 29
theorem Ei:jc ["program","annotation","step","others","stood","forms"] ["program","annotation","step","others"] (gj zx):=⟨rfl,rfl,rfl,by decide +kernel,rfl,by decide +kernel,by decide +kernel⟩
theorem Kp (F:Fun K "given_forms" "given_forms" zx f fd) (d_plain_form:dj P w K mg base "plain_form" 43 ["remark"] (_root_.K.gk 40)) (d_set_forms:dj P w K mg base "set_forms" 5 ["program","sets"] (_root_.K.qx)):yc P w K mg base CX0 44 f fd ["program","annotation","step","others"] (a9s K (["program","annotation","step","others"]:List Str).length _root_.K.o9):=by
  have d_plain_form:=d_plain_form.mono (show 43≤43 by first | decide | omega)
  have d_set_forms:=d_set_forms.mono (show 5≤43 by first | decide | omega)
  refine a2g (N:=["program","annotation","step","others","stood","forms"]) F Ei (by decide) (Fo (Fo (Fo (Fo (Fo (a2e _)))))) fun cdv A outer s H E B hr=>?_
  have hu:=um hr
  have hq:=hr.units
  have nd:(["program","annotation","step","others","stood","forms"]:List Str).Nodup:=Ei.nd
  refine Fl ?_ ?_
  · refine @jw _ _ _ _ (tOf _ _ _) _ ?_ (fun _ _ _ h=>h)
    · refine jk ?_ ?_ ?_ ?_
      · exact nd
      · exact rfl
      · exact Or.inl rfl
      · exact jf nu (Cy (aj (g8 (aj (gw hu (ao 2 (pv 2)) cj (fun _ _=>rfl)) (aj (gw hu (ao 2 (pv 2)) cj (fun _ _=>rfl)) cg)) (dh (aq (aq d7)) (by decide))) cg) (dh (aq d7) (by decide))) (ao 3 (pv 3))
  · refine Fl ?_ ?_
    · exact Bt 5 (Jc (N:=["hand","place"]) ⟨rfl,rfl,by decide +kernel,by decide +kernel⟩ rfl (m8 (ao 4 (pv 4))) (fun C s₀ H₀ ex pn=>pgE fun B=>(v8 (is:=[0,1]) (v9 rfl (gn (dz (show (["hand","place"]:List Str).Nodup by decide +kernel) rfl (Or.inl rfl)) (gn (dz (show (["hand","place"]:List Str).Nodup by decide +kernel) rfl (Or.inl rfl)) qg))))) (fun C s₀ H₀ ex pn=>qe) (fun C s₀ H₀ ex pn=>peE fun B=>(d9 d_plain_form hr (by rfl) (aj (g8 (aj iw (aj (ao 0 (pv 0)) (aj (ao 1 (pv 1)) cg))) (dh (aq (aq (aq d7))) (by decide))) cg) (bw eq_nil))) (dz nd rfl (Or.inl rfl)) rfl) (fun σ H Q h=>Li ⟨rfl,fun j k h=>match j,h with | _+0,h=>(by cases h)⟩ m7 h)
    · refine Fl ?_ ?_
      · refine Ah _ ?_
        · refine yx ?_
          · refine Ii PySem.F.plainAttrs_list PySem.F.slot_list_extend PySem.F.type_list_extend yh ?_ ?_
            · exact pv 5
            · refine su ?_ ?_
              · refine qm ?_
                · refine w6 (N:=["there","annotation"]) ?_ ?_ ?_ ?_ ?_ ?_ ?_ ?_
                  · exact ⟨rfl,fun j k h=>match j,h with | 0,h=>(by cases h; exact ⟨_,rfl,rfl,⟨.inl rfl,.inr (.inl rfl),.inl rfl⟩⟩) | _+1,h=>(by cases h)⟩
                  · exact ⟨rfl,rfl,by decide +kernel,by decide +kernel⟩
                  · exact rfl
                  · exact m8 (ao 4 (pv 4))
                  · exact m7
                  · exact fun C s₀ H₀ ex pn=>pgE fun B=>(p8 0 (dz (show (["there","annotation"]:List Str).Nodup by decide +kernel) rfl (Or.inl rfl)))
                  · exact fun C s₀ H₀ ex pn=>qe
                  · exact fun C s₀ H₀ ex pn=>peE fun B=>(d9 d_plain_form hr (by rfl) (aj (Ad hu (ao 1 (pv 1)) (ao 0 (pv 0)) (fun _ _=>rfl)) cg) (bw eq_nil))
              · exact wz
      · refine Fl ?_ ?_
        · exact Dh 5 (yx (Ii PySem.F.plainAttrs_list PySem.F.slot_list_append PySem.F.type_list_append Bp (pv 5) (su (d9 d_plain_form hr (by rfl) (aj (gw hu (ao 2 (pv 2)) cj (fun _ _=>rfl)) cg) (bw eq_nil)) wz)))
        · refine Fl ?_ ?_
          · exact Ah 5 (yx (Ii PySem.F.plainAttrs_list PySem.F.slot_list_extend PySem.F.type_list_extend yh (pv 5) (su (d9 d_set_forms hr (by rfl) (aj (ao 0 (pv 0)) (aj (gw hu (ao 2 (pv 2)) cj (fun _ _=>rfl)) cg)) (bw (bw eq_nil))) wz)))
          · exact a5b 5 (pv 5)
theorem Kh (F:Fun K "given_forms" "given_forms" zx f fd) (hmg:mg "given_forms" = some (.ref f)) (d_plain_form:dj P w K mg base "plain_form" 43 ["remark"] (_root_.K.gk 40)) (d_set_forms:dj P w K mg base "set_forms" 5 ["program","sets"] (_root_.K.qx)):Jo P w K mg base "given_forms" 44 ["program","annotation","step","others"] _root_.K.o9 :=
  ⟨f,fd,Kp F d_plain_form d_set_forms,F.binds (ps:=["program","annotation","step","others"]) fun _ _ _ _ _ _ us hl=>bd4 (fun _ _ _ _=>rfl) us hl,F.kp,hmg⟩
noncomputable abbrev Ay:Stmt:=top 28
theorem Gd:jc ["program","annotation","step","others","asked","forms"] ["program","annotation","step","others","asked"] (gj Ay):=⟨rfl,rfl,rfl,by decide +kernel,rfl,by decide +kernel,by decide +kernel⟩
theorem N8 (F:Fun K "step_forms" "step_forms" Ay f fd) (d_against_form:dj P w K mg base "against_form" 43 ["remark"] (_root_.K.fj 40)) (d_behind:dj P w K mg base "behind" 44 ["remark","hand","sets","to"] (_root_.K.yq)) (d_given_forms:Jo P w K mg base "given_forms" 44 ["program","annotation","step","others"] (_root_.K.o9)):yc P w K mg base CX0 45 f fd ["program","annotation","step","others","asked"] (spF K (["program","annotation","step","others","asked"]:List Str).length _root_.K.lu):=by
  have d_against_form:=d_against_form.mono (show 43≤44 by first | decide | omega)
  have d_behind:=d_behind.mono (show 44≤44 by first | decide | omega)
  have d_given_forms:=d_given_forms.mono (show 44≤44 by first | decide | omega)
  refine jl (N:=["program","annotation","step","others","asked","forms"]) F Gd (by decide)  fun cdv A outer s H E B hr=>?_
  have hu:=um hr
  have hq:=hr.units
  have nd:(["program","annotation","step","others","asked","forms"]:List Str).Nodup:=Gd.nd
  refine d8 ?_ ?_
  · exact Bt 5 (jk nd rfl (Or.inl rfl) (a3g d_given_forms hr (by rfl) (aj (ao 0 (pv 0)) (aj (ao 1 (pv 1)) (aj (ao 2 (pv 2)) (aj (ao 3 (pv 3)) cg)))) (bw (bw (bw (bw eq_nil)))))) (fun _ _ _ h=>h)
  · refine d8 ?_ ?_
    · refine Dh _ ?_
      · refine yx ?_
        · refine Ii PySem.F.plainAttrs_list PySem.F.slot_list_append PySem.F.type_list_append Bp ?_ ?_
          · exact pv 5
          · refine su ?_ ?_
            · refine d9 d_against_form ?_ ?_ ?_ ?_
              · exact hr
              · exact by rfl
              · refine aj ?_ ?_
                · exact d9 d_behind hr (by rfl) (aj (ao 4 (pv 4)) (aj (gw hu (ao 2 (pv 2)) cj (fun _ _=>rfl)) (aj (gw hu (ao 2 (pv 2)) cj (fun _ _=>rfl)) (aj (gw hu (ao 2 (pv 2)) cj (fun _ _=>rfl)) cg)))) (bw (bw (bw (bw eq_nil))))
                · exact cg
              · exact bw eq_nil
            · exact wz
    · exact fu (iz (ao 5 (pv 5)))
theorem Ng (F:Fun K "step_forms" "step_forms" Ay f fd) (hmg:mg "step_forms" = some (.ref f)) (d_against_form:dj P w K mg base "against_form" 43 ["remark"] (_root_.K.fj 40)) (d_behind:dj P w K mg base "behind" 44 ["remark","hand","sets","to"] (_root_.K.yq)) (d_given_forms:Jo P w K mg base "given_forms" 44 ["program","annotation","step","others"] (_root_.K.o9)):dj P w K mg base "step_forms" 45 ["program","annotation","step","others","asked"] _root_.K.lu :=
  ⟨f,fd,N8 F d_against_form d_behind d_given_forms,F.binds (ps:=["program","annotation","step","others","asked"]) fun _ _ _ _ _ _ us hl=>bd5 (fun _ _ _ _ _=>rfl) us hl,F.kp,hmg⟩
noncomputable abbrev Aa:Stmt:=top 27
theorem Er:jc ["program","annotation","hand","forms"] ["program","annotation","hand"] (gj Aa):=⟨rfl,rfl,rfl,by decide +kernel,rfl,by decide +kernel,by decide +kernel⟩
theorem Kf (F:Fun K "start_forms" "start_forms" Aa f fd) (d_against_form:dj P w K mg base "against_form" 43 ["remark"] (_root_.K.fj 40)) (d_equal_form:dj P w K mg base "equal_form" 1 ["box","number"] (_root_.K.kh)) (d_place_box:dj P w K mg base "place_box" 1 ["hand"] (_root_.K.jy)):yc P w K mg base CX0 44 f fd ["program","annotation","hand"] (spF K (["program","annotation","hand"]:List Str).length _root_.K.ud):=by
  have d_against_form:=d_against_form.mono (show 43≤43 by first | decide | omega)
  have d_equal_form:=d_equal_form.mono (show 1≤43 by first | decide | omega)
  have d_place_box:=d_place_box.mono (show 1≤43 by first | decide | omega)
  refine jl (N:=["program","annotation","hand","forms"]) F Er (by decide)  fun cdv A outer s H E B hr=>?_
  have hu:=um hr
  have hq:=hr.units
  have nd:(["program","annotation","hand","forms"]:List Str).Nodup:=Er.nd
  refine d8 ?_ ?_
  · exact Bt 3 (Jc (N:=["box"]) ⟨rfl,rfl,by decide +kernel,by decide +kernel⟩ rfl (m8 (gw hu (ao 0 (pv 0)) cj (fun _ _=>rfl))) (fun C s₀ H₀ ex pn=>pgE fun B=>(p8 0 (dz (show (["box"]:List Str).Nodup by decide +kernel) rfl (Or.inl rfl)))) (fun C s₀ H₀ ex pn=>qe) (fun C s₀ H₀ ex pn=>peE fun B=>(d9 d_equal_form hr (by rfl) (aj (gw hu (ao 0 (pv 0)) cj (fun _ _=>rfl)) (aj (gw hu (ao 0 (pv 0)) cj (fun _ _=>rfl)) cg)) (bw (bw eq_nil)))) (dz nd rfl (Or.inl rfl)) rfl) (fun σ H Q h=>Li ⟨rfl,fun j k h=>match j,h with | _+0,h=>(by cases h)⟩ m7 h)
  · refine d8 ?_ ?_
    · refine Ah _ ?_
      · refine yx ?_
        · refine Ii PySem.F.plainAttrs_list PySem.F.slot_list_extend PySem.F.type_list_extend yh ?_ ?_
          · exact pv 3
          · refine su ?_ ?_
            · refine qm ?_
              · refine w6 (N:=["other","places"]) ?_ ?_ ?_ ?_ ?_ ?_ ?_ ?_
                · exact ⟨rfl,fun j k h=>match j,h with | _+0,h=>(by cases h)⟩
                · exact ⟨rfl,rfl,by decide +kernel,by decide +kernel⟩
                · exact rfl
                · exact m8 (gw hu (ao 0 (pv 0)) cj (fun _ _=>rfl))
                · exact m7
                · exact fun C s₀ H₀ ex pn=>pgE fun B=>(v8 (is:=[0,1]) (v9 rfl (gn (dz (show (["other","places"]:List Str).Nodup by decide +kernel) rfl (Or.inl rfl)) (gn (dz (show (["other","places"]:List Str).Nodup by decide +kernel) rfl (Or.inl rfl)) qg))))
                · exact fun C s₀ H₀ ex pn=>qe
                · exact fun C s₀ H₀ ex pn=>peE fun B=>(d9 d_equal_form hr (by rfl) (aj (d9 d_place_box hr (by rfl) (aj (ao 0 (pv 0)) cg) (bw eq_nil)) (aj cj cg)) (bw (bw eq_nil)))
            · exact wz
    · refine d8 ?_ ?_
      · refine Dh _ ?_
        · refine yx ?_
          · refine Ii PySem.F.plainAttrs_list PySem.F.slot_list_append PySem.F.type_list_append Bp ?_ ?_
            · exact pv 3
            · exact su (d9 d_against_form hr (by rfl) (aj (Ad hu (ao 1 (pv 1)) (g8 (aj (ao 2 (pv 2)) (aj cj cg)) (dh (aq (aq d7)) (by decide))) (fun _ _=>rfl)) cg) (bw eq_nil)) wz
      · exact fu (iz (ao 3 (pv 3)))
theorem Kw (F:Fun K "start_forms" "start_forms" Aa f fd) (hmg:mg "start_forms" = some (.ref f)) (d_against_form:dj P w K mg base "against_form" 43 ["remark"] (_root_.K.fj 40)) (d_equal_form:dj P w K mg base "equal_form" 1 ["box","number"] (_root_.K.kh)) (d_place_box:dj P w K mg base "place_box" 1 ["hand"] (_root_.K.jy)):dj P w K mg base "start_forms" 44 ["program","annotation","hand"] _root_.K.ud :=
  ⟨f,fd,Kf F d_against_form d_equal_form d_place_box,F.binds (ps:=["program","annotation","hand"]) fun _ _ _ _ _ _ us hl=>bd3 (fun _ _ _=>rfl) us hl,F.kp,hmg⟩
noncomputable abbrev Ba:Stmt:=top 26
theorem G5:jc ["program","annotation","duty","step","asked","there"] ["program","annotation","duty"] (gj Ba):=⟨rfl,rfl,rfl,by decide +kernel,rfl,by decide +kernel,by decide +kernel⟩
theorem N5 (F:Fun K "duty_forms" "duty_forms" Ba f fd) (d_start_forms:dj P w K mg base "start_forms" 44 ["program","annotation","hand"] (_root_.K.ud)) (d_step_forms:dj P w K mg base "step_forms" 45 ["program","annotation","step","others","asked"] (_root_.K.lu)):yc P w K mg base CX0 46 f fd ["program","annotation","duty"] (spF K (["program","annotation","duty"]:List Str).length _root_.K.jo):=by
  have d_start_forms:=d_start_forms.mono (show 44≤45 by first | decide | omega)
  have d_step_forms:=d_step_forms.mono (show 45≤45 by first | decide | omega)
  refine jl (N:=["program","annotation","duty","step","asked","there"]) F G5 (by decide)  fun cdv A outer s H E B hr=>?_
  have hu:=um hr
  have hq:=hr.units
  have nd:(["program","annotation","duty","step","asked","there"]:List Str).Nodup:=G5.nd
  refine d8 ?_ ?_
  · refine uf ?_ ?_ ?_
    · exact lg (mq hq) (gw hu (ao 2 (pv 2)) cj (fun _ _=>rfl)) iw (jr _)
    · exact fu (iz (d9 d_start_forms hr (by rfl) (aj (ao 0 (pv 0)) (aj (ao 1 (pv 1)) (aj (gw hu (ao 2 (pv 2)) cj (fun _ _=>rfl)) cg))) (bw (bw (bw eq_nil)))))
    · exact lq
  · refine d8 ?_ ?_
    · exact jw 3 (jk nd rfl (Or.inl rfl) (gw hu (gw hu (ao 0 (pv 0)) cj (fun _ _=>rfl)) (gw hu (ao 2 (pv 2)) cj (fun _ _=>rfl)) (fun _ _=>rfl))) (fun _ _ _ h=>h)
    · refine d8 ?_ ?_
      · refine uf ?_ ?_ ?_
        · exact lg (mq hq) (gw hu (ao 2 (pv 2)) cj (fun _ _=>rfl)) iw (jr _)
        · refine d8 ?_ ?_
          · exact jw 4 (jk nd rfl (Or.inl rfl) (Ad hu (ao 1 (pv 1)) (g8 (aj (gw hu (ao 3 (pv 3)) cj (fun _ _=>rfl)) (aj (gw hu (ao 3 (pv 3)) cj (fun _ _=>rfl)) cg)) (dh (aq (aq d7)) (by decide))) (fun _ _=>rfl))) (fun _ _ _ h=>h)
          · exact fu (iz (d9 d_step_forms hr (by rfl) (aj (ao 0 (pv 0)) (aj (ao 1 (pv 1)) (aj (ao 3 (pv 3)) (aj (Cy cg (dh d7 (by decide))) (aj (ao 4 (pv 4)) cg))))) (bw (bw (bw (bw (bw eq_nil)))))))
        · exact lq
      · refine d8 ?_ ?_
        · exact jw 5 (jk nd rfl (Or.inl rfl) (g8 (aj (gw hu (ao 2 (pv 2)) cj (fun _ _=>rfl)) (aj (gw hu (ao 2 (pv 2)) cj (fun _ _=>rfl)) cg)) (dh (aq (aq d7)) (by decide)))) (fun _ _ _ h=>h)
        · refine fu ?_
          · refine iz ?_
            · refine d9 d_step_forms ?_ ?_ ?_ ?_
              · exact hr
              · exact by rfl
              · exact aj (ao 0 (pv 0)) (aj (ao 1 (pv 1)) (aj (ao 3 (pv 3)) (aj (Cy (aj (ao 5 (pv 5)) cg) (dh (aq d7) (by decide))) (aj (Ad hu (ao 1 (pv 1)) (ao 5 (pv 5)) (fun _ _=>rfl)) cg))))
              · exact bw (bw (bw (bw (bw eq_nil))))
theorem Mi (F:Fun K "duty_forms" "duty_forms" Ba f fd) (hmg:mg "duty_forms" = some (.ref f)) (d_start_forms:dj P w K mg base "start_forms" 44 ["program","annotation","hand"] (_root_.K.ud)) (d_step_forms:dj P w K mg base "step_forms" 45 ["program","annotation","step","others","asked"] (_root_.K.lu)):dj P w K mg base "duty_forms" 46 ["program","annotation","duty"] _root_.K.jo :=
  ⟨f,fd,N5 F d_start_forms d_step_forms,F.binds (ps:=["program","annotation","duty"]) fun _ _ _ _ _ _ us hl=>bd3 (fun _ _ _=>rfl) us hl,F.kp,hmg⟩
noncomputable abbrev zj:Stmt:=top 33
theorem Eo:jc ["_law_script","_law_k"] ["_law_script","_law_k"] (gj zj):=⟨rfl,rfl,rfl,by decide +kernel,rfl,by decide +kernel,by decide +kernel⟩
theorem Kz (F:Fun K "_law_cell_at" "_law_cell_at" zj f fd) (b_len:mg "len" = none):yc P w K mg base CX0 1 f fd ["_law_script","_law_k"] (spF K (["_law_script","_law_k"]:List Str).length _root_.K.jj):=by
  refine jl (N:=["_law_script","_law_k"]) F Eo (by decide)  fun cdv A outer s H E B hr=>?_
  have hu:=um hr
  have hq:=hr.units
  have nd:(["_law_script","_law_k"]:List Str).Nodup:=Eo.nd
  exact d8 (uf (lg Z1 (ao 1 (pv 1)) (n8 (vp Af (by rfl) b_len PySem.boot_len (aj (ao 0 (pv 0)) cg))) (jr _))   (fu (iz (gw hu (ao 0 (pv 0)) (ao 1 (pv 1)) (fun _ _=>rfl))))   lq)   (fu (iz cj))
theorem Ky (F:Fun K "_law_cell_at" "_law_cell_at" zj f fd) (hmg:mg "_law_cell_at" = some (.ref f)) (b_len:mg "len" = none):dj P w K mg base "_law_cell_at" 1 ["_law_script","_law_k"] _root_.K.jj :=
  ⟨f,fd,Kz F b_len,F.binds (ps:=["_law_script","_law_k"]) fun _ _ _ _ _ _ us hl=>bd2 (fun _ _=>rfl) us hl,F.kp,hmg⟩
noncomputable abbrev Ge:Stmt:=top 34
theorem M6:jc ["_law_digits","_law_pairs"] ["_law_digits"] (gj Ge):=⟨rfl,rfl,rfl,by decide +kernel,rfl,by decide +kernel,by decide +kernel⟩
theorem Wa (F:Fun K "_law_sum" "_law_sum" Ge f fd) (b_tuple:mg "tuple" = none):yc P w K mg base CX0 1 f fd ["_law_digits"] (spF K (["_law_digits"]:List Str).length _root_.K.o8):=by
  refine jl (N:=["_law_digits","_law_pairs"]) F M6 (by decide)  fun cdv A outer s H E B hr=>?_
  have hu:=um hr
  have hq:=hr.units
  have nd:(["_law_digits","_law_pairs"]:List Str).Nodup:=M6.nd
  refine d8 ?_ ?_
  · refine @jw _ _ _ _ (tOf _ _ _) _ ?_ (fun _ _ _ h=>h)
    · refine jk ?_ ?_ ?_ ?_
      · exact nd
      · exact rfl
      · exact Or.inl rfl
      · refine Cy ?_ ?_
        · refine aj ?_ ?_
          · exact g8 (aj iw (aj (jf Jf (jf nq (jf m6 (ao 0 (pv 0)) cj) cj) cj) cg)) (dh (aq (aq d7)) (by decide))
          · exact aj (g8 (aj iw (aj (jf Jf (jf nq (jf m6 (ao 0 (pv 0)) cj) cj) cj) cg)) (dh (aq (aq d7)) (by decide))) cg
        · exact dh (aq (aq d7)) (by decide)
  · refine fu ?_
    · refine iz ?_
      · refine g8 ?_ ?_
        · refine aj ?_ ?_
          · exact jf Jf (jf nq (ao 0 (pv 0)) cj) cj
          · refine aj ?_ ?_
            · refine n8 ?_
              · refine vh yp ?_ ?_ PyProof.Rows.boot_tuple ?_
                · exact by rfl
                · exact b_tuple
                · refine aj ?_ ?_
                  · refine qm ?_
                    · refine w6 (N:=["_law_pair"]) ?_ ?_ ?_ ?_ ?_ ?_ ?_ ?_
                      · exact ⟨rfl,fun j k h=>match j,h with | _+0,h=>(by cases h)⟩
                      · exact ⟨rfl,rfl,by decide +kernel,by decide +kernel⟩
                      · exact rfl
                      · exact m8 (ao 1 (pv 1))
                      · exact m7
                      · exact fun C s₀ H₀ ex pn=>pgE fun B=>(p8 0 (dz (show (["_law_pair"]:List Str).Nodup by decide +kernel) rfl (Or.inl rfl)))
                      · exact fun C s₀ H₀ ex pn=>(Us fun B=>(lg (Le hq) (gw hu (ao 0 (pv 0)) cj (fun _ _=>rfl)) cj (jr _)))
                      · exact fun C s₀ H₀ ex pn=>peE fun B=>(ao 0 (pv 0))
                  · exact cg
            · exact cg
        · exact dh (aq (aq d7)) (by decide)
theorem Vv (F:Fun K "_law_sum" "_law_sum" Ge f fd) (hmg:mg "_law_sum" = some (.ref f)) (b_tuple:mg "tuple" = none):dj P w K mg base "_law_sum" 1 ["_law_digits"] _root_.K.o8 :=
  ⟨f,fd,Wa F b_tuple,F.binds (ps:=["_law_digits"]) fun _ _ _ _ _ _ us hl=>bd1 (fun _=>rfl) us hl,F.kp,hmg⟩
noncomputable abbrev Dz:Stmt:=top 35
theorem Kd:jc ["_law_digits","_law_many"] ["_law_digits","_law_many"] (gj Dz):=⟨rfl,rfl,rfl,by decide +kernel,rfl,by decide +kernel,by decide +kernel⟩
theorem Tq (F:Fun K "_law_atom" "_law_atom" Dz f fd) (d_law_sum:dj P w K mg base "_law_sum" 1 ["_law_digits"] (_root_.K.o8)):yc P w K mg base CX0 2 f fd ["_law_digits","_law_many"] (spF K (["_law_digits","_law_many"]:List Str).length _root_.K.ni):=by
  have d_law_sum:=d_law_sum.mono (show 1≤1 by first | decide | omega)
  refine jl (N:=["_law_digits","_law_many"]) F Kd (by decide)  fun cdv A outer s H E B hr=>?_
  have hu:=um hr
  have hq:=hr.units
  have nd:(["_law_digits","_law_many"]:List Str).Nodup:=Kd.nd
  refine d8 ?_ ?_
  · refine uf ?_ ?_ ?_
    · exact lg (mq hq) (jf nq (ao 0 (pv 0)) cj) cj (jr _)
    · exact fu (iz (g8 (aj iw (aj (d9 d_law_sum hr (by rfl) (aj (jf m6 (ao 0 (pv 0)) cj) cg) (bw eq_nil)) cg)) (dh (aq (aq d7)) (by decide))))
    · exact lq
  · refine d8 ?_ ?_
    · refine uf ?_ ?_ ?_
      · exact lg (mq hq) (jf nq (ao 0 (pv 0)) cj) cj (jr _)
      · refine fu ?_
        · exact iz (g8 (aj iw (aj (gw hu iw (jf nq (jf m6 (ao 0 (pv 0)) cj) (ao 1 (pv 1))) (fun _ _=>rfl)) (aj (jf nq (jf m6 (ao 0 (pv 0)) cj) cj) cg))) (dh (aq (aq (aq d7))) (by decide)))
      · exact lq
    · refine d8 ?_ ?_
      · refine uf ?_ ?_ ?_
        · exact lg (mq hq) (jf nq (ao 0 (pv 0)) cj) cj (jr _)
        · refine fu ?_
          · refine iz ?_
            · refine g8 ?_ ?_
              · exact aj iw (aj (d9 d_law_sum hr (by rfl) (aj (jf m6 (ao 0 (pv 0)) cj) cg) (bw eq_nil)) (aj (jf nu cj (jf nq (jf m6 (ao 0 (pv 0)) cj) cj)) cg))
              · exact dh (aq (aq (aq d7))) (by decide)
        · exact lq
      · exact fu (iz (g8 (aj iw (aj (g8 cg (dh d7 (by decide))) cg)) (dh (aq (aq d7)) (by decide))))
theorem T6 (F:Fun K "_law_atom" "_law_atom" Dz f fd) (hmg:mg "_law_atom" = some (.ref f)) (d_law_sum:dj P w K mg base "_law_sum" 1 ["_law_digits"] (_root_.K.o8)):dj P w K mg base "_law_atom" 2 ["_law_digits","_law_many"] _root_.K.ni :=
  ⟨f,fd,Tq F d_law_sum,F.binds (ps:=["_law_digits","_law_many"]) fun _ _ _ _ _ _ us hl=>bd2 (fun _ _=>rfl) us hl,F.kp,hmg⟩
noncomputable abbrev Ax:Stmt:=top 36
theorem Fp:jc ["_law_digits","_law_many","_law_one","_law_other","_law_third","_law_some"] ["_law_digits","_law_many"] (gj Ax):=⟨rfl,rfl,rfl,by decide +kernel,rfl,by decide +kernel,by decide +kernel⟩
theorem Nb (F:Fun K "_law_remark" "_law_remark" Ax f fd) (d_law_atom:dj P w K mg base "_law_atom" 2 ["_law_digits","_law_many"] (_root_.K.ni)):yc P w K mg base CX0 3 f fd ["_law_digits","_law_many"] (spF K (["_law_digits","_law_many"]:List Str).length _root_.K.jq):=by
  have d_law_atom:=d_law_atom.mono (show 2≤2 by first | decide | omega)
  refine jl (N:=["_law_digits","_law_many","_law_one","_law_other","_law_third","_law_some"]) F Fp (by decide)  fun cdv A outer s H E B hr=>?_
  have hu:=um hr
  have hq:=hr.units
  have nd:(["_law_digits","_law_many","_law_one","_law_other","_law_third","_law_some"]:List Str).Nodup:=Fp.nd
  refine d8 ?_ ?_
  · exact jw 2 (jk nd rfl (Or.inl rfl) (d9 d_law_atom hr (by rfl) (aj (jf m6 (ao 0 (pv 0)) cj) (aj (ao 1 (pv 1)) cg)) (bw (bw eq_nil)))) (fun _ _ _ h=>h)
  · refine d8 ?_ ?_
    · exact jw 3 (jk nd rfl (Or.inl rfl) (d9 d_law_atom hr (by rfl) (aj (jf m6 (ao 0 (pv 0)) cj) (aj (ao 1 (pv 1)) cg)) (bw (bw eq_nil)))) (fun _ _ _ h=>h)
    · refine d8 ?_ ?_
      · exact jw 4 (jk nd rfl (Or.inl rfl) (d9 d_law_atom hr (by rfl) (aj (jf m6 (ao 0 (pv 0)) cj) (aj (ao 1 (pv 1)) cg)) (bw (bw eq_nil)))) (fun _ _ _ h=>h)
      · refine d8 ?_ ?_
        · refine @jw _ _ _ _ (tOf _ _ _) _ ?_ (fun _ _ _ h=>h)
          · refine jk ?_ ?_ ?_ ?_
            · exact nd
            · exact rfl
            · exact Or.inl rfl
            · refine Cy ?_ ?_
              · refine aj ?_ ?_
                · exact ao 2 (pv 2)
                · refine aj ?_ ?_
                  · exact g8 (aj iw (aj (g8 cg (dh d7 (by decide))) cg)) (dh (aq (aq d7)) (by decide))
                  · refine aj ?_ ?_
                    · exact g8 (aj iw (aj (g8 (aj (ao 2 (pv 2)) (aj (ao 3 (pv 3)) cg)) (dh (aq (aq d7)) (by decide))) cg)) (dh (aq (aq d7)) (by decide))
                    · exact aj (g8 (aj iw (aj (ao 2 (pv 2)) cg)) (dh (aq (aq d7)) (by decide))) cg
              · exact dh (aq (aq (aq (aq d7)))) (by decide)
        · refine d8 ?_ ?_
          · refine uf ?_ ?_ ?_
            · exact lg (mq hq) (jf nq (jf m6 (ao 0 (pv 0)) cj) cj) cj (jr _)
            · refine fu ?_
              · refine @jw _ _ _ _ (tOf _ _ _) _ ?_ (fun _ _ _ h=>h)
                · refine jk ?_ ?_ ?_ ?_
                  · exact nd
                  · exact rfl
                  · exact Or.inl rfl
                  · refine Cy ?_ ?_
                    · refine aj ?_ ?_
                      · refine g8 ?_ ?_
                        · refine aj ?_ ?_
                          · exact iw
                          · refine aj ?_ ?_
                            · refine g8 ?_ ?_
                              · exact aj (ao 2 (pv 2)) (aj (g8 (aj iw (aj (g8 cg (dh d7 (by decide))) cg)) (dh (aq (aq d7)) (by decide))) (aj (ao 3 (pv 3)) (aj (ao 4 (pv 4)) cg)))
                              · exact dh (aq (aq (aq (aq d7)))) (by decide)
                            · exact cg
                        · exact dh (aq (aq d7)) (by decide)
                      · refine aj ?_ ?_
                        · exact ao 2 (pv 2)
                        · refine aj ?_ ?_
                          · refine g8 ?_ ?_
                            · refine aj ?_ ?_
                              · exact iw
                              · refine aj ?_ ?_
                                · refine g8 ?_ ?_
                                  · exact aj (ao 2 (pv 2)) (aj (ao 3 (pv 3)) (aj (g8 (aj iw (aj (g8 cg (dh d7 (by decide))) cg)) (dh (aq (aq d7)) (by decide))) (aj (ao 4 (pv 4)) cg)))
                                  · exact dh (aq (aq (aq (aq d7)))) (by decide)
                                · exact cg
                            · exact dh (aq (aq d7)) (by decide)
                          · exact aj (ao 2 (pv 2)) cg
                    · exact dh (aq (aq (aq (aq d7)))) (by decide)
            · exact lq
          · exact fu (iz (gw hu (ao 5 (pv 5)) (jf nq (ao 0 (pv 0)) cj) (fun _ _=>rfl)))
theorem Mw (F:Fun K "_law_remark" "_law_remark" Ax f fd) (hmg:mg "_law_remark" = some (.ref f)) (d_law_atom:dj P w K mg base "_law_atom" 2 ["_law_digits","_law_many"] (_root_.K.ni)):dj P w K mg base "_law_remark" 3 ["_law_digits","_law_many"] _root_.K.jq :=
  ⟨f,fd,Nb F d_law_atom,F.binds (ps:=["_law_digits","_law_many"]) fun _ _ _ _ _ _ us hl=>bd2 (fun _ _=>rfl) us hl,F.kp,hmg⟩
noncomputable abbrev zy:Stmt:=top 37
theorem El:jc ["_law_script","_law_first_here","_law_boxes","_law_hands","_law_steps","_law_k","_law_cell","_law_hand","_law_places","_law_one","_law_sets","_law_guard"] ["_law_script"] (gj zy):=⟨rfl,rfl,rfl,by decide +kernel,rfl,by decide +kernel,by decide +kernel⟩
theorem Kl (F:Fun K "_law_program" "_law_program" zy f fd) (d_law_cell_at:dj P w K mg base "_law_cell_at" 1 ["_law_script","_law_k"] (_root_.K.jj)) (d_law_remark:dj P w K mg base "_law_remark" 3 ["_law_digits","_law_many"] (_root_.K.jq)) (d_law_sum:dj P w K mg base "_law_sum" 1 ["_law_digits"] (_root_.K.o8)) (b_len:mg "len" = none) (b_range:mg "range" = none):yc P w K mg base CX0 4 f fd ["_law_script"] (spF K (["_law_script"]:List Str).length _root_.K.v7):=by
  have d_law_cell_at:=d_law_cell_at.mono (show 1≤3 by first | decide | omega)
  have d_law_remark:=d_law_remark.mono (show 3≤3 by first | decide | omega)
  have d_law_sum:=d_law_sum.mono (show 1≤3 by first | decide | omega)
  refine jl (N:=["_law_script","_law_first_here","_law_boxes","_law_hands","_law_steps","_law_k","_law_cell","_law_hand","_law_places","_law_one","_law_sets","_law_guard"]) F El (by decide)  fun cdv A outer s H E B hr=>?_
  have hu:=um hr
  have hq:=hr.units
  have nd:(["_law_script","_law_first_here","_law_boxes","_law_hands","_law_steps","_law_k","_law_cell","_law_hand","_law_places","_law_one","_law_sets","_law_guard"]:List Str).Nodup:=El.nd
  refine d8 ?_ ?_
  · exact jw 1 (jk nd rfl (Or.inl rfl) (d9 d_law_cell_at hr (by rfl) (aj (ao 0 (pv 0)) (aj cj cg)) (bw (bw eq_nil)))) (fun _ _ _ h=>h)
  · refine d8 ?_ ?_
    · refine @jw _ _ _ _ (tOf _ _ _) _ ?_ (fun _ _ _ h=>h)
      · refine jk ?_ ?_ ?_ ?_
        · exact nd
        · exact rfl
        · exact Or.inl rfl
        · refine Cy ?_ ?_
          · refine aj ?_ ?_
            · refine g8 ?_ ?_
              · exact aj iw (aj iw (aj cj (aj (jf nq (ao 1 (pv 1)) cj) (aj (jf nq (jf m6 (ao 1 (pv 1)) cj) (jf nu cj (jf nq (ao 1 (pv 1)) cj))) cg))))
              · exact dh (aq (aq (aq (aq (aq d7))))) (by decide)
            · exact aj (g8 (aj iw (aj iw (aj cj (aj (jf nq (jf m6 (ao 1 (pv 1)) cj) cj) (aj cj cg))))) (dh (aq (aq (aq (aq (aq d7))))) (by decide))) cg
          · exact dh (aq (aq d7)) (by decide)
    · refine d8 ?_ ?_
      · refine @jw _ _ _ _ (tOf _ _ _) _ ?_ (fun _ _ _ h=>h)
        · refine jk ?_ ?_ ?_ ?_
          · exact nd
          · exact rfl
          · exact Or.inl rfl
          · refine Uj ?_ ?_ ?_
            · refine Cy ?_ ?_
              · refine aj ?_ ?_
                · exact g8 (aj iw (aj (jf nu cj (jf nq (jf m6 (ao 1 (pv 1)) cj) cj)) cg)) (dh (aq (aq d7)) (by decide))
                · exact aj (g8 (aj iw (aj cj cg)) (dh (aq (aq d7)) (by decide))) (aj (g8 (aj iw (aj cj cg)) (dh (aq (aq d7)) (by decide))) cg)
              · exact dh (aq (aq (aq d7))) (by decide)
            · exact a6d
            · exact Rb (jf nu cj (jf nq (jf m6 (ao 1 (pv 1)) cj) cj))
      · refine d8 ?_ ?_
        · exact Bt 4 (jk nd rfl (Or.inl rfl) (V9 cg (dh d7 (by decide)))) (fun _ _ _ h=>h)
        · refine d8 ?_ ?_
          · refine uw ?_ ?_ ?_ ?_ ?_ ?_
            · exact PassesOwn.never
            · exact rfl
            · exact Ip (by rfl) b_range (jf nq (jf m6 (ao 1 (pv 1)) cj) cj)
            · exact p8 5 (dz nd rfl (Or.inl rfl))
            · refine d8 ?_ ?_
              · exact jw 6 (jk nd rfl (Or.inl rfl) (d9 d_law_cell_at hr (by rfl) (aj (ao 0 (pv 0)) (aj (jf nu cj (ao 5 (pv 5))) cg)) (bw (bw eq_nil)))) (fun _ _ _ h=>h)
              · refine d8 ?_ ?_
                · refine a94 ?_
                  · refine a3t ?_ ?_
                    · exact gw hu (ao 3 (pv 3)) (jf nq (ao 6 (pv 6)) (n8 (vp Af (by rfl) b_len PySem.boot_len (aj (ao 3 (pv 3)) cg)))) (fun _ _=>rfl)
                    · exact v8 (is:=[7,8]) (v9 rfl (gn (dz nd rfl (Or.inl rfl)) (gn (dz nd rfl (Or.inl rfl)) qg)))
                · refine d8 ?_ ?_
                  · exact jw 9 (jk nd rfl (Or.inl rfl) (d9 d_law_sum hr (by rfl) (aj (jf m6 (ao 6 (pv 6)) cj) cg) (bw eq_nil))) (fun _ _ _ h=>h)
                  · refine d8 ?_ ?_
                    · refine @jw _ _ _ _ (tOf _ _ _) _ ?_ (fun _ _ _ h=>h)
                      · refine jk ?_ ?_ ?_ ?_
                        · exact nd
                        · exact rfl
                        · exact Or.inl rfl
                        · refine Cy ?_ ?_
                          · refine aj ?_ ?_
                            · exact g8 cg (dh d7 (by decide))
                            · refine aj ?_ ?_
                              · exact g8 (aj (g8 (aj iw (aj (ao 9 (pv 9)) cg)) (dh (aq (aq d7)) (by decide))) cg) (dh (aq d7) (by decide))
                              · refine aj ?_ ?_
                                · refine g8 ?_ ?_
                                  · refine aj ?_ ?_
                                    · exact g8 (aj iw (aj (ao 9 (pv 9)) cg)) (dh (aq (aq d7)) (by decide))
                                    · exact aj (g8 (aj iw (aj (d9 d_law_sum hr (by rfl) (aj (jf m6 (ao 6 (pv 6)) cj) cg) (bw eq_nil)) cg)) (dh (aq (aq d7)) (by decide))) cg
                                  · exact dh (aq (aq d7)) (by decide)
                                · exact cg
                          · exact dh (aq (aq (aq d7))) (by decide)
                    · refine d8 ?_ ?_
                      · exact jw 11 (jk nd rfl (Or.inl rfl) (d9 d_law_remark hr (by rfl) (aj (jf m6 (ao 6 (pv 6)) cj) (aj (n8 (vp Af (by rfl) b_len PySem.boot_len (aj (ao 3 (pv 3)) cg))) cg)) (bw (bw eq_nil)))) (fun _ _ _ h=>h)
                      · refine fu ?_
                        · refine Dh _ ?_
                          · refine yx ?_
                            · refine Ii PySem.F.plainAttrs_list PySem.F.slot_list_append PySem.F.type_list_append Bp ?_ ?_
                              · exact pv 4
                              · refine su ?_ ?_
                                · refine g8 ?_ ?_
                                  · refine aj ?_ ?_
                                    · exact ao 7 (pv 7)
                                    · refine aj ?_ ?_
                                      · exact jf nq (jf m6 (ao 6 (pv 6)) cj) (ao 8 (pv 8))
                                      · exact aj (ao 11 (pv 11)) (aj (gw hu (ao 10 (pv 10)) (jf nq (jf m6 (ao 6 (pv 6)) cj) cj) (fun _ _=>rfl)) (aj (jf nq (jf m6 (ao 6 (pv 6)) cj) (ao 8 (pv 8))) cg))
                                  · exact dh (aq (aq (aq (aq (aq d7))))) (by decide)
                                · exact wz
            · exact Il
          · exact fu (iz (g8 (aj (ao 2 (pv 2)) (aj (ao 3 (pv 3)) (aj (ao 4 (pv 4)) (aj (g8 cg (dh d7 (by decide))) cg)))) (dh (aq (aq (aq (aq d7)))) (by decide))))
theorem Km (F:Fun K "_law_program" "_law_program" zy f fd) (hmg:mg "_law_program" = some (.ref f)) (d_law_cell_at:dj P w K mg base "_law_cell_at" 1 ["_law_script","_law_k"] (_root_.K.jj)) (d_law_remark:dj P w K mg base "_law_remark" 3 ["_law_digits","_law_many"] (_root_.K.jq)) (d_law_sum:dj P w K mg base "_law_sum" 1 ["_law_digits"] (_root_.K.o8)) (b_len:mg "len" = none) (b_range:mg "range" = none):dj P w K mg base "_law_program" 4 ["_law_script"] _root_.K.v7 :=
  ⟨f,fd,Kl F d_law_cell_at d_law_remark d_law_sum b_len b_range,F.binds (ps:=["_law_script"]) fun _ _ _ _ _ _ us hl=>bd1 (fun _=>rfl) us hl,F.kp,hmg⟩
noncomputable abbrev vo:Stmt:=top 38
theorem Bl:jc ["_law_script","_law_program_here","_law_annotation_here","_law_k","_law_hand","_law_places","_law_place"] ["_law_script","_law_program_here"] (gj vo):=⟨rfl,rfl,rfl,by decide +kernel,rfl,by decide +kernel,by decide +kernel⟩
theorem Gw (F:Fun K "_law_annotation" "_law_annotation" vo f fd) (d_law_cell_at:dj P w K mg base "_law_cell_at" 1 ["_law_script","_law_k"] (_root_.K.jj)) (d_law_remark:dj P w K mg base "_law_remark" 3 ["_law_digits","_law_many"] (_root_.K.jq)) (b_len:mg "len" = none) (b_range:mg "range" = none):yc P w K mg base CX0 4 f fd ["_law_script","_law_program_here"] (spF K (["_law_script","_law_program_here"]:List Str).length _root_.K.ug):=by
  have d_law_cell_at:=d_law_cell_at.mono (show 1≤3 by first | decide | omega)
  have d_law_remark:=d_law_remark.mono (show 3≤3 by first | decide | omega)
  refine jl (N:=["_law_script","_law_program_here","_law_annotation_here","_law_k","_law_hand","_law_places","_law_place"]) F Bl (by decide)  fun cdv A outer s H E B hr=>?_
  have hu:=um hr
  have hq:=hr.units
  have nd:(["_law_script","_law_program_here","_law_annotation_here","_law_k","_law_hand","_law_places","_law_place"]:List Str).Nodup:=Bl.nd
  refine d8 ?_ ?_
  · exact jw 2 (jk nd rfl (Or.inl rfl) Zm) (fun _ _ _ h=>h)
  · refine d8 ?_ ?_
    · exact jw 3 (jk nd rfl (Or.inl rfl) cj) (fun _ _ _ h=>h)
    · refine d8 ?_ ?_
      · refine uw ?_ ?_ ?_ ?_ ?_ ?_
        · exact PassesOwn.never
        · exact rfl
        · exact m8 (gw hu (ao 1 (pv 1)) cj (fun _ _=>rfl))
        · exact v8 (is:=[4,5]) (v9 rfl (gn (dz nd rfl (Or.inl rfl)) (gn (dz nd rfl (Or.inl rfl)) qg)))
        · refine fu ?_
          · refine uw ?_ ?_ ?_ ?_ ?_ ?_
            · exact PassesOwn.never
            · exact rfl
            · exact Ip (by rfl) b_range (ao 5 (pv 5))
            · exact p8 6 (dz nd rfl (Or.inl rfl))
            · refine d8 ?_ ?_
              · refine a0p ?_ ?_ ?_ ?_ ?_ ?_
                · exact hu
                · exact ao 2 (pv 2)
                · exact aj (ao 4 (pv 4)) (aj (ao 6 (pv 6)) cg)
                · exact dh (aq (aq d7)) (by decide)
                · refine d9 d_law_remark ?_ ?_ ?_ ?_
                  · exact hr
                  · exact by rfl
                  · exact aj (d9 d_law_cell_at hr (by rfl) (aj (ao 0 (pv 0)) (aj (ao 3 (pv 3)) cg)) (bw (bw eq_nil))) (aj (n8 (vp Af (by rfl) b_len PySem.boot_len (aj (gw hu (ao 1 (pv 1)) cj (fun _ _=>rfl)) cg))) cg)
                  · exact bw (bw eq_nil)
                · exact rfl
              · exact fu (jw 3 (jk nd rfl (Or.inl rfl) (jf nu (ao 3 (pv 3)) cj)) (fun _ _ _ h=>h))
            · exact Il
        · exact m7
      · exact fu (iz (ao 2 (pv 2)))
theorem Hg (F:Fun K "_law_annotation" "_law_annotation" vo f fd) (hmg:mg "_law_annotation" = some (.ref f)) (d_law_cell_at:dj P w K mg base "_law_cell_at" 1 ["_law_script","_law_k"] (_root_.K.jj)) (d_law_remark:dj P w K mg base "_law_remark" 3 ["_law_digits","_law_many"] (_root_.K.jq)) (b_len:mg "len" = none) (b_range:mg "range" = none):dj P w K mg base "_law_annotation" 4 ["_law_script","_law_program_here"] _root_.K.ug :=
  ⟨f,fd,Gw F d_law_cell_at d_law_remark b_len b_range,F.binds (ps:=["_law_script","_law_program_here"]) fun _ _ _ _ _ _ us hl=>bd2 (fun _ _=>rfl) us hl,F.kp,hmg⟩
noncomputable abbrev Cu:Stmt:=top 39
theorem Hu:jc ["_law_program_here","_law_rows","_law_books_here","_law_name","_law_high","_law_more","_law_book","_law_number","_law_then"] ["_law_program_here"] (gj Cu):=⟨rfl,rfl,rfl,by decide +kernel,rfl,by decide +kernel,by decide +kernel⟩
theorem Oj (F:Fun K "_law_books" "_law_books" Cu f fd) (b_dict:mg "dict" = none) (b_range:mg "range" = none):yc P w K mg base CX0 1 f fd ["_law_program_here"] (spF K (["_law_program_here"]:List Str).length _root_.K.Ag):=by
  refine jl (N:=["_law_program_here","_law_rows","_law_books_here","_law_name","_law_high","_law_more","_law_book","_law_number","_law_then"]) F Hu (by decide)  fun cdv A outer s H E B hr=>?_
  have hu:=um hr
  have hq:=hr.units
  have nd:(["_law_program_here","_law_rows","_law_books_here","_law_name","_law_high","_law_more","_law_book","_law_number","_law_then"]:List Str).Nodup:=Hu.nd
  refine d8 ?_ ?_
  · refine @jw _ _ _ _ (tOf _ _ _) _ ?_ (fun _ _ _ h=>h)
    · refine jk ?_ ?_ ?_ ?_
      · exact nd
      · exact rfl
      · exact Or.inl rfl
      · refine jf ?_ ?_ ?_
        · exact nu
        · refine qm ?_
          · refine w6 (N:=["_law_box"]) ?_ ?_ ?_ ?_ ?_ ?_ ?_ ?_
            · exact ⟨rfl,fun j k h=>match j,h with | _+0,h=>(by cases h)⟩
            · exact ⟨rfl,rfl,by decide +kernel,by decide +kernel⟩
            · exact rfl
            · exact m8 (gw hu (ao 0 (pv 0)) cj (fun _ _=>rfl))
            · exact m7
            · exact fun C s₀ H₀ ex pn=>pgE fun B=>(p8 0 (dz (show (["_law_box"]:List Str).Nodup by decide +kernel) rfl (Or.inl rfl)))
            · exact fun C s₀ H₀ ex pn=>qe
            · exact fun C s₀ H₀ ex pn=>peE fun B=>(g8 (aj (gw hu (ao 0 (pv 0)) cj (fun _ _=>rfl)) (aj (gw hu (ao 0 (pv 0)) cj (fun _ _=>rfl)) cg)) (dh (aq (aq d7)) (by decide)))
        · refine qm ?_
          · refine w6 (N:=["_law_hand","_law_places"]) ?_ ?_ ?_ ?_ ?_ ?_ ?_ ?_
            · exact ⟨rfl,fun j k h=>match j,h with | _+0,h=>(by cases h)⟩
            · exact ⟨rfl,rfl,by decide +kernel,by decide +kernel⟩
            · exact rfl
            · exact m8 (gw hu (ao 0 (pv 0)) cj (fun _ _=>rfl))
            · exact m7
            · exact fun C s₀ H₀ ex pn=>pgE fun B=>(v8 (is:=[0,1]) (v9 rfl (gn (dz (show (["_law_hand","_law_places"]:List Str).Nodup by decide +kernel) rfl (Or.inl rfl)) (gn (dz (show (["_law_hand","_law_places"]:List Str).Nodup by decide +kernel) rfl (Or.inl rfl)) qg))))
            · exact fun C s₀ H₀ ex pn=>qe
            · exact fun C s₀ H₀ ex pn=>peE fun B=>(g8 (aj (jf nu iw (ao 0 (pv 0))) (aj (jf Jf (ao 1 (pv 1)) cj) cg)) (dh (aq (aq d7)) (by decide)))
  · refine d8 ?_ ?_
    · exact jw 2 (jk nd rfl (Or.inl rfl) (Cy (aj (qm Ma) cg) (dh (aq d7) (by decide)))) (fun _ _ _ h=>h)
    · refine d8 ?_ ?_
      · refine uw ?_ ?_ ?_ ?_ ?_ ?_
        · exact PassesOwn.never
        · exact rfl
        · exact m8 (ao 1 (pv 1))
        · exact v8 (is:=[3,4]) (v9 rfl (gn (dz nd rfl (Or.inl rfl)) (gn (dz nd rfl (Or.inl rfl)) qg)))
        · refine d8 ?_ ?_
          · exact Bt 5 (jk nd rfl (Or.inl rfl) (V9 cg (dh d7 (by decide)))) (fun _ _ _ h=>h)
          · refine d8 ?_ ?_
            · refine uw ?_ ?_ ?_ ?_ ?_ ?_
              · exact PassesOwn.never
              · exact rfl
              · exact m8 (ao 2 (pv 2))
              · exact p8 6 (dz nd rfl (Or.inl rfl))
              · refine fu ?_
                · refine uw ?_ ?_ ?_ ?_ ?_ ?_
                  · exact PassesOwn.never
                  · exact rfl
                  · exact Ip (by rfl) b_range (jf nu (ao 4 (pv 4)) cj)
                  · exact p8 7 (dz nd rfl (Or.inl rfl))
                  · refine d8 ?_ ?_
                    · exact Bt 8 (jk nd rfl (Or.inl rfl) (a09 rfl (by rfl) b_dict (ao 6 (pv 6)))) (fun _ _ _ h=>h)
                    · exact d8 (Ai 8 hu (pv 8) (ao 3 (pv 3)) (ao 7 (pv 7)) rfl)   (fu (Dh 5 (yx (Ii PySem.F.plainAttrs_list PySem.F.slot_list_append PySem.F.type_list_append Bp (pv 5) (su (ao 8 (pv 8)) wz)))))
                  · exact Il
              · exact m7
            · exact fu (jw 2 (jk nd rfl (Or.inl rfl) (ao 5 (pv 5))) (fun _ _ _ h=>h))
        · exact m7
      · exact fu (iz (ao 2 (pv 2)))
theorem Og (F:Fun K "_law_books" "_law_books" Cu f fd) (hmg:mg "_law_books" = some (.ref f)) (b_dict:mg "dict" = none) (b_range:mg "range" = none):dj P w K mg base "_law_books" 1 ["_law_program_here"] _root_.K.Ag :=
  ⟨f,fd,Oj F b_dict b_range,F.binds (ps:=["_law_program_here"]) fun _ _ _ _ _ _ us hl=>bd1 (fun _=>rfl) us hl,F.kp,hmg⟩
noncomputable abbrev Cq:Stmt:=top 40
theorem Hx:jc ["_law_program_here","_law_book","_law_hand","_law_places"] ["_law_program_here"] (gj Cq):=⟨rfl,rfl,rfl,by decide +kernel,rfl,by decide +kernel,by decide +kernel⟩
theorem Oh (F:Fun K "_law_first" "_law_first" Cq f fd):yc P w K mg base CX0 1 f fd ["_law_program_here"] (spF K (["_law_program_here"]:List Str).length _root_.K.ur):=by
  refine jl (N:=["_law_program_here","_law_book","_law_hand","_law_places"]) F Hx (by decide)  fun cdv A outer s H E B hr=>?_
  have hu:=um hr
  have hq:=hr.units
  have nd:(["_law_program_here","_law_book","_law_hand","_law_places"]:List Str).Nodup:=Hx.nd
  refine d8 ?_ ?_
  · exact Bt 1 (jk nd rfl (Or.inl rfl) (a2s (fun B=>(gw hu (gw hu (gw hu (ao 0 (pv 0)) cj (fun _ _=>rfl)) cj (fun _ _=>rfl)) cj (fun _ _=>rfl))) (fun B=>cj) (by decide +kernel))) (fun _ _ _ h=>h)
  · refine d8 ?_ ?_
    · refine uw ?_ ?_ ?_ ?_ ?_ ?_
      · exact PassesOwn.never
      · exact rfl
      · exact m8 (gw hu (ao 0 (pv 0)) cj (fun _ _=>rfl))
      · exact v8 (is:=[2,3]) (v9 rfl (gn (dz nd rfl (Or.inl rfl)) (gn (dz nd rfl (Or.inl rfl)) qg)))
      · exact fu (Ai 1 hu (pv 1) (jf nu iw (ao 2 (pv 2))) cj rfl)
      · exact m7
    · exact fu (iz (ao 1 (pv 1)))
theorem Pg (F:Fun K "_law_first" "_law_first" Cq f fd) (hmg:mg "_law_first" = some (.ref f)):dj P w K mg base "_law_first" 1 ["_law_program_here"] _root_.K.ur :=
  ⟨f,fd,Oh F,F.binds (ps:=["_law_program_here"]) fun _ _ _ _ _ _ us hl=>bd1 (fun _=>rfl) us hl,F.kp,hmg⟩
noncomputable abbrev Ao:Stmt:=top 41
theorem Hi:jc ["_law_remark_here","_law_book","_law_total","_law_told"] ["_law_remark_here","_law_book"] (gj Ao):=⟨rfl,rfl,rfl,by decide +kernel,rfl,by decide +kernel,by decide +kernel⟩
theorem Pn (F:Fun K "_law_holds" "_law_holds" Ao f fd) {nn:Nat} (d_law_holds:dj P w K mg base "_law_holds" (0+nn) ["_law_remark_here","_law_book"] (_root_.K.iy nn)) (b_all:mg "all" = none) (b_any:mg "any" = none) (b_int:mg "int" = none) (b_sum:mg "sum" = none):yc P w K mg base CX0 (0+nn+1) f fd ["_law_remark_here","_law_book"] (spF K (["_law_remark_here","_law_book"]:List Str).length (_root_.K.iy (nn+1))):=by
  have d_law_holds:=d_law_holds.mono (show (0+nn)≤(0+nn) by first | decide | omega)
  refine jl (N:=["_law_remark_here","_law_book","_law_total","_law_told"]) F Hi (by decide)  fun cdv A outer s H E B hr=>?_
  have hu:=um hr
  have hq:=hr.units
  have nd:(["_law_remark_here","_law_book","_law_total","_law_told"]:List Str).Nodup:=Hi.nd
  refine d8 ?_ ?_
  · refine uf ?_ ?_ ?_
    · exact PW.pt (a6p (lg (mq hq) (gw hu (ao 0 (pv 0)) cj (fun _ _=>rfl)) iw (jr _)) (Yl (lg (mq hq) (gw hu (ao 0 (pv 0)) cj (fun _ _=>rfl)) iw (jr _))))
    · refine d8 ?_ ?_
      · refine @jw _ _ _ _ (tOf _ _ _) _ ?_ (fun _ _ _ h=>h)
        · refine jk ?_ ?_ ?_ ?_
          · exact nd
          · exact rfl
          · exact Or.inl rfl
          · refine jf ?_ ?_ ?_
            · exact nu
            · exact gw hu (gw hu (ao 0 (pv 0)) cj (fun _ _=>rfl)) cj (fun _ _=>rfl)
            · refine n8 ?_
              · refine vp (Ny (by rfl)) ?_ ?_ PyProof.Rows.boot_sum ?_
                · exact by rfl
                · exact b_sum
                · refine aj ?_ ?_
                  · refine qm ?_
                    · refine w6 (N:=["_law_box","_law_times","_law_book"]) ?_ ?_ ?_ ?_ ?_ ?_ ?_ ?_
                      · exact ⟨rfl,fun j k h=>match j,h with | 0,h=>(by cases h; exact ⟨_,rfl,rfl,⟨.inl rfl,.inr (.inl rfl),.inl rfl⟩⟩) | _+1,h=>(by cases h)⟩
                      · exact ⟨rfl,rfl,by decide +kernel,by decide +kernel⟩
                      · exact rfl
                      · exact m8 (gw hu (gw hu (ao 0 (pv 0)) cj (fun _ _=>rfl)) cj (fun _ _=>rfl))
                      · exact m7
                      · intro C s₀ H₀ ex pn
                        refine pgE ?_
                        exact fun B=>(v8 (is:=[0,1]) (v9 rfl (gn (dz (show (["_law_box","_law_times","_law_book"]:List Str).Nodup by decide +kernel) rfl (Or.inl rfl)) (gn (dz (show (["_law_box","_law_times","_law_book"]:List Str).Nodup by decide +kernel) rfl (Or.inl rfl)) qg))))
                      · exact fun C s₀ H₀ ex pn=>qe
                      · exact fun C s₀ H₀ ex pn=>peE fun B=>(jf Gn (ao 1 (pv 1)) (gw hu (ao 2 (pv 2)) (ao 0 (pv 0)) (fun _ _=>rfl)))
                  · exact cg
      · refine d8 ?_ ?_
        · exact uf (lg (mq hq) (gw hu (ao 0 (pv 0)) cj (fun _ _=>rfl)) iw (jr _))   (fu (iz (Hw a3k (ao 2 (pv 2)) cj (jr _))))   lq
        · exact fu (iz (Hw (mq hq) (jf nq (ao 2 (pv 2)) (gw hu (ao 0 (pv 0)) cj (fun _ _=>rfl))) cj (jr _)))
    · exact lq
  · refine d8 ?_ ?_
    · refine uf ?_ ?_ ?_
      · exact lg (mq hq) (gw hu (ao 0 (pv 0)) cj (fun _ _=>rfl)) iw (jr _)
      · exact fu (iz (Hw (mq hq) (gw hu (ao 1 (pv 1)) (jf nu iw (gw hu (ao 0 (pv 0)) cj (fun _ _=>rfl))) (fun _ _=>rfl)) (gw hu (ao 0 (pv 0)) cj (fun _ _=>rfl)) (jr _)))
      · exact lq
    · refine d8 ?_ ?_
      · exact uf (lg (mq hq) (gw hu (ao 0 (pv 0)) cj (fun _ _=>rfl)) iw (jr _))   (fu (iz (U7 (d9 d_law_holds hr (by rfl) (aj (gw hu (ao 0 (pv 0)) cj (fun _ _=>rfl)) (aj (ao 1 (pv 1)) cg)) (bw (bw eq_nil))))))   lq
      · refine d8 ?_ ?_
        · exact jw 3 (Jc (N:=["_law_one","_law_book"]) ⟨rfl,rfl,by decide +kernel,by decide +kernel⟩ rfl (m8 (gw hu (ao 0 (pv 0)) cj (fun _ _=>rfl))) (fun C s₀ H₀ ex pn=>pgE fun B=>(p8 0 (dz (show (["_law_one","_law_book"]:List Str).Nodup by decide +kernel) rfl (Or.inl rfl)))) (fun C s₀ H₀ ex pn=>qe) (fun C s₀ H₀ ex pn=>peE fun B=>(d9 d_law_holds hr (by rfl) (aj (ao 0 (pv 0)) (aj (ao 1 (pv 1)) cg)) (bw (bw eq_nil)))) (dz nd rfl (Or.inl rfl)) rfl) (fun σ H Q h=>Li ⟨rfl,fun j k h=>match j,h with | 0,h=>(by cases h; exact ⟨_,rfl,rfl,⟨.inl rfl,.inr (.inl rfl),.inl rfl⟩⟩) | _+1,h=>(by cases h)⟩ m7 (Z0 h))
        · refine fu ?_
          · refine iz ?_
            · refine gw ?_ ?_ ?_ ?_
              · exact hu
              · refine Cy ?_ ?_
                · exact aj (n8 (vp (Xx (by rfl)) (by rfl) b_all PyProof.Rows.boot_all (aj (ao 3 (pv 3)) cg))) (aj (n8 (vp (Zu (by rfl)) (by rfl) b_any PyProof.Rows.boot_any (aj (ao 3 (pv 3)) cg))) cg)
                · exact dh (aq (aq d7)) (by decide)
              · exact n8 (vh Xj (by rfl) b_int PyProof.Rows.boot_int (aj (Hw (mq hq) (gw hu (ao 0 (pv 0)) cj (fun _ _=>rfl)) iw (jr _)) cg))
              · exact fun _ _=>rfl
theorem Ot (F:Fun K "_law_holds" "_law_holds" Ao f fd) (hmg:mg "_law_holds" = some (.ref f)) {nn:Nat} (d_law_holds:dj P w K mg base "_law_holds" (0+nn) ["_law_remark_here","_law_book"] (_root_.K.iy nn)) (b_all:mg "all" = none) (b_any:mg "any" = none) (b_int:mg "int" = none) (b_sum:mg "sum" = none):dj P w K mg base "_law_holds" (0+nn+1) ["_law_remark_here","_law_book"] (_root_.K.iy (nn+1)) :=
  ⟨f,fd,Pn F d_law_holds b_all b_any b_int b_sum,F.binds (ps:=["_law_remark_here","_law_book"]) fun _ _ _ _ _ _ us hl=>bd2 (fun _ _=>rfl) us hl,F.kp,hmg⟩
theorem Fy {f_law_holds:Addr} {fd_law_holds:FuncData} (F_law_holds:Fun K "_law_holds" "_law_holds" Ao f_law_holds fd_law_holds) (h_law_holds:mg "_law_holds" = some (.ref f_law_holds)) (b_all:mg "all" = none) (b_any:mg "any" = none) (b_int:mg "int" = none) (b_sum:mg "sum" = none):∀ nn:Nat,dj P w K mg base "_law_holds" (0+nn) ["_law_remark_here","_law_book"] (_root_.K.iy nn)
  | 0=>dj.zero F_law_holds h_law_holds (F_law_holds.binds (ps:=["_law_remark_here","_law_book"]) fun _ _ _ _ _ _ us hl=>bd2 (fun _ _=>rfl) us hl)
  | nn+1=>by
    have ih:=Fy F_law_holds h_law_holds b_all b_any b_int b_sum nn
    have d_law_holds:=ih
    exact Ot F_law_holds h_law_holds d_law_holds b_all b_any b_int b_sum
noncomputable abbrev Eb:Stmt:=top 42
theorem Jx:jc ["_law_forms","_law_book","_law_form"] ["_law_forms","_law_book"] (gj Eb):=⟨rfl,rfl,rfl,by decide +kernel,rfl,by decide +kernel,by decide +kernel⟩
theorem Ss (F:Fun K "_law_true" "_law_true" Eb f fd) (d_form_true:dj P w K mg base "form_true" 42 ["form","book"] (_root_.K.uc)) (b_reversed:mg "reversed" = none):yc P w K mg base CX0 43 f fd ["_law_forms","_law_book"] (spF K (["_law_forms","_law_book"]:List Str).length _root_.K.qy):=by
  have d_form_true:=d_form_true.mono (show 42≤42 by first | decide | omega)
  refine jl (N:=["_law_forms","_law_book","_law_form"]) F Jx (by decide)  fun cdv A outer s H E B hr=>?_
  have hu:=um hr
  have hq:=hr.units
  have nd:(["_law_forms","_law_book","_law_form"]:List Str).Nodup:=Jx.nd
  refine d8 ?_ ?_
  · refine uw ?_ ?_ ?_ ?_ ?_ ?_
    · exact PassesOwn.never
    · exact rfl
    · exact a9j (by rfl) b_reversed (ao 0 (pv 0))
    · exact p8 2 (dz nd rfl (Or.inl rfl))
    · exact fu (uf (V6 (Qe (d9 d_form_true hr (by rfl) (aj (ao 2 (pv 2)) (aj (ao 1 (pv 1)) cg)) (bw (bw eq_nil)))))   (fu (iz Ie))   lq)
    · exact a9b
  · exact fu (iz Ie)
theorem Sx (F:Fun K "_law_true" "_law_true" Eb f fd) (hmg:mg "_law_true" = some (.ref f)) (d_form_true:dj P w K mg base "form_true" 42 ["form","book"] (_root_.K.uc)) (b_reversed:mg "reversed" = none):dj P w K mg base "_law_true" 43 ["_law_forms","_law_book"] _root_.K.qy :=
  ⟨f,fd,Ss F d_form_true b_reversed,F.binds (ps:=["_law_forms","_law_book"]) fun _ _ _ _ _ _ us hl=>bd2 (fun _ _=>rfl) us hl,F.kp,hmg⟩
noncomputable abbrev Cv:Stmt:=top 43
theorem Hy:jc ["_law_program_here","_law_annotation_here","_law_books_here","_law_hand","_law_forms","_law_first_here","_law_book","_law_due"] ["_law_program_here","_law_annotation_here","_law_books_here","_law_hand"] (gj Cv):=⟨rfl,rfl,rfl,by decide +kernel,rfl,by decide +kernel,by decide +kernel⟩
theorem Q8 (F:Fun K "_law_start" "_law_start" Cv f fd) (d_law_first:dj P w K mg base "_law_first" 1 ["_law_program_here"] (_root_.K.ur)) (d_law_holds:dj P w K mg base "_law_holds" 40 ["_law_remark_here","_law_book"] (_root_.K.iy 40)) (d_law_true:dj P w K mg base "_law_true" 43 ["_law_forms","_law_book"] (_root_.K.qy)) (d_duty_forms:dj P w K mg base "duty_forms" 46 ["program","annotation","duty"] (_root_.K.jo)):yc P w K mg base CX0 47 f fd ["_law_program_here","_law_annotation_here","_law_books_here","_law_hand"] (spF K (["_law_program_here","_law_annotation_here","_law_books_here","_law_hand"]:List Str).length _root_.K.yd):=by
  have d_law_first:=d_law_first.mono (show 1≤46 by first | decide | omega)
  have d_law_holds:=d_law_holds.mono (show 40≤46 by first | decide | omega)
  have d_law_true:=d_law_true.mono (show 43≤46 by first | decide | omega)
  have d_duty_forms:=d_duty_forms.mono (show 46≤46 by first | decide | omega)
  refine jl (N:=["_law_program_here","_law_annotation_here","_law_books_here","_law_hand","_law_forms","_law_first_here","_law_book","_law_due"]) F Hy (by decide)  fun cdv A outer s H E B hr=>?_
  have hu:=um hr
  have hq:=hr.units
  have nd:(["_law_program_here","_law_annotation_here","_law_books_here","_law_hand","_law_forms","_law_first_here","_law_book","_law_due"]:List Str).Nodup:=Hy.nd
  refine d8 ?_ ?_
  · refine @jw _ _ _ _ (tOf _ _ _) _ ?_ (fun _ _ _ h=>h)
    · exact jk nd rfl (Or.inl rfl) (d9 d_duty_forms hr (by rfl) (aj (ao 0 (pv 0)) (aj (ao 1 (pv 1)) (aj (g8 (aj iw (aj (ao 3 (pv 3)) cg)) (dh (aq (aq d7)) (by decide))) cg))) (bw (bw (bw eq_nil))))
  · refine d8 ?_ ?_
    · exact jw 5 (jk nd rfl (Or.inl rfl) (d9 d_law_first hr (by rfl) (aj (ao 0 (pv 0)) cg) (bw eq_nil))) (fun _ _ _ h=>h)
    · refine d8 ?_ ?_
      · refine uw ?_ ?_ ?_ ?_ ?_ ?_
        · exact PassesOwn.never
        · exact rfl
        · exact m8 (ao 2 (pv 2))
        · exact p8 6 (dz nd rfl (Or.inl rfl))
        · refine d8 ?_ ?_
          · refine @jw _ _ _ _ (tOf _ _ _) _ ?_ (fun _ _ _ h=>h)
            · refine jk ?_ ?_ ?_ ?_
              · exact nd
              · exact rfl
              · exact Or.inl rfl
              · refine a7n ?_ ?_
                · exact Hw (mq hq) (ao 6 (pv 6)) (ao 5 (pv 5)) (jr _)
                · exact a9e (U7 (d9 d_law_holds hr (by rfl) (aj (Ad hu (ao 1 (pv 1)) (g8 (aj (ao 3 (pv 3)) (aj cj cg)) (dh (aq (aq d7)) (by decide))) (fun _ _=>rfl)) (aj (ao 6 (pv 6)) cg)) (bw (bw eq_nil))))
          · exact fu (uf (lg (Le hq) (d9 d_law_true hr (by rfl) (aj (ao 4 (pv 4)) (aj (ao 6 (pv 6)) cg)) (bw (bw eq_nil))) (ao 7 (pv 7)) (jr _))   (fu (iz Ie))   lq)
        · exact m7
      · exact fu (iz Ie)
theorem Pu (F:Fun K "_law_start" "_law_start" Cv f fd) (hmg:mg "_law_start" = some (.ref f)) (d_law_first:dj P w K mg base "_law_first" 1 ["_law_program_here"] (_root_.K.ur)) (d_law_holds:dj P w K mg base "_law_holds" 40 ["_law_remark_here","_law_book"] (_root_.K.iy 40)) (d_law_true:dj P w K mg base "_law_true" 43 ["_law_forms","_law_book"] (_root_.K.qy)) (d_duty_forms:dj P w K mg base "duty_forms" 46 ["program","annotation","duty"] (_root_.K.jo)):dj P w K mg base "_law_start" 47 ["_law_program_here","_law_annotation_here","_law_books_here","_law_hand"] _root_.K.yd :=
  ⟨f,fd,Q8 F d_law_first d_law_holds d_law_true d_duty_forms,F.binds (ps:=["_law_program_here","_law_annotation_here","_law_books_here","_law_hand"]) fun _ _ _ _ _ _ us hl=>bd4 (fun _ _ _ _=>rfl) us hl,F.kp,hmg⟩
noncomputable abbrev Du:Stmt:=top 44
theorem J4:jc ["_law_program_here","_law_book","_law_cell","_law_number","_law_hand","_law_here","_law_guard","_law_sets","_law_there","_law_then","_law_box","_law_one","_law_name","_law_times","_law_owner","_law_low","_law_high","_law_start_here"] ["_law_program_here","_law_book","_law_cell"] (gj Du):=⟨rfl,rfl,rfl,by decide +kernel,rfl,by decide +kernel,by decide +kernel⟩
theorem Rz (F:Fun K "_law_step" "_law_step" Du f fd) (d_law_holds:dj P w K mg base "_law_holds" 40 ["_law_remark_here","_law_book"] (_root_.K.iy 40)) (b_dict:mg "dict" = none) (b_len:mg "len" = none):yc P w K mg base CX0 41 f fd ["_law_program_here","_law_book","_law_cell"] (spF K (["_law_program_here","_law_book","_law_cell"]:List Str).length _root_.K.Ab):=by
  have d_law_holds:=d_law_holds.mono (show 40≤40 by first | decide | omega)
  refine jl (N:=["_law_program_here","_law_book","_law_cell","_law_number","_law_hand","_law_here","_law_guard","_law_sets","_law_there","_law_then","_law_box","_law_one","_law_name","_law_times","_law_owner","_law_low","_law_high","_law_start_here"]) F J4 (by decide)  fun cdv A outer s H E B hr=>?_
  have hu:=um hr
  have hq:=hr.units
  have nd:(["_law_program_here","_law_book","_law_cell","_law_number","_law_hand","_law_here","_law_guard","_law_sets","_law_there","_law_then","_law_box","_law_one","_law_name","_law_times","_law_owner","_law_low","_law_high","_law_start_here"]:List Str).Nodup:=J4.nd
  refine d8 ?_ ?_
  · exact uf (lg (mq hq) (n8 (vp Af (by rfl) b_len PySem.boot_len (aj (gw hu (ao 0 (pv 0)) cj (fun _ _=>rfl)) cg))) cj (jr _))   (fu (iz (ao 1 (pv 1))))   lq
  · refine d8 ?_ ?_
    · exact jw 3 (jk nd rfl (Or.inl rfl) (jf nq (ao 2 (pv 2)) (n8 (vp Af (by rfl) b_len PySem.boot_len (aj (gw hu (ao 0 (pv 0)) cj (fun _ _=>rfl)) cg))))) (fun _ _ _ h=>h)
    · refine d8 ?_ ?_
      · refine a94 ?_
        · refine a3t ?_ ?_
          · exact gw hu (gw hu (ao 0 (pv 0)) cj (fun _ _=>rfl)) (ao 3 (pv 3)) (fun _ _=>rfl)
          · exact v8 (is:=[4,5,6,7,8]) (v9 rfl (gn (dz nd rfl (Or.inl rfl)) (gn (dz nd rfl (Or.inl rfl)) (gn (dz nd rfl (Or.inl rfl)) (gn (dz nd rfl (Or.inl rfl)) (gn (dz nd rfl (Or.inl rfl)) qg))))))
      · refine d8 ?_ ?_
        · refine uf ?_ ?_ ?_
          · refine PW.pt ?_
            · exact a6p (lg (Le hq) (gw hu (ao 1 (pv 1)) (jf nu iw (ao 4 (pv 4))) (fun _ _=>rfl)) (ao 5 (pv 5)) (jr _)) (Yl (V6 (Qe (d9 d_law_holds hr (by rfl) (aj (ao 6 (pv 6)) (aj (ao 1 (pv 1)) cg)) (bw (bw eq_nil))))))
          · exact fu (iz (ao 1 (pv 1)))
          · exact lq
        · refine d8 ?_ ?_
          · exact Bt 9 (jk nd rfl (Or.inl rfl) (a09 rfl (by rfl) b_dict (ao 1 (pv 1)))) (fun _ _ _ h=>h)
          · refine d8 ?_ ?_
            · refine uw ?_ ?_ ?_ ?_ ?_ ?_
              · exact PassesOwn.never
              · exact rfl
              · exact m8 (ao 7 (pv 7))
              · exact v8 (is:=[10,11]) (v9 rfl (gn (dz nd rfl (Or.inl rfl)) (gn (dz nd rfl (Or.inl rfl)) qg)))
              · refine d8 ?_ ?_
                · exact Ai 9 hu (pv 9) (ao 10 (pv 10)) (gw hu (ao 11 (pv 11)) cj (fun _ _=>rfl)) rfl
                · refine fu ?_
                  · refine uw ?_ ?_ ?_ ?_ ?_ ?_
                    · exact PassesOwn.never
                    · exact rfl
                    · exact m8 (gw hu (ao 11 (pv 11)) cj (fun _ _=>rfl))
                    · exact v8 (is:=[12,13]) (v9 rfl (gn (dz nd rfl (Or.inl rfl)) (gn (dz nd rfl (Or.inl rfl)) qg)))
                    · exact fu (Ai 9 hu (pv 9) (ao 10 (pv 10)) (jf nu (Hf 9 hu (pv 9) (ao 10 (pv 10)) (fun _ _=>rfl)) (jf Gn (ao 13 (pv 13)) (gw hu (ao 1 (pv 1)) (ao 12 (pv 12)) (fun _ _=>rfl)))) rfl)
                    · exact m7
              · exact m7
            · refine d8 ?_ ?_
              · exact Ai 9 hu (pv 9) (jf nu iw (ao 4 (pv 4))) (ao 8 (pv 8)) rfl
              · refine d8 ?_ ?_
                · refine uw ?_ ?_ ?_ ?_ ?_ ?_
                  · exact PassesOwn.never
                  · exact rfl
                  · exact m8 (gw hu (ao 0 (pv 0)) cj (fun _ _=>rfl))
                  · exact v8 (is:=[12,14,15,16,17]) (v9 rfl (gn (dz nd rfl (Or.inl rfl)) (gn (dz nd rfl (Or.inl rfl)) (gn (dz nd rfl (Or.inl rfl)) (gn (dz nd rfl (Or.inl rfl)) (gn (dz nd rfl (Or.inl rfl)) qg))))))
                  · refine fu ?_
                    · exact uf (PW.pt (a6p (lg Z1 (Hf 9 hu (pv 9) (ao 12 (pv 12)) (fun _ _=>rfl)) (ao 15 (pv 15)) (jr _)) (Yl (lg Z1 (ao 16 (pv 16)) (Hf 9 hu (pv 9) (ao 12 (pv 12)) (fun _ _=>rfl)) (jr _)))))   (fu (iz (ao 1 (pv 1))))   lq
                  · exact m7
                · exact fu (iz (ao 9 (pv 9)))
theorem Rc (F:Fun K "_law_step" "_law_step" Du f fd) (hmg:mg "_law_step" = some (.ref f)) (d_law_holds:dj P w K mg base "_law_holds" 40 ["_law_remark_here","_law_book"] (_root_.K.iy 40)) (b_dict:mg "dict" = none) (b_len:mg "len" = none):dj P w K mg base "_law_step" 41 ["_law_program_here","_law_book","_law_cell"] _root_.K.Ab :=
  ⟨f,fd,Rz F d_law_holds b_dict b_len,F.binds (ps:=["_law_program_here","_law_book","_law_cell"]) fun _ _ _ _ _ _ us hl=>bd3 (fun _ _ _=>rfl) us hl,F.kp,hmg⟩
noncomputable abbrev M8:Stmt:=top 45
theorem a3y:jc ["_law_script","_law_program_here","_law_annotation_here","_law_books_here","_law_hand","_law_places","_law_duty","_law_forms","_law_book","_law_cell"] ["_law_script"] (gj M8):=⟨rfl,rfl,rfl,by decide +kernel,rfl,by decide +kernel,by decide +kernel⟩
theorem a88 (F:Fun K "law" "law" M8 f fd) (d_law_annotation:dj P w K mg base "_law_annotation" 4 ["_law_script","_law_program_here"] (_root_.K.ug)) (d_law_books:dj P w K mg base "_law_books" 1 ["_law_program_here"] (_root_.K.Ag)) (d_law_first:dj P w K mg base "_law_first" 1 ["_law_program_here"] (_root_.K.ur)) (d_law_holds:dj P w K mg base "_law_holds" 40 ["_law_remark_here","_law_book"] (_root_.K.iy 40)) (d_law_program:dj P w K mg base "_law_program" 4 ["_law_script"] (_root_.K.v7)) (d_law_start:dj P w K mg base "_law_start" 47 ["_law_program_here","_law_annotation_here","_law_books_here","_law_hand"] (_root_.K.yd)) (d_law_step:dj P w K mg base "_law_step" 41 ["_law_program_here","_law_book","_law_cell"] (_root_.K.Ab)) (d_law_true:dj P w K mg base "_law_true" 43 ["_law_forms","_law_book"] (_root_.K.qy)) (d_duties_of:dj P w K mg base "duties_of" 2 ["program"] (_root_.K.wg)) (d_duty_forms:dj P w K mg base "duty_forms" 46 ["program","annotation","duty"] (_root_.K.jo)):yc P w K mg base CX0 48 f fd ["_law_script"] (spF K (["_law_script"]:List Str).length _root_.K.a06):=by
  have d_law_annotation:=d_law_annotation.mono (show 4≤47 by first | decide | omega)
  have d_law_books:=d_law_books.mono (show 1≤47 by first | decide | omega)
  have d_law_first:=d_law_first.mono (show 1≤47 by first | decide | omega)
  have d_law_holds:=d_law_holds.mono (show 40≤47 by first | decide | omega)
  have d_law_program:=d_law_program.mono (show 4≤47 by first | decide | omega)
  have d_law_start:=d_law_start.mono (show 47≤47 by first | decide | omega)
  have d_law_step:=d_law_step.mono (show 41≤47 by first | decide | omega)
  have d_law_true:=d_law_true.mono (show 43≤47 by first | decide | omega)
  have d_duties_of:=d_duties_of.mono (show 2≤47 by first | decide | omega)
  have d_duty_forms:=d_duty_forms.mono (show 46≤47 by first | decide | omega)
  refine jl (N:=["_law_script","_law_program_here","_law_annotation_here","_law_books_here","_law_hand","_law_places","_law_duty","_law_forms","_law_book","_law_cell"]) F a3y (by decide)  fun cdv A outer s H E B hr=>?_
  have hu:=um hr
  have hq:=hr.units
  have nd:(["_law_script","_law_program_here","_law_annotation_here","_law_books_here","_law_hand","_law_places","_law_duty","_law_forms","_law_book","_law_cell"]:List Str).Nodup:=a3y.nd
  refine d8 ?_ ?_
  · exact jw 1 (jk nd rfl (Or.inl rfl) (d9 d_law_program hr (by rfl) (aj (ao 0 (pv 0)) cg) (bw eq_nil))) (fun _ _ _ h=>h)
  · refine d8 ?_ ?_
    · exact jw 2 (jk nd rfl (Or.inl rfl) (d9 d_law_annotation hr (by rfl) (aj (ao 0 (pv 0)) (aj (ao 1 (pv 1)) cg)) (bw (bw eq_nil)))) (fun _ _ _ h=>h)
    · refine d8 ?_ ?_
      · exact jw 3 (jk nd rfl (Or.inl rfl) (d9 d_law_books hr (by rfl) (aj (ao 1 (pv 1)) cg) (bw eq_nil))) (fun _ _ _ h=>h)
      · refine d8 ?_ ?_
        · refine uw ?_ ?_ ?_ ?_ ?_ ?_
          · exact PassesOwn.never
          · exact rfl
          · exact m8 (gw hu (ao 1 (pv 1)) cj (fun _ _=>rfl))
          · exact v8 (is:=[4,5]) (v9 rfl (gn (dz nd rfl (Or.inl rfl)) (gn (dz nd rfl (Or.inl rfl)) qg)))
          · exact fu (uf (V6 (Qe (d9 d_law_start hr (by rfl) (aj (ao 1 (pv 1)) (aj (ao 2 (pv 2)) (aj (ao 3 (pv 3)) (aj (ao 4 (pv 4)) cg)))) (bw (bw (bw (bw eq_nil)))))))   (fu (iz Ie))   lq)
          · exact m7
        · refine d8 ?_ ?_
          · refine uw ?_ ?_ ?_ ?_ ?_ ?_
            · exact PassesOwn.never
            · exact rfl
            · exact m8 (d9 d_duties_of hr (by rfl) (aj (ao 1 (pv 1)) cg) (bw eq_nil))
            · exact p8 6 (dz nd rfl (Or.inl rfl))
            · refine d8 ?_ ?_
              · exact jw 7 (jk nd rfl (Or.inl rfl) (d9 d_duty_forms hr (by rfl) (aj (ao 1 (pv 1)) (aj (ao 2 (pv 2)) (aj (ao 6 (pv 6)) cg))) (bw (bw (bw eq_nil))))) (fun _ _ _ h=>h)
              · exact fu (uw PassesOwn.never rfl (m8 (ao 3 (pv 3))) (p8 8 (dz nd rfl (Or.inl rfl)))   (fu (uf (Qe (d9 d_law_true hr (by rfl) (aj (ao 7 (pv 7)) (aj (ao 8 (pv 8)) cg)) (bw (bw eq_nil))))   (fu (iz Ie))   lq)) m7)
            · exact m7
          · refine d8 ?_ ?_
            · exact jw 8 (jk nd rfl (Or.inl rfl) (d9 d_law_first hr (by rfl) (aj (ao 1 (pv 1)) cg) (bw eq_nil))) (fun _ _ _ h=>h)
            · refine d8 ?_ ?_
              · refine uw ?_ ?_ ?_ ?_ ?_ ?_
                · exact PassesOwn.never
                · exact rfl
                · exact m8 (jf nu (Cy (aj cj cg) (dh (aq d7) (by decide))) (Uj (ao 0 (pv 0)) (Rb cj) (Rb cj)))
                · exact p8 9 (dz nd rfl (Or.inl rfl))
                · refine d8 ?_ ?_
                  · refine uw ?_ ?_ ?_ ?_ ?_ ?_
                    · exact PassesOwn.never
                    · exact rfl
                    · exact m8 (gw hu (ao 1 (pv 1)) cj (fun _ _=>rfl))
                    · exact v8 (is:=[4,5]) (v9 rfl (gn (dz nd rfl (Or.inl rfl)) (gn (dz nd rfl (Or.inl rfl)) qg)))
                    · refine fu ?_
                      · refine uf ?_ ?_ ?_
                        · refine V6 ?_
                          · refine Qe ?_
                            · refine d9 d_law_holds ?_ ?_ ?_ ?_
                              · exact hr
                              · exact by rfl
                              · exact aj (Ad hu (ao 2 (pv 2)) (g8 (aj (ao 4 (pv 4)) (aj (gw hu (ao 8 (pv 8)) (jf nu iw (ao 4 (pv 4))) (fun _ _=>rfl)) cg)) (dh (aq (aq d7)) (by decide))) (fun _ _=>rfl)) (aj (ao 8 (pv 8)) cg)
                              · exact bw (bw eq_nil)
                        · exact fu (iz Ie)
                        · exact lq
                    · exact m7
                  · exact fu (jw 8 (jk nd rfl (Or.inl rfl) (d9 d_law_step hr (by rfl) (aj (ao 1 (pv 1)) (aj (ao 8 (pv 8)) (aj (ao 9 (pv 9)) cg))) (bw (bw (bw eq_nil))))) (fun _ _ _ h=>h))
                · exact m7
              · exact fu (iz Ie)
end
end D
end
noncomputable section
set_option linter.all false
set_option maxRecDepth 100000
set_option autoImplicit false
namespace C
open PySem
theorem Ql {α:Type} {h f:α→T} {g:G} {c:M Bool} {e:M T} {nv:Nat} {cap:List Slot} {sto:List SO} (hcap:cap.map Aq=cap) :
    ∀ (l:List α) (acc:List T) (pre:List Slot),pre.length=nv→acc.length+l.length≤lim →
      (∀ a∈l,∀ pre:List Slot,pre.length=nv→∃ pre',pre'.length=nv∧g (h a) ⟨pre++cap,sto⟩=some ⟨pre'++cap,sto⟩∧c ⟨pre'++cap,sto⟩=some (true,⟨pre'++cap,sto⟩)∧e ⟨pre'++cap,sto⟩=some (f a,⟨pre'++cap,sto⟩)) →
      ∃ s',Ef g c e (l.map h) ⟨pre++cap,sto⟩ acc=some (acc++l.map f,s')∧s'.sto=sto
  | [],acc,pre,hp,hl,H=>⟨⟨pre++cap,sto⟩,by simp [Ef],rfl⟩
  | a::l,acc,pre,hp,hl,H=>by
    obtain ⟨pre',p1,p2,p3,p4⟩:=H a List.mem_cons_self pre hp
    have hlen:acc.length<lim:=by simp at hl ⊢; (clear p4 p3 p2 p1 H hp hcap; omega)
    obtain ⟨s',q1,q2⟩:=Ql hcap l (acc++[f a]) (pre'.map Aq) (by simpa using p1) (by simp at hl ⊢; (clear hlen p4 p3 p2 p1 H hp hcap; omega)) fun b hb=>H b (List.mem_cons_of_mem _ hb)
    refine ⟨s',?_,q2⟩
    rw [List.map_cons,Ef,p2]
    dsimp only
    rw [p3]
    dsimp only
    rw [p4]
    dsimp only
    rw [if_pos hlen,pq]
    dsimp only
    rw [List.map_append,hcap,q1]
    simp
theorem mz {α:Type} (h f:α→T) (l:List α) {g:G} {c:M Bool} {e:M T} {nv:Nat} {ci:List Nat} {it:M (List T)} {s s1:Sta} (env:List Slot) (cap:List Slot) (hit:it s=some (l.map h,s1)) (henv:gq ci s1.env=env) (hci:ci.map (fun i=>(env[i]?).getD none)=cap) (hcap:cap.map Aq=cap) (hl:l.length≤lim)
    (H:∀ a∈l,∀ pre:List Slot,pre.length=nv→∃ pre',pre'.length=nv∧g (h a) ⟨pre++cap,s1.sto⟩=some ⟨pre'++cap,s1.sto⟩∧c ⟨pre'++cap,s1.sto⟩=some (true,⟨pre'++cap,s1.sto⟩)∧e ⟨pre'++cap,s1.sto⟩=some (f a,⟨pre'++cap,s1.sto⟩)) :
    mj nv ci g it c e s=some (.lst (l.map f),⟨env,s1.sto⟩):=by
  obtain ⟨s',q1,q2⟩:=Ql hcap l [] (List.replicate nv none) (by simp) (by simpa using hl) H
  unfold mj
  rw [hit]
  dsimp only
  rw [henv,hci,q1]
  dsimp only
  rw [q2]; rfl
noncomputable def okS (x:Str):Prop:=PyData.canLay0 (.str x)=true
theorem Mt {x:Str} (h:okS x):dat (.str x)=some (.str x):=by
  unfold okS at h
  simp [dat,h]
theorem Yu {a b:Str} (ha:okS a) (hb:okS b):neO (.str a) (.str b)=some (.bl (!(a==b))):=by
  simp [neO,eqT,eqD,Mt ha,Mt hb,PyData.depth,PyData.eqv]
end C
namespace C
open PySem
end C
namespace C
open PySem
theorem G4 {α:Type} (h:α→T) (l:List α) {i:Int} (h0:0≤i) (h1:i<l.length):∃ a∈l,cu (.lst (l.map h)) (.int i)=some (h a):=by
  have hi:i.toNat<l.length:=by omega
  refine ⟨l[i.toNat],List.getElem_mem hi,?_⟩
  simp [cu,ixI,h0,h1,List.getElem?_eq_getElem hi]
theorem Uo {α:Type} (h:α→T) (l:List α) {k:Nat} (hk:k<l.length):cu (.lst (l.map h)) (.int (k:Int))=some (h l[k]):=by
  have h1:(k:Int)<(l.length:Int):=by omega
  simp [cu,ixI,h1,List.getElem?_eq_getElem hk]
end C
end
noncomputable section
set_option linter.all false
set_option maxRecDepth 100000
set_option autoImplicit false
namespace C
open PySem
theorem Ow {α σ:Type} {g:G} {b:S} (h:α→T) (R:σ→Sta) (step:σ→α→σ) (P:List α→σ→Prop)
    (H:∀ a r x,P (a::r) x→(∃ s1,g (h a) (R x)=some s1∧b s1=some (.next,R (step x a)))∧P r (step x a)) :
    ∀ (l:List α) (x:σ),P l x→forL g b (l.map h) (R x)=some (.next,R (l.foldl step x))∧P [] (l.foldl step x)
  | [],x,p=>⟨by simp [forL],p⟩
  | a::l,x,p=>by
    obtain ⟨⟨s1,h1,h2⟩,h3⟩:=H a l x p
    obtain ⟨e,q⟩:=Ow h R step P H l (step x a) h3
    refine ⟨?_,q⟩
    rw [List.map_cons,forL]; dsimp only; rw [h1]; dsimp only; rw [h2]; dsimp only; exact e
theorem a2z {α σ:Type} {g:G} {b:S} {ts:List T} {s:Sta} {r:Option (Flow × Sta)} (hF:forL g b ts s=r) (h:α→T) (l:List α) (R:σ→Sta) (x0:σ) (step:σ→α→σ) (P:List α→σ→Prop) (ht:ts=l.map h) (hs:s=R x0) (hP:P l x0)
    (H:∀ a r x,P (a::r) x→(∃ s1,g (h a) (R x)=some s1∧b s1=some (.next,R (step x a)))∧P r (step x a)) :
    r=some (.next,R (l.foldl step x0))∧P [] (l.foldl step x0):=by
  subst ht hs
  obtain ⟨e,p⟩:=Ow h R step P H l x0 hP
  exact ⟨hF.symm.trans e,p⟩
theorem Dd {α:Type} {h f:α→T} {q:α→Bool} {g:G} {c:M Bool} {e:M T} {nv:Nat} {cap:List Slot} {sto:List SO} (hcap:cap.map Aq=cap) :
    ∀ (l:List α) (acc:List T) (pre:List Slot),pre.length=nv→acc.length+l.length≤lim →
      (∀ a∈l,∀ pre:List Slot,pre.length=nv→∃ pre',pre'.length=nv∧g (h a) ⟨pre++cap,sto⟩=some ⟨pre'++cap,sto⟩∧c ⟨pre'++cap,sto⟩=some (q a,⟨pre'++cap,sto⟩)∧(q a=true→e ⟨pre'++cap,sto⟩=some (f a,⟨pre'++cap,sto⟩))) →
      ∃ s',Ef g c e (l.map h) ⟨pre++cap,sto⟩ acc=some (acc++(l.filter q).map f,s')∧s'.sto=sto
  | [],acc,pre,hp,hl,H=>⟨⟨pre++cap,sto⟩,by simp [Ef],rfl⟩
  | a::l,acc,pre,hp,hl,H=>by
    obtain ⟨pre',p1,p2,p3,p4⟩:=H a List.mem_cons_self pre hp
    have hlen:acc.length<lim:=by simp at hl ⊢; (clear p4 p3 p2 p1 H hp hcap; omega)
    rw [List.map_cons,Ef,p2]
    dsimp only
    rw [p3]
    cases hq:q a with
    | true =>
      obtain ⟨s',q1,q2⟩:=Dd hcap l (acc++[f a]) (pre'.map Aq) (by simpa using p1) (by simp at hl ⊢; (clear hq hlen p4 p3 p2 p1 H hp hcap; omega)) fun b hb=>H b (List.mem_cons_of_mem _ hb)
      refine ⟨s',?_,q2⟩
      dsimp only
      rw [p4 hq]
      dsimp only
      rw [if_pos hlen,pq]
      dsimp only
      rw [List.map_append,hcap,q1]
      simp [hq]
    | false =>
      obtain ⟨s',q1,q2⟩:=Dd hcap l acc (pre'.map Aq) (by simpa using p1) (by simp at hl ⊢; (clear hq hlen p4 p3 p2 p1 H hp hcap; omega)) fun b hb=>H b (List.mem_cons_of_mem _ hb)
      refine ⟨s',?_,q2⟩
      dsimp only
      rw [pq]
      dsimp only
      rw [List.map_append,hcap,q1]
      simp [hq]
theorem Ov {α:Type} {g:G} {c:M Bool} {e:M T} {nv:Nat} {ci:List Nat} {it:M (List T)} {s:Sta} {r:Option (T × Sta)} (hF:mj nv ci g it c e s=r) (h f:α→T) (q:α→Bool) (l:List α) (s1:Sta) (env cap:List Slot) (hit:it s=some (l.map h,s1)) (henv:gq ci s1.env=env) (hci:ci.map (fun i=>(env[i]?).getD none)=cap) (hcap:cap.map Aq=cap) (hl:l.length≤lim)
    (H:∀ a∈l,∀ pre:List Slot,pre.length=nv→∃ pre',pre'.length=nv∧g (h a) ⟨pre++cap,s1.sto⟩=some ⟨pre'++cap,s1.sto⟩∧c ⟨pre'++cap,s1.sto⟩=some (q a,⟨pre'++cap,s1.sto⟩)∧(q a=true→e ⟨pre'++cap,s1.sto⟩=some (f a,⟨pre'++cap,s1.sto⟩))) :
    r=some (.lst ((l.filter q).map f),⟨env,s1.sto⟩):=by
  obtain ⟨s',q1,q2⟩:=Dd hcap l [] (List.replicate nv none) (by simp) (by simpa using hl) H
  rw [← hF]
  unfold mj
  rw [hit]
  dsimp only
  rw [henv,hci,q1]
  dsimp only
  rw [q2]; rfl
theorem a5t {a b:Int}:eqO (.int a) (.int b)=some (.bl (a==b)):=rfl
theorem Tf {a b:Int}:neO (.int a) (.int b)=some (.bl (!(a==b))):=by simp [neO,eqT,eqD,dat,PyData.depth,PyData.eqv]
theorem a4x {a b:Str} (ha:okS a) (hb:okS b):eqO (.str a) (.str b)=some (.bl (a==b)):=by
  simp [eqO,eqT,eqD,Mt ha,Mt hb,PyData.depth,PyData.eqv]
theorem K1 {xs:List T} {k:Nat} {t:T} (h:xs[k]? = some t):cu (.tup xs) (.int (k:Int))=some t:=by
  have hk:k<xs.length:=(List.getElem?_eq_some_iff.mp h).1
  have h1:(k:Int)<(xs.length:Int):=by omega
  simp [cu,ixI,h1,h]
theorem Az {a:T} {r:List T}:cu (.tup (a::r)) (.int 0)=some a:=K1 (k:=0) rfl
theorem xq {a b:T} {r:List T}:cu (.tup (a::b::r)) (.int 1)=some b:=K1 (k:=1) rfl
theorem Qn {a b c:T} {r:List T}:cu (.tup (a::b::c::r)) (.int 2)=some c:=K1 (k:=2) rfl
theorem Yh {a b c d:T} {r:List T}:cu (.tup (a::b::c::d::r)) (.int 3)=some d:=K1 (k:=3) rfl
theorem Cg {i j:Nat} {x y:T} {s:Sta}:qj [i,j] (.tup [x,y]) s=some (gb j y false (gb i x false s)):=by simp [qj]
theorem uq {a b:S} {s s':Sta} (h:a s=some (.next,s')):j8 a b s=b s':=by unfold j8; rw [h]
end C
end
noncomputable section
set_option linter.all false
set_option autoImplicit false
namespace K
open C PySem
noncomputable section
variable {a b:M T} {l r:M (List T)} {s s1 s2:Sta} {t u v:T} {ts:List T} {i:Nat} {F:Fn} {z:List SO} {x y:S}
theorem zo {f:T→T→Option T} (h1:a s=some (t,s1)) (h2:b s1=some (u,s2)) (h3:f t u=some v):mOp f a b s=some (v,s2):=by
  unfold mOp; rw [h1]; dsimp only; rw [h2]; dsimp only; rw [h3]
theorem zm {f:List T→Option T} (h:l s=some (ts,s1)) (h2:f ts=some u):ig f l s=some (u,s1):=by
  unfold ig; rw [h]; dsimp only; rw [h2]
theorem zc (h:a s=some (t,s1)) (h2:l s1=some (ts,s2)):ak a l s=some (t::ts,s2):=by
  unfold ak; rw [h]; dsimp only; rw [h2]
theorem zf (h:l s=some (ts,s1)) (h2:F ts s1.sto=some (t,z)):dw F l s=some (t,⟨s1.env,z⟩):=by
  unfold dw; rw [h]; dsimp only; rw [h2]
theorem zs (h:a s=some (t,s1)):nj i a s=some (.next,gb i t false s1):=by unfold nj; rw [h]
theorem zn (h:a s=some (t,s1)):sNew i a s=some (.next,gb i t true s1):=by unfold sNew; rw [h]
theorem zr (h:a s=some (t,s1)):jz a s=some (.ret t,s1):=by unfold jz; rw [h]
theorem zq {q:Option (C.Flow × Sta)} (h:x s=some (.next,s1)) (h2:y s1=q):j8 x y s=q:=by unfold j8; rw [h]; exact h2
theorem zt {k:Bool} (h:a s=some (.bl k,s1)):iu a s=some (k,s1):=by unfold iu; rw [h]
theorem zk {c:M Bool} (h:c s=some (true,s1)) {q:Option (C.Flow × Sta)} (h2:x s1=q):sIf c x y s=q:=by unfold sIf; rw [h]; exact h2
theorem ze {c:M Bool} (h:c s=some (false,s1)) {q:Option (C.Flow × Sta)} (h2:y s1=q):sIf c x y s=q:=by unfold sIf; rw [h]; exact h2
theorem ys {s':Sta} (h:a s=some (t,s1)) (e:gb i t false s1=s'):nj i a s=some (.next,s'):=by unfold nj; rw [h,← e]
theorem yn {s':Sta} (h:a s=some (t,s1)) (e:gb i t true s1=s'):sNew i a s=some (.next,s'):=by unfold sNew; rw [h,← e]
theorem md {i j:Int} (h:0<j):uy (.int i) (.int j)=some (.int (i%j)):=if_pos h
theorem a3i {α:Type} {f:α→T} {l:List α}:yg [.lst (l.map f)]=some (.int l.length):=by show some (T.int ((l.map f).length:Int))=_; rw [List.length_map]
theorem ad {p q:Str} (h:p.length+q.length<lim):u5 (.str p) (.str q)=some (.str (p++q)):=if_pos h
theorem zun {f:T→Option T} (h:a s=some (t,s1)) (h2:f t=some u):mUn f a s=some (u,s1):=by unfold mUn; rw [h]; dsimp only; rw [h2]
theorem zis {α:Type} {f:α→T} {k:List α} (h:a s=some (.lst (k.map f),s1)) (hl:k.length<lim):m5 a s=some (k.map f,s1):=by
  unfold m5; rw [h]; dsimp only; rw [List.length_map,if_pos hl]
theorem zqr (h:x s=some (.ret t,s1)):j8 x y s=some (.ret t,s1):=by unfold j8; rw [h]
theorem a2r {c:M Bool} {k:Bool} (h:c s=some (k,s1)):yw c s=some (!k,s1):=by unfold yw; rw [h]
theorem aay {c d:M Bool} (h:c s=some (true,s1)):mOr c d s=some (true,s1):=by unfold mOr; rw [h]
theorem a0u {c d:M Bool} {q:Option (Bool × Sta)} (h:c s=some (false,s1)) (h2:d s1=q):mOr c d s=q:=by unfold mOr; rw [h]; exact h2
theorem zb {c:M Bool} {k:Bool} (h:c s=some (k,s1)):qb c s=some (.bl k,s1):=by unfold qb; rw [h]
theorem zgo {g:G} (h:a s=some (t,s1)) (h2:g t s1=some s2):sGo g a s=some (.next,s2):=by unfold sGo; rw [h]; dsimp only; rw [h2]
theorem za {s':Sta} {xs:List T} (h:a s=some (t,s1)) (hx:s1.env[i]? = some (some (.lst xs,true))) (hl:xs.length<lim) (hs:p7 i s=true) (e:gb i (.lst (xs++[t])) true s1=s'):j6 i a s=some (.next,s'):=by
  unfold j6; rw [if_pos hs,h]; dsimp only; rw [hx]; dsimp only; rw [if_pos hl,e]
theorem zw {s':Sta} {kv:List (C.Key × T)} {q:C.Key} (h:b s=some (t,s1)) (hd:Jk i s1=true) (h2:a s1=some (u,s2)) (hx:s2.env[i]? = some (some (.dic kv,true))) (hq:keyOf u=some q) (hl:kv.length<lim) (e:gb i (.dic (Cz q t kv)) true s2=s'):qu i a b s=some (.next,s'):=by
  unfold qu; rw [h]; dsimp only; rw [if_pos hd,h2]; dsimp only; rw [hx,hq]; dsimp only; rw [if_pos hl,e]
theorem zoi {kv:List (C.Key × T)} {q:C.Key} (hd:Jk i s=true) (h:a s=some (u,s1)) (hx:s1.env[i]? = some (some (.dic kv,true))) (hq:keyOf u=some q) (hg:Av q kv=some t):wu i a s=some (t,s1):=by
  unfold wu; rw [if_pos hd,h]; dsimp only; rw [hx]; dsimp only; rw [hq]; show (match Av q kv with | some t=>some (t,s1) | none=>none)=_; rw [hg]
theorem a1e {α:Type} {f:α→Bool}:∀ {l:List α},aan [.lst (l.map fun r=>.bl (f r))]=some (.bl (l.all f))∧ab8 [.lst (l.map fun r=>.bl (f r))]=some (.bl (l.any f)):=fun {l}=>by
  have q:∀ l:List α,Ht (l.map fun r=>.bl (f r))=some (l.map f):=fun l=>by
    induction l with
    | nil=>rfl
    | cons a l ih=>rw [List.map_cons,Ht,ih]; rfl
  refine ⟨?_,?_⟩
  · show (Ht (l.map fun r=>.bl (f r))).map _=_
    rw [q]; simp
  · show (Ht (l.map fun r=>.bl (f r))).map _=_
    rw [q]; simp
theorem abh {p q:Int} (h:p<q):ltT (.int p) (.int q)=some (.bl true):=by show some (T.bl (decide (p<q)))=_; rw [decide_eq_true h]
theorem a9u {p q:Int} (h:¬ p<q):ltT (.int p) (.int q)=some (.bl false):=by show some (T.bl (decide (p<q)))=_; rw [decide_eq_false h]
theorem acy {c d:M Bool} {j k:Bool} (h1:c s=some (j,s)) (h2:d s=some (k,s)):Bu c d s=some (j&&k,s):=by
  unfold Bu; rw [h1]
  cases j
  · rfl
  · exact h2
theorem eq_i {p q:Int} {k:Bool} (h:(p==q)=k):eqO (.int p) (.int q)=some (.bl k):=by rw [a5t,h]
theorem mu {p q:Int} (h:Di p=true):O7 (.int p) (.int q)=some (.int (p * q)):=if_pos (by rw [h]; rfl)
theorem zf0 (h:l s=some (ts,s1)) (h2:F ts s1.sto=some (t,s1.sto)):dw F l s=some (t,s1):=by
  unfold dw; rw [h]; dsimp only; rw [h2]
theorem zex {s':Sta} {xs zs:List T} (h:a s=some (t,s1)) (hq:uh t=some zs) (hx:s1.env[i]? = some (some (.lst xs,true))) (hl:xs.length+zs.length<lim) (hs:p7 i s=true) (e:gb i (.lst (xs++zs)) true s1=s'):j4 i a s=some (.next,s'):=by
  unfold j4; rw [if_pos hs,h]; dsimp only; rw [hq,hx]; dsimp only; rw [if_pos hl,e]
theorem Cd {g:G} {q:S} {w:List T} (h:g t s=some s1) (hb:q s1=some (.next,s2)):forL g q (t::w) s=forL g q w s2:=by
  rw [forL]; dsimp only; rw [h]; dsimp only; rw [hb]
theorem Ig {g:G} {q:S} {m:M (List T)} {r0:Option (C.Flow × Sta)} (h:m s=some (ts,s1)) (h2:forL g q ts s1=r0):uo g m q s=r0:=by
  unfold uo; rw [h]; exact h2
theorem zrun {n:Nat} {A:List T} {z0:List SO} (h:x ⟨A.map (fun t=>some (t,false))++List.replicate (n - A.length) none,z0⟩=some (.ret t,s1)) (h2:s1.sto=z):j9 n x A z0=some (t,z):=by
  unfold j9; rw [h]; dsimp only; rw [h2]
end
end K
end
noncomputable section
set_option linter.all false
set_option autoImplicit false
namespace K
open C PySem
theorem zdp {o v:M T} {ks:M (List T)} {s s1 s2 s3 s':Sta} {t:T} {ts:List T} {n:Nat} {kv:List (List C.Key × T)} {q:List C.Key} (hv:v s=some (t,s1)) (ho:o s1=some (.obj n,s2)) (hk:ks s2=some (ts,s3)) (hs:s3.sto[n]? = some (.dit kv)) (hq:keysOf ts=some q) (hl:kv.length<lim) (e:{ s3 with sto:=s3.sto.set n (.dit (Ud q t kv)) } = s'):Et o ks v s=some (.next,s'):=by
  unfold Et; rw [hv]; dsimp only; rw [ho]; dsimp only; rw [hk]; dsimp only; rw [hs,hq]; dsimp only; rw [if_pos hl,e]
end K
namespace K
open C PySem
theorem a75 {α:Type} {a:M T} {s s1:Sta} {f:α→T} {k:List α} (h:a s=some (.tup (k.map f),s1)) (hl:k.length<lim):m5 a s=some (k.map f,s1):=by
  unfold m5; rw [h]; dsimp only; rw [List.length_map,if_pos hl]
theorem aas {α:Type} {f:α→Int} {l:List α}:a9p [.lst (l.map fun a=>T.int (f a))]=some (.int (l.map f).sum):=by
  have q:∀ l:List α,W4 (l.map fun a=>T.int (f a))=some (l.map f):=fun l=>by
    induction l with
    | nil=>rfl
    | cons a l ih=>rw [List.map_cons,W4,ih]; rfl
  show (W4 _).map _=_
  rw [q]; rfl
end K
namespace K
open C PySem
theorem zmt {c:M Bool} {a b:M T} {s s1:Sta} {r:Option (T × Sta)} (h:c s=some (true,s1)) (h2:a s1=r):mIf c a b s=r:=by unfold mIf; rw [h]; exact h2
theorem zmf {c:M Bool} {a b:M T} {s s1:Sta} {r:Option (T × Sta)} (h:c s=some (false,s1)) (h2:b s1=r):mIf c a b s=r:=by unfold mIf; rw [h]; exact h2
theorem zrg {a:M T} {s s1:Sta} {m:Nat} (h:a s=some (.int (m:Int),s1)) (hl:m<lim):ji a s=some ((List.range m).map (fun (k:Nat)=>T.int (k:Int)),s1):=by
  unfold ji; rw [h]; dsimp only; unfold rangeT; simp [hl]
end K
end
noncomputable section
set_option linter.all false
set_option maxRecDepth 100000
set_option autoImplicit false
namespace K
open C PySem
noncomputable abbrev Pr:=Str × Int
noncomputable def pT (p:Pr):T:=.tup [.str p.1,.int p.2]
noncomputable abbrev Sm:=Int × List Pr
noncomputable def smT (s:Sm):T:=.tup [.int s.1,.tup (s.2.map pT)]
noncomputable def dd (d:List Pr):List (C.Key × T):=d.map fun p=>(.inr p.1,.int p.2)
noncomputable def gt:List Pr→Str→Int
  | [],_=>0
  | (k,v)::r,b=>if k=b then v else gt r b
noncomputable def ks (d:List Pr):List Str:=d.map (·.1)
noncomputable def pt (d:List Pr) (b:Str) (v:Int):List Pr:=if b∈ks d then d.map fun p=>if p.1=b then (p.1,v) else p else d++[(b,v)]
theorem Wy (b:Str):∀ d:List Pr,(Av (.inr b) (dd d)).getD (.int 0)=.int (gt d b)
  | []=>rfl
  | (k,v)::r=>by
    have ih:=Wy b r
    unfold dd at ih ⊢
    simp only [List.map_cons,Av,gt]
    by_cases h:k=b
    · simp [h]
    · rw [if_neg (by simpa using h),if_neg h,ih]
theorem Gb {b:Str}:∀ {d:List Pr},b∈ks d→Av (.inr b) (dd d)=some (.int (gt d b))
  | [],h=>by simp [ks] at h
  | (k,v)::r,h=>by
    unfold dd
    simp only [List.map_cons,Av,gt]
    by_cases e:k=b
    · simp [e]
    · rw [if_neg (by simpa using e),if_neg e]
      simp only [ks,List.map_cons,List.mem_cons] at h
      rcases h with h | h
      · exact absurd h.symm e
      · exact Gb (d:=r) h
theorem R9 {b:Str}:∀ {d:List Pr},b∉ks d→gt d b=0
  | [],_=>rfl
  | (k,v)::r,h=>by
    simp only [ks,List.map_cons,List.mem_cons,not_or] at h
    rw [gt,if_neg (fun e=>h.1 e.symm)]
    exact R9 (d:=r) h.2
theorem a6c (b:Str) (v:Int) (d:List Pr):Cz (.inr b) (.int v) (dd d)=dd (pt d b v):=by
  have any:((dd d).any fun p=>decide (p.1=Sum.inr b))=decide (b∈ks d):=by
    rw [Bool.eq_iff_iff]
    simp only [List.any_eq_true,decide_eq_true_eq,dd,ks,List.mem_map]
    constructor
    · rintro ⟨x,⟨p,hp,rfl⟩,h⟩
      simp only [Sum.inr.injEq] at h
      exact ⟨p,hp,h⟩
    · rintro ⟨p,hp,h⟩
      exact ⟨_,⟨p,hp,rfl⟩,by simp [h]⟩
  unfold Cz pt
  rw [any]
  by_cases h:b∈ks d
  · rw [if_pos (by simpa using h),if_pos h] -- here
    unfold dd
    rw [List.map_map,List.map_map] -- here
    apply List.map_congr_left
    intro p _
    simp only [Function.comp,Sum.inr.injEq]
    split <;> rfl
  · rw [if_neg (by simpa using h),if_neg h] -- here
    unfold dd
    rw [List.map_append]; rfl
theorem a7y (d:List Pr) (b:Str) (v:Int):ks (pt d b v)=if b∈ks d then ks d else ks d++[b]:=by
  unfold pt
  split
  · unfold ks
    rw [List.map_map]
    apply List.map_congr_left
    intro p _
    simp only [Function.comp]
    split <;> rfl
  · unfold ks; rw [List.map_append]; rfl
theorem Lf {b k:Str} {v:Int} {r:List Pr}:b∈ks ((k,v)::r)↔b=k∨b∈ks r:=by simp [ks]
theorem a4i {b:Str} {e:List Pr}:∀ {d:List Pr},gt (d++e) b=if b∈ks d then gt d b else gt e b
  | []=>by simp [ks]
  | (k,v)::r=>by
    simp only [List.cons_append,gt]
    by_cases h:k=b
    · rw [if_pos h,if_pos h,if_pos (Lf.mpr (.inl h.symm))]
    · rw [if_neg h,if_neg h,a4i (d:=r)]
      have hiff:(b∈ks ((k,v)::r))↔b∈ks r:=Lf.trans ⟨fun z=>z.resolve_left fun z=>h z.symm,.inr⟩
      by_cases hr:b∈ks r
      · rw [if_pos hr,if_pos (hiff.mpr hr)]
      · rw [if_neg hr,if_neg (fun z=>hr (hiff.mp z))]
theorem a3z {b c:Str} {v:Int}:∀ {d:List Pr},gt (d.map fun p=>if p.1=b then (p.1,v) else p) c=if c=b∧c∈ks d then v else gt d c
  | []=>by simp [ks,gt]
  | (k,w)::r=>by
    have ih:=a3z (b:=b) (c:=c) (v:=v) (d:=r)
    rw [List.map_cons]
    by_cases h:k=b
    · rw [if_pos h]
      simp only [gt]
      by_cases hc:k=c
      · rw [if_pos hc,if_pos ⟨by rw [← hc,h],Lf.mpr (.inl hc.symm)⟩]
      · rw [if_neg hc,if_neg hc,ih]
        have hb:¬ c=b:=fun z=>hc (by rw [h,z])
        rw [if_neg (fun z=>hb z.1),if_neg (fun z=>hb z.1)]
    · rw [if_neg h]
      simp only [gt]
      by_cases hc:k=c
      · rw [if_pos hc,if_pos hc]
        have hb:¬ c=b:=fun z=>h (by rw [hc,z])
        rw [if_neg (fun z=>hb z.1)]
      · rw [if_neg hc,if_neg hc,ih]
        have hiff:(c∈ks ((k,w)::r))↔c∈ks r:=Lf.trans ⟨fun z=>z.resolve_left fun z=>hc z.symm,.inr⟩
        by_cases hr:c=b∧c∈ks r
        · rw [if_pos hr,if_pos ⟨hr.1,hiff.mpr hr.2⟩]
        · rw [if_neg hr,if_neg (fun z=>hr ⟨z.1,hiff.mp z.2⟩)]
theorem aar {d:List Pr} {b c:Str} {v:Int}:gt (pt d b v) c=if c=b then v else gt d c:=by
  unfold pt
  split
  · rename_i h
    rw [a3z]
    by_cases e:c=b
    · rw [if_pos ⟨e,by rw [e]; exact h⟩,if_pos e]
    · rw [if_neg (fun z=>e z.1),if_neg e]
  · rename_i h
    rw [a4i]
    by_cases e:c=b
    · subst e
      rw [if_neg h,if_pos rfl]; simp [gt]
    · rw [if_neg e]
      split
      · rfl
      · rename_i h2
        have:¬ b=c:=fun z=>e z.symm
        rw [R9 h2]
        simp [gt,this]
noncomputable def tot:List Pr→Str→Int
  | [],_=>0
  | (k,v)::r,b=>(if k=b then v else 0)+tot r b
noncomputable def a0d (l:List Pr) (d:List Pr):List Pr:=l.foldl (fun d p=>pt d p.1 (gt d p.1+p.2)) d
theorem a0k (b:Str):∀ (l d:List Pr),gt (a0d l d) b=gt d b+tot l b
  | [],d=>by simp [a0d,tot]
  | (k,v)::r,d=>by
    have ih:=a0k b r (pt d k (gt d k+v))
    unfold a0d at ih ⊢
    rw [List.foldl_cons,ih,aar,tot]
    by_cases h:b=k
    · subst h; simp; omega
    · have h2:¬ k=b:=fun z=>h z.symm
      rw [if_neg h,if_neg h2]; (clear h2 h ih; omega)
theorem a05:∀ (l d:List Pr),(ks d).Nodup→(ks (a0d l d)).Nodup∧(∀ b,b∈ks (a0d l d)↔b∈ks d∨b∈ks l)
  | [],d,h=>⟨h,fun b=>by simp [a0d,ks]⟩
  | (k,v)::r,d,h=>by
    have h1:(ks (pt d k (gt d k+v))).Nodup:=by
      rw [a7y]
      split
      · exact h
      · rename_i hn
        rw [List.nodup_append]
        exact ⟨h,by simp,fun a ha b hb=>by simp at hb; subst hb; exact fun z=>hn (by rw [← z]; exact ha)⟩
    obtain ⟨a1,a2⟩:=a05 r (pt d k (gt d k+v)) h1
    unfold a0d at a1 a2 ⊢
    rw [List.foldl_cons]
    refine ⟨a1,fun b=>?_⟩
    rw [a2 b,a7y,Lf]
    by_cases hk:k∈ks d
    · rw [if_pos hk]
      constructor
      · rintro (z | z)
        · exact .inl z
        · exact .inr (.inr z)
      · rintro (z | z | z)
        · exact .inl z
        · subst z; exact .inl hk
        · exact .inr z
    · rw [if_neg hk]
      constructor
      · rintro (z | z)
        · rcases List.mem_append.mp z with z | z
          · exact .inl z
          · simp at z; exact .inr (.inl z)
        · exact .inr (.inr z)
      · rintro (z | z | z)
        · exact .inl (List.mem_append_left _ z)
        · subst z; exact .inl (List.mem_append_right _ (by simp))
        · exact .inr z
structure Uni (U:List Str):Prop where
  len:U.length≤8
  ok:∀ x∈U,okS x
  ins:∀ x∈U,∀ P:Str→Bool,P x=false→Wj x (U.filter P)=U.filter fun b=>P b||b==x
noncomputable def canon (U:List Str) (f:Str→Int):List Pr:=(U.filter fun b=>f b != 0).map fun b=>(b,f b)
theorem Ph {U:List Str} (u:Uni U):∀ (l:List Str) (P:Str→Bool),l.Nodup→(∀ b∈l,b∈U∧P b=false)→l.foldl (fun acc x=>Wj x acc) (U.filter P)=U.filter fun b=>P b||l.contains b
  | [],P,_,_=>by simp
  | x::l,P,hn,h=>by
    obtain ⟨h1,h2⟩:=List.nodup_cons.mp hn
    rw [List.foldl_cons,u.ins x (h x List.mem_cons_self).1 P (h x List.mem_cons_self).2,Ph u l _ h2 fun b hb=>⟨(h b (List.mem_cons_of_mem _ hb)).1,by
      rw [(h b (List.mem_cons_of_mem _ hb)).2,Bool.false_or]
      exact beq_eq_false_iff_ne.mpr fun z=>h1 (by rw [← z]; exact hb)⟩]
    congr 1
    funext b
    rw [List.contains_cons,Bool.or_assoc]
theorem Ka {U l:List Str} (u:Uni U) (hn:l.Nodup) (h:∀ b∈l,b∈U):Br l=U.filter fun b=>l.contains b:=by
  have:=Ph u l (fun _=>false) hn fun b hb=>⟨h b hb,rfl⟩
  unfold Br
  rw [show U.filter (fun _=>false)=[] by simp] at this
  rw [this]
  apply List.filter_congr
  intro b _
  simp
theorem Ru {U:List Str} {d:List Pr} (u:Uni U) (hn:(ks d).Nodup) (h:∀ b∈ks d,b∈U):((Br (ks d)).filter fun b=>gt d b != 0)=U.filter fun b=>gt d b != 0:=by
  rw [Ka u hn h,List.filter_filter]
  apply List.filter_congr
  intro b hb
  by_cases e:b∈ks d
  · simp [e]
  · simp [R9 e]
theorem Uv {U:List Str} {d:List Pr} (u:Uni U) (hn:(ks d).Nodup) (h:∀ b∈ks d,b∈U):d.length≤U.length:=by
  have h1:=List.Nodup.length_le_of_subset hn h
  simpa [ks] using h1
end K
end
noncomputable section
set_option linter.all false
set_option maxRecDepth 100000
set_option autoImplicit false
namespace K
open C PySem
noncomputable section
variable {U:List Str} {sto:List SO}
theorem keys_str:∀ d:List Pr,K5 ((dd d).map fun p=>W9 p.1)=some (ks d)
  | []=>rfl
  | (k,v)::r=>by
    have ih:=keys_str r
    show (K5 ((dd r).map fun p=>W9 p.1)).map (k :: ·)=_
    rw [ih]; rfl
theorem Yb {d:List Pr} (h:d.length<64):Mz [.dic (dd d)]=some (.lst ((Br (ks d)).map T.str)):=by
  have h2:(dd d).length<64:=by simpa [dd] using h
  simp only [Mz,if_pos h2,keys_str,Option.map_some]
noncomputable def prs (l:List Pr) (s:T):Prop:=s=.lst (l.map pT)∨s=.tup (l.map pT)
theorem a5x {l:List Pr} {s:T} (h:prs l s) (hl:l.length<1000000) {m:M T} {st st':Sta} (e:m st=some (s,st')):m5 m st=some (l.map pT,st'):=by
  have h1:l.length<lim:=hl
  rcases h with rfl | rfl <;> simp [m5,e,h1]
theorem a08 {b:Str} {v:Int} {d:List Pr}:Cz (.inr b) (.int v) (dd d)=dd (pt d b v):=a6c b v d
theorem a5r {v:Int}:neO (.int v) (.int 0)=some (.bl (v != 0)):=by
  rw [Tf]; rfl
theorem Zn {n:Int} {l:List Pr} {s:T} (u:Uni U) (hs:prs l s) (hl:l.length<1000) (hU:∀ b∈ks l,b∈U):uz [.int n,s] sto=some (smT (n,canon U (tot l)),sto):=by
  have e1:bf 1 ⟨[some (.int n,false),some (s,false),some (.dic (dd []),true),none,none,none],sto⟩=some (s,⟨[some (.int n,false),some (s,false),some (.dic (dd []),true),none,none,none],sto⟩):=rfl
  have is:=a5x hs (by (clear e1 hU hs u; omega)) e1
  obtain ⟨hn,hk⟩:=a05 l [] (by simp [ks])
  have hkU:∀ b∈ks (a0d l []),b∈U:=fun b hb=>by
    rcases (hk b).mp hb with z | z
    · simp [ks] at z
    · exact hU b z
  have hlen:=Uv u hn hkU
  have ul:=u.len
  unfold uz j9
  rw [show ([T.int n,s].map (fun t=>some (t,false))++List.replicate (6 - [T.int n,s].length) none:List Slot)=[some (.int n,false),some (s,false),none,none,none,none] from rfl]
  rw [uq (s':=⟨[some (.int n,false),some (s,false),some (.dic (dd []),true),none,none,none],sto⟩) rfl]
  have loop:(uo (qj [3,4]) (m5 (bf 1)) (qu 2 (bf 3) (mOp u5 (Gj 2 (bf 3) (au (.int 0))) (bf 4)))) ⟨[some (.int n,false),some (s,false),some (.dic (dd []),true),none,none,none],sto⟩
      = some (.next,⟨[some (.int n,false),some (s,false),some (.dic (dd (a0d l [])),true),(l.foldl (fun (x:List Pr × Slot × Slot) p=>(pt x.1 p.1 (gt x.1 p.1+p.2),some (.str p.1,false),some (.int p.2,false))) ([],none,none)).2.1,(l.foldl (fun (x:List Pr × Slot × Slot) p=>(pt x.1 p.1 (gt x.1 p.1+p.2),some (.str p.1,false),some (.int p.2,false))) ([],none,none)).2.2,none],sto⟩):=by
    unfold uo
    rw [is]
    dsimp only
    generalize hF:forL _ _ _ _=r
    obtain ⟨rfl,_⟩:=a2z hF pT l (fun (x:List Pr × Slot × Slot)=>(⟨[some (.int n,false),some (s,false),some (.dic (dd x.1),true),x.2.1,x.2.2,none],sto⟩:Sta)) ([],none,none)
      (fun x p=>(pt x.1 p.1 (gt x.1 p.1+p.2),some (.str p.1,false),some (.int p.2,false))) (fun r x=>x.1.length+r.length≤l.length) rfl rfl (by simp) (by
        rintro p r x h1
        simp only [List.length_cons] at h1
        have hlt:(dd x.1).length<lim:=by simp only [dd,List.length_map]; show _<1000000; (clear hF ul hlen hkU hk hn is e1 hU hs u; omega)
        refine ⟨⟨_,by unfold pT; exact Cg,?_⟩,?_⟩
        · simp [j9,j8,sIf,nj,sNew,jz,tu,sNx,jh,sGo,jd,uo,j6,j4,p7,iu,yw,Bu,mOr,qb,mIf,mOp,mUn,bf,ig,ak,dg,au,ux,dw,gb,hName,qj,ji,m5,ltT,leT,yg,u5,Bg,uy,ju,Bo,Ea,uh,jm,gq,Aq,qu,Gj,Jk,keyOf,Wy,hlt,a08]
        · have:(pt x.1 p.1 (gt x.1 p.1+p.2)).length≤x.1.length+1:=by
            unfold pt
            split
            · rw [List.length_map]; (clear hlt h1 hF ul hlen hkU hk hn is e1 hU hl hs u; omega)
            · rw [List.length_append,List.length_singleton]; exact Nat.le_refl _
          dsimp only
          (clear hlt hF ul hlen hkU hk hn is e1 hU hl hs u; omega))
    have fst:∀ (l:List Pr) (x:List Pr × Slot × Slot),(l.foldl (fun (x:List Pr × Slot × Slot) p=>(pt x.1 p.1 (gt x.1 p.1+p.2),some (T.str p.1,false),some (T.int p.2,false))) x).1=a0d l x.1:=fun l=>by
      induction l with
      | nil=>intro x; rfl
      | cons p l ih=>intro x; rw [List.foldl_cons,ih]; rfl
    rw [fst]
  rw [uq loop]
  generalize (l.foldl (fun (x:List Pr × Slot × Slot) p=>(pt x.1 p.1 (gt x.1 p.1+p.2),some (T.str p.1,false),some (T.int p.2,false))) ([],none,none)).2.1=o3
  generalize (l.foldl (fun (x:List Pr × Slot × Slot) p=>(pt x.1 p.1 (gt x.1 p.1+p.2),some (T.str p.1,false),some (T.int p.2,false))) ([],none,none)).2.2=o4
  generalize hd:a0d l []=d at *
  have hso:=Yb (d:=d) (by (clear loop hkU hk hn hd is e1 hU hl hs u; omega))
  have il:(Br (ks d)).length<lim:=by
    rw [Ka u hn hkU]
    exact Nat.lt_of_le_of_lt (List.length_filter_le _ _) (by show _<1000000; (clear hso loop hlen hkU hk hn hd is e1 hU hl hs u; omega))
  simp [j9,j8,sIf,nj,sNew,jz,tu,sNx,jh,sGo,jd,uo,j6,j4,p7,iu,yw,Bu,mOr,qb,mIf,mOp,mUn,bf,ig,ak,dg,au,ux,dw,gb,hName,qj,ji,m5,ltT,leT,yg,u5,Bg,uy,ju,Bo,Ea,uh,jm,gq,Aq]
  generalize hF:mj 1 _ _ _ _ _ _=r
  have e:=Ov hF T.str (fun b=>pT (b,gt d b)) (fun b=>gt d b != 0) (Br (ks d)) ⟨[some (.int n,false),some (s,false),some (.dic (dd d),false),o3,o4,none],sto⟩ [some (.int n,false),some (s,false),some (.dic (dd d),false),o3,o4,none] [some (.dic (dd d),false)] (by first | exact rfl | simp [j9,j8,sIf,nj,sNew,jz,tu,sNx,jh,sGo,jd,uo,j6,j4,p7,iu,yw,Bu,mOr,qb,mIf,mOp,mUn,bf,ig,ak,dg,au,ux,dw,gb,hName,qj,ji,m5,ltT,leT,yg,u5,Bg,uy,ju,Bo,Ea,uh,jm,gq,Aq,hso,il]) rfl rfl rfl (Nat.le_of_lt il) (fun b hb pre hp=>by
    have hb2:b∈ks d:=by
      rw [Ka u hn hkU] at hb
      have:=(List.mem_filter.mp hb).2
      simpa using this
    have hg:=Gb hb2
    match pre,hp with
    | [p0],_=>exact ⟨[some (.str b,false)],rfl,by first | exact rfl | simp [j9,j8,sIf,nj,sNew,jz,tu,sNx,jh,sGo,jd,uo,j6,j4,p7,iu,yw,Bu,mOr,qb,mIf,mOp,mUn,bf,ig,ak,dg,au,ux,dw,gb,hName,qj,ji,m5,ltT,leT,yg,u5,Bg,uy,ju,Bo,Ea,uh,jm,gq,Aq],by first | exact rfl | simp [j9,j8,sIf,nj,sNew,jz,tu,sNx,jh,sGo,jd,uo,j6,j4,p7,iu,yw,Bu,mOr,qb,mIf,mOp,mUn,bf,ig,ak,dg,au,ux,dw,gb,hName,qj,ji,m5,ltT,leT,yg,u5,Bg,uy,ju,Bo,Ea,uh,jm,gq,Aq,cu,keyOf,hg,a5r],fun _=>by first | exact rfl | simp [j9,j8,sIf,nj,sNew,jz,tu,sNx,jh,sGo,jd,uo,j6,j4,p7,iu,yw,Bu,mOr,qb,mIf,mOp,mUn,bf,ig,ak,dg,au,ux,dw,gb,hName,qj,ji,m5,ltT,leT,yg,u5,Bg,uy,ju,Bo,Ea,uh,jm,gq,Aq,cu,keyOf,hg,pT]⟩)
  subst e
  rw [Ru u hn hkU]
  have hg:∀ b,gt d b=tot l b:=fun b=>by rw [← hd,a0k]; simp [gt]
  simp [j9,j8,sIf,nj,sNew,jz,tu,sNx,jh,sGo,jd,uo,j6,j4,p7,iu,yw,Bu,mOr,qb,mIf,mOp,mUn,bf,ig,ak,dg,au,ux,dw,gb,hName,qj,ji,m5,ltT,leT,yg,u5,Bg,uy,ju,Bo,Ea,uh,jm,gq,Aq,Bm,smT,canon]
  simp only [hg]
  rfl
end
end K
end
noncomputable section
set_option linter.all false
set_option maxRecDepth 100000
set_option autoImplicit false
namespace K
open C PySem
noncomputable section
variable {U:List Str} {sto:List SO}
structure Gy (U:List Str) (s:Sm):Prop where
  nd:(ks s.2).Nodup
  sub:∀ b∈ks s.2,b∈U
theorem Uu {f:Str→Int}:ks (canon U f)=U.filter fun b=>f b != 0:=by
  unfold ks canon
  rw [List.map_map]
  exact List.map_id' _
theorem M7 {f:Str→Int} (hU:U.Nodup) {b:Str} (hb:b∈U):gt (canon U f) b=f b:=by
  unfold canon
  induction U with
  | nil=>cases hb
  | cons c U ih =>
    obtain ⟨h1,h2⟩:=List.nodup_cons.mp hU
    rw [List.filter_cons]
    rcases List.mem_cons.mp hb with rfl | hb'
    · by_cases h0:f b=0
      · rw [if_neg (by simp [h0])]
        rw [R9,h0]
        intro z
        simp only [ks,List.map_map,List.mem_map,List.mem_filter] at z
        obtain ⟨a,⟨ha,_⟩,e⟩:=z
        exact h1 (by rw [← e]; exact ha)
      · rw [if_pos (by simp [h0])]
        simp [gt]
    · have hne:c≠b:=fun z=>h1 (by rw [z]; exact hb')
      split
      · rw [List.map_cons,gt,if_neg hne]; exact ih h2 hb'
      · exact ih h2 hb'
theorem Gg {f:Str→Int} {n:Int} (hU:U.Nodup):Gy U (n,canon U f):=⟨by
  show (ks (canon U f)).Nodup
  rw [Uu]; exact hU.filter _,fun b hb=>by
  have hb:b∈ks (canon U f):=hb
  rw [Uu] at hb; exact (List.mem_filter.mp hb).1⟩
theorem Qa {b:Str}:∀ {l:List Pr},(ks l).Nodup→tot l b=gt l b
  | [],_=>rfl
  | (k,v)::r,h=>by
    obtain ⟨h1,h2⟩:=List.nodup_cons.mp (show (k::ks r).Nodup from h)
    rw [tot,gt,Qa h2]
    by_cases e:k=b
    · subst e; rw [if_pos rfl,if_pos rfl,R9 h1]; (clear h2 h1 h; omega)
    · rw [if_neg e,if_neg e]; (clear e h2 h1 h; omega)
noncomputable def Wi (t:Int) (l:List Pr):List Pr:=l.map fun p=>(p.1,p.2 * t)
theorem a5i {t:Int} {l:List Pr}:ks (Wi t l)=ks l:=by unfold ks Wi; rw [List.map_map]; rfl
theorem V7 {t:Int} {b:Str}:∀ {l:List Pr},tot (Wi t l) b=tot l b * t
  | []=>by simp [Wi,tot]
  | (k,v)::r=>by
    have ih:=V7 (t:=t) (b:=b) (l:=r)
    simp only [Wi,List.map_cons,tot] at ih ⊢
    rw [ih,Int.add_mul]
    by_cases e:k=b
    · simp [e]
    · simp [e]
theorem Vg {s:Sm} (u:Uni U) (h:Gy U s):s.2.length≤8:=Nat.le_trans (Uv u h.nd h.sub) u.len
end
end K
end
noncomputable section
set_option linter.all false
set_option maxRecDepth 100000
set_option autoImplicit false
namespace K
open C PySem
noncomputable def U3:List Str:=["b2","x","y"]
theorem nd3:U3.Nodup:=by decide +kernel
theorem abm:Uni U3 where
  len:=by decide
  ok:=by unfold okS; decide +kernel
  ins:=by
    intro x hx P hP
    simp only [U3,List.mem_cons,List.not_mem_nil,or_false] at hx
    unfold U3
    rcases hx with rfl | rfl | rfl
    · cases h1:P "x" <;> cases h2:P "y" <;> simp only [List.filter_cons,List.filter_nil,hP,h1,h2] <;> decide +kernel
    · cases h1:P "b2" <;> cases h2:P "y" <;> simp only [List.filter_cons,List.filter_nil,hP,h1,h2] <;> decide +kernel
    · cases h1:P "b2" <;> cases h2:P "x" <;> simp only [List.filter_cons,List.filter_nil,hP,h1,h2] <;> decide +kernel
noncomputable section
variable {U:List Str} {sto:List SO}
theorem Rx {b:Str}:∀ l r:List Pr,tot (l++r) b=tot l b+tot r b
  | [],r=>by simp [tot]
  | (k,v)::l,r=>by rw [List.cons_append,tot,tot,Rx l r]; omega
theorem Al {f g:Str→Int} (h:∀ b∈U,f b=g b):canon U f=canon U g:=by
  unfold canon
  rw [List.filter_congr (q:=fun b=>g b != 0) fun b hb=>by rw [h b hb]]
  exact List.map_congr_left fun b hb=>by rw [h b (List.mem_filter.mp hb).1]
theorem a7i {l r:List Pr}:ks (l++r)=ks l++ks r:=by simp [ks]
theorem plus {a b:Sm} (u:Uni U) (ha:Gy U a) (hb:Gy U b):K6 [smT a,smT b] sto=some (smT (a.1+b.1,canon U fun c=>gt a.2 c+gt b.2 c),sto):=by
  have l1:=Vg u ha
  have l2:=Vg u hb
  have e:=Zn (sto:=sto) (n:=a.1+b.1) (l:=a.2++b.2) (s:=.tup ((a.2++b.2).map pT)) u (.inr rfl) (by rw [List.length_append]; (clear hb ha u; omega)) (fun c hc=>by
    rw [a7i] at hc
    rcases List.mem_append.mp hc with z | z
    · exact ha.sub c z
    · exact hb.sub c z)
  have hl:a.2.length+b.2.length<lim:=by show _<1000000; (clear e hb ha u; omega)
  rw [Al (f:=tot (a.2++b.2)) (g:=fun c=>gt a.2 c+gt b.2 c) (fun c _=>by rw [Rx,Qa ha.nd,Qa hb.nd]),List.map_append] at e
  unfold K6 smT
  simp [j9,j8,sIf,nj,sNew,jz,tu,sNx,jh,sGo,jd,uo,j6,j4,p7,iu,yw,Bu,mOr,qb,mIf,mOp,mUn,bf,ig,ak,dg,au,ux,dw,gb,hName,qj,ji,m5,ltT,leT,yg,u5,Bg,uy,ju,Bo,Ea,uh,jm,gq,Aq,Az,xq,hl,e]
  rfl
theorem by_ {s:Sm} {t:Int} (u:Uni U) (hs:Gy U s) (ht:Di t=true):Yd [smT s,.int t] sto=some (smT (s.1 * t,canon U fun c=>gt s.2 c * t),sto):=by
  have l1:=Vg u hs
  have hl:s.2.length<lim:=by show _<1000000; (clear ht hs u; omega)
  have e:=Zn (sto:=sto) (n:=s.1 * t) (l:=Wi t s.2) (s:=.lst ((Wi t s.2).map pT)) u (.inl rfl) (by unfold Wi; rw [List.length_map]; (clear hl ht hs u; omega)) (fun c hc=>by rw [a5i] at hc; exact hs.sub c hc)
  rw [Al (f:=tot (Wi t s.2)) (g:=fun c=>gt s.2 c * t) (fun c _=>by rw [V7,Qa hs.nd])] at e
  have co:mj 2 [1] (qj [0,1]) (m5 (mOp cu (bf 0) (au (.int 1)))) jm (ig (fun l=>some (.tup l)) (ak (bf 0) (ak (mOp O7 (bf 1) (bf 2)) dg))) ⟨[some (smT s,false),some (.int t,false)],sto⟩=some (.lst ((Wi t s.2).map pT),⟨[some (smT s,false),some (.int t,false)],sto⟩):=by
    unfold Wi
    rw [List.map_map]
    refine mz pT (fun p=>pT (p.1,p.2 * t)) s.2 (s1:=⟨[some (smT s,false),some (.int t,false)],sto⟩) _ [some (.int t,false)] (by unfold smT; simp [j9,j8,sIf,nj,sNew,jz,tu,sNx,jh,sGo,jd,uo,j6,j4,p7,iu,yw,Bu,mOr,qb,mIf,mOp,mUn,bf,ig,ak,dg,au,ux,dw,gb,hName,qj,ji,m5,ltT,leT,yg,u5,Bg,uy,ju,Bo,Ea,uh,jm,gq,Aq,xq,hl]) rfl rfl rfl (Nat.le_of_lt hl) ?_
    intro p hp pre hpre
    obtain ⟨a,b,rfl⟩:∃ a b,pre=[a,b]:=by
      match pre,hpre with
      | [a,b],_=>exact ⟨a,b,rfl⟩
    refine ⟨[some (.str p.1,false),some (.int p.2,false)],rfl,by unfold pT; rw [Cg]; rfl,rfl,?_⟩
    simp [j9,j8,sIf,nj,sNew,jz,tu,sNx,jh,sGo,jd,uo,j6,j4,p7,iu,yw,Bu,mOr,qb,mIf,mOp,mUn,bf,ig,ak,dg,au,ux,dw,gb,hName,qj,ji,m5,ltT,leT,yg,u5,Bg,uy,ju,Bo,Ea,uh,jm,gq,Aq,O7,ht,pT]
  have e2:mOp O7 (mOp cu (bf 0) (au (.int 0))) (bf 1) ⟨[some (smT s,false),some (.int t,false)],sto⟩=some (.int (s.1 * t),⟨[some (smT s,false),some (.int t,false)],sto⟩):=by
    unfold smT; simp [j9,j8,sIf,nj,sNew,jz,tu,sNx,jh,sGo,jd,uo,j6,j4,p7,iu,yw,Bu,mOr,qb,mIf,mOp,mUn,bf,ig,ak,dg,au,ux,dw,gb,hName,qj,ji,m5,ltT,leT,yg,u5,Bg,uy,ju,Bo,Ea,uh,jm,gq,Aq,Az,O7,ht]
  unfold Yd j9
  show (match jz _ ⟨[some (smT s,false),some (.int t,false)],sto⟩ with | some (.ret t,s)=>some (t,s.sto) | some (.next,s)=>some (.non,s.sto) | _=>none)=_
  simp only [jz,dw,ak,dg,e2,co,e]
theorem b1:Di (-1)=true:=by decide
theorem minus {a b:Sm} (u:Uni U) (nd:U.Nodup) (ha:Gy U a) (hb:Gy U b):qz [smT a,smT b] sto=some (smT (a.1+b.1 * -1,canon U fun c=>gt a.2 c+gt b.2 c * -1),sto):=by
  have e1:=by_ (sto:=sto) (t:=-1) u hb b1
  have e2:=plus (sto:=sto) u ha (Gg (n:=b.1 * -1) (f:=fun c=>gt b.2 c * -1) nd)
  dsimp only at e2
  have ec:(canon U fun c=>gt a.2 c+gt (canon U fun c=>gt b.2 c * -1) c)=canon U fun c=>gt a.2 c+gt b.2 c * -1:=Al fun c hc=>by rw [M7 nd hc]
  rw [ec] at e2
  unfold qz j9
  show (match jz _ ⟨[some (smT a,false),some (smT b,false)],sto⟩ with | some (.ret t,s)=>some (t,s.sto) | some (.next,s)=>some (.non,s.sto) | _=>none)=_
  simp only [jz,dw,ak,dg,bf,mUn,Bo,au,List.getElem?_cons_zero,List.getElem?_cons_succ,e1,e2]
noncomputable def a0v (b:Str):Sm:=(0,[(b,1)])
noncomputable def inn (D:List (Str × Sm)) (b:Str):Sm:=match D with
  | []=>a0v b
  | (k,s)::r=>if k=b then s else inn r b
noncomputable def dS (D:List (Str × Sm)):List (C.Key × T):=D.map fun p=>(.inr p.1,smT p.2)
theorem a4f (b:Str):∀ D:List (Str × Sm),(Av (.inr b) (dS D)).getD (smT (a0v b))=smT (inn D b)
  | []=>rfl
  | (k,s)::r=>by
    show (if (Sum.inr k:C.Key)=.inr b then some (smT s) else Av (.inr b) (dS r)).getD _=_
    unfold inn
    by_cases e:k=b
    · rw [if_pos (by rw [e]),if_pos e]; rfl
    · rw [if_neg (fun z=>e (Sum.inr.inj z)),if_neg e]; exact a4f b r
theorem a97 {D:List (Str × Sm)} (hD:∀ p∈D,Gy U p.2) {b:Str} (hb:b∈U):Gy U (inn D b):=by
  induction D with
  | nil=>exact ⟨by simp [inn,a0v,ks],fun c hc=>by simp [inn,a0v,ks] at hc; rw [hc]; exact hb⟩
  | cons p r ih =>
    obtain ⟨k,s⟩:=p
    unfold inn
    split
    · exact hD _ List.mem_cons_self
    · exact ih fun q hq=>hD q (List.mem_cons_of_mem _ hq)
noncomputable def pN (D:List (Str × Sm)) (l:List Pr):Int:=(l.map fun p=>(inn D p.1).1 * p.2).sum
noncomputable def pF (D:List (Str × Sm)) (l:List Pr) (c:Str):Int:=(l.map fun p=>gt (inn D p.1).2 c * p.2).sum
theorem aaz {D:List (Str × Sm)} {b:Str}:a8m [.dic (dS D),.str b,.tup [.int 0,.tup [.tup [.str b,.int 1]]]]=some (smT (inn D b)):=by
  have:=a4f b D
  simp only [a8m,keyOf,Option.map_some]
  rw [← this]; rfl
theorem a4o:∀ (D:List (Str × Sm)),Bs (D.map fun p=>.tup [.str p.1,smT p.2])=some (dS D)
  | []=>rfl
  | p::r=>by
    have:=a4o r
    simp only [List.map_cons,Bs,keyOf,this]
    rfl
end
end K
end
noncomputable section
set_option linter.all false
set_option maxRecDepth 100000
set_option autoImplicit false
namespace K
open C PySem
noncomputable section
variable {U:List Str} {sto:List SO} {D:List (Str × Sm)}
theorem a6g {p:Pr} {l:List Pr}:pN D (p::l)=(inn D p.1).1 * p.2+pN D l:=by simp [pN]
theorem a6r {p:Pr} {l:List Pr} {c:Str}:pF D (p::l) c=gt (inn D p.1).2 c * p.2+pF D l c:=by simp [pF]
theorem Y0 {f:Str→Int} (nd:U.Nodup) {c:Str} (hc:c∈U):tot (canon U f) c=f c:=by
  rw [Qa (Gg (n:=0) (f:=f) nd).nd,M7 nd hc]
theorem Jl {f:Str→Int}:(canon U f).length≤U.length:=by
  unfold canon
  rw [List.length_map]
  exact List.length_filter_le _ _
noncomputable abbrev a7o:S:=(j8 (nj 6 (ig a8m (ak (bf 1) (ak (bf 4) (ak (ig (fun l=>some (.tup l)) (ak (au (.int 0)) (ak (ig (fun l=>some (.tup l)) (ak (ig (fun l=>some (.tup l)) (ak (bf 4) (ak (au (.int 1)) dg))) dg)) dg))) dg)))))
  (j8 (nj 2 (mOp u5 (bf 2) (mOp O7 (bf 5) (mOp cu (bf 6) (au (.int 0))))))
  (j4 3 (mOp cu (dw Yd (ak (bf 6) (ak (bf 5) dg))) (au (.int 1))))))
noncomputable abbrev qp (s:Sm) (D:List (Str × Sm)) (n:Int) (acc:List Pr) (a b c:Slot) (sto:List SO):Sta:=⟨[some (smT s,false),some (.dic (dS D),false),some (.int n,false),some (.lst (acc.map pT),true),a,b,c],sto⟩
noncomputable def cf (U:List Str) (D:List (Str × Sm)) (p:Pr):List Pr:=canon U fun c=>gt (inn D p.1).2 c * p.2
theorem Ra {s:Sm} (u:Uni U) (hD:∀ p∈D,Gy U p.2):∀ (l acc:List Pr) (n:Int) (o4 o5 o6:Slot),(∀ p∈l,p.1∈U∧Di p.2=true)→acc.length+8 * l.length<1000 →
    ∃ o4' o5' o6':Slot,forL (qj [4,5]) a7o (l.map pT) (qp s D n acc o4 o5 o6 sto)=some (.next,qp s D (n+pN D l) (acc++l.flatMap (cf U D)) o4' o5' o6' sto)
  | [],acc,n,o4,o5,o6,_,_=>⟨o4,o5,o6,by simp [forL,pN]⟩
  | p::l,acc,n,o4,o5,o6,h,hl=>by
    obtain ⟨hU,hb⟩:=h p List.mem_cons_self
    rw [List.length_cons] at hl
    have cl:(cf U D p).length≤8:=Nat.le_trans Jl u.len
    obtain ⟨a,b,c,ih⟩:=Ra (s:=s) u hD l (acc++cf U D p) (n+p.2 * (inn D p.1).1) (some (.str p.1,false)) (some (.int p.2,false)) (some (smT (inn D p.1),false)) (fun q hq=>h q (List.mem_cons_of_mem _ hq)) (by rw [List.length_append]; (clear hb hU h hD u; omega))
    have al:(acc.map pT).length+((cf U D p).map pT).length<lim:=by rw [List.length_map,List.length_map]; show _<1000000; (clear ih hb hU h hD u; omega)
    have i1:cu (smT ((inn D p.1).1 * p.2,cf U D p)) (.int 1)=some (.tup ((cf U D p).map pT)):=xq
    have st:a7o (qp s D n acc (some (.str p.1,false)) (some (.int p.2,false)) o6 sto)=some (.next,qp s D (n+p.2 * (inn D p.1).1) (acc++cf U D p) (some (.str p.1,false)) (some (.int p.2,false)) (some (smT (inn D p.1),false)) sto) :=
      zq (zs (zm rfl (aaz (D:=D) (b:=p.1)))) (zq (zs (zo rfl (zo rfl (zo rfl rfl Az) (mu hb)) rfl)) (zex (zo (zf rfl (by_ u (a97 hD hU) hb)) rfl i1) rfl rfl al rfl (by rw [← List.map_append]; rfl)))
    refine ⟨a,b,c,?_⟩
    refine (Cd (t:=pT p) (Cg (x:=.str p.1) (y:=.int p.2)) st).trans ?_
    rw [ih,a6g,List.flatMap_cons,Int.mul_comm p.2,Int.add_assoc,List.append_assoc]
theorem a4e (nd:U.Nodup) {c:Str} (hc:c∈U):∀ l:List Pr,tot (l.flatMap (cf U D)) c=pF D l c
  | []=>rfl
  | p::l=>by rw [List.flatMap_cons,Rx,a4e nd hc l,a6r]; unfold cf; rw [Y0 nd hc]
theorem put {s:Sm} (u:Uni U) (nd:U.Nodup) (hs:Gy U s) (hD:∀ p∈D,Gy U p.2) (hb:∀ p∈s.2,Di p.2=true) :
    Q6 [smT s,.dic (dS D)] sto=some (smT (s.1+pN D s.2,canon U (pF D s.2)),sto):=by
  have ls:=Vg u hs
  have hl:s.2.length<lim:=by show _<1000000; (clear hb hD hs nd u; omega)
  have cl:∀ l:List Pr,(l.flatMap (cf U D)).length≤8 * l.length:=fun l=>by
    induction l with
    | nil=>exact Nat.le_refl _
    | cons p l ih =>
      have:(cf U D p).length≤8:=Nat.le_trans Jl u.len
      rw [List.flatMap_cons,List.length_append,List.length_cons]; (clear hl ls hb hD hs nd u; omega)
  obtain ⟨a,b,c,L⟩:=Ra (sto:=sto) (s:=s) u hD s.2 [] s.1 none none none (fun p hp=>⟨hs.sub _ (List.mem_map.mpr ⟨p,hp,rfl⟩),hb p hp⟩) (by rw [List.length_nil]; (clear cl hl hb hD hs nd u; omega))
  have e:=Zn (sto:=sto) (n:=s.1+pN D s.2) (l:=s.2.flatMap (cf U D)) u (.inl rfl) (by have:=cl s.2; (clear L cl hl hb hD hs nd u; omega)) (fun x hx=>by
    obtain ⟨q,hq,rfl⟩:=List.mem_map.mp hx
    obtain ⟨p,_,hp⟩:=List.mem_flatMap.mp hq
    exact (Gg (n:=0) nd).sub _ (List.mem_map.mpr ⟨q,hp,rfl⟩))
  rw [Al fun c hc=>a4e (D:=D) nd hc s.2] at e
  have J:m5 (mOp cu (bf 0) (au (.int 1))) (qp s D s.1 [] none none none sto)=some (s.2.map pT,qp s D s.1 [] none none none sto):=by
    unfold m5 mOp; rw [show bf 0 (qp s D s.1 [] none none none sto)=some (smT s,qp s D s.1 [] none none none sto) from rfl]
    show (if (s.2.map pT).length<lim then some (s.2.map pT,_) else none)=_
    rw [List.length_map,if_pos hl]
  exact zrun (n:=7) (zq (zs (zo rfl rfl Az)) (zq (zn rfl) (zq (Ig J L) (zr (zf rfl e))))) rfl
theorem Zc:∀ (l d:List (Str × Sm)),((d++l).map (·.1)).Nodup→(dS l).foldl (fun d p=>Cz p.1 p.2 d) (dS d)=dS (d++l)
  | [],d,_=>by simp [dS]
  | p::l,d,h=>by
    have h1:((d++[p]++l).map (·.1)).Nodup:=by simpa using h
    have ne:∀ x∈d,¬ x.1=p.1:=by
      intro x hx e
      rw [List.map_append,List.nodup_append] at h
      exact h.2.2 x.1 (List.mem_map.mpr ⟨x,hx,rfl⟩) p.1 (by simp) e
    have e:Cz (.inr p.1) (smT p.2) (dS d)=dS (d++[p]):=by
      unfold Cz
      rw [if_neg]
      · simp [dS]
      · simp only [dS,List.any_map,Bool.not_eq_true]
        rw [List.any_eq_false]
        intro x hx
        simp only [Function.comp,decide_eq_true_eq]
        exact fun z=>ne x hx (Sum.inr.inj z)
    show (dS l).foldl _ (Cz (.inr p.1) (smT p.2) (dS d))=_
    rw [e,Zc l (d++[p]) h1,List.append_assoc]; rfl
noncomputable def seT (p:Str × Sm):T:=.tup [.str p.1,smT p.2]
theorem a5v (hl:D.length<1000) (nd:(D.map (·.1)).Nodup):Jj [.tup (D.map seT)]=some (.dic (dS D)):=by
  have h1:(D.map seT).length<lim:=by rw [List.length_map]; show _<1000000; omega
  have e:Bs (D.map seT)=some (dS D):=a4o D
  have f:=Zc D [] (by simpa using nd)
  simp only [Jj,if_pos h1,e,Option.map_some]
  rw [show ([]:List (C.Key × T))=dS [] from rfl,f]; rfl
end
end K
end
noncomputable section
set_option linter.all false
set_option maxRecDepth 100000
set_option maxHeartbeats 1000000
set_option autoImplicit false
namespace K
open C PySem
theorem eqC {a b:Str} {c:Bool} (h:(PyData.canLay0 (.str a)&&PyData.canLay0 (.str b)&&((a==b)==c))=true):eqO (.str a) (.str b)=some (.bl c):=by
  simp only [Bool.and_eq_true,beq_iff_eq] at h
  rw [a4x h.1.1 h.1.2,h.2]
theorem inC {w a b:Str} {c:Bool} (h:(PyData.canLay0 (.str w)&&PyData.canLay0 (.str a)&&PyData.canLay0 (.str b)&&((a==w||b==w)==c))=true):inT (.str w) (.tup [.str a,.str b])=some (.bl c):=by
  simp only [Bool.and_eq_true,beq_iff_eq] at h
  obtain ⟨⟨⟨h1,h2⟩,h3⟩,h4⟩:=h -- here
  simp [inT,inL,eqD,dat,h1,h2,h3,PyData.depth,PyData.eqv,← h4]
theorem Ae:eqO (.str "most") (.str "most")=some (.bl true):=eqC (by decide +kernel)
theorem X7:eqO (.str "most") (.str "at")=some (.bl false):=eqC (by decide +kernel)
theorem Vl:eqO (.str "most") (.str "not")=some (.bl false):=eqC (by decide +kernel)
theorem a7g:inT (.str "most") (.tup [.str "and",.str "or"])=some (.bl false):=inC (by decide +kernel)
theorem Aj:eqO (.str "rest") (.str "most")=some (.bl false):=eqC (by decide +kernel)
theorem Ca:eqO (.str "rest") (.str "rest")=some (.bl true):=eqC (by decide +kernel)
theorem Xf:eqO (.str "rest") (.str "at")=some (.bl false):=eqC (by decide +kernel)
theorem Vo:eqO (.str "rest") (.str "not")=some (.bl false):=eqC (by decide +kernel)
theorem a96:inT (.str "rest") (.tup [.str "and",.str "or"])=some (.bl false):=inC (by decide +kernel)
theorem J1:eqO (.str "at") (.str "most")=some (.bl false):=eqC (by decide +kernel)
theorem Ji:eqO (.str "at") (.str "rest")=some (.bl false):=eqC (by decide +kernel)
theorem Mp:eqO (.str "at") (.str "at")=some (.bl true):=eqC (by decide +kernel)
theorem Gp:eqO (.str "not") (.str "most")=some (.bl false):=eqC (by decide +kernel)
theorem Gs:eqO (.str "not") (.str "rest")=some (.bl false):=eqC (by decide +kernel)
theorem Ir:eqO (.str "not") (.str "at")=some (.bl false):=eqC (by decide +kernel)
theorem Fb:eqO (.str "not") (.str "not")=some (.bl true):=eqC (by decide +kernel)
theorem Dw:eqO (.str "and") (.str "most")=some (.bl false):=eqC (by decide +kernel)
theorem Dv:eqO (.str "and") (.str "rest")=some (.bl false):=eqC (by decide +kernel)
theorem Fj:eqO (.str "and") (.str "at")=some (.bl false):=eqC (by decide +kernel)
theorem Dj:eqO (.str "and") (.str "not")=some (.bl false):=eqC (by decide +kernel)
theorem Xi:eqO (.str "and") (.str "and")=some (.bl true):=eqC (by decide +kernel)
theorem a2y:eqO (.str "and") (.str "or")=some (.bl false):=eqC (by decide +kernel)
theorem a9w:inT (.str "and") (.tup [.str "and",.str "or"])=some (.bl true):=inC (by decide +kernel)
theorem Fz:eqO (.str "or") (.str "most")=some (.bl false):=eqC (by decide +kernel)
theorem G7:eqO (.str "or") (.str "rest")=some (.bl false):=eqC (by decide +kernel)
theorem Js:eqO (.str "or") (.str "at")=some (.bl false):=eqC (by decide +kernel)
theorem Fi:eqO (.str "or") (.str "not")=some (.bl false):=eqC (by decide +kernel)
theorem a1o:eqO (.str "or") (.str "and")=some (.bl false):=eqC (by decide +kernel)
theorem a6x:eqO (.str "or") (.str "or")=some (.bl true):=eqC (by decide +kernel)
theorem ac6:inT (.str "or") (.tup [.str "and",.str "or"])=some (.bl true):=inC (by decide +kernel)
inductive Rem where
  | most (s:Sm) | rest (s:Sm) (m:Int) | pl (h:Str) (p:Int) | all (l:List Rem) | any (l:List Rem) | no (r:Rem)
mutual
noncomputable def jg:Rem→T
  | .most s=>.tup [.str "most",smT s]
  | .rest s m=>.tup [.str "rest",smT s,.int m]
  | .pl h p=>.tup [.str "at",.str h,.int p]
  | .all l=>.tup [.str "and",.tup (T5 l)]
  | .any l=>.tup [.str "or",.tup (T5 l)]
  | .no r=>.tup [.str "not",jg r]
noncomputable def T5:List Rem→List T
  | []=>[]
  | r::l=>jg r::T5 l
end
theorem Ak:∀ l:List Rem,T5 l=l.map jg
  | []=>rfl
  | r::l=>by rw [T5,Ak l]; rfl
inductive OkR (Q:Sm→Prop):Nat→Rem→Prop where
  | most {d:Nat} {s:Sm}:Gy U3 s→Q s→OkR Q d (.most s)
  | rest {d:Nat} {s:Sm} {m:Int}:Gy U3 s→Q s→2≤m→m≤12→OkR Q d (.rest s m)
  | pl {d:Nat} {h:Str} {p:Int}:okS h→h.length<100→OkR Q d (.pl h p)
  | all {d:Nat} {l:List Rem}:l.length≤6→(∀ r∈l,OkR Q d r)→OkR Q (d+1) (.all l)
  | any {d:Nat} {l:List Rem}:l.length≤6→(∀ r∈l,OkR Q d r)→OkR Q (d+1) (.any l)
  | no {d:Nat} {r:Rem}:OkR Q d r→OkR Q (d+1) (.no r)
noncomputable def eqF (b:Str) (n:Int):T:=.tup [.str "and",.tup [.tup [.str "most",.tup [.int (-n),.tup [.tup [.str b,.int 1]]]],.tup [.str "most",.tup [.int n,.tup [.tup [.str b,.int (-1)]]]]]]
noncomputable def neF (b:Str) (n:Int):T:=.tup [.str "or",.tup [.tup [.str "most",.tup [.int (1 - n),.tup [.tup [.str b,.int 1]]]],.tup [.str "most",.tup [.int (n+1),.tup [.tup [.str b,.int (-1)]]]]]]
noncomputable def ls (a b:Sm):Sm:=(a.1+b.1 * -1,canon U3 fun c=>gt a.2 c+gt b.2 c * -1)
noncomputable def rests (s:Sm) (m:Int):List T:=(List.range (m - 1).toNat).map fun (k:Nat)=>.tup [.str "rest",smT (ls s (1+(k:Int),[])),.int m]
mutual
noncomputable def pfT:Rem→T
  | .most s=>.tup [.str "most",smT s]
  | .rest s m=>.tup [.str "rest",smT s,.int m]
  | .pl h p=>eqF ("@" ++ h) p
  | .all l=>.tup [.str "and",.tup (pfs l)]
  | .any l=>.tup [.str "or",.tup (pfs l)]
  | .no r=>agT r
noncomputable def agT:Rem→T
  | .most s=>.tup [.str "most",smT (ls (1,[]) s)]
  | .rest s m=>.tup [.str "or",.tup (rests s m)]
  | .pl h p=>neF ("@" ++ h) p
  | .all l=>.tup [.str "or",.tup (ags l)]
  | .any l=>.tup [.str "and",.tup (ags l)]
  | .no r=>pfT r
noncomputable def pfs:List Rem→List T
  | []=>[]
  | r::l=>pfT r::pfs l
noncomputable def ags:List Rem→List T
  | []=>[]
  | r::l=>agT r::ags l
end
theorem Iv:∀ l:List Rem,pfs l=l.map pfT
  | []=>by rw [pfs]; rfl
  | r::l=>by rw [pfs,Iv l]; rfl
theorem Ja:∀ l:List Rem,ags l=l.map agT
  | []=>by rw [ags]; rfl
  | r::l=>by rw [ags,Ja l]; rfl
noncomputable section
variable {sto:List SO}
theorem a72 {n:Int}:Gy U3 (n,[]):=⟨by simp [ks],fun b hb=>by simp [ks] at hb⟩
theorem Nv {h:Str} (hl:h.length<100):jy [.str h] sto=some (.str ("@" ++ h),sto):=by
  have l1:("@" : Str).length=1:=by decide +kernel
  have:("@" : Str).length+h.length<lim:=by show _<1000000; omega
  simp [j9,j8,sIf,nj,sNew,jz,tu,sNx,jh,sGo,jd,uo,j6,j4,p7,iu,yw,Bu,mOr,qb,mIf,mOp,mUn,bf,ig,ak,dg,au,ux,dw,gb,hName,qj,ji,m5,ltT,leT,yg,u5,Bg,uy,ju,Bo,Ea,uh,jm,gq,Aq,jy,this]
theorem Lp {b:Str} {n:Int}:kh [.str b,.int n] sto=some (eqF b n,sto):=(zrun (n:=2) (zr (zm (zc rfl (zc (zm (zc (zm (zc rfl (zc (zm (zc (zun rfl rfl) rfl) rfl) rfl)) rfl) (zc (zm (zc rfl (zc (zm (zc rfl (zc (zm (zc (zm (zc rfl (zc (zun rfl rfl) rfl)) rfl) rfl) rfl) rfl)) rfl) rfl)) rfl) rfl)) rfl) rfl)) rfl)) rfl)
theorem a4j {b:Str} {n:Int}:qt [.str b,.int n] sto=some (neF b n,sto):=(zrun (n:=2) (zr (zm (zc rfl (zc (zm (zc (zm (zc rfl (zc (zm (zc (zo rfl rfl rfl) rfl) rfl) rfl)) rfl) (zc (zm (zc rfl (zc (zm (zc (zo rfl rfl rfl) (zc (zm (zc (zm (zc rfl (zc (zun rfl rfl) rfl)) rfl) rfl) rfl) rfl)) rfl) rfl)) rfl) rfl)) rfl) rfl)) rfl)) rfl)
theorem ab5 {a b:Sm} (ha:Gy U3 a) (hb:Gy U3 b):qz [smT a,smT b] sto=some (smT (ls a b),sto):=minus abm nd3 ha hb
end
end K
end
noncomputable section
set_option linter.all false
set_option maxRecDepth 100000
set_option maxHeartbeats 1000000
set_option autoImplicit false
namespace K
open C PySem
noncomputable section
variable {sto:List SO}
theorem sm0 (n:Int):smT (n,[])=.tup [.int n,.tup []]:=rfl
theorem a8k {s:Sm} (hs:Gy U3 s) (k:Int):qz [smT s,.tup [.int k,.tup []]] sto=some (smT (ls s (k,[])),sto):=by
  have e:=ab5 (sto:=sto) hs (a72 (n:=k))
  generalize qz=F at *
  exact e
theorem ab4 {s:Sm} (hs:Gy U3 s):qz [.tup [.int 1,.tup []],smT s] sto=some (smT (ls (1,[]) s),sto):=by
  have e:=ab5 (sto:=sto) (a72 (n:=1)) hs
  generalize qz=F at *
  exact e
theorem a8l {m:Int} (h:2≤m) (h2:m≤12) {s s1:Sta} {e:M T} (he:e s=some (.int m,s1)):Dg (au (.int 1)) e s=some ((List.range (m - 1).toNat).map fun (k:Nat)=>.int (1+(k:Int)),s1):=by
  have h3:(1:Int).natAbs<lim∧m.natAbs<lim:=by
    refine ⟨by decide,?_⟩
    show _<1000000
    omega
  simp only [Dg,au,he,if_pos h3,Eu]
theorem a04 {f:Fn} {s:Sm} {m:Int} (hf:∀ k:Int,f [smT s,.tup [.int k,.tup []]] sto=some (smT (ls s (k,[])),sto)) (h:2≤m) (h2:m≤12) {o:Slot} :
    mj 1 [0] (hName 0) (Dg (au (.int 1)) (mOp cu (bf 0) (au (.int 2)))) jm (ig (fun l=>some (.tup l)) (ak (au (.str "rest")) (ak (dw f (ak (mOp cu (bf 1) (au (.int 1))) (ak (ig (fun l=>some (.tup l)) (ak (bf 0) (ak (ig (fun l=>some (.tup l)) dg) dg))) dg))) (ak (mOp cu (bf 1) (au (.int 2))) dg)))) ⟨[some (.tup [.str "rest",smT s,.int m],false),o],sto⟩
      = some (.lst (rests s m),⟨[some (.tup [.str "rest",smT s,.int m],false),o],sto⟩):=by
  unfold rests
  refine mz (fun (k:Nat)=>.int (1+(k:Int))) (fun (k:Nat)=>.tup [.str "rest",smT (ls s (1+(k:Int),[])),.int m]) (List.range (m - 1).toNat) (s1:=⟨[some (.tup [.str "rest",smT s,.int m],false),o],sto⟩) _ [some (.tup [.str "rest",smT s,.int m],false)] (a8l h h2 (by simp [j9,j8,sIf,nj,sNew,jz,tu,sNx,jh,sGo,jd,uo,j6,j4,p7,iu,yw,Bu,mOr,qb,mIf,mOp,mUn,bf,ig,ak,dg,au,ux,dw,gb,hName,qj,ji,m5,ltT,leT,yg,u5,Bg,uy,ju,Bo,Ea,uh,jm,gq,Aq,Qn])) rfl rfl rfl (by rw [List.length_range]; show _≤1000000; (clear h hf; omega)) ?_
  intro k _ pre hpre
  match pre,hpre with
  | [a],_ =>
    refine ⟨[some (.int (1+(k:Int)),false)],rfl,rfl,rfl,?_⟩
    have e:=hf (1+(k:Int))
    simp [j9,j8,sIf,nj,sNew,jz,tu,sNx,jh,sGo,jd,uo,j6,j4,p7,iu,yw,Bu,mOr,qb,mIf,mOp,mUn,bf,ig,ak,dg,au,ux,dw,gb,hName,qj,ji,m5,ltT,leT,yg,u5,Bg,uy,ju,Bo,Ea,uh,jm,gq,Aq,xq,Qn,e]
theorem Im {F:Fn} {w:Str} {l:List Rem} {g:Rem→T} {o:Slot} (hl:l.length≤6) (h:∀ r∈l,F [jg r] sto=some (g r,sto)) :
    mj 1 [] (hName 0) (m5 (mOp cu (bf 0) (au (.int 1)))) jm (dw F (ak (bf 0) dg)) ⟨[some (.tup [.str w,.tup (l.map jg)],false),o],sto⟩
      = some (.lst (l.map g),⟨[some (.tup [.str w,.tup (l.map jg)],false),o],sto⟩):=by
  have lm:l.length<lim:=by show _<1000000; omega
  refine mz jg _ l (s1:=⟨[some (.tup [.str w,.tup (l.map jg)],false),o],sto⟩) _ [] (a75 (zo rfl rfl xq) lm) rfl rfl rfl (Nat.le_of_lt lm) ?_
  intro r hr pre hpre
  match pre,hpre with
  | [a],_ =>
    refine ⟨[some (jg r,false)],rfl,rfl,rfl,?_⟩
    exact zf0 rfl (h r hr)
theorem forms {Q:Sm→Prop} {d:Nat} {r:Rem} (h:OkR Q d r):∀ k,d<k→gk k [jg r] sto=some (pfT r,sto)∧fj k [jg r] sto=some (agT r,sto):=by
  induction h with
  | @most d s h _ =>
    intro k hk
    obtain ⟨k,rfl⟩:∃ j,k=j+1:=⟨k - 1,by omega⟩
    have e:=ab4 (sto:=sto) h
    constructor
    · unfold gk jg pfT
      exact (zrun (n:=2) (zq (zs (zo rfl rfl rfl)) (zq (ze (zt (zo rfl rfl X7)) rfl) (zq (ze (zt (zo rfl rfl Vl)) rfl) (zq (ze (zt (zo rfl rfl a7g)) rfl) (zr rfl))))) rfl)
    · unfold fj jg agT
      exact (zrun (n:=2) (zq (zs (zo rfl rfl rfl)) (zqr (zk (zt (zo rfl rfl Ae)) (zr (zm (zc rfl (zc (zf (zc rfl (zc (zo rfl rfl rfl) rfl)) e) rfl)) rfl))))) rfl)
  | @rest d s m h _ a b =>
    intro k hk
    obtain ⟨k,rfl⟩:∃ j,k=j+1:=⟨k - 1,by (clear b a h; omega)⟩
    constructor
    · unfold gk jg pfT
      exact (zrun (n:=2) (zq (zs (zo rfl rfl rfl)) (zq (ze (zt (zo rfl rfl Xf)) rfl) (zq (ze (zt (zo rfl rfl Vo)) rfl) (zq (ze (zt (zo rfl rfl a96)) rfl) (zr rfl))))) rfl)
    · have c1:=a04 (sto:=sto) (f:=qz) (o:=some (.str "rest",false)) (a8k h) a b
      have c2:=c1
      unfold fj jg agT
      exact (zrun (n:=2) (zq (zs (zo rfl rfl rfl)) (zq (ze (zt (zo rfl rfl Aj)) rfl) (zqr (zk (zt (zo rfl rfl Ca)) (zr (zm (zc rfl (zc (zm (zc c1 rfl) rfl) rfl)) rfl)))))) rfl)
  | @pl d h p ho hl =>
    intro k hk
    obtain ⟨k,rfl⟩:∃ j,k=j+1:=⟨k - 1,by (clear hl ho; omega)⟩
    have l1:("@" : Str).length=1:=by decide +kernel
    have bl:("@" : Str).length+h.length<lim:=by show _<1000000; (clear hk ho; omega)
    have pb:=Nv (sto:=sto) hl
    constructor
    · unfold gk jg pfT
      exact (zrun (n:=2) (zq (zs (zo rfl rfl rfl)) (zqr (zk (zt (zo rfl rfl Mp)) (zr (zf (zc (zf (zc (zo rfl rfl rfl) rfl) pb) (zc (zo rfl rfl rfl) rfl)) rfl))))) rfl)
    · unfold fj jg agT
      exact (zrun (n:=2) (zq (zs (zo rfl rfl rfl)) (zq (ze (zt (zo rfl rfl J1)) rfl) (zq (ze (zt (zo rfl rfl Ji)) rfl) (zqr (zk (zt (zo rfl rfl Mp)) (zr (zf (zc (zf (zc (zo rfl rfl rfl) rfl) pb) (zc (zo rfl rfl rfl) rfl)) rfl))))))) rfl)
  | @all d l hl _ ih =>
    intro k hk
    obtain ⟨k,rfl⟩:∃ j,k=j+1:=⟨k - 1,by (clear ih hl; omega)⟩
    have c1:=Im (sto:=sto) (F:=gk k) (w := "and") (g:=pfT) (o:=some (.str "and",false)) hl fun r hr=>(ih r hr k (by (clear hr ih hl; omega))).1
    have c2:=Im (sto:=sto) (F:=fj k) (w := "and") (g:=agT) (o:=some (.str "and",false)) hl fun r hr=>(ih r hr k (by (clear hr c1 ih hl; omega))).2
    constructor
    · unfold gk jg pfT
      rw [Ak,Iv]
      exact (zrun (n:=2) (zq (zs (zo rfl rfl rfl)) (zq (ze (zt (zo rfl rfl Fj)) rfl) (zq (ze (zt (zo rfl rfl Dj)) rfl) (zqr (zk (zt (zo rfl rfl a9w)) (zr (zm (zc rfl (zc (zm (zc c1 rfl) rfl) rfl)) rfl))))))) rfl)
    · unfold fj jg agT
      rw [Ak,Ja]
      exact (zrun (n:=2) (zq (zs (zo rfl rfl rfl)) (zq (ze (zt (zo rfl rfl Dw)) rfl) (zq (ze (zt (zo rfl rfl Dv)) rfl) (zq (ze (zt (zo rfl rfl Fj)) rfl) (zq (ze (zt (zo rfl rfl Dj)) rfl) (zr (zm (zc (zun rfl rfl) (zc (zm (zc c2 rfl) rfl) rfl)) rfl))))))) rfl)
  | @any d l hl _ ih =>
    intro k hk
    obtain ⟨k,rfl⟩:∃ j,k=j+1:=⟨k - 1,by (clear ih hl; omega)⟩
    have c1:=Im (sto:=sto) (F:=gk k) (w := "or") (g:=pfT) (o:=some (.str "or",false)) hl fun r hr=>(ih r hr k (by (clear hr ih hl; omega))).1
    have c2:=Im (sto:=sto) (F:=fj k) (w := "or") (g:=agT) (o:=some (.str "or",false)) hl fun r hr=>(ih r hr k (by (clear hr c1 ih hl; omega))).2
    constructor
    · unfold gk jg pfT
      rw [Ak,Iv]
      exact (zrun (n:=2) (zq (zs (zo rfl rfl rfl)) (zq (ze (zt (zo rfl rfl Js)) rfl) (zq (ze (zt (zo rfl rfl Fi)) rfl) (zqr (zk (zt (zo rfl rfl ac6)) (zr (zm (zc rfl (zc (zm (zc c1 rfl) rfl) rfl)) rfl))))))) rfl)
    · unfold fj jg agT
      rw [Ak,Ja]
      exact (zrun (n:=2) (zq (zs (zo rfl rfl rfl)) (zq (ze (zt (zo rfl rfl Fz)) rfl) (zq (ze (zt (zo rfl rfl G7)) rfl) (zq (ze (zt (zo rfl rfl Js)) rfl) (zq (ze (zt (zo rfl rfl Fi)) rfl) (zr (zm (zc (zun rfl rfl) (zc (zm (zc c2 rfl) rfl) rfl)) rfl))))))) rfl)
  | @no d r _ ih =>
    intro k hk
    obtain ⟨k,rfl⟩:∃ j,k=j+1:=⟨k - 1,by omega⟩
    obtain ⟨i1,i2⟩:=ih k (by omega)
    constructor
    · unfold gk jg pfT
      exact (zrun (n:=2) (zq (zs (zo rfl rfl rfl)) (zq (ze (zt (zo rfl rfl Ir)) rfl) (zqr (zk (zt (zo rfl rfl Fb)) (zr (zf (zc (zo rfl rfl rfl) rfl) i2)))))) rfl)
    · unfold fj jg agT
      exact (zrun (n:=2) (zq (zs (zo rfl rfl rfl)) (zq (ze (zt (zo rfl rfl Gp)) rfl) (zq (ze (zt (zo rfl rfl Gs)) rfl) (zq (ze (zt (zo rfl rfl Ir)) rfl) (zqr (zk (zt (zo rfl rfl Fb)) (zr (zf (zc (zo rfl rfl rfl) rfl) i1)))))))) rfl)
end
end K
end
noncomputable section
set_option linter.all false
set_option maxRecDepth 100000
set_option maxHeartbeats 1000000
set_option autoImplicit false
namespace K
open C PySem
noncomputable def Bd (s:Sm):Prop:=∀ p∈s.2,Di p.2=true
noncomputable def pu (D:List (Str × Sm)) (s:Sm):Sm:=(s.1+pN D s.2,canon U3 (pF D s.2))
theorem a8x {D:List (Str × Sm)} {s:Sm}:Gy U3 (pu D s):=Gg nd3
mutual
noncomputable def bh (D:List (Str × Sm)) (h:Str) (to:Int):Rem→Rem
  | .most s=>.most (pu D s)
  | .rest s m=>.rest (pu D s) m
  | .pl k p=>if k=h then (if p=to then .all [] else .any []) else .pl k p
  | .all l=>.all (bhs D h to l)
  | .any l=>.any (bhs D h to l)
  | .no r=>.no (bh D h to r)
noncomputable def bhs (D:List (Str × Sm)) (h:Str) (to:Int):List Rem→List Rem
  | []=>[]
  | r::l=>bh D h to r::bhs D h to l
end
theorem Ce {D:List (Str × Sm)} {h:Str} {to:Int}:∀ l:List Rem,bhs D h to l=l.map (bh D h to)
  | []=>by rw [bhs]; rfl
  | r::l=>by rw [bhs,Ce l]; rfl
noncomputable def Tr (_:Sm):Prop:=True
theorem aa1 {D:List (Str × Sm)} {h:Str} {to:Int} {d:Nat} {r:Rem} (o:OkR Bd d r):OkR Tr (d+1) (bh D h to r):=by
  induction o with
  | most a b=>unfold bh; exact .most a8x trivial
  | rest a b c e=>unfold bh; exact .rest a8x trivial c e
  | pl a b =>
    unfold bh
    split
    · split
      · exact .all (by simp) (fun r hr=>by cases hr)
      · exact .any (by simp) (fun r hr=>by cases hr)
    · exact .pl a b
  | all a _ ih =>
    unfold bh
    rw [Ce]
    refine .all (by rw [List.length_map]; exact a) fun r hr=>?_
    obtain ⟨x,hx,rfl⟩:=List.mem_map.mp hr
    exact ih x hx
  | any a _ ih =>
    unfold bh
    rw [Ce]
    refine .any (by rw [List.length_map]; exact a) fun r hr=>?_
    obtain ⟨x,hx,rfl⟩:=List.mem_map.mp hr
    exact ih x hx
  | no _ ih=>unfold bh; exact .no ih
theorem a3p {l:List Rem}:jg (.all l)=.tup [.str "and",.tup (l.map jg)]:=by unfold jg; rw [Ak]
theorem a5l {l:List Rem}:jg (.any l)=.tup [.str "or",.tup (l.map jg)]:=by unfold jg; rw [Ak]
theorem ac2 {D:List (Str × Sm)} {h:Str} {to:Int} {l:List Rem}:jg (bh D h to (.all l))=.tup [.str "and",.tup ((l.map (bh D h to)).map jg)]:=by
  have:bh D h to (.all l)=.all (l.map (bh D h to)):=by unfold bh; rw [Ce]
  rw [this,a3p]
theorem ach {D:List (Str × Sm)} {h:Str} {to:Int} {l:List Rem}:jg (bh D h to (.any l))=.tup [.str "or",.tup ((l.map (bh D h to)).map jg)]:=by
  have:bh D h to (.any l)=.any (l.map (bh D h to)):=by unfold bh; rw [Ce]
  rw [this,a5l]
noncomputable section
variable {sto:List SO} {D:List (Str × Sm)} {h:Str} {to:Int}
theorem Rq {k:Str} {p:Int} (ok:okS k) (oh:okS h):u9 [.tup [.str "at",.str k,.int p],.str h,.int to] sto=some (jg (bh D h to (.pl k p)),sto):=by
  have e:=Yu ok oh
  unfold bh
  by_cases c:k=h
  · have c':(k==h)=true:=by rw [c]; exact beq_self_eq_true _
    rw [if_pos c]
    rw [c'] at e
    by_cases q:p=to
    · have q':(p==to)=true:=by rw [q]; exact beq_self_eq_true _
      rw [if_pos q]
      exact (zrun (n:=3) (zq (ze (zt (zo (zo rfl rfl rfl) rfl e)) rfl) (zr (zmt (zt (zo (zo rfl rfl rfl) rfl (eq_i q'))) rfl))) rfl)
    · have q':(p==to)=false:=beq_eq_false_iff_ne.mpr q
      rw [if_neg q]
      exact (zrun (n:=3) (zq (ze (zt (zo (zo rfl rfl rfl) rfl e)) rfl) (zr (zmf (zt (zo (zo rfl rfl rfl) rfl (eq_i q'))) rfl))) rfl)
  · have c':(k==h)=false:=beq_eq_false_iff_ne.mpr c
    rw [if_neg c]
    rw [c'] at e
    exact (zrun (n:=3) (zqr (zk (zt (zo (zo rfl rfl rfl) rfl e)) (zr rfl))) rfl)
theorem Lr {k:Nat} {w:Str} {l:List Rem} (hl:l.length≤6) (ih:∀ r∈l,j7 k [jg r,.str h,.dic (dS D),.int to] sto=some (jg (bh D h to r),sto)) :
    mj 1 [1,2,3] (hName 0) (m5 (mOp cu (bf 0) (au (.int 1)))) jm (dw (j7 k) (ak (bf 0) (ak (bf 1) (ak (bf 2) (ak (bf 3) dg))))) ⟨[some (.tup [.str w,.tup (l.map jg)],false),some (.str h,false),some (.dic (dS D),false),some (.int to,false),some (.str w,false)],sto⟩
      = some (.lst ((l.map (bh D h to)).map jg),⟨[some (.tup [.str w,.tup (l.map jg)],false),some (.str h,false),some (.dic (dS D),false),some (.int to,false),some (.str w,false)],sto⟩):=by
  have lm:l.length<lim:=by show _<1000000; omega
  rw [List.map_map]
  refine mz jg _ l (s1:=⟨[some (.tup [.str w,.tup (l.map jg)],false),some (.str h,false),some (.dic (dS D),false),some (.int to,false),some (.str w,false)],sto⟩) _ [some (.str h,false),some (.dic (dS D),false),some (.int to,false)] (by simp [j9,j8,sIf,nj,sNew,jz,tu,sNx,jh,sGo,jd,uo,j6,j4,p7,iu,yw,Bu,mOr,qb,mIf,mOp,mUn,bf,ig,ak,dg,au,ux,dw,gb,hName,qj,ji,m5,ltT,leT,yg,u5,Bg,uy,ju,Bo,Ea,uh,jm,gq,Aq,xq,lm]) rfl rfl rfl (Nat.le_of_lt lm) ?_
  intro r hr pre hpre
  match pre,hpre with
  | [a],_ =>
    refine ⟨[some (jg r,false)],rfl,rfl,rfl,?_⟩
    exact zf0 rfl (ih r hr)
theorem Ry (oh:okS h) (hD:∀ p∈D,Gy U3 p.2) {d:Nat} {r:Rem} (o:OkR Bd d r):∀ k,d<k→j7 k [jg r,.str h,.dic (dS D),.int to] sto=some (jg (bh D h to r),sto):=by
  induction o with
  | @most d s a b =>
    intro k hk
    obtain ⟨k,rfl⟩:∃ j,k=j+1:=⟨k - 1,by (clear b a hD oh; omega)⟩
    have e:=put (sto:=sto) abm nd3 a hD b
    unfold j7 jg bh
    exact (zrun (n:=5) (zq (zs (zo rfl rfl rfl)) (zqr (zk (zt (zo rfl rfl Ae)) (zr (zm (zc rfl (zc (zf (zc (zo rfl rfl rfl) rfl) e) rfl)) rfl))))) rfl)
  | @rest d s m a b c f =>
    intro k hk
    obtain ⟨k,rfl⟩:∃ j,k=j+1:=⟨k - 1,by (clear f c b a hD oh; omega)⟩
    have e:=put (sto:=sto) abm nd3 a hD b
    unfold j7 jg bh
    exact (zrun (n:=5) (zq (zs (zo rfl rfl rfl)) (zq (ze (zt (zo rfl rfl Aj)) rfl) (zqr (zk (zt (zo rfl rfl Ca)) (zr (zm (zc rfl (zc (zf (zc (zo rfl rfl rfl) rfl) e) (zc (zo rfl rfl rfl) rfl))) rfl)))))) rfl)
  | @pl d k p a b =>
    intro n hk
    obtain ⟨n,rfl⟩:∃ j,n=j+1:=⟨n - 1,by (clear b a hD oh; omega)⟩
    have e:=Rq (sto:=sto) (D:=D) (h:=h) (to:=to) (p:=p) a oh
    generalize jg (bh D h to (.pl k p))=z at *
    unfold j7 jg
    exact (zrun (n:=5) (zq (zs (zo rfl rfl rfl)) (zq (ze (zt (zo rfl rfl J1)) rfl) (zq (ze (zt (zo rfl rfl Ji)) rfl) (zqr (zk (zt (zo rfl rfl Mp)) (zr (zf rfl e))))))) rfl)
  | @all d l hl _ ih =>
    intro k hk
    obtain ⟨k,rfl⟩:∃ j,k=j+1:=⟨k - 1,by (clear ih hl hD oh; omega)⟩
    have e:=Lr (sto:=sto) (w := "and") hl fun r hr=>ih r hr k (by (clear hr ih hl hD oh; omega))
    rw [a3p,ac2]
    unfold j7
    exact (zrun (n:=5) (zq (zs (zo rfl rfl rfl)) (zq (ze (zt (zo rfl rfl Dw)) rfl) (zq (ze (zt (zo rfl rfl Dv)) rfl) (zq (ze (zt (zo rfl rfl Fj)) rfl) (zq (ze (zt (zo rfl rfl Dj)) rfl) (zr (zm (zc rfl (zc (zm (zc e rfl) rfl) rfl)) rfl))))))) rfl)
  | @any d l hl _ ih =>
    intro k hk
    obtain ⟨k,rfl⟩:∃ j,k=j+1:=⟨k - 1,by (clear ih hl hD oh; omega)⟩
    have e:=Lr (sto:=sto) (w := "or") hl fun r hr=>ih r hr k (by (clear hr ih hl hD oh; omega))
    rw [a5l,ach]
    unfold j7
    exact (zrun (n:=5) (zq (zs (zo rfl rfl rfl)) (zq (ze (zt (zo rfl rfl Fz)) rfl) (zq (ze (zt (zo rfl rfl G7)) rfl) (zq (ze (zt (zo rfl rfl Js)) rfl) (zq (ze (zt (zo rfl rfl Fi)) rfl) (zr (zm (zc rfl (zc (zm (zc e rfl) rfl) rfl)) rfl))))))) rfl)
  | @no d r _ ih =>
    intro k hk
    obtain ⟨k,rfl⟩:∃ j,k=j+1:=⟨k - 1,by (clear ih hD oh; omega)⟩
    have e:=ih k (by (clear ih hD oh; omega))
    unfold j7 jg bh
    exact (zrun (n:=5) (zq (zs (zo rfl rfl rfl)) (zq (ze (zt (zo rfl rfl Gp)) rfl) (zq (ze (zt (zo rfl rfl Gs)) rfl) (zq (ze (zt (zo rfl rfl Ir)) rfl) (zqr (zk (zt (zo rfl rfl Fb)) (zr (zm (zc rfl (zc (zf (zc (zo rfl rfl rfl) rfl) e) rfl)) rfl)))))))) rfl)
end
end K
end
noncomputable section
set_option linter.all false
set_option maxRecDepth 100000
set_option maxHeartbeats 1000000
set_option autoImplicit false
namespace K
open C PySem
noncomputable section
variable {sto:List SO} {D:List (Str × Sm)} {h:Str} {to here:Int} {g:T}
theorem a4m {a b c d e:T} {r:List T}:cu (.tup (a::b::c::d::e::r)) (.int 4)=some e:=K1 (k:=4) rfl
noncomputable def stT (h:Str) (here:Int) (g:T) (D:List (Str × Sm)) (to:Int):T:=.tup [.str h,.int here,g,.tup (D.map seT),.int to]
theorem st0:cu (stT h here g D to) (.int 0)=some (.str h):=Az
theorem st1:cu (stT h here g D to) (.int 1)=some (.int here):=xq
theorem st2:cu (stT h here g D to) (.int 2)=some g:=Qn
theorem st3:cu (stT h here g D to) (.int 3)=some (.tup (D.map seT)):=Yh
theorem st4:cu (stT h here g D to) (.int 4)=some (.int to):=a4m
theorem behind (oh:okS h) (hl':D.length<1000) (hn:(D.map (·.1)).Nodup) (hD:∀ p∈D,Gy U3 p.2) {d:Nat} {r:Rem} (o:OkR Bd d r) (hd:d<40):yq [jg r,.str h,.tup (D.map seT),.int to] sto=some (jg (bh D h to r),sto):=by
  have e:=Ry (sto:=sto) (to:=to) oh hD o 40 hd
  have di:=a5v hl' hn
  simp [j9,j8,sIf,nj,sNew,jz,tu,sNx,jh,sGo,jd,uo,j6,j4,p7,iu,yw,Bu,mOr,qb,mIf,mOp,mUn,bf,ig,ak,dg,au,ux,dw,gb,hName,qj,ji,m5,ltT,leT,yg,u5,Bg,uy,ju,Bo,Ea,uh,jm,gq,Aq,yq,di,e]
end
end K
end
noncomputable section
set_option linter.all false
set_option maxRecDepth 100000
set_option maxHeartbeats 1000000
set_option autoImplicit false
namespace K
open C PySem
structure Bx where
  nm:Str
  ow:Str
  lo:Int
  hi:Int
  st:Int
noncomputable def bxT (b:Bx):T:=.tup [.str b.nm,.str b.ow,.int b.lo,.int b.hi,.int b.st]
noncomputable def wiT (lo hi:Int) (s:Sm):T:=.tup [.str "and",.tup [.tup [.str "most",smT (ls (lo,[]) s)],.tup [.str "most",smT (ls s (hi,[]))]]]
noncomputable def bAt:List Bx→Str→Int × Int
  | [],_=>(0,0)
  | b::r,x=>if b.nm=x then (b.lo,b.hi) else bAt r x
noncomputable def a93 (p:Int × Int):T:=.tup [.tup [.int p.1,.tup []],.tup [.int p.2,.tup []]]
noncomputable def dE (bs:List Bx):List (C.Key × T):=bs.map fun b=>(.inr b.nm,a93 (b.lo,b.hi))
noncomputable section
variable {sto:List SO} {D:List (Str × Sm)} {bs:List Bx}
theorem Rj {s:Sm} {lo hi:Int} (hs:Gy U3 s):ql [smT s,.tup [.int lo,.tup []],.tup [.int hi,.tup []]] sto=some (wiT lo hi s,sto):=by
  have e1:=ab5 (sto:=sto) (a72 (n:=lo)) hs
  rw [sm0] at e1
  have e2:=a8k (sto:=sto) hs hi
  generalize hm:qz=F at *
  unfold ql
  rw [hm]
  simp [j9,j8,sIf,nj,sNew,jz,tu,sNx,jh,sGo,jd,uo,j6,j4,p7,iu,yw,Bu,mOr,qb,mIf,mOp,mUn,bf,ig,ak,dg,au,ux,dw,gb,hName,qj,ji,m5,ltT,leT,yg,u5,Bg,uy,ju,Bo,Ea,uh,jm,gq,Aq,e1,e2,wiT]
theorem a3m {x:Str}:∀ {bs:List Bx},x∈bs.map (·.nm)→Av (.inr x) (dE bs)=some (a93 (bAt bs x))
  | [],h=>by simp at h
  | b::r,h=>by
    show (if (Sum.inr b.nm:C.Key)=.inr x then some _ else Av (.inr x) (dE r))=_
    unfold bAt
    by_cases e:b.nm=x
    · rw [if_pos (by rw [e]),if_pos e]
    · rw [if_neg (fun z=>e (Sum.inr.inj z)),if_neg e]
      refine a3m ?_
      rw [List.map_cons] at h
      rcases List.mem_cons.mp h with z | z
      · exact absurd z.symm e
      · exact z
theorem a7c {d:List Bx} {b:Bx} (h:∀ x∈d,¬ x.nm=b.nm):Cz (.inr b.nm) (a93 (b.lo,b.hi)) (dE d)=dE (d++[b]):=by
  unfold Cz
  rw [if_neg]
  · simp [dE]
  · simp only [dE,List.any_map,Bool.not_eq_true]
    rw [List.any_eq_false]
    intro x hx
    simp only [Function.comp,decide_eq_true_eq]
    exact fun z=>h x hx (Sum.inr.inj z)
theorem a4v {i j k l m:Nat} {a b c d e:T} {s:Sta}:qj [i,j,k,l,m] (.tup [a,b,c,d,e]) s=some (gb m e false (gb l d false (gb k c false (gb j b false (gb i a false s))))):=by simp [qj]
noncomputable abbrev sfB:S:=(qu 2 (bf 3) (ig (fun l=>some (.tup l)) (ak (ig (fun l=>some (.tup l)) (ak (bf 5) (ak (ig (fun l=>some (.tup l)) dg) dg))) (ak (ig (fun l=>some (.tup l)) (ak (bf 6) (ak (ig (fun l=>some (.tup l)) dg) dg))) dg))))
noncomputable abbrev W5s:=Slot × Slot × Slot × Slot × Slot
noncomputable abbrev qs (A Z:T) (d:List Bx) (w:W5s) (sto:List SO):Sta:=⟨[some (A,false),some (Z,false),some (.dic (dE d),true),w.1,w.2.1,w.2.2.1,w.2.2.2.1,w.2.2.2.2],sto⟩
theorem Zt {A Z:T}:∀ (l d:List Bx) (w:W5s),((d++l).map (·.nm)).Nodup→d.length+l.length≤3→∃ w':W5s,forL (qj [3,4,5,6,7]) sfB (l.map bxT) (qs A Z d w sto)=some (.next,qs A Z (d++l) w' sto)
  | [],d,w,_,_=>⟨w,by simp [forL]⟩
  | b::l,d,w,nd,hl=>by
    rw [List.length_cons] at hl
    have hne:∀ x∈d,¬ x.nm=b.nm:=by
      intro x hx z
      rw [List.map_append,List.nodup_append] at nd
      exact nd.2.2 x.nm (List.mem_map.mpr ⟨x,hx,rfl⟩) b.nm (by simp) z
    have hp:=a7c hne
    have hlt:(dE d).length<lim:=by unfold dE; rw [List.length_map]; show _<1000000; (clear hp hne nd; omega)
    obtain ⟨w',ih⟩:=Zt (A:=A) (Z:=Z) l (d++[b]) (some (.str b.nm,false),some (.str b.ow,false),some (.int b.lo,false),some (.int b.hi,false),some (.int b.st,false)) (by rw [List.append_assoc]; exact nd) (by rw [List.length_append,List.length_singleton]; (clear hlt hp hne nd; omega))
    rw [List.append_assoc] at ih
    exact ⟨w',(Cd (t:=bxT b) (s1:=qs A Z d (some (.str b.nm,false),some (.str b.ow,false),some (.int b.lo,false),some (.int b.hi,false),some (.int b.st,false)) sto) a4v (zw rfl rfl rfl rfl rfl hlt (by unfold a93 at hp; rw [hp]; rfl))).trans ih⟩
theorem Xl {P Q R:T} (nb:(bs.map (·.nm)).Nodup) (lb:bs.length≤3) (lD:D.length≤3) (hD:∀ p∈D,Gy U3 p.2∧p.1∈bs.map (·.nm)) :
    qx [.tup [.lst (bs.map bxT),P,Q,R],.tup (D.map seT)] sto=some (.lst (D.map fun p=>wiT (bAt bs p.1).1 (bAt bs p.1).2 p.2),sto):=by
  have l1:bs.length<lim:=by show _<1000000; (clear hD lD nb; omega)
  have l2:D.length<lim:=by show _<1000000; (clear l1 hD lb nb; omega)
  generalize hA:T.tup [.lst (bs.map bxT),P,Q,R]=A
  have iA:cu A (.int 0)=some (.lst (bs.map bxT)):=by rw [← hA]; exact Az
  obtain ⟨w,L⟩:=Zt (sto:=sto) (A:=A) (Z:=.tup (D.map seT)) bs [] (none,none,none,none,none) nb (by rw [List.length_nil]; (clear iA hA l2 l1 hD lD nb; omega))
  have C1:mj 2 [2] (qj [0,1]) (m5 (bf 1)) jm (dw ql (ak (bf 1) (ak (mOp cu (mOp cu (bf 2) (bf 0)) (au (.int 0))) (ak (mOp cu (mOp cu (bf 2) (bf 0)) (au (.int 1))) dg)))) (qs A (.tup (D.map seT)) bs w sto)=some (.lst (D.map fun p=>wiT (bAt bs p.1).1 (bAt bs p.1).2 p.2),⟨[some (A,false),some (.tup (D.map seT),false),some (.dic (dE bs),false),w.1,w.2.1,w.2.2.1,w.2.2.2.1,w.2.2.2.2],sto⟩):=by
    refine mz seT _ D (s1:=qs A (.tup (D.map seT)) bs w sto) _ [some (.dic (dE bs),false)] (by unfold m5; rw [show bf 1 (qs A (.tup (D.map seT)) bs w sto)=some (.tup (D.map seT),qs A (.tup (D.map seT)) bs w sto) from rfl]; dsimp only; rw [List.length_map,if_pos l2]) rfl rfl rfl (Nat.le_of_lt l2) ?_
    intro p hp pre hpre
    obtain ⟨ok,hm⟩:=hD p hp
    have g:cu (.dic (dE bs)) (.str p.1)=some (a93 (bAt bs p.1)):=a3m hm
    match pre,hpre with
    | [a,b],_=>exact ⟨[some (.str p.1,false),some (smT p.2,false)],rfl,Cg (x:=.str p.1) (y:=smT p.2),rfl,zf0 (zc rfl (zc (zo (zo rfl rfl g) rfl Az) (zc (zo (zo rfl rfl g) rfl xq) rfl))) (Rj ok)⟩
  exact zrun (n:=8) (zq (zn rfl) (zq (Ig (zis (zo rfl rfl iA) l1) L) (zr C1))) rfl
end
end K
end
noncomputable section
set_option linter.all false
set_option maxRecDepth 100000
set_option maxHeartbeats 1000000
set_option autoImplicit false
namespace K
open C PySem
noncomputable abbrev Hd:=Str × Int
noncomputable def hdT (h:Hd):T:=.tup [.str h.1,.int h.2]
noncomputable def prT (bs:List Bx) (hs:List Hd) (ss:List T):T:=.tup [.lst (bs.map bxT),.lst (hs.map hdT),.lst ss,.tup []]
noncomputable def startT (bs:List Bx) (hs:List Hd) (r:Rem):List T:=(bs.map fun b=>eqF b.nm b.st)++(hs.map fun h=>eqF ("@" ++ h.1) 0)++[agT r]
noncomputable section
variable {sto:List SO} {bs:List Bx} {hs:List Hd} {ss:List T} {n:Nat} {kvs:List (List C.Key × T)} {hand:Str} {Q:Sm→Prop} {d:Nat} {r:Rem}
theorem pr0:cu (prT bs hs ss) (.int 0)=some (.lst (bs.map bxT)):=Az
theorem pr1:cu (prT bs hs ss) (.int 1)=some (.lst (hs.map hdT)):=xq
theorem pr2:cu (prT bs hs ss) (.int 2)=some (.lst ss):=Qn
theorem bx0 {b:Bx}:cu (bxT b) (.int 0)=some (.str b.nm):=Az
theorem bx4 {b:Bx}:cu (bxT b) (.int 4)=some (.int b.st):=a4m
theorem a6s {f:Fn} {rest:List Slot} (lb:bs.length≤3) (hf:∀ (x:Str) (i:Int),f [.str x,.int i] sto=some (eqF x i,sto)) :
    mj 1 [] (hName 0) (m5 (mOp cu (bf 0) (au (.int 0)))) jm (dw f (ak (mOp cu (bf 0) (au (.int 0))) (ak (mOp cu (bf 0) (au (.int 4))) dg))) ⟨some (prT bs hs ss,false)::rest,sto⟩
      = some (.lst (bs.map fun b=>eqF b.nm b.st),⟨some (prT bs hs ss,false)::rest,sto⟩):=by
  have l1:bs.length<lim:=by show _<1000000; omega
  refine mz bxT _ bs (s1:=⟨some (prT bs hs ss,false)::rest,sto⟩) _ [] (by simp [j9,j8,sIf,nj,sNew,jz,tu,sNx,jh,sGo,jd,uo,j6,j4,p7,iu,yw,Bu,mOr,qb,mIf,mOp,mUn,bf,ig,ak,dg,au,ux,dw,gb,hName,qj,ji,m5,ltT,leT,yg,u5,Bg,uy,ju,Bo,Ea,uh,jm,gq,Aq,pr0,l1]) rfl rfl rfl (Nat.le_of_lt l1) ?_
  intro b hb pre hpre
  match pre,hpre with
  | [a],_ =>
    refine ⟨[some (bxT b,false)],rfl,rfl,rfl,?_⟩
    simp [j9,j8,sIf,nj,sNew,jz,tu,sNx,jh,sGo,jd,uo,j6,j4,p7,iu,yw,Bu,mOr,qb,mIf,mOp,mUn,bf,ig,ak,dg,au,ux,dw,gb,hName,qj,ji,m5,ltT,leT,yg,u5,Bg,uy,ju,Bo,Ea,uh,jm,gq,Aq,bx0,bx4,hf]
theorem a65 {f:Fn} {g:M T} {rest:List Slot} (lh:hs.length≤4) (hg:∀ (x:Str) (y:Slot),x.length<100→g ⟨[some (.str x,false),y],sto⟩=some (.str ("@" ++ x),⟨[some (.str x,false),y],sto⟩)) (hn:∀ h∈hs,h.1.length<100) (hf:∀ (x:Str) (i:Int),f [.str x,.int i] sto=some (eqF x i,sto)) :
    mj 2 [] (qj [0,1]) (m5 (mOp cu (bf 0) (au (.int 1)))) jm (dw f (ak g (ak (au (.int 0)) dg))) ⟨some (prT bs hs ss,false)::rest,sto⟩
      = some (.lst (hs.map fun h=>eqF ("@" ++ h.1) 0),⟨some (prT bs hs ss,false)::rest,sto⟩):=by
  have l1:hs.length<lim:=by show _<1000000; (clear hf hn hg; omega)
  refine mz hdT _ hs (s1:=⟨some (prT bs hs ss,false)::rest,sto⟩) _ [] (by simp [j9,j8,sIf,nj,sNew,jz,tu,sNx,jh,sGo,jd,uo,j6,j4,p7,iu,yw,Bu,mOr,qb,mIf,mOp,mUn,bf,ig,ak,dg,au,ux,dw,gb,hName,qj,ji,m5,ltT,leT,yg,u5,Bg,uy,ju,Bo,Ea,uh,jm,gq,Aq,pr1,l1]) rfl rfl rfl (Nat.le_of_lt l1) ?_
  intro h hh pre hpre
  match pre,hpre with
  | [a,b],_ =>
    refine ⟨[some (.str h.1,false),some (.int h.2,false)],rfl,Cg (x:=.str h.1) (y:=.int h.2),rfl,?_⟩
    have e:=hg h.1 (some (.int h.2,false)) (hn h hh)
    simp only [List.append_nil,dw,ak,dg,au,e,hf]
theorem Gu {o k:M T} {s s1 s2:Sta} {ts:List T} {q:List C.Key} {t:T} (ho:o s=some (.obj n,s1)) (hk:k s1=some (.tup ts,s2)) (hs:s2.sto[n]? = some (.dit kvs)) (hq:keysOf ts=some q) (hx:Bv q kvs=some t):n6 o k s=some (t,s2):=by
  unfold n6
  rw [ho]; dsimp only; rw [hk]; dsimp only; rw [hs,hq]; dsimp only; rw [hx]
theorem ks2 {x:Str} {i:Int}:keysOf [.str x,.int i]=some [.inr x,.inl i]:=rfl
end
end K
end
noncomputable section
set_option linter.all false
set_option maxRecDepth 100000
set_option maxHeartbeats 1000000
set_option autoImplicit false
namespace K
open C PySem
noncomputable abbrev qC (bs:List Bx) (hs:List Hd) (ss:List T) (n:Nat) (hand:Str) (a:Slot) (sto:List SO):Sta:=⟨[some (prT bs hs ss,false),some (.obj n,false),some (.str hand,false),a],sto⟩
noncomputable section
variable {sto:List SO} {bs:List Bx} {hs:List Hd} {ss:List T} {n:Nat} {kvs:List (List C.Key × T)} {hand:Str} {Q:Sm→Prop} {d:Nat} {r:Rem}
theorem J2 {u v:S} {s s':Sta} (h:u s=some (.next,s')):j8 (sNx u) v s=v s':=by
  unfold j8 sNx; rw [h]
theorem Zv {i:Nat} {e:M T} {s s1:Sta} {t:T} {xs ys:List T} (hl:p7 i s=true) (h:e s=some (t,s1)) (hq:uh t=some ys) (hi:s1.env[i]? = some (some (.lst xs,true))) (hz:xs.length+ys.length<1000000):j4 i e s=some (.next,gb i (.lst (xs++ys)) true s1):=by
  unfold j4; rw [if_pos hl,h]; dsimp only; rw [hq,hi]; dsimp only; rw [if_pos hz]
theorem a0f {i:Nat} {e:M T} {s s1:Sta} {t:T} {xs:List T} (h:e s=some (t,s1)) (hi:s1.env[i]? = some (some (.lst xs,true))) (hz:xs.length<1000000) (hl:p7 i s=true):j6 i e s=some (.next,gb i (.lst (xs++[t])) true s1):=by
  unfold j6
  first
    | (rw [if_pos hl,h]; dsimp only; rw [hi]; dsimp only; rw [if_pos hz])
    | (rw [h]; dsimp only; rw [hi]; dsimp only; rw [if_pos hz])
theorem Xk {f:Fn} {a:M T} {s s1:Sta} {t u:T} {st:List SO} (h:a s=some (t,s1)) (hf:f [t] s1.sto=some (u,st)):dw f (ak a dg) s=some (u,⟨s1.env,st⟩):=by
  unfold dw ak dg; rw [h]; dsimp only; rw [hf]
end
end K
end
noncomputable section
set_option linter.all false
set_option maxRecDepth 100000
set_option maxHeartbeats 1000000
set_option autoImplicit false
namespace K
open C PySem
noncomputable section
variable {sto:List SO} {bs:List Bx} {hs:List Hd} {ss:List T} {n:Nat} {kvs:List (List C.Key × T)} {hand:Str} {Q:Sm→Prop} {d:Nat} {r:Rem}
theorem a9c {i:Nat} {e:M T} {s s1:Sta} {t:T} (h:e s=some (t,s1)):nj i e s=some (.next,gb i t false s1):=by unfold nj; rw [h]
theorem ab6 {f:T→T→Option T} {a b:M T} {s s1 s2:Sta} {t u w:T} (h1:a s=some (t,s1)) (h2:b s1=some (u,s2)) (h3:f t u=some w):mOp f a b s=some (w,s2):=by
  unfold mOp; rw [h1]; dsimp only; rw [h2]; dsimp only; rw [h3]
theorem add_l {x y:List T} (h:x.length+y.length<1000000):u5 (.lst x) (.lst y)=some (.lst (x++y)):=if_pos h
noncomputable def Wf (bs:List Bx) (D:List (Str × Sm)) (g:Rem) (l:List ((Str × Int) × Rem)):List T:=(l.map fun p=>eqF ("@" ++ p.1.1) p.1.2)++(l.map fun p=>pfT p.2)++[pfT g]++D.map fun p=>wiT (bAt bs p.1).1 (bAt bs p.1).2 p.2
noncomputable def kT (p:(Str × Int) × Rem):T:=.tup [.str p.1.1,.int p.1.2]
structure Okk (kvs:List (List C.Key × T)) (Q:Sm→Prop) (p:(Str × Int) × Rem):Prop where
  s:okS p.1.1
  l:p.1.1.length<100
  x:Bv [.inr p.1.1,.inl p.1.2] kvs=some (jg p.2)
  r:OkR Q 10 p.2
theorem plain_at {k:Str} {i:Int} (ok:okS k) (hl:k.length<100):gk 40 [.tup [.str "at",.str k,.int i]] sto=some (eqF ("@" ++ k) i,sto):=by
  have e:=(forms (sto:=sto) (Q:=Tr) (OkR.pl (d:=0) (p:=i) ok hl) 40 (by decide)).1
  unfold jg pfT at e
  exact e
end
end K
end
noncomputable section
set_option linter.all false
set_option maxRecDepth 100000
set_option maxHeartbeats 1000000
set_option autoImplicit false
namespace K
open C PySem
noncomputable section
variable {sto:List SO} {bs:List Bx} {hs:List Hd} {ss:List T} {n:Nat} {kvs:List (List C.Key × T)} {hand:Str} {Q:Sm→Prop} {D:List (Str × Sm)} {here to:Int} {g:Rem}
noncomputable abbrev P0 (bs:List Bx) (hs:List Hd) (ss:List T) (n:Nat) (st:T) (ot:T) (a b:Slot) (sto:List SO):Sta:=⟨[some (prT bs hs ss,false),some (.obj n,false),some (st,false),some (ot,false),a,b],sto⟩
theorem a2w {l:List ((Str × Int) × Rem)} {st ot:T} {b:Slot} (hl:l.length≤2) (ok:∀ p∈l,Okk kvs Q p) :
    mj 2 [] (qj [0,1]) (m5 (bf 4)) jm (dw (gk 40) (ak (ig (fun l=>some (.tup l)) (ak (au (.str "at")) (ak (bf 0) (ak (bf 1) dg)))) dg)) (P0 bs hs ss n st ot (some (.lst (l.map kT),false)) b sto)
      = some (.lst (l.map fun p=>eqF ("@" ++ p.1.1) p.1.2),P0 bs hs ss n st ot (some (.lst (l.map kT),false)) b sto):=by
  have l1:l.length<lim:=by show _<1000000; omega
  refine mz kT _ l (s1:=P0 bs hs ss n st ot (some (.lst (l.map kT),false)) b sto) _ [] (by simp [j9,j8,sIf,nj,sNew,jz,tu,sNx,jh,sGo,jd,uo,j6,j4,p7,iu,yw,Bu,mOr,qb,mIf,mOp,mUn,bf,ig,ak,dg,au,ux,dw,gb,hName,qj,ji,m5,ltT,leT,yg,u5,Bg,uy,ju,Bo,Ea,uh,jm,gq,Aq,l1]) rfl rfl rfl (Nat.le_of_lt l1) ?_
  intro p hp pre hpre
  match pre,hpre with
  | [x,y],_ =>
    have o:=ok p hp
    refine ⟨[some (.str p.1.1,false),some (.int p.1.2,false)],rfl,Cg (x:=.str p.1.1) (y:=.int p.1.2),rfl,?_⟩
    have e:=plain_at (sto:=sto) (i:=p.1.2) o.s o.l
    simp [j9,j8,sIf,nj,sNew,jz,tu,sNx,jh,sGo,jd,uo,j6,j4,p7,iu,yw,Bu,mOr,qb,mIf,mOp,mUn,bf,ig,ak,dg,au,ux,dw,gb,hName,qj,ji,m5,ltT,leT,yg,u5,Bg,uy,ju,Bo,Ea,uh,jm,gq,Aq,e]
theorem Xn {l:List ((Str × Int) × Rem)} {st ot:T} {b:Slot} (hl:l.length≤2) (hs':sto[n]? = some (.dit kvs)) (ok:∀ p∈l,Okk kvs Q p) :
    mj 1 [1] (hName 0) (m5 (bf 4)) jm (dw (gk 40) (ak (n6 (bf 1) (bf 0)) dg)) (P0 bs hs ss n st ot (some (.lst (l.map kT),false)) b sto)
      = some (.lst (l.map fun p=>pfT p.2),P0 bs hs ss n st ot (some (.lst (l.map kT),false)) b sto):=by
  have l1:l.length<lim:=by show _<1000000; (clear ok hs'; omega)
  refine mz kT _ l (s1:=P0 bs hs ss n st ot (some (.lst (l.map kT),false)) b sto) _ [some (.obj n,false)] (by simp [j9,j8,sIf,nj,sNew,jz,tu,sNx,jh,sGo,jd,uo,j6,j4,p7,iu,yw,Bu,mOr,qb,mIf,mOp,mUn,bf,ig,ak,dg,au,ux,dw,gb,hName,qj,ji,m5,ltT,leT,yg,u5,Bg,uy,ju,Bo,Ea,uh,jm,gq,Aq,l1]) rfl rfl rfl (Nat.le_of_lt l1) ?_
  intro p hp pre hpre
  match pre,hpre with
  | [x],_ =>
    have o:=ok p hp
    refine ⟨[some (kT p,false)],rfl,rfl,rfl,?_⟩
    exact Xk (s1:=⟨[some (kT p,false),some (.obj n,false)],sto⟩) (Gu (n:=n) (s1:=⟨[some (kT p,false),some (.obj n,false)],sto⟩) (ts:=[.str p.1.1,.int p.1.2]) rfl rfl hs' ks2 o.x) (forms o.r 40 (by decide)).1
theorem Tn {ot:List ((Str × Int) × Rem)} {r0:Rem} (hl:ot.length≤1) (hs':sto[n]? = some (.dit kvs)) (ok:∀ p∈(((hand,here),r0)::ot),Okk kvs Q p) (og:OkR Q 10 g)
    (nb:(bs.map (·.nm)).Nodup) (lb:bs.length≤3) (lD:D.length≤3) (hD:∀ p∈D,Gy U3 p.2∧p.1∈bs.map (·.nm)) :
    o9 [prT bs hs ss,.obj n,stT hand here (jg g) D to,.lst (ot.map kT)] sto=some (.lst (Wf bs D g (((hand,here),r0)::ot)),sto):=by
  generalize hL:(((hand,here),r0)::ot)=L at *
  have lL:L.length≤2:=by rw [← hL,List.length_cons]; (clear ok hL hD lD lb nb og hs'; omega)
  have A:nj 4 (mOp u5 (ig (fun l=>some (.lst l)) (ak (ig (fun l=>some (.tup l)) (ak (mOp cu (bf 2) (au (.int 0))) (ak (mOp cu (bf 2) (au (.int 1))) dg))) dg)) (bf 3)) (P0 bs hs ss n (stT hand here (jg g) D to) (.lst (ot.map kT)) none none sto)=some (.next,P0 bs hs ss n (stT hand here (jg g) D to) (.lst (ot.map kT)) (some (.lst (L.map kT),false)) none sto):=by
    have bl:ot.length+1<lim:=by show _<1000000; (clear lL ok hL hD lD lb nb og hs'; omega)
    rw [← hL]
    simp [j9,j8,sIf,nj,sNew,jz,tu,sNx,jh,sGo,jd,uo,j6,j4,p7,iu,yw,Bu,mOr,qb,mIf,mOp,mUn,bf,ig,ak,dg,au,ux,dw,gb,hName,qj,ji,m5,ltT,leT,yg,u5,Bg,uy,ju,Bo,Ea,uh,jm,gq,Aq,st0,st1,kT,Nat.add_comm]
    rw [if_pos bl]
    rfl
  have B:sNew 5 (mj 2 [] (qj [0,1]) (m5 (bf 4)) jm (dw (gk 40) (ak (ig (fun l=>some (.tup l)) (ak (au (.str "at")) (ak (bf 0) (ak (bf 1) dg)))) dg))) (P0 bs hs ss n (stT hand here (jg g) D to) (.lst (ot.map kT)) (some (.lst (L.map kT),false)) none sto)=some (.next,P0 bs hs ss n (stT hand here (jg g) D to) (.lst (ot.map kT)) (some (.lst (L.map kT),false)) (some (.lst (L.map fun p=>eqF ("@" ++ p.1.1) p.1.2),true)) sto):=by
    unfold sNew; rw [a2w lL ok]; rfl
  have C':j4 5 (mj 1 [1] (hName 0) (m5 (bf 4)) jm (dw (gk 40) (ak (n6 (bf 1) (bf 0)) dg))) (P0 bs hs ss n (stT hand here (jg g) D to) (.lst (ot.map kT)) (some (.lst (L.map kT),false)) (some (.lst (L.map fun p=>eqF ("@" ++ p.1.1) p.1.2),true)) sto)=some (.next,P0 bs hs ss n (stT hand here (jg g) D to) (.lst (ot.map kT)) (some (.lst (L.map kT),false)) (some (.lst ((L.map fun p=>eqF ("@" ++ p.1.1) p.1.2)++(L.map fun p=>pfT p.2)),true)) sto) :=
    Zv rfl (Xn lL hs' ok) rfl rfl (by simp only [List.length_map]; (clear B A ok hL hD lD lb nb og hs' hl; omega))
  have D':j6 5 (dw (gk 40) (ak (mOp cu (bf 2) (au (.int 2))) dg)) (P0 bs hs ss n (stT hand here (jg g) D to) (.lst (ot.map kT)) (some (.lst (L.map kT),false)) (some (.lst ((L.map fun p=>eqF ("@" ++ p.1.1) p.1.2)++(L.map fun p=>pfT p.2)),true)) sto)=some (.next,P0 bs hs ss n (stT hand here (jg g) D to) (.lst (ot.map kT)) (some (.lst (L.map kT),false)) (some (.lst ((L.map fun p=>eqF ("@" ++ p.1.1) p.1.2)++(L.map fun p=>pfT p.2)++[pfT g]),true)) sto) :=
    a0f (Xk (s1:=P0 bs hs ss n (stT hand here (jg g) D to) (.lst (ot.map kT)) (some (.lst (L.map kT),false)) (some (.lst ((L.map fun p=>eqF ("@" ++ p.1.1) p.1.2)++(L.map fun p=>pfT p.2)),true)) sto) (ab6 rfl rfl st2) (forms og 40 (by decide)).1) rfl (by simp only [List.length_append,List.length_map]; (clear C' B A ok hL hD lD lb nb og hs' hl; omega)) rfl
  have E':j4 5 (dw qx (ak (bf 0) (ak (mOp cu (bf 2) (au (.int 3))) dg))) (P0 bs hs ss n (stT hand here (jg g) D to) (.lst (ot.map kT)) (some (.lst (L.map kT),false)) (some (.lst ((L.map fun p=>eqF ("@" ++ p.1.1) p.1.2)++(L.map fun p=>pfT p.2)++[pfT g]),true)) sto)=some (.next,P0 bs hs ss n (stT hand here (jg g) D to) (.lst (ot.map kT)) (some (.lst (L.map kT),false)) (some (.lst (Wf bs D g L),true)) sto):=by
    have e:=Xl (sto:=sto) (P:=.lst (hs.map hdT)) (Q:=.lst ss) (R:=.tup []) nb lb lD hD
    have al:((L.map fun p=>eqF ("@" ++ p.1.1) p.1.2)++(L.map fun p=>pfT p.2)++[pfT g]).length+(D.map fun p=>wiT (bAt bs p.1).1 (bAt bs p.1).2 p.2).length<1000000:=by simp only [List.length_append,List.length_map,List.length_singleton]; (clear e D' C' B A ok hL hD lb nb og hs' hl; omega)
    have hc:dw qx (ak (bf 0) (ak (mOp cu (bf 2) (au (.int 3))) dg)) (P0 bs hs ss n (stT hand here (jg g) D to) (.lst (ot.map kT)) (some (.lst (L.map kT),false)) (some (.lst ((L.map fun p=>eqF ("@" ++ p.1.1) p.1.2)++(L.map fun p=>pfT p.2)++[pfT g]),true)) sto)=some (.lst (D.map fun p=>wiT (bAt bs p.1).1 (bAt bs p.1).2 p.2),P0 bs hs ss n (stT hand here (jg g) D to) (.lst (ot.map kT)) (some (.lst (L.map kT),false)) (some (.lst ((L.map fun p=>eqF ("@" ++ p.1.1) p.1.2)++(L.map fun p=>pfT p.2)++[pfT g]),true)) sto):=by
      have e':qx [prT bs hs ss,.tup (D.map seT)] sto=_:=e
      generalize qx=F at *
      simp [j9,j8,sIf,nj,sNew,jz,tu,sNx,jh,sGo,jd,uo,j6,j4,p7,iu,yw,Bu,mOr,qb,mIf,mOp,mUn,bf,ig,ak,dg,au,ux,dw,gb,hName,qj,ji,m5,ltT,leT,yg,u5,Bg,uy,ju,Bo,Ea,uh,jm,gq,Aq,st3,e']
    exact Zv (i:=5) rfl hc rfl rfl al
  unfold o9 j9
  show (match j8 _ _ (P0 bs hs ss n (stT hand here (jg g) D to) (.lst (ot.map kT)) none none sto) with | some (.ret t,s)=>some (t,s.sto) | some (.next,s)=>some (.non,s.sto) | _=>none)=_
  rw [J2 A,J2 B,J2 C',J2 D',J2 E']
  rfl
end
end K
end
noncomputable section
set_option linter.all false
set_option maxRecDepth 100000
set_option maxHeartbeats 1000000
set_option autoImplicit false
namespace K
open C PySem
noncomputable abbrev qF (bs:List Bx) (hs:List Hd) (ss:List T) (n:Nat) (hand:Str) (here:Int) (g:Rem) (D:List (Str × Sm)) (to:Int) (ot:List ((Str × Int) × Rem)) (a:Rem) (b:Slot) (sto:List SO):Sta:=⟨[some (prT bs hs ss,false),some (.obj n,false),some (stT hand here (jg g) D to,false),some (.lst (ot.map kT),false),some (jg a,false),b],sto⟩
structure Ctx (kvs:List (List C.Key × T)) (bs:List Bx) (D:List (Str × Sm)) (hand:Str) (g:Rem):Prop where
  og:OkR Bd 10 g
  oh:okS hand
  nb:(bs.map (·.nm)).Nodup
  lb:bs.length≤3
  lD:D.length≤3
  nD:(D.map (·.1)).Nodup
  hD:∀ p∈D,Gy U3 p.2∧p.1∈bs.map (·.nm)
noncomputable section
variable {sto:List SO} {bs:List Bx} {hs:List Hd} {ss:List T} {n:Nat} {kvs:List (List C.Key × T)} {hand:Str} {D:List (Str × Sm)} {here to:Int} {g:Rem}
theorem Lq {ot:List ((Str × Int) × Rem)} {r0 a:Rem} (c:Ctx kvs bs D hand g) (hl:ot.length≤1) (hs':sto[n]? = some (.dit kvs)) (ok:∀ p∈(((hand,here),r0)::ot),Okk kvs Bd p) (oa:OkR Bd 10 a) :
    lu [prT bs hs ss,.obj n,stT hand here (jg g) D to,.lst (ot.map kT),jg a] sto=some (.lst (Wf bs D g (((hand,here),r0)::ot)++[agT (bh D hand to a)]),sto):=by
  have G:=Tn (hs:=hs) (ss:=ss) (to:=to) hl hs' ok c.og c.nb c.lb c.lD c.hD
  have Bh:=behind (sto:=sto) (to:=to) c.oh (by have:=c.lD; (clear G oa ok hs' hl c; omega)) c.nD (fun p hp=>(c.hD p hp).1) oa (by decide)
  have F':=(forms (sto:=sto) (aa1 (D:=D) (h:=hand) (to:=to) oa) 40 (by decide)).2
  have gl:(Wf bs D g (((hand,here),r0)::ot)).length<1000000:=by
    have:=c.lD
    simp only [Wf,List.length_append,List.length_map,List.length_cons,List.length_nil]
    (clear F' Bh G oa ok hs' c; omega)
  generalize hGv:Wf bs D g (((hand,here),r0)::ot)=GV at *
  have A:sNew 5 (dw o9 (ak (bf 0) (ak (bf 1) (ak (bf 2) (ak (bf 3) dg))))) (qF bs hs ss n hand here g D to ot a none sto)=some (.next,qF bs hs ss n hand here g D to ot a (some (.lst GV,true)) sto):=by
    generalize o9=F at *
    exact (yn (zf rfl G) rfl)
  have B1:dw yq (ak (bf 4) (ak (mOp cu (bf 2) (au (.int 0))) (ak (mOp cu (bf 2) (au (.int 3))) (ak (mOp cu (bf 2) (au (.int 4))) dg)))) (qF bs hs ss n hand here g D to ot a (some (.lst GV,true)) sto)=some (jg (bh D hand to a),qF bs hs ss n hand here g D to ot a (some (.lst GV,true)) sto):=by
    generalize yq=F at *
    simp [j9,j8,sIf,nj,sNew,jz,tu,sNx,jh,sGo,jd,uo,j6,j4,p7,iu,yw,Bu,mOr,qb,mIf,mOp,mUn,bf,ig,ak,dg,au,ux,dw,gb,hName,qj,ji,m5,ltT,leT,yg,u5,Bg,uy,ju,Bo,Ea,uh,jm,gq,Aq,st0,st3,st4,Bh]
  have B:j6 5 (dw (fj 40) (ak (dw yq (ak (bf 4) (ak (mOp cu (bf 2) (au (.int 0))) (ak (mOp cu (bf 2) (au (.int 3))) (ak (mOp cu (bf 2) (au (.int 4))) dg))))) dg)) (qF bs hs ss n hand here g D to ot a (some (.lst GV,true)) sto)=some (.next,qF bs hs ss n hand here g D to ot a (some (.lst (GV++[agT (bh D hand to a)]),true)) sto) :=
    a0f (Xk B1 F') rfl gl rfl
  unfold lu j9
  show (match j8 _ _ (qF bs hs ss n hand here g D to ot a none sto) with | some (.ret t,s)=>some (t,s.sto) | some (.next,s)=>some (.non,s.sto) | _=>none)=_
  rw [uq A,uq B]
  rfl
end
end K
end
noncomputable section
set_option linter.all false
set_option maxRecDepth 100000
set_option maxHeartbeats 1000000
set_option autoImplicit false
namespace K
open C PySem
theorem acs:eqO (.str "own") (.str "start")=some (.bl false):=eqC (by decide +kernel)
theorem ac7:eqO (.str "other") (.str "start")=some (.bl false):=eqC (by decide +kernel)
theorem ace:eqO (.str "start") (.str "start")=some (.bl true):=eqC (by decide +kernel)
theorem ad4:eqO (.str "own") (.str "own")=some (.bl true):=eqC (by decide +kernel)
theorem acp:eqO (.str "other") (.str "own")=some (.bl false):=eqC (by decide +kernel)
noncomputable def J3 (i:Int):T:=.tup [.str "own",.int i]
noncomputable def Gh (i:Int) (h:Str) (p:Int):T:=.tup [.str "other",.int i,.str h,.int p]
noncomputable section
variable {sto:List SO} {bs:List Bx} {hs:List Hd} {ss:List T} {n:Nat} {kvs:List (List C.Key × T)} {hand h2:Str} {D:List (Str × Sm)} {here to i p2:Int} {g r0 a r2:Rem}
theorem a6m {c:M Bool} {x:S} {s s1:Sta} (h:c s=some (false,s1)):sIf c x tu s=some (.next,s1):=by unfold sIf; rw [h]; rfl
end
end K
end
noncomputable section
set_option linter.all false
set_option maxRecDepth 100000
set_option maxHeartbeats 1000000
set_option autoImplicit false
namespace K
open C PySem
noncomputable abbrev qK (bs:List Bx) (hs:List Hd) (ss:List T) (n:Nat) (o:T) (a b c:Slot) (sto:List SO):Sta:=⟨[some (prT bs hs ss,false),some (.obj n,false),some (o,false),a,b,c],sto⟩
noncomputable abbrev qL (bs:List Bx) (hs:List Hd) (ss:List T) (n:Nat) (o:T) (hand:Str) (here:Int) (g:Rem) (D:List (Str × Sm)) (to:Int) (b c:Slot) (sto:List SO):Sta:=qK bs hs ss n o (some (stT hand here (jg g) D to,false)) b c sto
noncomputable def Zw (h:Str):T:=.tup [.str "start",.str h]
noncomputable section
variable {sto:List SO} {bs:List Bx} {hs:List Hd} {ss:List T} {n:Nat} {kvs:List (List C.Key × T)} {hand h2:Str} {D:List (Str × Sm)} {here to i p2:Int} {g r0 a r2 r:Rem} {Q:Sm→Prop} {d:Nat}
theorem aco {c:M Bool} {x y:S} {s s1:Sta} (h:c s=some (true,s1)):sIf c x y s=x s1:=by unfold sIf; rw [h]
theorem a73 {u v:S} {s s':Sta} {t:T} (h:u s=some (.ret t,s')):j8 u v s=some (.ret t,s'):=by unfold j8; rw [h]
theorem V0 (c:Ctx kvs bs D hand g) (hs':sto[n]? = some (.dit kvs)) (hi:cu (.lst ss) (.int i)=some (stT hand here (jg g) D to)) (k0:Okk kvs Bd ((hand,here),r0)) (ka:Okk kvs Bd ((hand,to),a)) :
    jo [prT bs hs ss,.obj n,J3 i] sto=some (.lst (Wf bs D g [((hand,here),r0)]++[agT (bh D hand to a)]),sto):=by
  have e:=Lq (sto:=sto) (hs:=hs) (ss:=ss) (n:=n) (here:=here) (to:=to) (ot:=[]) (r0:=r0) (a:=a) c (by simp) hs' (fun p hp=>by rw [List.mem_singleton] at hp; subst hp; exact k0) ka.r
  rw [List.map_nil] at e
  have o0:cu (J3 i) (.int 0)=some (.str "own"):=Az
  have o1:cu (J3 i) (.int 1)=some (.int i):=xq
  have C1:iu (mOp eqO (mOp cu (bf 2) (au (.int 0))) (au (.str "start"))) (qK bs hs ss n (J3 i) none none none sto)=some (false,qK bs hs ss n (J3 i) none none none sto):=(zt (zo (zo rfl rfl rfl) rfl acs))
  have S3:nj 3 (mOp cu (mOp cu (bf 0) (au (.int 2))) (mOp cu (bf 2) (au (.int 1)))) (qK bs hs ss n (J3 i) none none none sto)=some (.next,qL bs hs ss n (J3 i) hand here g D to none none sto):=(ys (zo (zo rfl rfl rfl) (zo rfl rfl rfl) hi) rfl)
  have C2:iu (mOp eqO (mOp cu (bf 2) (au (.int 0))) (au (.str "own"))) (qL bs hs ss n (J3 i) hand here g D to none none sto)=some (true,qL bs hs ss n (J3 i) hand here g D to none none sto):=(zt (zo (zo rfl rfl rfl) rfl ad4))
  have G:n6 (bf 1) (ig (fun l=>some (.tup l)) (ak (mOp cu (bf 3) (au (.int 0))) (ak (mOp cu (bf 3) (au (.int 4))) dg))) (qL bs hs ss n (J3 i) hand here g D to none none sto)=some (jg a,qL bs hs ss n (J3 i) hand here g D to none none sto):=Gu (n:=n) rfl (zm (zc (zo rfl rfl st0) (zc (zo rfl rfl st4) rfl)) rfl) hs' ks2 ka.x
  have S4:nj 4 (n6 (bf 1) (ig (fun l=>some (.tup l)) (ak (mOp cu (bf 3) (au (.int 0))) (ak (mOp cu (bf 3) (au (.int 4))) dg)))) (qL bs hs ss n (J3 i) hand here g D to none none sto)=some (.next,qL bs hs ss n (J3 i) hand here g D to (some (jg a,false)) none sto):=a9c G
  have S5:jz (dw lu (ak (bf 0) (ak (bf 1) (ak (bf 3) (ak (ig (fun l=>some (.lst l)) dg) (ak (bf 4) dg)))))) (qL bs hs ss n (J3 i) hand here g D to (some (jg a,false)) none sto)=some (.ret (.lst (Wf bs D g [((hand,here),r0)]++[agT (bh D hand to a)])),qL bs hs ss n (J3 i) hand here g D to (some (jg a,false)) none sto):=by
    generalize lu=F at *
    simp [j9,j8,sIf,nj,sNew,jz,tu,sNx,jh,sGo,jd,uo,j6,j4,p7,iu,yw,Bu,mOr,qb,mIf,mOp,mUn,bf,ig,ak,dg,au,ux,dw,gb,hName,qj,ji,m5,ltT,leT,yg,u5,Bg,uy,ju,Bo,Ea,uh,jm,gq,Aq,e]
  unfold jo j9
  show (match j8 _ _ (qK bs hs ss n (J3 i) none none none sto) with | some (.ret t,s)=>some (t,s.sto) | some (.next,s)=>some (.non,s.sto) | _=>none)=_
  rw [uq (a6m C1),uq S3,a73 ((aco C2).trans ((uq S4).trans S5))]
theorem Ld (c:Ctx kvs bs D hand g) (hs':sto[n]? = some (.dit kvs)) (hi:cu (.lst ss) (.int i)=some (stT hand here (jg g) D to)) (k0:Okk kvs Bd ((hand,here),r0)) (k2:Okk kvs Bd ((h2,p2),r2)) :
    jo [prT bs hs ss,.obj n,Gh i h2 p2] sto=some (.lst (Wf bs D g [((hand,here),r0),((h2,p2),r2)]++[agT (bh D hand to r2)]),sto):=by
  have e:=Lq (sto:=sto) (hs:=hs) (ss:=ss) (n:=n) (here:=here) (to:=to) (ot:=[((h2,p2),r2)]) (r0:=r0) (a:=r2) c (by simp) hs' (fun p hp=>by
    rcases List.mem_cons.mp hp with z | z
    · subst z; exact k0
    · rw [List.mem_singleton] at z; subst z; exact k2) k2.r
  rw [List.map_cons,List.map_nil] at e
  have o0:cu (Gh i h2 p2) (.int 0)=some (.str "other"):=Az
  have o1:cu (Gh i h2 p2) (.int 1)=some (.int i):=xq
  have o2:cu (Gh i h2 p2) (.int 2)=some (.str h2):=Qn
  have o3:cu (Gh i h2 p2) (.int 3)=some (.int p2):=Yh
  have C1:iu (mOp eqO (mOp cu (bf 2) (au (.int 0))) (au (.str "start"))) (qK bs hs ss n (Gh i h2 p2) none none none sto)=some (false,qK bs hs ss n (Gh i h2 p2) none none none sto):=(zt (zo (zo rfl rfl rfl) rfl ac7))
  have S3:nj 3 (mOp cu (mOp cu (bf 0) (au (.int 2))) (mOp cu (bf 2) (au (.int 1)))) (qK bs hs ss n (Gh i h2 p2) none none none sto)=some (.next,qL bs hs ss n (Gh i h2 p2) hand here g D to none none sto):=(ys (zo (zo rfl rfl rfl) (zo rfl rfl rfl) hi) rfl)
  have C2:iu (mOp eqO (mOp cu (bf 2) (au (.int 0))) (au (.str "own"))) (qL bs hs ss n (Gh i h2 p2) hand here g D to none none sto)=some (false,qL bs hs ss n (Gh i h2 p2) hand here g D to none none sto):=(zt (zo (zo rfl rfl rfl) rfl acp))
  have S4:nj 5 (ig (fun l=>some (.tup l)) (ak (mOp cu (bf 2) (au (.int 2))) (ak (mOp cu (bf 2) (au (.int 3))) dg))) (qL bs hs ss n (Gh i h2 p2) hand here g D to none none sto)=some (.next,qL bs hs ss n (Gh i h2 p2) hand here g D to none (some (kT ((h2,p2),r2),false)) sto):=(ys (zm (zc (zo rfl rfl rfl) (zc (zo rfl rfl rfl) rfl)) rfl) rfl)
  have G:n6 (bf 1) (bf 5) (qL bs hs ss n (Gh i h2 p2) hand here g D to none (some (kT ((h2,p2),r2),false)) sto)=some (jg r2,qL bs hs ss n (Gh i h2 p2) hand here g D to none (some (kT ((h2,p2),r2),false)) sto):=Gu (n:=n) (ts:=[.str h2,.int p2]) rfl rfl hs' ks2 k2.x
  have S5:jz (dw lu (ak (bf 0) (ak (bf 1) (ak (bf 3) (ak (ig (fun l=>some (.lst l)) (ak (bf 5) dg)) (ak (n6 (bf 1) (bf 5)) dg)))))) (qL bs hs ss n (Gh i h2 p2) hand here g D to none (some (kT ((h2,p2),r2),false)) sto)=some (.ret (.lst (Wf bs D g [((hand,here),r0),((h2,p2),r2)]++[agT (bh D hand to r2)])),qL bs hs ss n (Gh i h2 p2) hand here g D to none (some (kT ((h2,p2),r2),false)) sto):=by
    generalize lu=F at *
    simp [j9,j8,sIf,nj,sNew,jz,tu,sNx,jh,sGo,jd,uo,j6,j4,p7,iu,yw,Bu,mOr,qb,mIf,mOp,mUn,bf,ig,ak,dg,au,ux,dw,gb,hName,qj,ji,m5,ltT,leT,yg,u5,Bg,uy,ju,Bo,Ea,uh,jm,gq,Aq,G,e]
  unfold jo j9
  show (match j8 _ _ (qK bs hs ss n (Gh i h2 p2) none none none sto) with | some (.ret t,s)=>some (t,s.sto) | some (.next,s)=>some (.non,s.sto) | _=>none)=_
  rw [uq (a6m C1),uq S3,uq (a6m C2),uq S4,S5]
end
end K
end
noncomputable section
set_option linter.all false
set_option maxRecDepth 100000
set_option maxHeartbeats 1000000
set_option autoImplicit false
namespace K
open C PySem
structure Sp where
  hand:Str
  here:Int
  guard:Rem
  sets:List (Str × Sm)
  to:Int
noncomputable def spT (s:Sp):T:=stT s.hand s.here (jg s.guard) s.sets s.to
inductive a0s (hs:List Hd) (sp:List Sp):T→Prop where
  | sta {h:Hd}:h∈hs→a0s hs sp (Zw h.1)
  | own {i:Nat}:i<sp.length→a0s hs sp (J3 (i:Int))
  | oth {i p:Nat} {h:Hd}:i<sp.length→h∈hs→(p:Int)<h.2→a0s hs sp (Gh (i:Int) h.1 (p:Int))
noncomputable section
variable {sto:List SO} {bs:List Bx} {hs:List Hd} {sp:List Sp}
theorem step_at {i:Nat} (hi:i<sp.length):cu (.lst (sp.map spT)) (.int (i:Int))=some (spT sp[i]):=Uo spT sp hi
noncomputable abbrev otB:S:=(sIf (iu (mOp neO (bf 3) (mOp cu (mOp cu (mOp cu (bf 0) (au (.int 2))) (bf 1)) (au (.int 0)))))
  (j4 2 (mj 1 [1,3] (hName 0) (ji (bf 4)) jm (ig (fun l=>some (.tup l)) (ak (au (.str "other")) (ak (bf 1) (ak (bf 2) (ak (bf 0) dg)))))))
  tu)
noncomputable abbrev qo (P:T) (i:Nat) (acc:List T) (a b:Slot) (sto:List SO):Sta:=⟨[some (P,false),some (.int (i:Int),false),some (.lst acc,true),a,b],sto⟩
end
end K
end
noncomputable section
set_option linter.all false
set_option maxRecDepth 100000
set_option maxHeartbeats 1000000
set_option autoImplicit false
namespace K
open C PySem
noncomputable section
variable {sto:List SO} {bs:List Bx} {hs:List Hd} {sp:List Sp}
noncomputable abbrev qd (P:T) (n:Nat) (acc:List T) (a:Slot) (sto:List SO):Sta:=⟨[some (P,false),some (.lst (rangeT n),false),some (.lst acc,true),a],sto⟩
noncomputable abbrev duB:S:=(j4 2 (dw vq (ak (bf 0) (ak (bf 3) dg))))
end
end K
end
noncomputable section
set_option linter.all false
set_option maxRecDepth 100000
set_option maxHeartbeats 1000000
set_option autoImplicit false
namespace K
open C PySem
noncomputable def bk (B:List (C.Key × T)) (x:Str):Int:=match Av (.inr x) B with
  | some (.int v)=>v
  | _=>0
noncomputable def Bk (N:List Str) (B:List (C.Key × T)):Prop:=∀ x∈N,∃ v:Int,Av (.inr x) B=some (.int v)
noncomputable def val (B:List (C.Key × T)) (s:Sm):Int:=s.1+(s.2.map fun p=>p.2 * bk B p.1).sum
noncomputable def okN (N:List Str) (s:Sm):Prop:=s.2.length≤8∧∀ p∈s.2,p.1∈N∧Di p.2=true
noncomputable def Cn (k:Int) (s:Sm):Prop:=∃ f:Str→Int,s.2=canon U3 f∧f "b2" = 0∧-k≤f "x" ∧ f "x" ≤ k∧-k≤f "y" ∧ f "y" ≤ k
theorem sbx:¬ (Str.ofString "b2" = Str.ofString "x"):=by decide +kernel
theorem sby:¬ (Str.ofString "b2" = Str.ofString "y"):=by decide +kernel
theorem sxy:¬ (Str.ofString "x" = Str.ofString "y"):=by decide +kernel
theorem syx:¬ (Str.ofString "y" = Str.ofString "x"):=by decide +kernel
noncomputable section
variable {B:List (C.Key × T)} {sto:List SO} {N:List Str}
theorem Bk.at (h:Bk N B) {x:Str} (hx:x∈N):Av (.inr x) B=some (.int (bk B x)):=by
  obtain ⟨v,e⟩:=h x hx
  rw [e]; unfold bk; rw [e]
theorem csum {f G:Str→Int}:((canon U3 f).map fun p=>p.2 * G p.1).sum=f "b2" * G "b2" + f "x" * G "x" + f "y" * G "y" := by
  unfold canon U3
  by_cases h1:f "b2" = 0 <;> by_cases h2:f "x" = 0 <;> by_cases h3:f "y" = 0 <;> simp [h1,h2,h3] <;> (clear h3 h2 h1; omega)
theorem cgt {f:Str→Int} {c:Str} (h:c∈U3):gt (canon U3 f) c=f c:=M7 nd3 h
theorem u3b:(Str.ofString "b2")∈U3:=by decide +kernel
theorem u3x:(Str.ofString "x")∈U3:=by decide +kernel
theorem u3y:(Str.ofString "y")∈U3:=by decide +kernel
theorem Cn.ok {k:Int} {s:Sm} (h:Cn k s):Gy U3 s:=by
  obtain ⟨n,l⟩:=s
  obtain ⟨f,e,_⟩:=h
  dsimp only at e
  subst e
  exact Gg nd3
theorem a2l {c:Str} (h:c∈U3):c=Str.ofString "b2" ∨ c=Str.ofString "x" ∨ c=Str.ofString "y" := by
  simpa [U3] using h
theorem Cn.okN {k:Int} {s:Sm} (hk:k≤1000) (hx:(Str.ofString "x")∈N) (hy:(Str.ofString "y")∈N) (h:Cn k s):okN N s:=by
  obtain ⟨f,e,e0,h1,h2,h3,h4⟩:=h
  refine ⟨?_,fun p hp=>?_⟩
  · rw [e]
    have:=Jl (U:=U3) (f:=f)
    have h3:U3.length=3:=rfl
    (clear h4 h2 h1 e0 e hy hx hk; omega)
  · rw [e] at hp
    unfold canon at hp
    obtain ⟨c,hc,rfl⟩:=List.mem_map.mp hp
    obtain ⟨hu,hz⟩:=List.mem_filter.mp hc
    rcases a2l hu with rfl | rfl | rfl
    · rw [e0] at hz; cases hz
    · exact ⟨hx,by simp only [Di,decide_eq_true_eq]; (clear hz hu hp hc h4 h3 e0 e hy hx; omega)⟩
    · exact ⟨hy,by simp only [Di,decide_eq_true_eq]; (clear hz hu hp hc h2 h1 e0 e hy hx; omega)⟩
theorem X8 {n:Int} {f:Str→Int}:val B (n,canon U3 f)=n+(f "b2" * bk B "b2" + f "x" * bk B "x" + f "y" * bk B "y"):=by
  unfold val; dsimp only; rw [csum (G:=bk B)]
theorem abo {a b:Sm} {f g:Str→Int} (ha:a.2=canon U3 f) (hb:b.2=canon U3 g):(ls a b).2=canon U3 fun c=>f c - g c:=by
  unfold ls
  refine Al fun c hc=>?_
  rw [ha,hb,cgt hc,cgt hc]; (clear hc hb ha; omega)
theorem Cn.ls {i j:Int} {a b:Sm} (ha:Cn i a) (hb:Cn j b):Cn (i+j) (ls a b):=by
  obtain ⟨f,e,e0,h1,h2,h3,h4⟩:=ha
  obtain ⟨g,q,q0,g1,g2,g3,g4⟩:=hb
  exact ⟨_,abo e q,by (clear g4 g3 g2 g1 q h4 h3 h2 h1 e; omega),by (clear g4 g3 g1 q0 q h4 h3 h2 e0 e; omega),by (clear g4 g3 g2 q0 q h4 h3 h1 e0 e; omega),by (clear g3 g2 g1 q0 q h4 h2 h1 e0 e; omega),by (clear g4 g2 g1 q0 q h3 h2 h1 e0 e; omega)⟩
theorem cn0 {n:Int}:Cn 0 (n,[]):=⟨fun _=>0,rfl,rfl,Int.le_refl _,Int.le_refl _,Int.le_refl _,Int.le_refl _⟩
theorem Cn.up {i j:Int} {s:Sm} (h:Cn i s) (hl:i≤j):Cn j s:=by
  obtain ⟨f,e,e0,h1,h2,h3,h4⟩:=h
  exact ⟨f,e,e0,by (clear h4 h3 h2 e0 e; omega),by (clear h4 h3 h1 e0 e; omega),by (clear h4 h2 h1 e0 e; omega),by (clear h3 h2 h1 e0 e; omega)⟩
theorem V3 {i j:Int} {a b:Sm} (ha:Cn i a) (hb:Cn j b):val B (ls a b)=val B a - val B b:=by
  obtain ⟨f,e,_⟩:=ha
  obtain ⟨g,q,_⟩:=hb
  obtain ⟨n,l⟩:=a
  obtain ⟨m,r⟩:=b
  dsimp only at e q
  have h:ls (n,l) (m,r)=(n+m * -1,canon U3 fun c=>f c - g c):=Prod.ext rfl (abo e q)
  rw [h,e,q,X8,X8,X8]
  simp only [Int.sub_mul]
  (clear h q e; omega)
theorem a0h {s:Sm} (hs:okN N s):s.2.length<lim:=by
  have:=hs.1; show _<1000000; omega
theorem a1i {s:Sm} (hs:okN N s) (hB:Bk N B):mj 2 [1] (qj [0,1]) (m5 (mOp cu (bf 0) (au (.int 1)))) jm (mOp O7 (bf 1) (mOp cu (bf 2) (bf 0))) ⟨[some (smT s,false),some (.dic B,false)],sto⟩
    = some (.lst (s.2.map fun p=>.int (p.2 * bk B p.1)),⟨[some (smT s,false),some (.dic B,false)],sto⟩):=by
  have hl:=a0h hs
  refine mz pT _ s.2 (s1:=⟨[some (smT s,false),some (.dic B,false)],sto⟩) _ [some (.dic B,false)] (a75 (zo rfl rfl xq) hl) rfl rfl rfl (Nat.le_of_lt hl) ?_
  intro p hp pre hpre
  match pre,hpre with
  | [a,b],_ =>
    obtain ⟨h1,h2⟩:=hs.2 p hp
    refine ⟨[some (.str p.1,false),some (.int p.2,false)],rfl,by unfold pT; rw [Cg]; rfl,rfl,?_⟩
    exact zo rfl (zo rfl rfl (show cu (.dic B) (.str p.1)=some (.int (bk B p.1)) from hB.at h1)) (mu h2)
theorem a8q {s:Sm}:cu (smT s) (.int 0)=some (.int s.1):=Az
theorem value {s:Sm} (hs:okN N s) (hB:Bk N B):Dn [smT s,.dic B] sto=some (.int (val B s),sto):=by
  exact zrun (n:=2) (zr (zo (zo rfl rfl a8q) (zm (zc (a1i hs hB) rfl) aas) rfl)) rfl
theorem O6 {s:Sm} {r:T} {o p:Slot} (hr:cu r (.int 1)=some (smT s)) (hs:okN N s) (hB:Bk N B):mj 2 [1] (qj [0,1]) (m5 (mOp cu (mOp cu (bf 0) (au (.int 1))) (au (.int 1)))) jm (mOp O7 (bf 1) (mOp cu (bf 2) (bf 0))) ⟨[some (r,false),some (.dic B,false),o,p],sto⟩
    = some (.lst (s.2.map fun p=>.int (p.2 * bk B p.1)),⟨[some (r,false),some (.dic B,false),o,p],sto⟩):=by
  have hl:=a0h hs
  refine mz pT _ s.2 (s1:=⟨[some (r,false),some (.dic B,false),o,p],sto⟩) _ [some (.dic B,false)] (a75 (zo (zo rfl rfl hr) rfl xq) hl) rfl rfl rfl (Nat.le_of_lt hl) ?_
  intro p hp pre hpre
  match pre,hpre with
  | [a,b],_ =>
    obtain ⟨h1,h2⟩:=hs.2 p hp
    refine ⟨[some (.str p.1,false),some (.int p.2,false)],rfl,by unfold pT; rw [Cg]; rfl,rfl,?_⟩
    exact zo rfl (zo rfl rfl (show cu (.dic B) (.str p.1)=some (.int (bk B p.1)) from hB.at h1)) (mu h2)
end
end K
end
noncomputable section
set_option linter.all false
set_option maxRecDepth 100000
set_option maxHeartbeats 1000000
set_option autoImplicit false
namespace K
open C PySem
mutual
noncomputable def tv (B:List (C.Key × T)):Rem→Bool
  | .most s=>decide (val B s≤0)
  | .rest s m=>val B s%m==0
  | .pl h p=>bk B ("@" ++ h)==p
  | .all l=>Jg B l
  | .any l=>Rf B l
  | .no r=>!tv B r
noncomputable def Jg (B:List (C.Key × T)):List Rem→Bool
  | []=>true
  | r::l=>tv B r&&Jg B l
noncomputable def Rf (B:List (C.Key × T)):List Rem→Bool
  | []=>false
  | r::l=>tv B r||Rf B l
end
inductive Dr (N:List Str) (k:Int):Nat→Rem→Prop where
  | most {d:Nat} {s:Sm}:Cn k s→Dr N k d (.most s)
  | rest {d:Nat} {s:Sm} {m:Int}:Cn k s→2≤m→m≤12→Dr N k d (.rest s m)
  | pl {d:Nat} {h:Str} {p:Int}:("@" ++ h:Str)∈N→okS h→h.length<100→Dr N k d (.pl h p)
  | all {d:Nat} {l:List Rem}:l.length≤6→(∀ r∈l,Dr N k d r)→Dr N k (d+1) (.all l)
  | any {d:Nat} {l:List Rem}:l.length≤6→(∀ r∈l,Dr N k d r)→Dr N k (d+1) (.any l)
  | no {d:Nat} {r:Rem}:Dr N k d r→Dr N k (d+1) (.no r)
inductive Fm (N:List Str):Nat→Rem→Prop where
  | most {d:Nat} {s:Sm}:okN N s→Fm N d (.most s)
  | rest {d:Nat} {s:Sm} {m:Int}:okN N s→2≤m→m≤12→Fm N d (.rest s m)
  | all {d:Nat} {l:List Rem}:l.length≤100→(∀ r∈l,Fm N d r)→Fm N (d+1) (.all l)
  | any {d:Nat} {l:List Rem}:l.length≤100→(∀ r∈l,Fm N d r)→Fm N (d+1) (.any l)
noncomputable section
variable {B:List (C.Key × T)} {sto:List SO} {N:List Str}
theorem Fm.up {d:Nat} {r:Rem} (h:Fm N d r):Fm N (d+1) r:=by
  induction h with
  | most a=>exact .most a
  | rest a b c=>exact .rest a b c
  | all a _ ih=>exact .all a ih
  | any a _ ih=>exact .any a ih
theorem xu:∀ l:List Rem,Jg B l=l.all (tv B)
  | []=>by rw [Jg]; rfl
  | r::l=>by rw [Jg,xu l,List.all_cons]
theorem vm:∀ l:List Rem,Rf B l=l.any (tv B)
  | []=>by rw [Rf]; rfl
  | r::l=>by rw [Rf,vm l,List.any_cons]
theorem abx:∀ l:List Rem,(!(l.any fun r=>tv B r==false))=l.all (tv B)
  | []=>rfl
  | r::l=>by rw [List.any_cons,List.all_cons,← abx l]; cases tv B r <;> simp
theorem a3q {a b:Bool}:eqO (.bl a) (.bl b)=some (.bl (a==b)):=by simp [eqO,eqT,eqD,dat,PyData.depth,PyData.eqv]
theorem U8 {k:Nat} {w:Bool} {ms g:T}:∀ (l:List Rem) (o:Slot),(∀ r∈l,rm k [jg r,.dic B,g] sto=some (.bl (tv B r),sto)) →
    ∃ o',forL (hName 4) (sIf (iu (mOp eqO (dw (rm k) (ak (bf 4) (ak (bf 2) (ak (bf 3) dg)))) (bf 0))) (jz (au (.bl true))) tu) (l.map jg) ⟨[some (.bl w,false),some (ms,false),some (.dic B,false),some (g,false),o],sto⟩
      = some (if (l.any fun r=>tv B r==w) then .ret (.bl true) else .next,⟨[some (.bl w,false),some (ms,false),some (.dic B,false),some (g,false),o'],sto⟩)
  | [],o,_=>⟨o,by simp [forL]⟩
  | r::l,o,h=>by
    have h1:=h r List.mem_cons_self
    obtain ⟨o',e⟩:=U8 (w:=w) (ms:=ms) l (some (jg r,false)) fun q hq=>h q (List.mem_cons_of_mem _ hq)
    cases hw:(tv B r==w) with
    | true =>
      refine ⟨some (jg r,false),?_⟩
      rw [List.map_cons,forL]
      simp [j9,j8,sIf,nj,sNew,jz,tu,sNx,jh,sGo,jd,uo,j6,j4,p7,iu,yw,Bu,mOr,qb,mIf,mOp,mUn,bf,ig,ak,dg,au,ux,dw,gb,hName,qj,ji,m5,ltT,leT,yg,u5,Bg,uy,ju,Bo,Ea,uh,jm,gq,Aq,h1,a3q,hw]
    | false =>
      refine ⟨o',?_⟩
      rw [List.map_cons,forL]
      simp [j9,j8,sIf,nj,sNew,jz,tu,sNx,jh,sGo,jd,uo,j6,j4,p7,iu,yw,Bu,mOr,qb,mIf,mOp,mUn,bf,ig,ak,dg,au,ux,dw,gb,hName,qj,ji,m5,ltT,leT,yg,u5,Bg,uy,ju,Bo,Ea,uh,jm,gq,Aq,h1,a3q,hw]
      simpa using e
theorem a4b {k:Nat} {w:Bool} {g:T} {l:List Rem} (hl:l.length≤100) (h:∀ r∈l,rm k [jg r,.dic B,g] sto=some (.bl (tv B r),sto)) :
    yr (k+1) [.bl w,.tup (l.map jg),.dic B,g] sto=some (.bl (l.any fun r=>tv B r==w),sto):=by
  have lm:l.length<lim:=by show _<1000000; omega
  obtain ⟨o',e⟩:=U8 (w:=w) (ms:=.tup (l.map jg)) l none h
  unfold yr
  cases hw:l.any fun r=>tv B r==w
  all_goals
    rw [hw] at e
    simp only [if_true,if_false,Bool.false_eq_true] at e
    simp [j9,j8,uo,m5,bf,lm,e,jz,au]
theorem holds (hB:Bk N B) {g:T} {d:Nat} {r:Rem} (h:Fm N d r):∀ k,2 * d<k→rm k [jg r,.dic B,g] sto=some (.bl (tv B r),sto):=by
  induction h with
  | most h =>
    intro k hk
    obtain ⟨k,rfl⟩:∃ j,k=j+1:=⟨k - 1,by (clear h hB; omega)⟩
    unfold rm jg tv
    exact (zrun (n:=4) (zq (zs (zo rfl rfl rfl)) (zqr (zk (zt (zo rfl rfl Ae)) (zr (zo (zf (zc (zo rfl rfl rfl) rfl) (value h hB)) rfl rfl))))) rfl)
  | @rest d s m h a b =>
    intro k hk
    obtain ⟨k,rfl⟩:∃ j,k=j+1:=⟨k - 1,by (clear b a h hB; omega)⟩
    have hm:0<m:=by (clear hk b h hB; omega)
    unfold rm jg tv
    exact (zrun (n:=4) (zq (zs (zo rfl rfl rfl)) (zq (ze (zt (zo rfl rfl Aj)) rfl) (zqr (zk (zt (zo rfl rfl Ca)) (zr (zo (zo (zf (zc (zo rfl rfl rfl) rfl) (value h hB)) (zo rfl rfl rfl) (md hm)) rfl rfl)))))) rfl)
  | @all d l hl _ ih =>
    intro k hk
    obtain ⟨k,rfl⟩:∃ j,k=j+2:=⟨k - 2,by (clear ih hl hB; omega)⟩
    have e:=a4b (w:=false) (g:=g) hl fun r hr=>ih r hr k (by (clear hr ih hl hB; omega))
    unfold rm tv
    rw [a3p,xu,← abx]
    exact (zrun (n:=4) (zq (zs (zo rfl rfl rfl)) (zq (ze (zt (zo rfl rfl Dw)) rfl) (zq (ze (zt (zo rfl rfl Dv)) rfl) (zq (ze (zt (zo rfl rfl Fj)) rfl) (zq (ze (zt (zo rfl rfl Dj)) rfl) (zqr (zk (zt (zo rfl rfl Xi)) (zr (zb (a2r (zt (zf (zc rfl (zc (zo rfl rfl rfl) rfl)) e)))))))))))) rfl)
  | @any d l hl _ ih =>
    intro k hk
    obtain ⟨k,rfl⟩:∃ j,k=j+2:=⟨k - 2,by (clear ih hl hB; omega)⟩
    have e:=a4b (w:=true) (g:=g) hl fun r hr=>ih r hr k (by (clear hr ih hl hB; omega))
    unfold rm tv
    rw [a5l,vm]
    have e2:yr (k+1) [.bl true,.tup (l.map jg),.dic B,g] sto=some (.bl (l.any (tv B)),sto):=by
      rw [e]
      simp only [beq_true]
    exact (zrun (n:=4) (zq (zs (zo rfl rfl rfl)) (zq (ze (zt (zo rfl rfl Fz)) rfl) (zq (ze (zt (zo rfl rfl G7)) rfl) (zq (ze (zt (zo rfl rfl Js)) rfl) (zq (ze (zt (zo rfl rfl Fi)) rfl) (zq (ze (zt (zo rfl rfl a1o)) rfl) (zr (zf (zc rfl (zc (zo rfl rfl rfl) rfl)) e2)))))))) rfl)
theorem Yr (hB:Bk N B) {d:Nat} {r:Rem} (h:Fm N d r) (hd:d≤17):uc [jg r,.dic B] sto=some (.bl (tv B r),sto):=by
  exact zrun (n:=2) (zr (zf rfl (holds (g:=.dic []) hB h 40 (by (clear h hB; omega))))) rfl
theorem a0m {k:Nat} {w:Str} {l:List Rem} (hl:l.length≤6) (h:∀ r∈l,iy k [jg r,.dic B] sto=some (.bl (tv B r),sto)) {o o2:Slot} :
    mj 1 [1] (hName 0) (m5 (mOp cu (bf 0) (au (.int 1)))) jm (dw (iy k) (ak (bf 0) (ak (bf 1) dg))) ⟨[some (.tup [.str w,.tup (l.map jg)],false),some (.dic B,false),o,o2],sto⟩
      = some (.lst (l.map fun r=>.bl (tv B r)),⟨[some (.tup [.str w,.tup (l.map jg)],false),some (.dic B,false),o,o2],sto⟩):=by
  have lm:l.length<lim:=by show _<1000000; omega
  refine mz jg _ l (s1:=⟨[some (.tup [.str w,.tup (l.map jg)],false),some (.dic B,false),o,o2],sto⟩) _ [some (.dic B,false)] (a75 (zo rfl rfl xq) lm) rfl rfl rfl (Nat.le_of_lt lm) ?_
  intro r hr pre hpre
  match pre,hpre with
  | [a],_=>exact ⟨[some (jg r,false)],rfl,rfl,rfl,zf0 rfl (h r hr)⟩
theorem K9 (hB:Bk N B) (hx:(Str.ofString "x")∈N) (hy:(Str.ofString "y")∈N) {kk:Int} (hkk:kk≤1000) {d:Nat} {r:Rem} (h:Dr N kk d r):∀ k,d<k→iy k [jg r,.dic B] sto=some (.bl (tv B r),sto):=by
  induction h with
  | @most d s h =>
    intro k hk
    obtain ⟨k,rfl⟩:∃ j,k=j+1:=⟨k - 1,by omega⟩
    have c:=O6 (sto:=sto) (r:=.tup [.str "most",smT s]) (o:=none) (p:=none) xq (h.okN hkk hx hy) hB
    unfold iy jg tv
    exact (zrun (n:=4) (zqr (zk (aay (zt (zo (zo rfl rfl rfl) rfl Ae))) (zq (zs (zo (zo (zo rfl rfl rfl) rfl rfl) (zm (zc c rfl) aas) rfl)) (zqr (zk (zt (zo (zo rfl rfl rfl) rfl Ae)) (zr (zo rfl rfl rfl))))))) rfl)
  | @rest d s m h a b =>
    intro k hk
    obtain ⟨k,rfl⟩:∃ j,k=j+1:=⟨k - 1,by omega⟩
    have hm:0<m:=by omega
    have c:=O6 (sto:=sto) (r:=.tup [.str "rest",smT s,.int m]) (o:=none) (p:=none) xq (h.okN hkk hx hy) hB
    unfold iy jg tv
    exact (zrun (n:=4) (zqr (zk (a0u (zt (zo (zo rfl rfl rfl) rfl Aj)) (zt (zo (zo rfl rfl rfl) rfl Ca))) (zq (zs (zo (zo (zo rfl rfl rfl) rfl rfl) (zm (zc c rfl) aas) rfl)) (zq (ze (zt (zo (zo rfl rfl rfl) rfl Aj)) rfl) (zr (zo (zo rfl (zo rfl rfl rfl) (md hm)) rfl rfl)))))) rfl)
  | @pl d h p a b c =>
    intro k hk
    obtain ⟨k,rfl⟩:∃ j,k=j+1:=⟨k - 1,by omega⟩
    have hi:=hB.at a
    have hl:(Str.ofString "@").length+h.length<lim:=by
      have:(Str.ofString "@").length=1:=by decide
      show _<1000000; omega
    have id:cu (.dic B) (.str ("@" ++ h))=some (.int (bk B ("@" ++ h))):=by simp [cu,keyOf,hi]
    unfold iy jg tv
    exact (zrun (n:=4) (zq (ze (a0u (zt (zo (zo rfl rfl rfl) rfl J1)) (zt (zo (zo rfl rfl rfl) rfl Ji))) rfl) (zqr (zk (zt (zo (zo rfl rfl rfl) rfl Mp)) (zr (zo (zo rfl (zo rfl (zo rfl rfl rfl) (ad hl)) id) (zo rfl rfl rfl) rfl))))) rfl)
  | @all d l hl _ ih =>
    intro k hk
    obtain ⟨k,rfl⟩:∃ j,k=j+1:=⟨k - 1,by omega⟩
    have e:=a0m (B:=B) (sto:=sto) (k:=k) (w := "and") (o:=none) (o2:=none) hl fun r hr=>ih r hr k (by omega)
    unfold iy tv
    rw [a3p,xu]
    exact (zrun (n:=4) (zq (ze (a0u (zt (zo (zo rfl rfl rfl) rfl Dw)) (zt (zo (zo rfl rfl rfl) rfl Dv))) rfl) (zq (ze (zt (zo (zo rfl rfl rfl) rfl Fj)) rfl) (zq (ze (zt (zo (zo rfl rfl rfl) rfl Dj)) rfl) (zq (zs e) (zr (zo (zm (zc (zm rfl a1e.1) (zc (zm rfl a1e.2) rfl)) rfl) (zm (zc (zo (zo rfl rfl rfl) rfl a2y) rfl) rfl) rfl)))))) rfl)
  | @any d l hl _ ih =>
    intro k hk
    obtain ⟨k,rfl⟩:∃ j,k=j+1:=⟨k - 1,by omega⟩
    have e:=a0m (B:=B) (sto:=sto) (k:=k) (w := "or") (o:=none) (o2:=none) hl fun r hr=>ih r hr k (by omega)
    unfold iy tv
    rw [a5l,vm]
    exact (zrun (n:=4) (zq (ze (a0u (zt (zo (zo rfl rfl rfl) rfl Fz)) (zt (zo (zo rfl rfl rfl) rfl G7))) rfl) (zq (ze (zt (zo (zo rfl rfl rfl) rfl Js)) rfl) (zq (ze (zt (zo (zo rfl rfl rfl) rfl Fi)) rfl) (zq (zs e) (zr (zo (zm (zc (zm rfl a1e.1) (zc (zm rfl a1e.2) rfl)) rfl) (zm (zc (zo (zo rfl rfl rfl) rfl a6x) rfl) rfl) rfl)))))) rfl)
  | @no d r _ ih =>
    intro k hk
    obtain ⟨k,rfl⟩:∃ j,k=j+1:=⟨k - 1,by omega⟩
    have ih:=ih k (by omega)
    unfold iy jg tv
    exact (zrun (n:=4) (zq (ze (a0u (zt (zo (zo rfl rfl rfl) rfl Gp)) (zt (zo (zo rfl rfl rfl) rfl Gs))) rfl) (zq (ze (zt (zo (zo rfl rfl rfl) rfl Ir)) rfl) (zqr (zk (zt (zo (zo rfl rfl rfl) rfl Fb)) (zr (zb (a2r (zt (zf (zc (zo rfl rfl rfl) rfl) ih))))))))) rfl)
end
end K
end
noncomputable section
set_option linter.all false
set_option maxRecDepth 100000
set_option maxHeartbeats 1000000
set_option autoImplicit false
namespace K
open C PySem
noncomputable def few (s:Sm) (m:Int):List Rem:=(List.range (m - 1).toNat).map fun (k:Nat)=>.rest (ls s (1+(k:Int),[])) m
mutual
noncomputable def fo:Rem→Bool→Rem
  | .most s,g=>.most (if g then ls (1,[]) s else s)
  | .rest s m,g=>if g then .any (few s m) else .rest s m
  | .pl h p,g=>if g then .any [.most (1 - p,[("@" ++ h,1)]),.most (p+1,[("@" ++ h,-1)])] else .all [.most (-p,[("@" ++ h,1)]),.most (p,[("@" ++ h,-1)])]
  | .no r,g=>fo r (!g)
  | .all l,g=>if g then .any (fos l g) else .all (fos l g)
  | .any l,g=>if g then .all (fos l g) else .any (fos l g)
noncomputable def fos:List Rem→Bool→List Rem
  | [],_=>[]
  | r::l,g=>fo r g::fos l g
end
theorem Bw:∀ (l:List Rem) (g:Bool),fos l g=l.map fun r=>fo r g
  | [],_=>by rw [fos]; rfl
  | r::l,g=>by rw [fos,Bw l g]; rfl
noncomputable section
variable {B:List (C.Key × T)} {sto:List SO} {N:List Str} {k:Int}
theorem Dr.up {d:Nat} {r:Rem} (h:Dr N k d r):Dr N k (d+1) r:=by
  induction h with
  | most a=>exact .most a
  | rest a b c=>exact .rest a b c
  | pl a b c=>exact .pl a b c
  | all a _ ih=>exact .all a ih
  | any a _ ih=>exact .any a ih
  | no _ ih=>exact .no ih
theorem Cn.bd {s:Sm} (hk:k≤1000) (h:Cn k s):Bd s:=fun p hp=>((h.okN (N:=["x","y"]) hk (by decide +kernel) (by decide +kernel)).2 p hp).2
theorem Dr.ok {d:Nat} {r:Rem} (hk:k≤1000) (h:Dr N k d r):OkR Bd d r:=by
  induction h with
  | most a=>exact .most a.ok (a.bd hk)
  | rest a b c=>exact .rest a.ok (a.bd hk) b c
  | pl a b c=>exact .pl b c
  | all a _ ih=>exact .all a ih
  | any a _ ih=>exact .any a ih
  | no _ ih=>exact .no ih
theorem a9l {Q:Sm→Prop} {d:Nat} {r:Rem} (h:OkR Q d r):jg (fo r false)=pfT r∧jg (fo r true)=agT r:=by
  induction h with
  | most a b=>exact ⟨by unfold fo pfT; rfl,by unfold fo agT; rfl⟩
  | @rest d s m a b c e =>
    refine ⟨by unfold fo pfT; rfl,?_⟩
    unfold fo agT rests
    rw [if_pos rfl,a5l]
    unfold few
    rw [List.map_map]
    rfl
  | @pl d h p a b=>exact ⟨by unfold fo pfT eqF; rfl,by unfold fo agT neF; rfl⟩
  | @all d l hl _ ih =>
    refine ⟨?_,?_⟩
    · unfold fo pfT
      rw [if_neg (by simp),a3p,Bw,Iv,List.map_map]
      exact congrArg (fun x=>T.tup [.str "and",.tup x]) (List.map_congr_left fun r hr=>(ih r hr).1)
    · unfold fo agT
      rw [if_pos rfl,a5l,Bw,Ja,List.map_map]
      exact congrArg (fun x=>T.tup [.str "or",.tup x]) (List.map_congr_left fun r hr=>(ih r hr).2)
  | @any d l hl _ ih =>
    refine ⟨?_,?_⟩
    · unfold fo pfT
      rw [if_neg (by simp),a5l,Bw,Iv,List.map_map]
      exact congrArg (fun x=>T.tup [.str "or",.tup x]) (List.map_congr_left fun r hr=>(ih r hr).1)
    · unfold fo agT
      rw [if_pos rfl,a3p,Bw,Ja,List.map_map]
      exact congrArg (fun x=>T.tup [.str "and",.tup x]) (List.map_congr_left fun r hr=>(ih r hr).2)
  | no _ ih=>exact ⟨by unfold fo pfT; exact ih.2,by unfold fo agT; exact ih.1⟩
theorem Hq {x:Str} {n v:Int} (hx:x∈N) (h:Di v=true):okN N (n,[(x,v)]):=⟨by show 1≤8; decide,fun p hp=>by
  rw [List.mem_singleton] at hp; subst hp; exact ⟨hx,h⟩⟩
theorem fm2 {d:Nat} {a b:Sm} (ha:okN N a) (hb:okN N b):∀ r∈[Rem.most a,Rem.most b],Fm N d r:=fun r hr=>by
  rcases List.mem_cons.mp hr with rfl | hr
  · exact .most ha
  · rw [List.mem_singleton] at hr; subst hr; exact .most hb
theorem Xv (hk:k≤990) (hx:(Str.ofString "x")∈N) (hy:(Str.ofString "y")∈N) {d:Nat} {r:Rem} (h:Dr N k d r):∀ g,Fm N (d+1) (fo r g):=by
  have b1:Di 1=true:=by decide
  have b2:Di (-1)=true:=by decide
  induction h with
  | @most d s a =>
    intro g
    unfold fo
    refine .most ?_
    cases g
    · exact a.okN (by (clear a b2 b1 hy hx; omega)) hx hy
    · exact (cn0.ls a).okN (by (clear a b2 b1 hy hx; omega)) hx hy
  | @rest d s m a b c =>
    intro g
    unfold fo
    cases g
    · exact .rest (a.okN (by (clear c b a b2 b1 hy hx; omega)) hx hy) b c
    · refine .any ?_ fun r hr=>?_
      · unfold few; rw [List.length_map,List.length_range]; (clear b a b2 b1 hy hx hk; omega)
      · unfold few at hr
        obtain ⟨j,hj,rfl⟩:=List.mem_map.mp hr
        exact .rest ((a.ls cn0).okN (by (clear hr hj c b a b2 b1 hy hx; omega)) hx hy) b c
  | @pl d h p a b c =>
    intro g
    unfold fo
    cases g
    · exact .all (by show 2≤100; decide) (fm2 (Hq a b1) (Hq a b2))
    · exact .any (by show 2≤100; decide) (fm2 (Hq a b1) (Hq a b2))
  | @all d l hl _ ih =>
    intro g
    unfold fo
    rw [Bw]
    have q:∀ r∈l.map fun r=>fo r g,Fm N (d+1) r:=fun r hr=>by
      obtain ⟨u,hu,rfl⟩:=List.mem_map.mp hr
      exact ih u hu g
    cases g
    · exact .all (by rw [List.length_map]; (clear q ih b2 b1 hy hx hk; omega)) q
    · exact .any (by rw [List.length_map]; (clear q ih b2 b1 hy hx hk; omega)) q
  | @any d l hl _ ih =>
    intro g
    unfold fo
    rw [Bw]
    have q:∀ r∈l.map fun r=>fo r g,Fm N (d+1) r:=fun r hr=>by
      obtain ⟨u,hu,rfl⟩:=List.mem_map.mp hr
      exact ih u hu g
    cases g
    · exact .any (by rw [List.length_map]; (clear q ih b2 b1 hy hx hk; omega)) q
    · exact .all (by rw [List.length_map]; (clear q ih b2 b1 hy hx hk; omega)) q
  | @no d r _ ih =>
    intro g
    unfold fo
    exact (ih (!g)).up
end
end K
end
noncomputable section
set_option linter.all false
set_option maxRecDepth 100000
set_option maxHeartbeats 1000000
set_option autoImplicit false
namespace K
open C PySem
noncomputable section
variable {B:List (C.Key × T)} {N:List Str} {k:Int}
theorem a98 {s:Sm} {m:Int} (c:Cn k s) (a:2≤m):(few s m).any (tv B)=!(val B s%m==0):=by
  unfold few
  rw [List.any_map]
  have h0:=Int.emod_nonneg (val B s) (show m≠0 by omega)
  have h1:=Int.emod_lt_of_pos (val B s) (show 0<m by (clear h0 c; omega))
  have step:∀ j:Nat,(j:Int)<m - 1→((tv B ∘ fun (k:Nat)=>Rem.rest (ls s (1+(k:Int),[])) m) j=true↔val B s%m=1+(j:Int)):=fun j hj=>by
    rw [Function.comp_apply]
    unfold tv
    rw [V3 c cn0]
    have z:val B (1+(j:Int),[])=1+(j:Int):=by simp [val]
    rw [z]
    simp only [beq_iff_eq]
    have:(val B s - (1+(j:Int)))%m=0↔(val B s)%m=(1+(j:Int))%m:=(Int.emod_eq_emod_iff_emod_sub_eq_zero).symm
    rw [this,Int.emod_eq_of_lt (a:=1+(j:Int)) (by (clear this z hj h1 h0 a c; omega)) (by (clear this z h1 h0 a c; omega))]
  by_cases hz:val B s%m=0
  · have:(val B s%m==0)=true:=by simpa using hz
    rw [this,Bool.not_true,List.any_eq_false]
    intro j hj hq
    have hj':=List.mem_range.mp hj -- here
    have:=(step j (by (clear hq hj this hz step h1 h0 a c; omega))).mp hq
    (clear hj' hq hj step h1 h0 a c; omega)
  · have:(val B s%m==0)=false:=by simpa using hz
    rw [this,Bool.not_false,List.any_eq_true]
    exact ⟨(val B s%m - 1).toNat,List.mem_range.mpr (by (clear this step a c; omega)),(step _ (by (clear this step a c; omega))).mpr (by (clear this step h1 a c; omega))⟩
theorem val_one {x:Str} {n v:Int}:val B (n,[(x,v)])=n+v * bk B x:=by simp [val]
theorem K8 {g:Bool}:∀ {l:List Rem},(∀ r∈l,tv B (fo r g)=(tv B r ^^ g))→((l.map fun r=>fo r g).all (tv B)=l.all fun r=>tv B r ^^ g)∧((l.map fun r=>fo r g).any (tv B)=l.any fun r=>tv B r ^^ g)
  | [],_=>⟨rfl,rfl⟩
  | r::l,h=>by
    obtain ⟨a,b⟩:=K8 fun q hq=>h q (List.mem_cons_of_mem _ hq)
    rw [List.map_cons,List.all_cons,List.any_cons,List.all_cons,List.any_cons,a,b,h r List.mem_cons_self]
    exact ⟨rfl,rfl⟩
theorem T7:∀ {l:List Rem},(l.any fun r=>tv B r ^^ true)=(l.all (tv B) ^^ true)∧(l.all fun r=>tv B r ^^ true)=(l.any (tv B) ^^ true)
  | []=>⟨rfl,rfl⟩
  | r::l=>by
    obtain ⟨a,b⟩:=T7 (l:=l)
    rw [List.any_cons,List.all_cons,List.any_cons,List.all_cons,a,b]
    cases tv B r <;> cases l.all (tv B) <;> cases l.any (tv B) <;> exact ⟨rfl,rfl⟩
theorem Xo {d:Nat} {r:Rem} (h:Dr N k d r):∀ g,tv B (fo r g)=(tv B r ^^ g):=by
  induction h with
  | @most d s c =>
    intro g
    unfold fo tv
    cases g
    · simp
    · have z:val B (1,[])=1:=rfl
      simp only [if_true,V3 cn0 c,Bool.bne_true,z]
      by_cases h:val B s≤0
      · simp only [h,decide_true,Bool.not_true,decide_eq_false_iff_not]; (clear z c; omega)
      · simp only [h,decide_false,Bool.not_false,decide_eq_true_eq]; (clear z c; omega)
  | @rest d s m c a b =>
    intro g
    unfold fo
    cases g
    · simp
    · simp only [if_true]
      unfold tv
      rw [vm,a98 c a]; simp
  | @pl d h p a b c =>
    intro g
    unfold fo
    cases g
    · simp only [Bool.false_eq_true,if_false,tv,Jg,val_one,Bool.bne_false,Bool.and_true]
      by_cases e:bk B ("@" ++ h)=p
      · simp only [e]; simp; (clear e c b a; omega)
      · have:(bk B ("@" ++ h)==p)=false:=by simpa using e
        rw [this]
        simp only [Bool.and_eq_false_iff,decide_eq_false_iff_not]
        (clear this c b a; omega)
    · simp only [if_true,tv,Rf,val_one,Bool.bne_true,Bool.or_false]
      by_cases e:bk B ("@" ++ h)=p
      · simp only [e]; simp; (clear e c b a; omega)
      · have:(bk B ("@" ++ h)==p)=false:=by simpa using e
        rw [this]
        simp only [Bool.not_false,Bool.or_eq_true,decide_eq_true_eq]
        (clear this c b a; omega)
  | @all d l hl _ ih =>
    intro g
    unfold fo
    rw [Bw]
    cases g
    · rw [if_neg (by simp)]
      unfold tv
      rw [xu,xu,(K8 fun r hr=>ih r hr false).1]
      simp
    · rw [if_pos rfl]
      unfold tv
      rw [vm,xu,(K8 fun r hr=>ih r hr true).2,T7.1]
  | @any d l hl _ ih =>
    intro g
    unfold fo
    rw [Bw]
    cases g
    · rw [if_neg (by simp)]
      unfold tv
      rw [vm,vm,(K8 fun r hr=>ih r hr false).2]
      simp
    · rw [if_pos rfl]
      unfold tv
      rw [xu,vm,(K8 fun r hr=>ih r hr true).1,T7.2]
  | @no d r _ ih =>
    intro g
    unfold fo
    rw [ih (!g),tv]
    cases tv B r <;> cases g <;> rfl
end
end K
end
noncomputable section
set_option linter.all false
set_option maxRecDepth 100000
set_option maxHeartbeats 1000000
set_option autoImplicit false
namespace K
open C PySem
noncomputable section
variable {B B':List (C.Key × T)} {N:List Str} {D:List (Str × Sm)} {h:Str} {to:Int}
theorem aaj:Cn 2 (a0v "x"):=⟨fun c=>if c=Str.ofString "x" then 1 else 0,by decide +kernel,by decide +kernel,by decide +kernel,by decide +kernel,by decide +kernel,by decide +kernel⟩
theorem ab9:Cn 2 (a0v "y"):=⟨fun c=>if c=Str.ofString "y" then 1 else 0,by decide +kernel,by decide +kernel,by decide +kernel,by decide +kernel,by decide +kernel,by decide +kernel⟩
theorem Xh {b:Str} (hb:Cn 2 (a0v b)):∀ {D:List (Str × Sm)},(∀ p∈D,Cn 2 p.2)→Cn 2 (inn D b)
  | [],_=>hb
  | (k,s)::r,hD=>by
    unfold inn
    by_cases e:k=b
    · rw [if_pos e]; exact hD _ List.mem_cons_self
    · rw [if_neg e]; exact Xh hb fun p hp=>hD p (List.mem_cons_of_mem _ hp)
theorem a9t {a b:Int} (h1:-2≤a) (h2:a≤2) (h3:-2≤b) (h4:b≤2):-4≤a * b∧a * b≤4:=by
  obtain e | e | e | e | e:a = -2∨a = -1∨a=0∨a=1∨a=2:=by (clear h4 h3; omega)
  all_goals subst e; (clear h2 h1; omega)
theorem abv {l:List Pr} {G:Str→Int}:(l.map fun p=>G p.1 * p.2)=l.map fun p=>p.2 * G p.1:=List.map_congr_left fun p _=>Int.mul_comm _ _
structure Fx (D:List (Str × Sm)) (s:Sm) (f gx gy:Str→Int):Prop where
  s:s.2=canon U3 f
  s0:f "b2" = 0
  x:(inn D "x").2=canon U3 gx
  x0:gx "b2" = 0
  y:(inn D "y").2=canon U3 gy
  y0:gy "b2" = 0
  b:(-2≤f "x" ∧ f "x" ≤ 2)∧-2≤f "y" ∧ f "y" ≤ 2
  c:(-2≤gx "x" ∧ gx "x" ≤ 2)∧-2≤gx "y" ∧ gx "y" ≤ 2
  d:(-2≤gy "x" ∧ gy "x" ≤ 2)∧-2≤gy "y" ∧ gy "y" ≤ 2
theorem fx (hD:∀ p∈D,Cn 2 p.2) {s:Sm} (c:Cn 2 s):∃ f gx gy,Fx D s f gx gy:=by
  obtain ⟨f,e,e0,h1,h2,h3,h4⟩:=c
  obtain ⟨gx,ex,x0,x1,x2,x3,x4⟩:=Xh aaj hD
  obtain ⟨gy,ey,y0,y1,y2,y3,y4⟩:=Xh ab9 hD
  exact ⟨f,gx,gy,e,e0,ex,x0,ey,y0,⟨⟨h1,h2⟩,h3,h4⟩,⟨⟨x1,x2⟩,x3,x4⟩,⟨⟨y1,y2⟩,y3,y4⟩⟩
theorem a4p {s:Sm} {f gx gy:Str→Int} (q:Fx D s f gx gy) {c:Str} (hc:c∈U3):pF D s.2 c=f "x" * gx c+f "y" * gy c:=by
  unfold pF
  rw [q.s,abv (G:=fun b=>gt (inn D b).2 c),csum (G:=fun b=>gt (inn D b).2 c),q.s0,q.x,q.y,cgt hc,cgt hc]
  (clear hc q; omega)
theorem ad7 {s:Sm} {f gx gy:Str→Int} (q:Fx D s f gx gy):pN D s.2=f "x" * (inn D "x").1+f "y" * (inn D "y").1:=by
  unfold pN
  rw [q.s,abv (G:=fun b=>(inn D b).1),csum (G:=fun b=>(inn D b).1),q.s0]
  omega
theorem a99 (hD:∀ p∈D,Cn 2 p.2) {s:Sm} (c:Cn 2 s):Cn 8 (pu D s):=by
  obtain ⟨f,gx,gy,q⟩:=fx hD c
  obtain ⟨⟨h1,h2⟩,h3,h4⟩:=q.b
  obtain ⟨⟨x1,x2⟩,x3,x4⟩:=q.c
  obtain ⟨⟨y1,y2⟩,y3,y4⟩:=q.d
  have a1:=a9t h1 h2 x1 x2
  have a2:=a9t h1 h2 x3 x4
  have a3:=a9t h3 h4 y1 y2
  have a4:=a9t h3 h4 y3 y4
  refine ⟨pF D s.2,rfl,?_,?_,?_,?_,?_⟩
  · rw [a4p q u3b,q.x0,q.y0]; (clear a4 a3 a2 a1 y4 y3 y2 y1 x4 x3 x2 x1 h4 h3 h2 h1 q c hD; omega)
  · rw [a4p q u3x]; (clear a4 a2 y4 y3 y2 y1 x4 x3 x2 x1 h4 h3 h2 h1 q c hD; omega)
  · rw [a4p q u3x]; (clear a4 a2 y4 y3 y2 y1 x4 x3 x2 x1 h4 h3 h2 h1 q c hD; omega)
  · rw [a4p q u3y]; (clear a3 a1 y4 y3 y2 y1 x4 x3 x2 x1 h4 h3 h2 h1 q c hD; omega)
  · rw [a4p q u3y]; (clear a3 a1 y4 y3 y2 y1 x4 x3 x2 x1 h4 h3 h2 h1 q c hD; omega)
theorem Yw {s:Sm} {f:Str→Int} (e:s.2=canon U3 f):val B s=s.1+(f "b2" * bk B "b2" + f "x" * bk B "x" + f "y" * bk B "y"):=by
  obtain ⟨n,l⟩:=s
  dsimp only at e
  subst e
  exact X8
structure Beh (D:List (Str × Sm)) (h:Str) (to:Int) (B B':List (C.Key × T)):Prop where
  x:bk B' "x" = val B (inn D "x")
  y:bk B' "y" = val B (inn D "y")
  a:bk B' ("@" ++ h)=to
  o:∀ k:Str,¬ k=h→bk B' ("@" ++ k)=bk B ("@" ++ k)
theorem a3u (b:Beh D h to B B') (hD:∀ p∈D,Cn 2 p.2) {s:Sm} (c:Cn 2 s):val B (pu D s)=val B' s:=by
  obtain ⟨f,gx,gy,q⟩:=fx hD c
  have e:val B (pu D s)=(s.1+pN D s.2)+(pF D s.2 "b2" * bk B "b2" + pF D s.2 "x" * bk B "x" + pF D s.2 "y" * bk B "y"):=X8
  rw [e,ad7 q,a4p q u3b,a4p q u3x,a4p q u3y,Yw q.s,b.x,b.y,Yw q.x,Yw q.y,q.s0,q.x0,q.y0]
  simp only [Int.add_mul,Int.mul_add,Int.mul_assoc,Int.zero_mul,Int.mul_zero]
  (clear e q c hD b; omega)
theorem a7l (hD:∀ p∈D,Cn 2 p.2) {d:Nat} {r:Rem} (o:Dr N 2 d r):Dr N 8 (d+1) (bh D h to r):=by
  induction o with
  | most a=>unfold bh; exact .most (a99 hD a)
  | rest a b c=>unfold bh; exact .rest (a99 hD a) b c
  | @pl d k p a b c =>
    unfold bh
    split
    · split
      · exact .all (by show 0≤6; (clear c b a hD; omega)) fun r hr=>by cases hr
      · exact .any (by show 0≤6; (clear c b a hD; omega)) fun r hr=>by cases hr
    · exact .pl a b c
  | @all d l a _ ih =>
    unfold bh
    rw [Ce]
    refine .all (by rw [List.length_map]; exact a) fun r hr=>?_
    obtain ⟨u,hu,rfl⟩:=List.mem_map.mp hr
    exact ih u hu
  | @any d l a _ ih =>
    unfold bh
    rw [Ce]
    refine .any (by rw [List.length_map]; exact a) fun r hr=>?_
    obtain ⟨u,hu,rfl⟩:=List.mem_map.mp hr
    exact ih u hu
  | no _ ih=>unfold bh; exact .no ih
theorem Gv {f g:Rem→Bool}:∀ {l:List Rem},(∀ r∈l,f r=g r)→l.all f=l.all g∧l.any f=l.any g
  | [],_=>⟨rfl,rfl⟩
  | r::l,h=>by
    obtain ⟨a,b⟩:=Gv fun q hq=>h q (List.mem_cons_of_mem _ hq)
    rw [List.all_cons,List.any_cons,List.all_cons,List.any_cons,a,b,h r List.mem_cons_self]
    exact ⟨rfl,rfl⟩
theorem aa5 (b:Beh D h to B B') (hD:∀ p∈D,Cn 2 p.2) {d:Nat} {r:Rem} (o:Dr N 2 d r):tv B (bh D h to r)=tv B' r:=by
  induction o with
  | most a=>unfold bh tv; rw [a3u b hD a]
  | rest a _ _=>unfold bh tv; rw [a3u b hD a]
  | @pl d k p _ _ _ =>
    unfold bh
    by_cases e:k=h
    · subst e
      rw [if_pos rfl]
      by_cases q:p=to
      · subst q
        rw [if_pos rfl]
        unfold tv
        rw [b.a,Jg]; simp
      · rw [if_neg q]
        unfold tv
        rw [b.a,Rf]
        exact (beq_eq_false_iff_ne.mpr (fun z=>q z.symm)).symm
    · rw [if_neg e]
      unfold tv
      rw [b.o k e]
  | @all d l a _ ih =>
    unfold bh tv
    rw [Ce,xu,xu,List.all_map]
    exact (Gv (f:=tv B ∘ bh D h to) fun r hr=>ih r hr).1
  | @any d l a _ ih =>
    unfold bh tv
    rw [Ce,vm,vm,List.any_map]
    exact (Gv (f:=tv B ∘ bh D h to) fun r hr=>ih r hr).2
  | no _ ih=>unfold bh tv; rw [ih]
end
end K
end
noncomputable section
set_option linter.all false
set_option maxRecDepth 100000
set_option maxHeartbeats 1000000
set_option autoImplicit false
namespace K
open C PySem
theorem Zx {g:G} {b:S} {t:T} {r:List T} {s s1 s2:Sta} (h:g t s=some s1) (hb:b s1=some (.next,s2)):forL g b (t::r) s=forL g b r s2:=by
  rw [forL]; dsimp only; rw [h]; dsimp only; rw [hb]
theorem Mg {q k:C.Key} {t:T}:∀ kvs:List (C.Key × T),Av q (Cz k t kvs)=if q=k then some t else Av q kvs:=by
  intro kvs
  have hmap:∀ l:List (C.Key × T),Av q (l.map fun p=>if p.1=k then (p.1,t) else p)=if q=k then (Av q l).map (fun _=>t) else Av q l:=fun l=>by
    induction l with
    | nil=>simp [Av]
    | cons p l ih =>
      obtain ⟨a,v⟩:=p
      rw [List.map_cons]
      by_cases h1:a=k
      · subst h1
        simp only [if_true,Av,ih]
        by_cases h2:a=q
        · subst h2; simp
        · simp only [if_neg h2]
      · simp only [if_neg h1,Av,ih]
        by_cases h2:a=q
        · subst h2; simp [h1]
        · simp only [if_neg h2]
  have happ:∀ l:List (C.Key × T),(l.any fun p=>decide (p.1=k))=false→Av q (l++[(k,t)])=if q=k then some t else Av q l:=fun l=>by
    induction l with
    | nil=>intro _; simp [Av,eq_comm]
    | cons p l ih =>
      obtain ⟨a,v⟩:=p
      intro h
      rw [List.any_cons,Bool.or_eq_false_iff] at h
      have h1:¬ a=k:=by simpa using h.1
      rw [List.cons_append,Av,Av,ih h.2]
      by_cases h2:a=q
      · subst h2; simp [h1]
      · simp only [if_neg h2]
  have hany:∀ l:List (C.Key × T),(l.any fun p=>decide (p.1=k))=true→∃ v,Av k l=some v:=fun l=>by
    induction l with
    | nil=>intro h; cases h
    | cons p l ih =>
      obtain ⟨a,v⟩:=p
      intro h
      rw [Av]
      by_cases e:a=k
      · exact ⟨v,if_pos e⟩
      · rw [if_neg e]; refine ih ?_
        rw [List.any_cons] at h; simpa [e] using h
  unfold Cz
  split
  · rename_i h
    rw [hmap]
    by_cases e:q=k
    · subst e
      obtain ⟨v,hv⟩:=hany _ h
      simp [hv]
    · simp [e]
  · rename_i h
    exact happ _ (Bool.eq_false_iff.mpr h)
noncomputable def pt1 (B:List (C.Key × T)) (d:List (C.Key × T)) (p:Str × Sm):List (C.Key × T):=Cz (.inr p.1) (.int (val B p.2)) d
noncomputable def beh (D:List (Str × Sm)) (h:Str) (to:Int) (B:List (C.Key × T)):List (C.Key × T):=Cz (.inr ("@" ++ h)) (.int to) (D.foldl (pt1 B) B)
noncomputable def inB (d:List (C.Key × T)) (b:Bx):Bool:=decide (b.lo≤bk d b.nm)&&decide (bk d b.nm≤b.hi)
theorem Jh {x y:Str} {v:Int} {d:List (C.Key × T)}:bk (Cz (.inr y) (.int v) d) x=if x=y then v else bk d x:=by
  unfold bk
  rw [Mg]
  by_cases e:x=y
  · rw [if_pos e,if_pos (by rw [e])]
  · rw [if_neg e,if_neg (fun z=>e (Sum.inr.inj z))]
theorem Bk.put {N:List Str} {d:List (C.Key × T)} (h:Bk N d) {y:Str} {v:Int}:Bk N (Cz (.inr y) (.int v) d):=fun x hx=>by
  rw [Mg]
  by_cases e:(Sum.inr x:C.Key)=.inr y
  · exact ⟨v,by rw [if_pos e]⟩
  · obtain ⟨w,hw⟩:=h x hx
    exact ⟨w,by rw [if_neg e]; exact hw⟩
theorem Bk.puts {N:List Str} {B:List (C.Key × T)}:∀ {D:List (Str × Sm)} {d:List (C.Key × T)},Bk N d→Bk N (D.foldl (pt1 B) d)
  | [],_,h=>h
  | p::D,d,h=>Bk.puts (D:=D) (d:=pt1 B d p) h.put
noncomputable section
variable {B d:List (C.Key × T)} {N:List Str} {D:List (Str × Sm)} {h:Str} {to:Int} {sto:List SO}
theorem Rp {x:Str}:∀ {D:List (Str × Sm)} {d:List (C.Key × T)},(D.map (·.1)).Nodup→bk (D.foldl (pt1 B) d) x=if x∈D.map (·.1) then val B (inn D x) else bk d x
  | [],d,_=>by simp
  | (k,s)::D,d,nd=>by
    rw [List.map_cons,List.nodup_cons] at nd
    have iq:inn ((k,s)::D) x=if k=x then s else inn D x:=by rw [inn]
    rw [List.foldl_cons,Rp nd.2,iq]
    by_cases e:x=k
    · subst e
      rw [if_neg nd.1,if_pos (by simp),if_pos rfl]
      unfold pt1
      rw [Jh,if_pos rfl]
    · have ne:¬ k=x:=fun z=>e z.symm
      rw [List.map_cons,if_neg ne]
      by_cases m:x∈D.map (·.1)
      · rw [if_pos m,if_pos (List.mem_cons_of_mem _ m)]
      · rw [if_neg m,if_neg (by simp only [List.mem_cons,not_or]; exact ⟨e,m⟩)]
        unfold pt1
        rw [Jh,if_neg e]
theorem Rv {x:Str}:∀ {D:List (Str × Sm)},x∉D.map (·.1)→inn D x=a0v x
  | [],_=>rfl
  | (k,s)::D,h=>by
    rw [List.map_cons,List.mem_cons,not_or] at h
    unfold inn
    rw [if_neg (fun z=>h.1 z.symm)]
    exact Rv h.2
theorem V5 {x:Str}:val B (a0v x)=bk B x:=by simp [val,a0v]
theorem Yn {x:Str} (nd:(D.map (·.1)).Nodup):bk (D.foldl (pt1 B) B) x=val B (inn D x):=by
  rw [Rp nd]
  by_cases m:x∈D.map (·.1)
  · rw [if_pos m]
  · rw [if_neg m,Rv m,V5]
theorem a3s {x y:Str} (h:("@" ++ x:Str) = "@" ++ y):x=y:=by
  have:(Str.ofString "@").cps++x.cps=(Str.ofString "@").cps++y.cps:=congrArg Str.cps h
  have e:=congrArg Array.toList this
  rw [Array.toList_append,Array.toList_append] at e
  have:=List.append_cancel_left e
  cases x; cases y
  exact congrArg Str.mk (Array.toList_inj.mp this)
theorem Q9 {x y:Str} (h:x=Str.ofString "x" ∨ x=Str.ofString "y"):¬ x = "@" ++ y:=fun e=>by
  have:(("@" ++ y:Str).cps.toList)[0]? = some 64:=by
    show ((Str.ofString "@").cps++y.cps).toList[0]? = some 64
    rw [Array.toList_append]; rfl
  rw [← e] at this
  rcases h with rfl | rfl <;> (revert this; decide +kernel)
end
end K
end
noncomputable section
set_option linter.all false
set_option maxRecDepth 100000
set_option maxHeartbeats 1000000
set_option autoImplicit false
namespace K
open C PySem
theorem Qu {g:G} {b:S} {t v:T} {r:List T} {s s1 s2:Sta} (h:g t s=some s1) (hb:b s1=some (.ret v,s2)):forL g b (t::r) s=some (.ret v,s2):=by
  rw [forL]; dsimp only; rw [h]; dsimp only; rw [hb]
theorem Nf {k:C.Key} {t:T} {d:List (C.Key × T)}:(Cz k t d).length≤d.length+1:=by
  unfold Cz
  split
  · rw [List.length_map]; omega
  · rw [List.length_append]; exact Nat.le_refl _
theorem M9 {B:List (C.Key × T)}:∀ {D:List (Str × Sm)} {d:List (C.Key × T)},(D.foldl (pt1 B) d).length≤d.length+D.length
  | [],d=>Nat.le_refl _
  | p::D,d=>by
    have a:=M9 (B:=B) (D:=D) (d:=pt1 B d p)
    have b:(pt1 B d p).length≤d.length+1:=Nf
    rw [List.foldl_cons,List.length_cons]; omega
noncomputable section
variable {B d:List (C.Key × T)} {N:List Str} {D:List (Str × Sm)} {h:Str} {to:Int} {sto:List SO} {P S:T}
end
end K
end
noncomputable section
set_option linter.all false
set_option maxRecDepth 100000
set_option maxHeartbeats 1000000
set_option autoImplicit false
namespace K
open C PySem
noncomputable section
variable {B d:List (C.Key × T)} {N:List Str} {D:List (Str × Sm)} {h:Str} {here to:Int} {g:T} {sto:List SO} {bs:List Bx} {hs:List Hd} {ss:List T}
theorem a3r (hB:Bk N B):Bk N (beh D h to B):=by
  unfold beh; exact (hB.puts).put
theorem a4q (nd:(D.map (·.1)).Nodup) (hD:∀ p∈D,p.1=Str.ofString "x" ∨ p.1=Str.ofString "y"):Beh D h to B (beh D h to B):=by
  unfold beh
  refine ⟨?_,?_,?_,fun k hk=>?_⟩
  · rw [Jh,if_neg (Q9 (.inl rfl)),Yn nd]
  · rw [Jh,if_neg (Q9 (.inr rfl)),Yn nd]
  · rw [Jh,if_pos rfl]
  · have hn:¬ (("@" ++ k:Str) = "@" ++ h):=fun e=>hk (a3s e)
    rw [Jh,if_neg hn,Rp nd,if_neg (fun m=>?_)]
    obtain ⟨p,hp,e⟩:=List.mem_map.mp m
    exact Q9 (hD p hp) e
end
end K
end
noncomputable section
set_option linter.all false
set_option maxRecDepth 100000
set_option maxHeartbeats 1000000
set_option autoImplicit false
namespace K
open C PySem
noncomputable section
variable {B d:List (C.Key × T)} {N:List Str} {D:List (Str × Sm)} {hand:Str} {here to:Int} {sto:List SO} {bs:List Bx} {g a:Rem} {l:List ((Str × Int) × Rem)}
noncomputable def wi (bs:List Bx) (p:Str × Sm):Rem:=.all [.most (ls ((bAt bs p.1).1,[]) p.2),.most (ls p.2 ((bAt bs p.1).2,[]))]
noncomputable def gv (bs:List Bx) (D:List (Str × Sm)) (g:Rem) (l:List ((Str × Int) × Rem)):List Rem:=(l.map fun p=>fo (.pl p.1.1 p.1.2) false)++(l.map fun p=>fo p.2 false)++[fo g false]++D.map (wi bs)
theorem Fm.le {d e:Nat} {r:Rem} (h:Fm N d r) (hd:d≤e):Fm N e r:=by
  induction hd with
  | refl=>exact h
  | step _ ih=>exact ih.up
theorem acq (hl:∀ p∈l,Dr N 2 3 p.2∧okS p.1.1∧p.1.1.length<100) (hg:Dr N 2 3 g):(gv bs D g l).map jg=Wf bs D g l:=by
  have f1:∀ p∈l,jg (fo (.pl p.1.1 p.1.2) false)=eqF ("@" ++ p.1.1) p.1.2:=fun p hp=>by
    have:=(a9l (OkR.pl (Q:=Bd) (d:=0) (p:=p.1.2) (hl p hp).2.1 (hl p hp).2.2)).1
    rw [this]; unfold pfT; rfl
  have f2:∀ p∈l,jg (fo p.2 false)=pfT p.2:=fun p hp=>(a9l ((hl p hp).1.ok (by decide))).1
  have f3:jg (fo g false)=pfT g:=(a9l (hg.ok (by decide))).1
  have f4:∀ p∈D,jg (wi bs p)=wiT (bAt bs p.1).1 (bAt bs p.1).2 p.2:=fun p _=>by unfold wi wiT; rw [a3p]; rfl
  unfold gv Wf
  rw [List.map_append,List.map_append,List.map_append,List.map_map,List.map_map,List.map_map,List.map_cons,List.map_nil,f3]
  have e1:l.map (jg ∘ fun p=>fo (.pl p.1.1 p.1.2) false)=l.map fun p=>eqF ("@" ++ p.1.1) p.1.2:=List.map_congr_left f1
  have e2:l.map (jg ∘ fun p=>fo p.2 false)=l.map fun p=>pfT p.2:=List.map_congr_left f2
  have e4:D.map (jg ∘ wi bs)=D.map fun p=>wiT (bAt bs p.1).1 (bAt bs p.1).2 p.2:=List.map_congr_left f4
  rw [e1,e2,e4]
theorem aao (hx:(Str.ofString "x")∈N) (hy:(Str.ofString "y")∈N) (hl:∀ p∈l,Dr N 2 3 p.2∧okS p.1.1∧p.1.1.length<100) (hm:∀ p∈l,("@" ++ p.1.1:Str)∈N) (hg:Dr N 2 3 g) (hD:∀ p∈D,Cn 2 p.2):∀ f∈gv bs D g l,Fm N 6 f:=by
  intro f hf
  unfold gv at hf
  rw [List.mem_append,List.mem_append,List.mem_append,List.mem_singleton] at hf
  rcases hf with ((hf | hf) | hf) | hf
  · obtain ⟨p,hp,rfl⟩:=List.mem_map.mp hf
    exact (Xv (d:=3) (k:=2) (by decide) hx hy (.pl (hm p hp) (hl p hp).2.1 (hl p hp).2.2) false).le (by decide)
  · obtain ⟨p,hp,rfl⟩:=List.mem_map.mp hf
    exact (Xv (by decide) hx hy (hl p hp).1 false).le (by decide)
  · subst hf
    exact (Xv (by decide) hx hy hg false).le (by decide)
  · obtain ⟨p,hp,rfl⟩:=List.mem_map.mp hf
    have c:=hD p hp
    exact .all (by show 2≤100; decide) (fm2 ((cn0.ls c).okN (by decide) hx hy) ((c.ls cn0).okN (by decide) hx hy))
noncomputable def win (B:List (C.Key × T)) (bs:List Bx) (p:Str × Sm):Bool:=decide ((bAt bs p.1).1≤val B p.2)&&decide (val B p.2≤(bAt bs p.1).2)
theorem ab0 {p:Str × Sm} (c:Cn 2 p.2):tv B (wi bs p)=win B bs p:=by
  unfold wi win tv
  rw [Jg,Jg,Jg,tv,tv,V3 cn0 c,V3 c cn0]
  have z:∀ n:Int,val B (n,[])=n:=fun n=>by simp [val]
  rw [z,z,Bool.and_true]
  congr 1
  · exact decide_eq_decide.mpr (by (clear z c; omega))
  · exact decide_eq_decide.mpr (by (clear z c; omega))
theorem all_map' {α:Type} {f:α→Rem} {q:α→Bool}:∀ {l:List α},(∀ x∈l,tv B (f x)=q x)→(l.map f).all (tv B)=l.all q
  | [],_=>rfl
  | x::l,h=>by rw [List.map_cons,List.all_cons,List.all_cons,all_map' fun y hy=>h y (List.mem_cons_of_mem _ hy),h x List.mem_cons_self]
theorem ab2 (hl:∀ p∈l,Dr N 2 3 p.2∧okS p.1.1∧p.1.1.length<100) (hm:∀ p∈l,("@" ++ p.1.1:Str)∈N) (hg:Dr N 2 3 g) (hD:∀ p∈D,Cn 2 p.2) :
    (gv bs D g l).all (tv B)=((((l.all fun p=>bk B ("@" ++ p.1.1)==p.1.2)&&l.all fun p=>tv B p.2)&&tv B g)&&D.all (win B bs)):=by
  unfold gv
  rw [List.all_append,List.all_append,List.all_append,List.all_cons,List.all_nil,Bool.and_true]
  rw [all_map' (q:=fun p:(Str × Int) × Rem=>bk B ("@" ++ p.1.1)==p.1.2) (fun p hp=>by
      rw [Xo (Dr.pl (d:=3) (k:=2) (hm p hp) (hl p hp).2.1 (hl p hp).2.2) false,Bool.xor_false]; unfold tv; rfl)]
  rw [all_map' (q:=fun p:(Str × Int) × Rem=>tv B p.2) (fun p hp=>by rw [Xo (hl p hp).1 false,Bool.xor_false])]
  rw [all_map' (f:=wi bs) (q:=win B bs) (fun p hp=>ab0 (hD p hp)),Xo hg false,Bool.xor_false]
theorem S8 {b:Bx}:∀ {bs:List Bx},(bs.map (·.nm)).Nodup→b∈bs→bAt bs b.nm=(b.lo,b.hi)
  | [],_,h=>by cases h
  | x::bs,nd,h=>by
    rw [List.map_cons,List.nodup_cons] at nd
    unfold bAt
    rcases List.mem_cons.mp h with e | h -- here
    · subst e; rw [if_pos rfl]
    · have ne:¬ x.nm=b.nm:=fun e=>nd.1 (e ▸ List.mem_map.mpr ⟨b,h,rfl⟩)
      rw [if_neg ne]; exact S8 nd.2 h
theorem Rw {p:Str × Sm}:∀ {D:List (Str × Sm)},(D.map (·.1)).Nodup→p∈D→inn D p.1=p.2
  | [],_,h=>by cases h
  | (k,s)::D,nd,h=>by
    rw [List.map_cons,List.nodup_cons] at nd
    have iq:inn ((k,s)::D) p.1=if k=p.1 then s else inn D p.1:=by rw [inn]
    rw [iq]
    rcases List.mem_cons.mp h with e | h -- here
    · subst e; rw [if_pos rfl]
    · have ne:¬ k=p.1:=fun e=>nd.1 (e ▸ List.mem_map.mpr ⟨p,h,rfl⟩)
      rw [if_neg ne]; exact Rw nd.2 h
theorem inside (nb:(bs.map (·.nm)).Nodup) (nD:(D.map (·.1)).Nodup) (hD:∀ p∈D,p.1∈bs.map (·.nm)) (hb:∀ b∈bs,b.nm=Str.ofString "x" ∨ b.nm=Str.ofString "y") (hi:∀ b∈bs,inB B b=true) :
    bs.all (inB (beh D hand to B))=D.all (win B bs):=by
  have e:∀ b∈bs,bk (beh D hand to B) b.nm=val B (inn D b.nm):=fun b h=>by
    unfold beh
    rw [Jh,if_neg (Q9 (hb b h)),Yn nD]
  rw [Bool.eq_iff_iff,List.all_eq_true,List.all_eq_true] -- here
  refine ⟨fun h p hp=>?_,fun h b hm=>?_⟩
  · obtain ⟨b,hm,q⟩:=List.mem_map.mp (hD p hp)
    have z:=h b hm
    unfold inB at z
    rw [e b hm,q,Rw nD hp] at z
    unfold win
    rw [← q,S8 nb hm]
    exact z
  · unfold inB
    rw [e b hm]
    by_cases m:b.nm∈D.map (·.1)
    · obtain ⟨p,hp,q⟩:=List.mem_map.mp m
      have z:=h p hp
      unfold win at z
      rw [q,S8 nb hm] at z
      rw [← q,Rw nD hp]
      exact z
    · rw [Rv m,V5]
      exact hi b hm
end
end K
end
noncomputable section
set_option linter.all false
set_option maxRecDepth 100000
set_option maxHeartbeats 1000000
set_option autoImplicit false
namespace K
open C PySem
noncomputable section
variable {sto:List SO} {bs:List Bx} {hs:List Hd} {ss:List T} {n:Nat} {kvs:List (List C.Key × T)} {hand:Str} {Q:Sm→Prop} {d:Nat} {r:Rem} {B B':List (C.Key × T)} {N:List Str} {k:Int}
theorem Sw (lb:bs.length≤3) (lh:hs.length≤4) (hn:∀ h∈hs,h.1.length<100) (hs':sto[n]? = some (.dit kvs)) (hx:Bv [.inr hand,.inl 0] kvs=some (jg r)) (o:OkR Q d r) (hd:d<40) :
    ud [prT bs hs ss,.obj n,.str hand] sto=some (.lst (startT bs hs r),sto):=by
  have A:sNew 3 (mj 1 [] (hName 0) (m5 (mOp cu (bf 0) (au (.int 0)))) jm (dw kh (ak (mOp cu (bf 0) (au (.int 0))) (ak (mOp cu (bf 0) (au (.int 4))) dg)))) (qC bs hs ss n hand none sto)=some (.next,qC bs hs ss n hand (some (.lst (bs.map fun b=>eqF b.nm b.st),true)) sto):=by
    unfold sNew; rw [a6s lb fun x i=>Lp]; rfl
  have B:j4 3 (mj 2 [] (qj [0,1]) (m5 (mOp cu (bf 0) (au (.int 1)))) jm (dw kh (ak (dw jy (ak (bf 0) dg)) (ak (au (.int 0)) dg)))) (qC bs hs ss n hand (some (.lst (bs.map fun b=>eqF b.nm b.st),true)) sto)=some (.next,qC bs hs ss n hand (some (.lst ((bs.map fun b=>eqF b.nm b.st)++(hs.map fun h=>eqF ("@" ++ h.1) 0)),true)) sto) :=
    Zv rfl (a65 lh (fun x y hx=>Xk (s1:=⟨[some (.str x,false),y],sto⟩) rfl (Nv hx)) hn fun x i=>Lp) rfl rfl (by simp only [List.length_map]; omega)
  have C':j6 3 (dw (fj 40) (ak (n6 (bf 1) (ig (fun l=>some (.tup l)) (ak (bf 2) (ak (au (.int 0)) dg)))) dg)) (qC bs hs ss n hand (some (.lst ((bs.map fun b=>eqF b.nm b.st)++(hs.map fun h=>eqF ("@" ++ h.1) 0)),true)) sto)=some (.next,qC bs hs ss n hand (some (.lst (startT bs hs r),true)) sto) :=
    a0f (Xk (s1:=qC bs hs ss n hand (some (.lst ((bs.map fun b=>eqF b.nm b.st)++(hs.map fun h=>eqF ("@" ++ h.1) 0)),true)) sto) (Gu (n:=n) (s1:=qC bs hs ss n hand (some (.lst ((bs.map fun b=>eqF b.nm b.st)++(hs.map fun h=>eqF ("@" ++ h.1) 0)),true)) sto) rfl rfl hs' ks2 hx) (forms o 40 hd).2) rfl (by simp only [List.length_append,List.length_map]; omega) rfl
  unfold ud j9
  show (match j8 _ _ (qC bs hs ss n hand none sto) with | some (.ret t,s)=>some (t,s.sto) | some (.next,s)=>some (.non,s.sto) | _=>none)=_
  rw [uq A,uq B,uq C']
  rfl
theorem Gm (lb:bs.length≤3) (lh:hs.length≤4) (hn:∀ h∈hs,h.1.length<100) (hs':sto[n]? = some (.dit kvs)) (hx:Bv [.inr hand,.inl 0] kvs=some (jg r)) (o:OkR Q d r) (hd:d<40) :
    jo [prT bs hs ss,.obj n,Zw hand] sto=some (.lst (startT bs hs r),sto):=by
  have e:=Sw (ss:=ss) lb lh hn hs' hx o hd
  exact zrun (n:=6) (zqr (zk (zt (zo (zo rfl rfl Az) rfl ace)) (zr (zf (zc rfl (zc rfl (zc (zo rfl rfl xq) rfl))) e)))) rfl
theorem val_eq {s:Sm} (h:∀ x∈N,bk B x=bk B' x) (o:okN N s):val B s=val B' s:=by
  unfold val
  rw [List.map_congr_left fun p hp=>by rw [h p.1 (o.2 p hp).1]]
theorem a6f (h:∀ x∈N,bk B x=bk B' x) {d:Nat} {f:Rem} (o:Fm N d f):tv B f=tv B' f:=by
  induction o with
  | most a=>unfold tv; rw [val_eq h a]
  | rest a _ _=>unfold tv; rw [val_eq h a]
  | all _ _ ih=>unfold tv; rw [xu,xu]; exact (Gv ih).1
  | any _ _ ih=>unfold tv; rw [vm,vm]; exact (Gv ih).2
theorem Wv {A:T}:∀ (l:List Rem) (o:Slot),(∀ f∈l,uc [jg f,.dic B] sto=some (.bl (tv B f),sto)) →
    ∃ o':Slot,forL (hName 2) (sIf (yw (iu (dw uc (ak (bf 2) (ak (bf 1) dg))))) (jz (au (.bl false))) tu) (l.map jg) ⟨[some (A,false),some (.dic B,false),o],sto⟩=some (if l.all (tv B) then .next else .ret (.bl false),⟨[some (A,false),some (.dic B,false),o'],sto⟩)
  | [],o,_=>⟨o,by simp [forL]⟩
  | f::l,o,h=>by
    have e:=h f List.mem_cons_self
    have c:yw (iu (dw uc (ak (bf 2) (ak (bf 1) dg)))) ⟨[some (A,false),some (.dic B,false),some (jg f,false)],sto⟩=some (!tv B f,⟨[some (A,false),some (.dic B,false),some (jg f,false)],sto⟩):=a2r (zt (zf0 rfl e))
    cases hv:tv B f with
    | true =>
      rw [hv] at c
      obtain ⟨o',ih⟩:=Wv (A:=A) l (some (jg f,false)) fun g hg=>h g (List.mem_cons_of_mem _ hg)
      refine ⟨o',?_⟩
      rw [List.all_cons,hv,Bool.true_and]
      exact (Cd (t:=jg f) rfl (ze c rfl)).trans ih
    | false =>
      rw [hv] at c
      refine ⟨some (jg f,false),?_⟩
      rw [List.all_cons,hv,Bool.false_and]
      exact Qu (t:=jg f) rfl (zk c (zr rfl))
theorem Ci {F:List Rem} (hl:F.length≤100) (hB:Bk N B) (h:∀ f∈F,Fm N 10 f):qy [.lst (F.map jg),.dic B] sto=some (.bl (F.all (tv B)),sto):=by
  have lm:F.length<lim:=by show _<1000000; omega
  obtain ⟨o',L⟩:=Wv (sto:=sto) (B:=B) (A:=.lst (F.map jg)) F.reverse none fun f hf=>Yr hB (h f (List.mem_reverse.mp hf)) (by decide)
  have J:a6h (bf 0) ⟨[some (.lst (F.map jg),false),some (.dic B,false),none],sto⟩=some (F.reverse.map jg,⟨[some (.lst (F.map jg),false),some (.dic B,false),none],sto⟩):=by
    unfold a6h
    rw [show bf 0 (⟨[some (.lst (F.map jg),false),some (.dic B,false),none],sto⟩:Sta)=some (.lst (F.map jg),⟨[some (.lst (F.map jg),false),some (.dic B,false),none],sto⟩) from rfl]
    dsimp only
    rw [List.length_map,if_pos lm,List.map_reverse]
  rw [List.all_reverse] at L
  cases hv:F.all (tv B) with
  | true =>
    rw [hv,if_pos rfl] at L
    exact zrun (n:=3) (zq (Ig J L) (zr rfl)) rfl
  | false =>
    rw [hv,if_neg (by simp)] at L
    exact zrun (n:=3) (zqr (Ig J L)) rfl
noncomputable def stF (bs:List Bx) (hs:List Hd) (r:Rem):List Rem:=(bs.map fun b=>.all [.most (-b.st,[(b.nm,1)]),.most (b.st,[(b.nm,-1)])])++(hs.map fun h=>.all [.most (-0,[("@" ++ h.1,1)]),.most (0,[("@" ++ h.1,-1)])])++[fo r true]
theorem a5m (o:OkR Q d r):(stF bs hs r).map jg=startT bs hs r:=by
  have e1:∀ (x:Str) (i:Int),jg (.all [.most (-i,[(x,1)]),.most (i,[(x,-1)])])=eqF x i:=fun x i=>by rw [a3p]; rfl
  unfold stF startT
  rw [List.map_append,List.map_append,List.map_map,List.map_map,List.map_cons,List.map_nil,(a9l o).2]
  have a1:bs.map (jg ∘ fun b=>.all [.most (-b.st,[(b.nm,1)]),.most (b.st,[(b.nm,-1)])])=bs.map fun b=>eqF b.nm b.st:=List.map_congr_left fun b _=>e1 b.nm b.st
  have a2:hs.map (jg ∘ fun h=>.all [.most (-0,[("@" ++ h.1,1)]),.most (0,[("@" ++ h.1,-1)])])=hs.map fun h=>eqF ("@" ++ h.1) 0:=List.map_congr_left fun h _=>e1 ("@" ++ h.1) 0
  rw [a1,a2]
theorem a7z {x:Str} {i:Int}:tv B (.all [.most (-i,[(x,1)]),.most (i,[(x,-1)])])=(bk B x==i):=by
  simp only [tv,Jg,val_one,Bool.and_true]
  by_cases e:bk B x=i
  · simp only [e]; simp; omega
  · have:(bk B x==i)=false:=by simpa using e
    rw [this]
    simp only [Bool.and_eq_false_iff,decide_eq_false_iff_not]
    omega
theorem a0a (hx:(Str.ofString "x")∈N) (hy:(Str.ofString "y")∈N) (hb:∀ b∈bs,b.nm∈N) (hh:∀ h∈hs,("@" ++ h.1:Str)∈N) (o:Dr N 2 3 r):∀ f∈stF bs hs r,Fm N 10 f:=by
  intro f hf
  unfold stF at hf
  rw [List.mem_append,List.mem_append,List.mem_singleton] at hf
  have b1:Di 1=true:=by decide
  have b2:Di (-1)=true:=by decide
  rcases hf with (hf | hf) | hf
  · obtain ⟨b,hb',rfl⟩:=List.mem_map.mp hf
    exact (Fm.all (d:=1) (by show 2≤100; decide) (fm2 (Hq (hb b hb') b1) (Hq (hb b hb') b2))).le (by decide)
  · obtain ⟨h,hh',rfl⟩:=List.mem_map.mp hf
    exact (Fm.all (d:=1) (by show 2≤100; decide) (fm2 (Hq (hh h hh') b1) (Hq (hh h hh') b2))).le (by decide)
  · subst hf
    exact (Xv (by decide) hx hy o true).le (by decide)
theorem a4l (o:Dr N 2 3 r):(stF bs hs r).all (tv B)=(((bs.all fun b=>bk B b.nm==b.st)&&hs.all fun h=>bk B ("@" ++ h.1)==0) && !tv B r):=by
  unfold stF
  rw [List.all_append,List.all_append,List.all_cons,List.all_nil,Bool.and_true,Xo o true,Bool.xor_true]
  rw [all_map' (q:=fun b:Bx=>bk B b.nm==b.st) (fun b _=>a7z),all_map' (q:=fun h:Hd=>bk B ("@" ++ h.1)==0) (fun h _=>a7z)]
end
end K
end
noncomputable section
set_option linter.all false
set_option maxRecDepth 100000
set_option maxHeartbeats 1000000
set_option autoImplicit false
namespace K
open C PySem
noncomputable abbrev scr (cs:List Int):T:=.lst (cs.map .int)
noncomputable def cell (cs:List Int) (k:Nat):Int:=cs.getD k 0
theorem Ym {cs:List Int} {k:Nat} {sto:List SO}:jj [scr cs,.int (k:Int)] sto=some (.int (cell cs k),sto):=by
  unfold cell
  by_cases h:k<cs.length
  · have h':(k:Int)<(cs.length:Int):=by omega
    have e:=Uo T.int cs h
    rw [List.getD_eq_getElem?_getD,List.getElem?_eq_getElem h]
    exact zrun (n:=2) (zqr (zk (zt (zo rfl (zm (zc rfl rfl) a3i) (abh h'))) (zr (zo rfl rfl e)))) rfl
  · have h':¬ (k:Int)<(cs.length:Int):=by omega
    rw [List.getD_eq_getElem?_getD,List.getElem?_eq_none (Nat.le_of_not_lt h)]
    exact zrun (n:=2) (zq (ze (zt (zo rfl (zm (zc rfl rfl) a3i) (a9u h'))) rfl) (zr rfl)) rfl
theorem a4c {cs:List Int} {k:Nat} {i:Int} {sto:List SO} (h:i=(k:Int)):jj [scr cs,.int i] sto=some (.int (cell cs k),sto):=by
  subst h; exact Ym
noncomputable section
variable {sto:List SO} {cs:List Int} {N:List Str}
noncomputable def fxy (a b:Int) (c:Str):Int:=if c=Str.ofString "x" then a else if c=Str.ofString "y" then b else 0
theorem abq {a b:Int}:fxy a b "b2" = 0:=by unfold fxy; rw [if_neg sbx,if_neg sby]
theorem ab3 {a b:Int}:fxy a b "x" = a:=by unfold fxy; rw [if_pos rfl]
theorem aac {a b:Int}:fxy a b "y" = b:=by unfold fxy; rw [if_neg syx,if_pos rfl]
theorem a1s {a b:Int}:([("x",a),("y",b)]:List Pr).filter (fun p=>p.2 != 0)=canon U3 (fxy a b):=by
  have h1:=abq (a:=a) (b:=b)
  have h2:=ab3 (a:=a) (b:=b)
  have h3:=aac (a:=a) (b:=b)
  generalize fxy a b=f at *
  unfold canon U3
  by_cases ha:a=0 <;> by_cases hb:b=0 <;> simp [h1,h2,h3,ha,hb,List.filter_cons]
theorem aah {n a b:Int} (h1:-2≤a) (h2:a≤2) (h3:-2≤b) (h4:b≤2):Cn 2 (n,canon U3 (fxy a b)):=⟨_,rfl,abq,by rw [ab3]; exact h1,by rw [ab3]; exact h2,by rw [aac]; exact h3,by rw [aac]; exact h4⟩
theorem a6l {a b:Int} {s:Sta} {m:M T} (hm:m s=some (.lst [.tup [.str "x",.int a],.tup [.str "y",.int b]],s)):mj 1 [] (hName 0) (m5 m) (iu (mOp neO (mOp cu (bf 0) (au (.int 1))) (au (.int 0)))) (bf 0) s=some (.lst ((canon U3 (fxy a b)).map pT),s):=by
  generalize hF:mj 1 _ _ _ _ _ _=res
  have l2:2<lim:=by decide
  have:=Ov hF pT pT (fun p=>p.2 != 0) ([("x",a),("y",b)]:List Pr) s s.env [] (by unfold m5; rw [hm]; exact if_pos l2) rfl rfl rfl (by show 2≤lim; exact Nat.le_of_lt l2) (fun r hr pre hp=>by
    match pre,hp with
    | [p0],_=>exact ⟨[some (pT r,false)],rfl,rfl,by
      have i1:cu (pT r) (.int 1)=some (.int r.2):=xq
      exact zt (zo (zo rfl rfl i1) rfl Tf),fun _=>rfl⟩)
  rw [this,a1s]
theorem Mj {v:Int}:∃ s:Sm,o8 [.int v] sto=some (smT s,sto)∧Cn 2 s:=by
  refine ⟨(v%7 - 3,canon U3 (fxy (v / 7%3 - 1) (v / 21%3 - 1))),?_,aah (by omega) (by omega) (by omega) (by omega)⟩
  have c:=a6l (a:=v / 7%3 - 1) (b:=v / 21%3 - 1) (s:=(⟨[some (.int v,false),some (.lst [.tup [.str "x",.int (v / 7%3 - 1)],.tup [.str "y",.int (v / 21%3 - 1)]],false)],sto⟩:Sta)) (m:=bf 1) rfl
  exact (zrun (n:=2) (zq (zs (zm (zc (zm (zc rfl (zc (zo (zo (zo rfl rfl rfl) rfl rfl) rfl rfl) rfl)) rfl) (zc (zm (zc rfl (zc (zo (zo (zo rfl rfl rfl) rfl rfl) rfl rfl) rfl)) rfl) rfl)) rfl)) (zr (zm (zc (zo (zo rfl rfl rfl) rfl rfl) (zc (zm (zc c rfl) rfl) rfl)) rfl))) rfl)
end
structure Hs (hs:List Hd):Prop where
  n1:1≤hs.length
  n3:hs.length≤3
  hh:∀ h∈hs,okS h.1∧h.1.length<100∧1≤h.2∧h.2≤4
  nm:∀ i:Nat,i<hs.length→∃ n∈hs.map (·.1),cu (.str "qpr") (.int (i:Int))=some (.str n)
  nd:(hs.map (·.1)).Nodup
noncomputable def nn (hs:List Hd):List Str := "x" :: "y" :: hs.map fun h => "@" ++ h.1
noncomputable section
variable {sto:List SO} {hs:List Hd}
theorem Uy:(Str.ofString "x")∈nn hs:=List.mem_cons_self
theorem Tv:(Str.ofString "y")∈nn hs:=List.mem_cons_of_mem _ List.mem_cons_self
theorem Zy {n:Str} (h:n∈hs.map (·.1)):("@" ++ n:Str)∈nn hs:=by
  obtain ⟨d,hd,rfl⟩:=List.mem_map.mp h
  exact List.mem_cons_of_mem _ (List.mem_cons_of_mem _ (List.mem_map.mpr ⟨d,hd,rfl⟩))
theorem a6v (E:Hs hs) {n:Str} (h:n∈hs.map (·.1)) {p:Int}:Dr (nn hs) 2 0 (.pl n p):=by
  obtain ⟨d,hd,rfl⟩:=List.mem_map.mp h
  exact .pl (Zy h) (E.hh d hd).1 (E.hh d hd).2.1
theorem Mx {v:Int} (E:Hs hs):∃ r:Rem,ni [.int v,.int (hs.length:Int)] sto=some (jg r,sto)∧Dr (nn hs) 2 1 r:=by
  by_cases h0:v%4=0
  · obtain ⟨s,e,o⟩:=Mj (sto:=sto) (v:=v / 4)
    refine ⟨.most s,?_,.most o⟩
    have q0:(v%4==0)=true:=by rw [h0]; rfl
    unfold ni jg
    generalize o8=F at *
    exact (zrun (n:=2) (zqr (zk (zt (zo (zo rfl rfl rfl) rfl (eq_i q0))) (zr (zm (zc rfl (zc (zf (zc (zo rfl rfl rfl) rfl) e) rfl)) rfl)))) rfl)
  have q0:(v%4==0)=false:=beq_eq_false_iff_ne.mpr h0
  by_cases h1:v%4=1
  · have q1:(v%4==1)=true:=by rw [h1]; rfl
    have n1:=E.n1
    have p0:(0:Int)<hs.length:=by omega
    have m0:=Int.emod_nonneg (v / 4) (show (hs.length:Int)≠0 by omega)
    have m1:=Int.emod_lt_of_pos (v / 4) p0
    obtain ⟨n,hn,hi⟩:=E.nm (v / 4%(hs.length:Int)).toNat (by omega)
    rw [Int.toNat_of_nonneg m0] at hi
    refine ⟨.pl n (v / 12%2),?_,(a6v E hn).up⟩
    unfold ni jg
    exact (zrun (n:=2) (zq (ze (zt (zo (zo rfl rfl rfl) rfl (eq_i q0))) rfl) (zqr (zk (zt (zo (zo rfl rfl rfl) rfl (eq_i q1))) (zr (zm (zc rfl (zc (zo rfl (zo (zo rfl rfl rfl) rfl (md p0)) hi) (zc (zo (zo rfl rfl rfl) rfl rfl) rfl))) rfl))))) rfl)
  have q1:(v%4==1)=false:=beq_eq_false_iff_ne.mpr h1
  by_cases h2:v%4=2
  · obtain ⟨s,e,o⟩:=Mj (sto:=sto) (v:=v / 44)
    refine ⟨.rest s (2+v / 4%11),?_,.rest o (by omega) (by omega)⟩
    have q2:(v%4==2)=true:=by rw [h2]; rfl
    unfold ni jg
    generalize o8=F at *
    exact (zrun (n:=2) (zq (ze (zt (zo (zo rfl rfl rfl) rfl (eq_i q0))) rfl) (zq (ze (zt (zo (zo rfl rfl rfl) rfl (eq_i q1))) rfl) (zqr (zk (zt (zo (zo rfl rfl rfl) rfl (eq_i q2))) (zr (zm (zc rfl (zc (zf (zc (zo rfl rfl rfl) rfl) e) (zc (zo rfl (zo (zo rfl rfl rfl) rfl rfl) rfl) rfl))) rfl)))))) rfl)
  have q2:(v%4==2)=false:=beq_eq_false_iff_ne.mpr h2
  refine ⟨.all [],?_,.all (by simp) fun r hr=>by cases hr⟩
  unfold ni jg
  exact (zrun (n:=2) (zq (ze (zt (zo (zo rfl rfl rfl) rfl (eq_i q0))) rfl) (zq (ze (zt (zo (zo rfl rfl rfl) rfl (eq_i q1))) rfl) (zq (ze (zt (zo (zo rfl rfl rfl) rfl (eq_i q2))) rfl) (zr rfl)))) rfl)
theorem Ls {v:Int} (E:Hs hs):∃ r:Rem,jq [.int v,.int (hs.length:Int)] sto=some (jg r,sto)∧Dr (nn hs) 2 3 r:=by
  obtain ⟨a,ea,oa⟩:=Mx (sto:=sto) (v:=v / 4) E
  obtain ⟨b,eb,ob⟩:=Mx (sto:=sto) (v:=v / 4000) E
  obtain ⟨c,ec,oc⟩:=Mx (sto:=sto) (v:=v / 50) E
  have e0:∀ {d:Nat},Dr (nn hs) 2 (d+1) (.all []):=.all (by simp) fun r hr=>by cases hr
  have e1:∀ {d:Nat},Dr (nn hs) 2 (d+1) (.any []):=.any (by simp) fun r hr=>by cases hr
  have four:∀ {u w x y:Rem},Dr (nn hs) 2 1 u→Dr (nn hs) 2 1 w→Dr (nn hs) 2 1 x→Dr (nn hs) 2 1 y→∀ r∈[u,w,x,y],Dr (nn hs) 2 1 r:=by
    intro u w x y h1 h2 h3 h4 r hr
    simp only [List.mem_cons,List.not_mem_nil,or_false] at hr
    rcases hr with rfl | rfl | rfl | rfl
    · exact h1
    · exact h2
    · exact h3
    · exact h4
  have two:∀ r∈[a,b],Dr (nn hs) 2 1 r:=fun r hr=>four oa ob oa oa r (by simp only [List.mem_cons,List.not_mem_nil,or_false] at hr ⊢; rcases hr with rfl | rfl <;> simp)
  have ok1:∀ r∈([a,.all [],.any [a,b],.no a]:List Rem),Dr (nn hs) 2 3 r:=by
    intro r hr
    simp only [List.mem_cons,List.not_mem_nil,or_false] at hr
    rcases hr with rfl | rfl | rfl | rfl
    · exact oa.up.up
    · exact e0
    · exact (Dr.any (by simp) two).up
    · exact (Dr.no oa).up
  have ok2:∀ r∈([.all [a,.all [],b,c],a,.any [a,b,.any [],c],a]:List Rem),Dr (nn hs) 2 3 r:=by
    intro r hr
    simp only [List.mem_cons,List.not_mem_nil,or_false] at hr
    rcases hr with rfl | rfl | rfl | rfl
    · exact (Dr.all (by simp) (four oa e0 ob oc)).up
    · exact oa.up.up
    · exact (Dr.any (by simp) (four oa ob e1 oc)).up
    · exact oa.up.up
  cases hq:(v / 4%3==1) with
  | false =>
    obtain ⟨r,hm,hi⟩:=G4 jg ([a,.all [],.any [a,b],.no a]:List Rem) (i:=v%4) (by omega) (by simp; omega)
    refine ⟨r,?_,ok1 r hm⟩
    simp only [List.map_cons,List.map_nil,jg,T5] at hi
    unfold jq
    generalize ni=F at *
    exact (zrun (n:=6) (zq (zs (zf (zc (zo rfl rfl rfl) rfl) ea)) (zq (zs (zf (zc (zo rfl rfl rfl) rfl) eb)) (zq (zs (zf (zc (zo rfl rfl rfl) rfl) ec)) (zq (zs rfl) (zq (ze (zt (zo (zo (zo rfl rfl rfl) rfl rfl) rfl (eq_i hq))) rfl) (zr (zo rfl (zo rfl rfl rfl) hi))))))) rfl)
  | true =>
    obtain ⟨r,hm,hi⟩:=G4 jg ([.all [a,.all [],b,c],a,.any [a,b,.any [],c],a]:List Rem) (i:=v%4) (by omega) (by simp; omega)
    refine ⟨r,?_,ok2 r hm⟩
    simp only [List.map_cons,List.map_nil,jg,T5] at hi
    unfold jq
    generalize ni=F at *
    exact (zrun (n:=6) (zq (zs (zf (zc (zo rfl rfl rfl) rfl) ea)) (zq (zs (zf (zc (zo rfl rfl rfl) rfl) eb)) (zq (zs (zf (zc (zo rfl rfl rfl) rfl) ec)) (zq (zs rfl) (zq (zk (zt (zo (zo (zo rfl rfl rfl) rfl rfl) rfl (eq_i hq))) (zs rfl)) (zr (zo rfl (zo rfl rfl rfl) hi))))))) rfl)
end
end K
end
noncomputable section
set_option linter.all false
set_option maxRecDepth 100000
set_option maxHeartbeats 1000000
set_option autoImplicit false
namespace K
open C PySem
noncomputable abbrev W7:=Slot × Slot × Slot × Slot × Slot × Slot
noncomputable abbrev qS (cs:List Int) (c:Int) (bx:T) (hs:List Hd) (acc:List Sp) (o5:Slot) (w:W7) (sto:List SO):Sta:=⟨[some (scr cs,false),some (.int c,false),some (bx,false),some (.lst (hs.map hdT),false),some (.lst (acc.map spT),true),o5,w.1,w.2.1,w.2.2.1,w.2.2.2.1,w.2.2.2.2.1,w.2.2.2.2.2],sto⟩
structure En (hs:List Hd) (s:Sp):Prop where
  h:∃ h∈hs,s.hand=h.1∧(∃ i:Nat,s.here=(i:Int)∧(i:Int)<h.2)∧∃ j:Nat,s.to=(j:Int)∧(j:Int)<h.2
  g:Dr (nn hs) 2 3 s.guard
  n:(s.sets.map (·.1)).Sublist ([Str.ofString "x",Str.ofString "y"]:List Str)
  D:∀ p∈s.sets,Cn 2 p.2
noncomputable abbrev a5y:S:=(j8 (nj 6 (dw jj (ak (bf 0) (ak (mOp u5 (au (.int 1)) (bf 5)) dg))))
  (j8 (sGo (qj [7,8]) (mOp cu (bf 3) (mOp uy (bf 6) (ig yg (ak (bf 3) dg)))))
  (j8 (nj 9 (dw o8 (ak (mOp ju (bf 6) (au (.int 24))) dg)))
  (j8 (nj 10 (ig (fun l=>some (.lst l)) (ak (ig (fun l=>some (.tup l)) dg) (ak (ig (fun l=>some (.tup l)) (ak (ig (fun l=>some (.tup l)) (ak (au (.str "x")) (ak (bf 9) dg))) dg)) (ak (ig (fun l=>some (.tup l)) (ak (ig (fun l=>some (.tup l)) (ak (au (.str "x")) (ak (bf 9) dg))) (ak (ig (fun l=>some (.tup l)) (ak (au (.str "y")) (ak (dw o8 (ak (mOp ju (bf 6) (au (.int 1512))) dg)) dg))) dg))) dg)))))
  (j8 (nj 11 (dw jq (ak (mOp ju (bf 6) (au (.int 100000))) (ak (ig yg (ak (bf 3) dg)) dg))))
  (j6 4 (ig (fun l=>some (.tup l)) (ak (bf 7) (ak (mOp uy (mOp ju (bf 6) (au (.int 6))) (bf 8)) (ak (bf 11) (ak (mOp cu (bf 10) (mOp uy (mOp ju (bf 6) (au (.int 2))) (au (.int 3)))) (ak (mOp uy (mOp ju (bf 6) (au (.int 12))) (bf 8)) dg))))))))))))
noncomputable section
variable {sto:List SO} {hs:List Hd} {cs:List Int} {c:Int} {bx:T} {acc:List Sp}
theorem Ze {k:Nat} {w:W7} (E:Hs hs) (la:acc.length<1000) :
    ∃ (s:Sp) (w':W7),En hs s∧a5y (qS cs c bx hs acc (some (.int (k:Int),false)) w sto)=some (.next,qS cs c bx hs (acc++[s]) (some (.int (k:Int),false)) w' sto):=by
  have n1:=E.n1
  have ex:=a4c (cs:=cs) (k:=1+k) (i:=1+(k:Int)) (sto:=sto) (by omega)
  generalize cell cs (1+k)=v at *
  have p0:(0:Int)<hs.length:=by omega
  have m0:=Int.emod_nonneg v (show (hs.length:Int)≠0 by omega)
  have m1:=Int.emod_lt_of_pos v p0
  obtain ⟨h,hm,hi⟩:=G4 hdT hs m0 m1
  obtain ⟨_,_,h1,_⟩:=E.hh h hm
  have hp:0<h.2:=by omega
  obtain ⟨s1,es,cs1⟩:=Mj (sto:=sto) (v:=v / 24)
  obtain ⟨s2,es2,cs2⟩:=Mj (sto:=sto) (v:=v / 1512)
  obtain ⟨g,eg,og⟩:=Ls (sto:=sto) (v:=v / 100000) E
  obtain ⟨D,hD,hDi⟩:=G4 (fun D:List (Str × Sm)=>T.tup (D.map seT)) ([[],[(Str.ofString "x",s1)],[(Str.ofString "x",s1),(Str.ofString "y",s2)]]) (i:=v / 2%3) (by omega) (by simp; omega)
  have DD:(D.map (·.1)).Sublist ([Str.ofString "x",Str.ofString "y"]:List Str)∧∀ p∈D,Cn 2 p.2:=by
    simp only [List.mem_cons,List.not_mem_nil,or_false] at hD
    rcases hD with rfl | rfl | rfl
    · exact ⟨List.nil_sublist _,fun p hp=>by cases hp⟩
    · exact ⟨List.Sublist.cons₂ _ (List.nil_sublist _),fun p hp=>by rw [List.mem_singleton] at hp; subst hp; exact cs1⟩
    · refine ⟨List.Sublist.refl _,fun p hp=>?_⟩
      simp only [List.mem_cons,List.not_mem_nil,or_false] at hp
      rcases hp with rfl | rfl
      · exact cs1
      · exact cs2
  have la':acc.length<lim:=by show _<1000000; omega
  have n1:=Int.emod_nonneg (v / 6) (show h.2≠0 by omega)
  have n2:=Int.emod_lt_of_pos (v / 6) hp
  have n3:=Int.emod_nonneg (v / 12) (show h.2≠0 by omega)
  have n4:=Int.emod_lt_of_pos (v / 12) hp
  refine ⟨⟨h.1,v / 6%h.2,g,D,v / 12%h.2⟩,(some (.int v,false),some (.str h.1,false),some (.int h.2,false),some (smT s1,false),some (.lst (([[],[(Str.ofString "x",s1)],[(Str.ofString "x",s1),(Str.ofString "y",s2)]]:List (List (Str × Sm))).map fun D=>T.tup (D.map seT)),false),some (jg g,false)),⟨⟨h,hm,rfl,⟨(v / 6%h.2).toNat,by dsimp only; omega,by omega⟩,⟨(v / 12%h.2).toNat,by dsimp only; omega,by omega⟩⟩,og,DD.1,DD.2⟩,?_⟩
  unfold a5y
  generalize o8=F at *
  generalize jq=F2 at *
  generalize jj=F3 at *
  exact zq (zs (zf0 (zc rfl (zc (zo rfl rfl rfl) rfl)) ex)) (zq (zgo (zo rfl (zo rfl (zm rfl a3i) (md p0)) hi) Cg) (zq (zs (zf0 (zc (zo rfl rfl rfl) rfl) es)) (zq (zs (zm (zc rfl (zc rfl (zc (zm (zc rfl (zc (zm (zc rfl (zc (zf0 (zc (zo rfl rfl rfl) rfl) es2) rfl)) rfl) rfl)) rfl) rfl))) rfl)) (zq (zs (zf0 (zc (zo rfl rfl rfl) (zc (zm rfl a3i) rfl)) eg)) (za (zm (zc rfl (zc (zo (zo rfl rfl rfl) rfl (md hp)) (zc rfl (zc (zo rfl (zo (zo rfl rfl rfl) rfl rfl) hDi) (zc (zo (zo rfl rfl rfl) rfl (md hp)) rfl))))) rfl) rfl (by rw [List.length_map]; exact la') rfl (by unfold qS; rw [List.map_append]; rfl))))))
theorem Lg (E:Hs hs):∀ (m k:Nat) (acc:List Sp) (o5:Slot) (w:W7),acc.length+m≤10 →
    ∃ (sp:List Sp) (o5':Slot) (w':W7),sp.length=m∧(∀ s∈sp,En hs s)∧forL (hName 5) a5y ((List.range' k m).map fun (j:Nat)=>T.int (j:Int)) (qS cs c bx hs acc o5 w sto)=some (.next,qS cs c bx hs (acc++sp) o5' w' sto)
  | 0,k,acc,o5,w,_=>⟨[],o5,w,rfl,(fun s hs=>by cases hs),by simp [forL]⟩
  | m+1,k,acc,o5,w,hl=>by
    obtain ⟨s,w1,so,st⟩:=Ze (sto:=sto) (cs:=cs) (c:=c) (bx:=bx) (acc:=acc) (k:=k) (w:=w) E (by omega)
    obtain ⟨sp,o5',w',l1,l2,ih⟩:=Lg E m (k+1) (acc++[s]) (some (.int (k:Int),false)) w1 (by rw [List.length_append,List.length_singleton]; omega)
    refine ⟨s::sp,o5',w',by rw [List.length_cons,l1],fun u hu=>?_,?_⟩
    · rcases List.mem_cons.mp hu with rfl | hu -- here
      · exact so
      · exact l2 u hu
    · rw [List.range'_succ,List.map_cons,Cd (s1:=qS cs c bx hs acc (some (.int (k:Int),false)) w sto) rfl st,ih,List.append_assoc]
      rfl
noncomputable def bxs (hx sx hy:Int):List Bx:=[⟨"x","",0,hx,sx⟩,⟨"y","",0,hy,0⟩]
noncomputable def hq (P:Int):List Hd:=[("q",P),("p",2),("r",2)]
theorem okp:okS "q" ∧ okS "p" ∧ okS "r" := by
  unfold okS
  decide +kernel
theorem acu:(Str.ofString "q").length<100∧(Str.ofString "p").length<100∧(Str.ofString "r").length<100:=by decide +kernel
theorem acg:cu (.str "qpr") (.int ((0:Nat):Int))=some (.str "q"):=by rfl
theorem ac5:cu (.str "qpr") (.int ((1:Nat):Int))=some (.str "p"):=by rfl
theorem ac8:cu (.str "qpr") (.int ((2:Nat):Int))=some (.str "r"):=by rfl
theorem a7f:([Str.ofString "q",Str.ofString "p",Str.ofString "r"]:List Str).Nodup:=by decide +kernel
theorem ab1 {P:Int} (h1:2≤P) (h2:P≤3) {k:Nat} (k1:1≤k) (k3:k≤3):Hs ((hq P).take k):=by
  obtain ⟨o1,o2,o3⟩:=okp
  obtain ⟨l1,l2,l3⟩:=acu
  have base:∀ h∈hq P,okS h.1∧h.1.length<100∧1≤h.2∧h.2≤4:=fun h hh=>by
    simp only [hq,List.mem_cons,List.not_mem_nil,or_false] at hh
    rcases hh with rfl | rfl | rfl
    · exact ⟨o1,l1,by dsimp only; omega,by dsimp only; omega⟩
    · exact ⟨o2,l2,by decide,by decide⟩
    · exact ⟨o3,l3,by decide,by decide⟩
  have ln:((hq P).take k).length=k:=by rw [List.length_take]; show min k 3=k; omega
  have q:∀ i:Nat,(hi:i<3)→cu (.str "qpr") (.int (i:Int))=some (.str ((hq P)[i]'hi).1):=by
    intro i hi
    match i,hi with
    | 0,_=>exact acg
    | 1,_=>exact ac5
    | 2,_=>exact ac8
  refine ⟨by omega,by omega,fun h hh=>base h (List.mem_of_mem_take hh),fun i hi=>?_,?_⟩
  · refine ⟨((hq P)[i]'(by show i<3; omega)).1,List.mem_map.mpr ⟨(hq P)[i]'(by show i<3; omega),?_,rfl⟩,q i (by omega)⟩
    have:((hq P).take k)[i]'hi=(hq P)[i]'(by show i<3; omega):=List.getElem_take
    rw [← this]; exact List.getElem_mem hi
  · rw [List.map_take]; exact List.Nodup.sublist (List.take_sublist _ _) a7f
theorem Td:∃ (hx sx hy:Int) (hs:List Hd) (sp:List Sp),v7 [scr cs] sto=some (prT (bxs hx sx hy) hs (sp.map spT),sto)∧(0≤sx∧sx≤hx∧hx≤2∧0≤hy∧hy≤1)∧Hs hs∧sp.length≤4∧∀ s∈sp,En hs s:=by
  have c0:=a4c (cs:=cs) (k:=0) (i:=0) (sto:=sto) rfl
  generalize cell cs 0=v at *
  have p1:(0:Int)<1+v%3:=by omega
  have s0:=Int.emod_nonneg (v / 9) (show 1+v%3≠0 by omega)
  have s1:=Int.emod_lt_of_pos (v / 9) p1
  have H:=ab1 (P:=2+v / 27%2) (by omega) (by omega) (k:=(1+v / 270%3).toNat) (by omega) (by omega)
  have hsl:Cw (ig (fun l=>some (.lst l)) (ak (ig (fun l=>some (.tup l)) (ak (au (.str "q")) (ak (mOp u5 (au (.int 2)) (mOp uy (mOp ju (bf 1) (au (.int 27))) (au (.int 2)))) dg))) (ak (ig (fun l=>some (.tup l)) (ak (au (.str "p")) (ak (au (.int 2)) dg))) (ak (ig (fun l=>some (.tup l)) (ak (au (.str "r")) (ak (au (.int 2)) dg))) dg)))) Vk (Gz (mOp u5 (au (.int 1)) (mOp uy (mOp ju (bf 1) (au (.int 270))) (au (.int 3)))))
      ⟨[some (scr cs,false),some (.int v,false),some (.lst ((bxs (v%3) (v / 9%(1+v%3)) (v / 3%2)).map bxT),false),none,none,none,none,none,none,none,none,none],sto⟩=some (.lst (((hq (2+v / 27%2)).take (1+v / 270%3).toNat).map hdT),⟨[some (scr cs,false),some (.int v,false),some (.lst ((bxs (v%3) (v / 9%(1+v%3)) (v / 3%2)).map bxT),false),none,none,none,none,none,none,none,none,none],sto⟩):=by
    have:v / 270%3=0∨v / 270%3=1∨v / 270%3=2:=by omega
    rcases this with e | e | e
    · simp [j9,j8,sIf,nj,sNew,jz,tu,sNx,jh,sGo,jd,uo,j6,j4,p7,iu,yw,Bu,mOr,qb,mIf,mOp,mUn,bf,ig,ak,dg,au,ux,dw,gb,hName,qj,ji,m5,ltT,leT,yg,u5,Bg,uy,ju,Bo,Ea,uh,jm,gq,Aq,Cw,Vk,Gz,e,a5f,a0b,sIx,hq,hdT]
    · simp [j9,j8,sIf,nj,sNew,jz,tu,sNx,jh,sGo,jd,uo,j6,j4,p7,iu,yw,Bu,mOr,qb,mIf,mOp,mUn,bf,ig,ak,dg,au,ux,dw,gb,hName,qj,ji,m5,ltT,leT,yg,u5,Bg,uy,ju,Bo,Ea,uh,jm,gq,Aq,Cw,Vk,Gz,e,a5f,a0b,sIx,hq,hdT]
    · simp [j9,j8,sIf,nj,sNew,jz,tu,sNx,jh,sGo,jd,uo,j6,j4,p7,iu,yw,Bu,mOr,qb,mIf,mOp,mUn,bf,ig,ak,dg,au,ux,dw,gb,hName,qj,ji,m5,ltT,leT,yg,u5,Bg,uy,ju,Bo,Ea,uh,jm,gq,Aq,Cw,Vk,Gz,e,a5f,a0b,sIx,hq,hdT]
  generalize hhs:(hq (2+v / 27%2)).take (1+v / 270%3).toNat=hs at *
  obtain ⟨sp,o5,w,l1,l2,L⟩:=Lg (sto:=sto) (cs:=cs) (c:=v) (bx:=.lst ((bxs (v%3) (v / 9%(1+v%3)) (v / 3%2)).map bxT)) H (v / 54%5).toNat 0 [] none (none,none,none,none,none,none) (by simp; omega)
  refine ⟨v%3,v / 9%(1+v%3),v / 3%2,hs,sp,?_,⟨s0,by omega,by omega,by omega,by omega⟩,H,by omega,l2⟩
  have rg:ji (mOp uy (mOp ju (bf 1) (au (.int 54))) (au (.int 5))) (qS cs v (.lst ((bxs (v%3) (v / 9%(1+v%3)) (v / 3%2)).map bxT)) hs [] none (none,none,none,none,none,none) sto)=some ((List.range (v / 54%5).toNat).map (fun (k:Nat)=>T.int (k:Int)),qS cs v (.lst ((bxs (v%3) (v / 9%(1+v%3)) (v / 3%2)).map bxT)) hs [] none (none,none,none,none,none,none) sto) :=
    zrg (m:=(v / 54%5).toNat) (by rw [Int.toNat_of_nonneg (by omega)]; exact zo (zo rfl rfl rfl) rfl rfl) (by show _<1000000; omega)
  rw [← List.range_eq_range'] at L
  unfold v7
  exact zrun (n:=12) (zq (zs (zf0 rfl c0)) (zq (zs (zm (zc (zm (zc rfl (zc rfl (zc rfl (zc (zo rfl rfl rfl) (zc (zo (zo rfl rfl rfl) (zo rfl (zo rfl rfl rfl) rfl) (md p1)) rfl))))) rfl) (zc (zm (zc rfl (zc rfl (zc rfl (zc (zo (zo rfl rfl rfl) rfl rfl) rfl)))) rfl) rfl)) rfl)) (zq (zs hsl) (zq (zn rfl) (zq (Ig rg L) (zr rfl)))))) rfl
end
end K
end
noncomputable section
set_option linter.all false
set_option maxRecDepth 100000
set_option maxHeartbeats 1000000
set_option autoImplicit false
namespace K
open C PySem
theorem Ux {q:List C.Key}:∀ {l r:List (List C.Key × T)},Bv q (l++r)=match Bv q l with | some t=>some t | none=>Bv q r
  | [],r=>rfl
  | (k,t)::l,r=>by
    rw [List.cons_append,Bv,Bv]
    by_cases e:k=q
    · rw [if_pos e,if_pos e]
    · rw [if_neg e,if_neg e]; exact Ux
theorem Qz {q:List C.Key}:∀ {l:List (List C.Key × T)},(l.any fun p=>decide (p.1=q))=false→Bv q l=none
  | [],_=>rfl
  | (k,t)::l,h=>by
    rw [List.any_cons,Bool.or_eq_false_iff] at h
    rw [Bv,if_neg (by simpa using h.1)]
    exact Qz h.2
theorem N6 {q k:List C.Key} {v:T}:∀ {l:List (List C.Key × T)},Bv q (l.map fun p=>if p.1=k then (p.1,v) else p)=if q=k then (Bv q l).map (fun _=>v) else Bv q l
  | []=>by simp [Bv]
  | (a,t)::l=>by
    rw [List.map_cons]
    by_cases h1:a=k
    · subst h1
      simp only [if_true,Bv,N6 (l:=l)]
      by_cases h2:a=q
      · subst h2; simp
      · simp only [if_neg h2]
    · simp only [if_neg h1,Bv,N6 (l:=l)]
      by_cases h2:a=q
      · subst h2; simp [h1]
      · simp only [if_neg h2]
theorem Tz {q:List C.Key}:∀ {l:List (List C.Key × T)},(l.any fun p=>decide (p.1=q))=true→∃ t,Bv q l=some t
  | [],h=>by cases h
  | (k,t)::l,h=>by
    rw [Bv]
    by_cases e:k=q
    · exact ⟨t,if_pos e⟩
    · rw [if_neg e]
      refine Tz ?_
      rw [List.any_cons] at h
      simpa [e] using h
theorem Mr {q k:List C.Key} {v:T} {l:List (List C.Key × T)}:Bv q (Ud k v l)=if q=k then some v else Bv q l:=by
  unfold Ud
  split
  · rename_i h
    rw [N6]
    by_cases e:q=k
    · subst e
      obtain ⟨t,ht⟩:=Tz h
      simp [ht]
    · simp [e]
  · rename_i h
    rw [Ux]
    by_cases e:q=k
    · subst e
      rw [Qz (Bool.eq_false_iff.mpr h)]
      simp [Bv]
    · have:¬ k=q:=fun z=>e z.symm
      rw [if_neg e]
      cases Bv q l with
      | some t=>rfl
      | none=>simp [Bv,this]
theorem a1z {k:List C.Key} {v:T} {l:List (List C.Key × T)}:(Ud k v l).length≤l.length+1:=by
  unfold Ud
  split
  · rw [List.length_map]; omega
  · rw [List.length_append,List.length_singleton]; omega -- here
noncomputable def Good (hs:List Hd) (kvs:List (List C.Key × T)):Prop:=∀ p∈kvs,∃ r,p.2=jg r∧Dr (nn hs) 2 3 r
theorem U6 {q:List C.Key} {t:T}:∀ {l:List (List C.Key × T)},Bv q l=some t→∃ p∈l,p.2=t
  | [],h=>by cases h
  | (k,v)::l,h=>by
    rw [Bv] at h
    split at h
    · cases h; exact ⟨_,List.mem_cons_self,rfl⟩
    · obtain ⟨p,hp,e⟩:=U6 h
      exact ⟨p,List.mem_cons_of_mem _ hp,e⟩
theorem a1l {k:List C.Key} {v:T} {l:List (List C.Key × T)} {p:List C.Key × T} (h:p∈Ud k v l):p.2=v∨p∈l:=by
  unfold Ud at h
  split at h
  · obtain ⟨q,hq,e⟩:=List.mem_map.mp h -- here
    split at e
    · subst e; exact .inl rfl
    · subst e; exact .inr hq
  · rcases List.mem_append.mp h with h | h -- here
    · exact .inr h
    · rw [List.mem_singleton] at h; subst h; exact .inl rfl
noncomputable def Has (hs:List Hd) (kvs:List (List C.Key × T)):Prop:=∀ h∈hs,∀ i:Nat,(i:Int)<h.2→∃ t,Bv [.inr h.1,.inl (i:Int)] kvs=some t
noncomputable abbrev a7x:S:=(j8 (Et (bf 2) (ak (bf 4) (ak (bf 6) dg)) (dw jq (ak (dw jj (ak (bf 0) (ak (bf 3) dg))) (ak (ig yg (ak (mOp cu (bf 1) (au (.int 1))) dg)) dg))))
  (nj 3 (mOp u5 (bf 3) (au (.int 1)))))
noncomputable abbrev qX (cs:List Int) (P:T) (k:Nat) (e f g:Slot) (kvs:List (List C.Key × T)):Sta:=⟨[some (scr cs,false),some (P,false),some (.obj 0,false),some (.int (k:Int),false),e,f,g],[.dit kvs]⟩
noncomputable section
variable {hs:List Hd} {ss:List T} {cs:List Int} {n:Str} {bs:List Bx}
theorem a1m {k:Nat} {j:Int} {o6:Slot} {kvs:List (List C.Key × T)} (E:Hs hs) (lk:kvs.length<lim):∃ (r:Rem),Dr (nn hs) 2 3 r∧a7x (qX cs (prT bs hs ss) k (some (.str n,false)) o6 (some (.int j,false)) kvs)=some (.next,qX cs (prT bs hs ss) (k+1) (some (.str n,false)) o6 (some (.int j,false)) (Ud [.inr n,.inl j] (jg r) kvs)):=by
  have ed:=Ym (cs:=cs) (k:=k) (sto:=[.dit kvs])
  generalize cell cs k=d at *
  obtain ⟨r,er,or_⟩:=Ls (sto:=[.dit kvs]) (v:=d) E
  refine ⟨r,or_,?_⟩
  unfold a7x
  generalize jj=F1 at *
  generalize jq=F2 at *
  exact zq (zdp (zf (zc (zf rfl ed) (zc (zm (zc (zo rfl rfl pr1) rfl) a3i) rfl)) er) rfl rfl rfl rfl lk rfl) (ys (zo rfl rfl rfl) rfl)
theorem Uz {o6:Slot} (E:Hs hs):∀ (m j k:Nat) (kvs:List (List C.Key × T)) (o7:Slot),Good hs kvs→kvs.length+m≤1000 →
    ∃ (kvs':List (List C.Key × T)) (o7':Slot),forL (hName 6) a7x ((List.range' j m).map fun (i:Nat)=>T.int (i:Int)) (qX cs (prT bs hs ss) k (some (.str n,false)) o6 o7 kvs)
      = some (.next,qX cs (prT bs hs ss) (k+m) (some (.str n,false)) o6 o7' kvs')∧Good hs kvs'∧kvs'.length≤kvs.length+m∧(∀ q,(∃ t,Bv q kvs=some t)→∃ t,Bv q kvs'=some t)∧∀ i,j≤i→i<j+m→∃ t,Bv [.inr n,.inl (i:Int)] kvs'=some t
  | 0,j,k,kvs,o7,g,_=>⟨kvs,o7,by simp [forL],g,by (clear g E; omega),(fun q h=>h),(fun i h1 h2=>by (clear g E; omega))⟩
  | m+1,j,k,kvs,o7,g,hl=>by
    have lk:kvs.length<lim:=by show _<1000000; (clear g E; omega)
    obtain ⟨r,or_,st⟩:=a1m (cs:=cs) (ss:=ss) (n:=n) (bs:=bs) (k:=k) (j:=(j:Int)) (o6:=o6) E lk
    have xl:=a1z (k:=[.inr n,.inl (j:Int)]) (v:=jg r) (l:=kvs)
    have g':Good hs (Ud [.inr n,.inl (j:Int)] (jg r) kvs):=by
      intro p hp
      rcases a1l hp with e | e
      · exact ⟨r,e,or_⟩
      · exact g p e
    obtain ⟨kvs',o7',ih,h1,h2,h3,h4⟩:=Uz E m (j+1) (k+1) (Ud [.inr n,.inl (j:Int)] (jg r) kvs) (some (.int (j:Int),false)) g' (by (clear g' st or_ lk g E; omega))
    refine ⟨kvs',o7',?_,h1,by (clear h4 h3 h1 ih; omega),fun q hq=>h3 q ?_,fun i i1 i2=>?_⟩
    · rw [List.range'_succ,List.map_cons,Zx (s1:=qX cs (prT bs hs ss) k (some (.str n,false)) o6 (some (.int (j:Int),false)) kvs) rfl st,ih,show k+1+m=k+(m+1) by (clear h4 h3 h2 h1 ih g' xl st or_ lk hl g E; omega)]
    · obtain ⟨t,ht⟩:=hq
      by_cases e:q=[.inr n,.inl (j:Int)]
      · exact ⟨_,by rw [Mr,if_pos e]⟩
      · exact ⟨t,by rw [Mr,if_neg e]; exact ht⟩
    · by_cases e:i=j
      · subst e
        exact h3 _ ⟨_,by rw [Mr,if_pos rfl]⟩
      · exact h4 i (by (clear i2 h4 h3 h2 h1 ih g' xl st or_ lk hl g E; omega)) (by (clear e i1 h4 h3 h2 h1 ih g' xl st or_ lk hl g E; omega))
theorem a0r (E:Hs hs):∀ (l:List Hd) (k:Nat) (kvs:List (List C.Key × T)) (o5 o6 o7:Slot),(∀ h∈l,h∈hs)→Good hs kvs→kvs.length+4 * l.length≤900 →
    ∃ (kvs':List (List C.Key × T)) (k':Nat) (o5' o6' o7':Slot),forL (qj [4,5]) (uo (hName 6) (ji (bf 5)) a7x) (l.map hdT) (qX cs (prT bs hs ss) k o5 o6 o7 kvs)
      = some (.next,qX cs (prT bs hs ss) k' o5' o6' o7' kvs')∧Good hs kvs'∧(∀ q,(∃ t,Bv q kvs=some t)→∃ t,Bv q kvs'=some t)∧Has l kvs'
  | [],k,kvs,o5,o6,o7,_,g,_=>⟨kvs,k,o5,o6,o7,by simp [forL],g,(fun q h=>h),(fun h hh=>by cases hh)⟩
  | h::l,k,kvs,o5,o6,o7,hl,g,hz=>by
    obtain ⟨_,_,a1,a2⟩:=E.hh h (hl h List.mem_cons_self)
    obtain ⟨m,hm,hm3⟩:∃ m:Nat,h.2=(m:Int)∧m≤4:=⟨h.2.toNat,by (clear a2 hz g hl E; omega),by (clear a1 hz g hl E; omega)⟩
    have lm:m<lim:=by show _<1000000; (clear hm a2 a1 hz g hl E; omega)
    rw [List.length_cons] at hz
    obtain ⟨kv1,o7',e1,g1,l1,p1,q1⟩:=Uz (cs:=cs) (n:=h.1) (ss:=ss) (bs:=bs) (o6:=some (.int h.2,false)) E m 0 k kvs o7 g (by (clear lm hm a2 a1 g hl E; omega))
    have st:uo (hName 6) (ji (bf 5)) a7x (qX cs (prT bs hs ss) k (some (.str h.1,false)) (some (.int h.2,false)) o7 kvs)=some (.next,qX cs (prT bs hs ss) (k+m) (some (.str h.1,false)) (some (.int h.2,false)) o7' kv1):=by
      have J:ji (bf 5) (qX cs (prT bs hs ss) k (some (.str h.1,false)) (some (.int h.2,false)) o7 kvs)=some ((List.range' 0 m).map (fun (i:Nat)=>T.int (i:Int)),qX cs (prT bs hs ss) k (some (.str h.1,false)) (some (.int h.2,false)) o7 kvs):=by
        rw [← List.range_eq_range',hm]; exact zrg rfl lm
      unfold uo; rw [J]; exact e1
    obtain ⟨kv2,k2,c5,c6,c7,e2,g2,p2,q2⟩:=a0r E l (k+m) kv1 (some (.str h.1,false)) (some (.int h.2,false)) o7' (fun y hy=>hl y (List.mem_cons_of_mem _ hy)) g1 (by (clear st q1 p1 g1 e1 lm hm a2 a1 g hl E; omega))
    refine ⟨kv2,k2,c5,c6,c7,?_,g2,fun q hq=>p2 q (p1 q hq),fun y hy i hi=>?_⟩
    · rw [List.map_cons,Zx (s1:=qX cs (prT bs hs ss) k (some (.str h.1,false)) (some (.int h.2,false)) o7 kvs) (Cg (x:=.str h.1) (y:=.int h.2)) st,e2]
    · rcases List.mem_cons.mp hy with rfl | hy -- here
      · exact p2 _ (q1 i (Nat.zero_le _) (by (clear hy e2 st q1 e1 a2 a1 hl q2 p2 g2 p1 l1 g1 lm hm3 hz g E; omega)))
      · exact q2 y hy i hi
theorem Kv (E:Hs hs):∃ kvs,ug [scr cs,prT bs hs ss] []=some (.obj 0,[.dit kvs])∧Good hs kvs∧Has hs kvs:=by
  have n3:=E.n3
  have l1:hs.length<lim:=by show _<1000000; omega
  obtain ⟨kvs,k',o5,o6,o7,ea,g,_,h⟩:=a0r (cs:=cs) (ss:=ss) (bs:=bs) E hs 6 [] none none none (fun h hh=>hh) (fun p hp=>by cases hp) (by simp; omega)
  refine ⟨kvs,?_,g,h⟩
  exact zrun (n:=7) (zq (zs (s1:=⟨[some (scr cs,false),some (prT bs hs ss,false),none,none,none,none,none],[.dit []]⟩) rfl) (zq (zs rfl) (zq (Ig (zis (zo rfl rfl pr1) l1) ea) (zr rfl)))) rfl
end
end K
end
noncomputable section
set_option linter.all false
set_option maxRecDepth 100000
set_option maxHeartbeats 1000000
set_option autoImplicit false
namespace K
open C PySem
noncomputable def dB (d:List Pr):T:=.dic (dd d)
noncomputable def ex1 (es:List (List Pr)) (r:Pr):List (List Pr):=es.flatMap fun d=>(List.range (r.2+1).toNat).map fun (k:Nat)=>pt d r.1 (k:Int)
noncomputable def rws (bs:List Bx) (hs:List Hd):List Pr:=(bs.map fun b=>(b.nm,b.hi))++hs.map fun h=>(("@" ++ h.1:Str),h.2 - 1)
noncomputable abbrev bkI:S:=(j8 (sNew 8 (ig Jj (ak (bf 6) dg)))
  (j8 (qu 8 (bf 3) (bf 7))
  (j6 5 (bf 8))))
noncomputable abbrev bkB:S:=(j8 (sNew 5 (ig (fun l=>some (.lst l)) dg))
  (j8 (uo (hName 6) (m5 (bf 2))
  (uo (hName 7) (ji (mOp u5 (bf 4) (au (.int 1)))) bkI))
  (nj 2 (bf 5))))
noncomputable abbrev qA (P R:T) (es:List (List Pr)) (n:Str) (h:Int) (acc:List (List Pr)) (a b c:Slot) (sto:List SO):Sta:=⟨[some (P,false),some (R,false),some (.lst (es.map dB),false),some (.str n,false),some (.int h,false),some (.lst (acc.map dB),true),a,b,c],sto⟩
noncomputable section
variable {sto:List SO} {P R:T} {es:List (List Pr)} {n:Str} {h:Int}
theorem Zz {d:List Pr} (ld:d.length<1000):∀ (m j:Nat) (acc:List (List Pr)) (b c:Slot),acc.length+m≤100000 →
    ∃ b' c':Slot,forL (hName 7) bkI ((List.range' j m).map fun (i:Nat)=>T.int (i:Int)) (qA P R es n h acc (some (dB d,false)) b c sto)=some (.next,qA P R es n h (acc++(List.range' j m).map fun (k:Nat)=>pt d n (k:Int)) (some (dB d,false)) b' c' sto)
  | 0,j,acc,b,c,_=>⟨b,c,by simp [forL]⟩
  | m+1,j,acc,b,c,hl=>by
    have la:acc.length<lim:=by show _<1000000; omega
    have l1:(dd d).length<lim:=by unfold dd; rw [List.length_map]; show _<1000000; omega
    have st:bkI (qA P R es n h acc (some (dB d,false)) (some (.int (j:Int),false)) c sto)=some (.next,qA P R es n h (acc++[pt d n (j:Int)]) (some (dB d,false)) (some (.int (j:Int),false)) (some (dB (pt d n (j:Int)),false)) sto) :=
      zq (zn (t:=dB d) (zm (zc rfl rfl) rfl)) (zq (zw rfl rfl rfl rfl rfl l1 (by rw [a08])) (za rfl rfl (by rw [List.length_map]; exact la) rfl (by unfold qA; rw [List.map_append]; rfl)))
    obtain ⟨b',c',ih⟩:=Zz ld m (j+1) (acc++[pt d n (j:Int)]) (some (.int (j:Int),false)) (some (dB (pt d n (j:Int)),false)) (by rw [List.length_append,List.length_singleton]; omega)
    refine ⟨b',c',?_⟩
    rw [List.range'_succ,List.map_cons,Cd (s1:=qA P R es n h acc (some (dB d,false)) (some (.int (j:Int),false)) c sto) rfl st,ih,List.map_cons,List.append_assoc]
    rfl
theorem bm_loop (h0:0≤h) (h3:h≤3):∀ (l acc:List (List Pr)) (a b c:Slot),(∀ d∈l,d.length<1000)→acc.length+4 * l.length≤100000 →
    ∃ a' b' c':Slot,forL (hName 6) (uo (hName 7) (ji (mOp u5 (bf 4) (au (.int 1)))) bkI) (l.map dB) (qA P R es n h acc a b c sto)=some (.next,qA P R es n h (acc++ex1 l (n,h)) a' b' c' sto)
  | [],acc,a,b,c,_,_=>⟨a,b,c,by simp [forL,ex1]⟩
  | d::l,acc,a,b,c,hd,hl=>by
    rw [List.length_cons] at hl
    obtain ⟨b1,c1,e1⟩:=Zz (sto:=sto) (P:=P) (R:=R) (es:=es) (n:=n) (h:=h) (hd d List.mem_cons_self) (h+1).toNat 0 acc b c (by omega)
    have J:ji (mOp u5 (bf 4) (au (.int 1))) (qA P R es n h acc (some (dB d,false)) b c sto)=some ((List.range' 0 (h+1).toNat).map (fun (i:Nat)=>T.int (i:Int)),qA P R es n h acc (some (dB d,false)) b c sto):=by
      rw [← List.range_eq_range']
      exact zrg (by rw [Int.toNat_of_nonneg (by omega)]; exact zo rfl rfl rfl) (by show _<1000000; omega)
    obtain ⟨a2,b2,c2,ih⟩:=bm_loop h0 h3 l (acc++(List.range' 0 (h+1).toNat).map fun (k:Nat)=>pt d n (k:Int)) (some (dB d,false)) b1 c1 (fun e he=>hd e (List.mem_cons_of_mem _ he)) (by rw [List.length_append,List.length_map,List.length_range']; omega)
    refine ⟨a2,b2,c2,?_⟩
    rw [List.map_cons,Cd (s1:=qA P R es n h acc (some (dB d,false)) b c sto) rfl (Ig J e1),ih,List.append_assoc,← List.range_eq_range']
    rfl
theorem T9 {r:Pr} (h0:0≤r.2) (h3:r.2≤3):∀ l:List (List Pr),(ex1 l r).length≤4 * l.length
  | []=>by simp [ex1]
  | d::l=>by
    have ih:=T9 h0 h3 l
    unfold ex1 at ih ⊢
    rw [List.flatMap_cons,List.length_append,List.length_map,List.length_range,List.length_cons]
    omega
theorem a9d {d:List Pr} {b:Str} {v:Int}:(pt d b v).length≤d.length+1:=by
  unfold pt
  split
  · rw [List.length_map]; omega
  · rw [List.length_append,List.length_singleton]; omega -- here
theorem a0n {r:Pr} {l:List (List Pr)} {d:List Pr} (h:d∈ex1 l r):∃ e∈l,∃ k:Nat,d=pt e r.1 (k:Int):=by
  unfold ex1 at h
  obtain ⟨e,he,h⟩:=List.mem_flatMap.mp h
  obtain ⟨k,_,h⟩:=List.mem_map.mp h
  exact ⟨e,he,k,h.symm⟩
noncomputable abbrev qW (P R:T) (es:List (List Pr)) (w:Slot × Slot × Slot × Slot × Slot × Slot) (sto:List SO):Sta:=⟨[some (P,false),some (R,false),some (.lst (es.map dB),false),w.1,w.2.1,w.2.2.1,w.2.2.2.1,w.2.2.2.2.1,w.2.2.2.2.2],sto⟩
theorem Xd:∀ (l:List Pr) (es:List (List Pr)) (w:Slot × Slot × Slot × Slot × Slot × Slot),(∀ r∈l,0≤r.2∧r.2≤3)→(∀ d∈es,d.length+l.length≤100)→es.length * 4 ^ l.length≤20000 →
    ∃ w',forL (qj [3,4]) bkB (l.map pT) (qW P R es w sto)=some (.next,qW P R (l.foldl ex1 es) w' sto)
  | [],es,w,_,_,_=>⟨w,by simp [forL]⟩
  | r::l,es,w,hr,hd,hz=>by
    obtain ⟨r0,r3⟩:=hr r List.mem_cons_self
    rw [List.length_cons] at hz hd
    have z1:es.length * 4 * 4 ^ l.length≤20000:=by rw [Nat.pow_succ] at hz; calc es.length * 4 * 4 ^ l.length=es.length * (4 ^ l.length * 4):=by rw [Nat.mul_assoc,Nat.mul_comm 4]
        _≤20000:=hz
    have p1:1≤4 ^ l.length:=Nat.one_le_pow _ _ (by decide)
    have z2:es.length * 4≤20000:=Nat.le_trans (Nat.le_mul_of_pos_right _ p1) z1
    have le:es.length<lim:=by show _<1000000; omega
    obtain ⟨a',b',c',e1⟩:=bm_loop (sto:=sto) (P:=P) (R:=R) (es:=es) (n:=r.1) (h:=r.2) r0 r3 es [] w.2.2.2.1 w.2.2.2.2.1 w.2.2.2.2.2 (fun d hd'=>by have:=hd d hd'; omega) (by simp; omega)
    have xl:=T9 r0 r3 es
    rw [List.nil_append] at e1
    have st:bkB (qA P R es r.1 r.2 [] w.2.2.2.1 w.2.2.2.2.1 w.2.2.2.2.2 sto)=some (.next,qW P R (ex1 es r) (some (.str r.1,false),some (.int r.2,false),some (.lst ((ex1 es r).map dB),false),a',b',c') sto) :=
      zq (zn rfl) (zq (Ig (zis rfl le) e1) (ys rfl rfl))
    have st':bkB ⟨[some (P,false),some (R,false),some (.lst (es.map dB),false),some (.str r.1,false),some (.int r.2,false),w.2.2.1,w.2.2.2.1,w.2.2.2.2.1,w.2.2.2.2.2],sto⟩=some (.next,qW P R (ex1 es r) (some (.str r.1,false),some (.int r.2,false),some (.lst ((ex1 es r).map dB),false),a',b',c') sto):=st
    obtain ⟨w',ih⟩:=Xd l (ex1 es r) (some (.str r.1,false),some (.int r.2,false),some (.lst ((ex1 es r).map dB),false),a',b',c') (fun q hq=>hr q (List.mem_cons_of_mem _ hq)) (fun d hd'=>by
      obtain ⟨e,he,k,rfl⟩:=a0n hd'
      have:=hd e he
      have:=a9d (d:=e) (b:=r.1) (v:=(k:Int))
      omega) (Nat.le_trans (Nat.mul_le_mul_right _ (by rw [Nat.mul_comm] at xl; exact xl)) z1)
    refine ⟨w',?_⟩
    exact (Cd (t:=pT r) Cg st').trans ih
end
noncomputable def bks (bs:List Bx) (hs:List Hd):List (List Pr):=(rws bs hs).foldl ex1 [[]]
theorem Zg {d:List Pr} {b:Str} {v:Int} (h:b∉ks d):pt d b v=d++[(b,v)]:=if_neg h
theorem a4a:∀ (l:List Pr) (es:List (List Pr)) (K0:List Str),(∀ e∈es,ks e=K0)→(K0++ks l).Nodup→∀ d∈l.foldl ex1 es,ks d=K0++ks l
  | [],es,K0,he,_,d,hd=>by rw [he d hd]; simp [ks]
  | r::l,es,K0,he,nd,d,hd=>by
    have e1:ks (r::l)=r.1::ks l:=rfl
    rw [e1] at nd
    have nr:r.1∉K0:=fun h=>(List.nodup_append.mp nd).2.2 _ h _ List.mem_cons_self rfl
    rw [e1,show K0++r.1::ks l=(K0++[r.1])++ks l by simp]
    refine a4a l (ex1 es r) (K0++[r.1]) (fun e h=>?_) (by simpa using nd) d hd
    obtain ⟨e0,h0,k,rfl⟩:=a0n h
    rw [Zg (by rw [he e0 h0]; exact nr)]
    show (e0++[(r.1,(k:Int))]).map (·.1)=_
    rw [List.map_append]; exact congrArg (· ++ [r.1]) (he e0 h0)
theorem a0j {f:Str→Int}:∀ (l:List Pr) (es:List (List Pr)) (e:List Pr),e∈es→(ks e++ks l).Nodup→(∀ r∈l,0≤f r.1∧f r.1≤r.2)→(e++l.map fun r=>(r.1,f r.1))∈l.foldl ex1 es
  | [],es,e,he,_,_=>by simpa using he
  | r::l,es,e,he,nd,hf=>by
    have e1:ks (r::l)=r.1::ks l:=rfl
    rw [e1] at nd
    have nr:r.1∉ks e:=fun h=>(List.nodup_append.mp nd).2.2 _ h _ List.mem_cons_self rfl
    obtain ⟨f0,f1⟩:=hf r List.mem_cons_self
    have m:(e++[(r.1,f r.1)])∈ex1 es r:=by
      unfold ex1
      refine List.mem_flatMap.mpr ⟨e,he,List.mem_map.mpr ⟨(f r.1).toNat,List.mem_range.mpr (by omega),?_⟩⟩
      rw [Int.toNat_of_nonneg f0,Zg nr]
    have k1:ks (e++[(r.1,f r.1)])=ks e++[r.1]:=by unfold ks; rw [List.map_append]; rfl
    have:=a0j l (ex1 es r) (e++[(r.1,f r.1)]) m (by rw [k1]; simpa using nd) (fun q hq=>hf q (List.mem_cons_of_mem _ hq))
    rw [List.foldl_cons,List.map_cons]
    simpa using this
theorem a8t {f:Str→Int} {x:Str}:∀ {l:List Pr},x∈ks l→gt (l.map fun r=>(r.1,f r.1)) x=f x
  | [],h=>by simp [ks] at h
  | r::l,h=>by
    rw [List.map_cons,gt]
    by_cases e:r.1=x
    · rw [if_pos e,e]
    · rw [if_neg e]
      rcases Lf.mp h with h | h
      · exact absurd h.symm e
      · exact a8t h
theorem Vp {d:List Pr} {x:Str} (h:x∈ks d):bk (dd d) x=gt d x:=by unfold bk; rw [Gb h]
theorem a2p {d:List Pr} {N:List Str} (h:ks d=N):Bk N (dd d):=fun x hx=>⟨gt d x,Gb (by rw [h]; exact hx)⟩
theorem a8a {bs:List Bx} {hs:List Hd} (nd:(ks (rws bs hs)).Nodup) {B:List (C.Key × T)} (h:∀ r∈rws bs hs,0≤bk B r.1∧bk B r.1≤r.2):∃ d∈bks bs hs,∀ x∈ks (rws bs hs),bk (dd d) x=bk B x:=by
  have:=a0j (f:=bk B) (rws bs hs) [[]] [] List.mem_cons_self (by simpa [ks] using nd) h
  refine ⟨_,this,fun x hx=>?_⟩
  rw [List.nil_append,Vp,a8t hx]
  unfold ks; rw [List.map_map]; exact hx
noncomputable section
variable {sto:List SO} {bs:List Bx} {hs:List Hd} {ss:List T}
theorem bx3 {b:Bx}:cu (bxT b) (.int 3)=some (.int b.hi):=Yh
theorem Zj (lb:bs.length≤2) (lh:hs.length≤3) (hb:∀ b∈bs,0≤b.hi∧b.hi≤3) (hh:∀ h∈hs,h.1.length<100∧1≤h.2∧h.2≤4):Ag [prT bs hs ss] sto=some (.lst ((bks bs hs).map dB),sto):=by
  have s0:(⟨[some (prT bs hs ss,false),none,none,none,none,none,none,none,none],sto⟩:Sta)=⟨[some (prT bs hs ss,false),none,none,none,none,none,none,none,none],sto⟩:=rfl
  have A:mj 1 [] (hName 0) (m5 (mOp cu (bf 0) (au (.int 0)))) jm (ig (fun l=>some (.tup l)) (ak (mOp cu (bf 0) (au (.int 0))) (ak (mOp cu (bf 0) (au (.int 3))) dg))) ⟨[some (prT bs hs ss,false),none,none,none,none,none,none,none,none],sto⟩=some (.lst (bs.map fun b=>pT (b.nm,b.hi)),⟨[some (prT bs hs ss,false),none,none,none,none,none,none,none,none],sto⟩):=by
    refine mz bxT _ bs (s1:=⟨[some (prT bs hs ss,false),none,none,none,none,none,none,none,none],sto⟩) _ [] (zis (zo rfl rfl pr0) (by show _<1000000; omega)) rfl rfl rfl (by show _≤1000000; omega) ?_
    intro b hb pre hp
    match pre,hp with
    | [p0],_=>exact ⟨[some (bxT b,false)],rfl,rfl,rfl,zm (zc (zo rfl rfl bx0) (zc (zo rfl rfl bx3) rfl)) rfl⟩
  have B:mj 2 [] (qj [0,1]) (m5 (mOp cu (bf 0) (au (.int 1)))) jm (ig (fun l=>some (.tup l)) (ak (mOp u5 (au (.str "@")) (bf 0)) (ak (mOp Bg (bf 1) (au (.int 1))) dg))) ⟨[some (prT bs hs ss,false),none,none,none,none,none,none,none,none],sto⟩=some (.lst (hs.map fun h=>pT ("@" ++ h.1,h.2 - 1)),⟨[some (prT bs hs ss,false),none,none,none,none,none,none,none,none],sto⟩):=by
    refine mz hdT _ hs (s1:=⟨[some (prT bs hs ss,false),none,none,none,none,none,none,none,none],sto⟩) _ [] (zis (zo rfl rfl pr1) (by show _<1000000; omega)) rfl rfl rfl (by show _≤1000000; omega) ?_
    intro h hh' pre hp
    have l1:(Str.ofString "@").length+h.1.length<lim:=by
      have:(Str.ofString "@").length=1:=by decide
      have:=(hh h hh').1
      show _<1000000; omega
    match pre,hp with
    | [p0,p1],_=>exact ⟨[some (.str h.1,false),some (.int h.2,false)],rfl,Cg,rfl,zm (zc (zo rfl rfl (ad l1)) (zc (zo rfl rfl rfl) rfl)) rfl⟩
  have e1:(bs.map fun b=>pT (b.nm,b.hi))++(hs.map fun h=>pT ("@" ++ h.1,h.2 - 1))=(rws bs hs).map pT:=by
    unfold rws; rw [List.map_append,List.map_map,List.map_map]; rfl
  have lr:(rws bs hs).length≤5:=by unfold rws; rw [List.length_append,List.length_map,List.length_map]; omega
  have l2:(bs.map fun b=>pT (b.nm,b.hi)).length+(hs.map fun h=>pT ("@" ++ h.1,h.2 - 1)).length<lim:=by rw [List.length_map,List.length_map]; show _<1000000; omega
  have D:=add_l l2
  rw [e1] at D
  obtain ⟨w',L⟩:=Xd (sto:=sto) (P:=prT bs hs ss) (R:=.lst ((rws bs hs).map pT)) (rws bs hs) [[]] (none,none,none,none,none,none) (fun r hr=>by
    unfold rws at hr
    rcases List.mem_append.mp hr with hr | hr
    · obtain ⟨b,hb',rfl⟩:=List.mem_map.mp hr; exact hb b hb'
    · obtain ⟨h,hh',rfl⟩:=List.mem_map.mp hr
      have:=hh h hh'
      dsimp only; omega) (fun d hd=>by rw [List.mem_singleton] at hd; subst hd; simp; omega) (by
        have:4 ^ (rws bs hs).length≤4 ^ 5:=Nat.pow_le_pow_right (by decide) lr
        simp only [List.length_singleton,Nat.one_mul]; exact Nat.le_trans this (by decide))
  exact zrun (n:=9) (zq (zs (zo A B D)) (zq (zs rfl) (zq (Ig (zis rfl (by show _<1000000; omega)) L) (zr rfl)))) rfl
end
end K
end
noncomputable section
set_option linter.all false
set_option maxRecDepth 100000
set_option maxHeartbeats 1000000
set_option autoImplicit false
namespace K
open C PySem
theorem Dr.ten {N:List Str} {r:Rem} (h:Dr N 2 3 r):OkR Bd 10 r:=h.up.up.up.up.up.up.up.ok (by decide)
theorem okk {hs:List Hd} {kvs:List (List C.Key × T)} {h:Hd} {i:Nat} (E:Hs hs) (g:Good hs kvs) (p:Has hs kvs) (hm:h∈hs) (hi:(i:Int)<h.2):∃ r,Okk kvs Bd ((h.1,(i:Int)),r)∧Dr (nn hs) 2 3 r:=by
  obtain ⟨t,ht⟩:=p h hm i hi
  obtain ⟨q,hq,rfl⟩:=U6 ht
  obtain ⟨r,e,o⟩:=g q hq
  obtain ⟨a,b,_⟩:=E.hh h hm
  exact ⟨r,⟨a,b,by rw [← e]; exact ht,o.ten⟩,o⟩
noncomputable def f0 (sx:Int) (hs:List Hd):List Pr:=[(Str.ofString "x",sx),(Str.ofString "y",0)]++hs.map fun h=>(("@" ++ h.1:Str),0)
theorem Wu {x:Str} (h:x.length<100):(Str.ofString "@").length+x.length<lim:=by
  have:(Str.ofString "@").length=1:=by decide
  show _<1000000; omega
theorem a4z {a b:Int}:eqD (.int a) (.int b)=some (a==b):=by simp [eqD,dat,PyData.depth,PyData.eqv]
theorem Wt {e:List Pr}:∀ {d:List Pr},(∀ x∈ks d,x∈ks e)→a2u (dd d) (dd e)=some (d.all fun p=>p.2==gt e p.1)
  | [],_=>rfl
  | (k,v)::d,h=>by
    have ih:=Wt (e:=e) (d:=d) fun x hx=>h x (List.mem_cons_of_mem _ hx)
    show (match Av (.inr k) (dd e) with | none=>some false | some y=>match eqD (.int v) y with | some b=>(a2u (dd d) (dd e)).map (b && ·) | none=>none)=_
    rw [Gb (h k List.mem_cons_self)]
    dsimp only
    rw [a4z,ih]
    rfl
theorem a4d {q:Str→Int→Bool}:∀ {d:List Pr},(ks d).Nodup→(d.all fun p=>q p.1 p.2)=(ks d).all fun x=>q x (gt d x)
  | [],_=>rfl
  | (k,v)::d,nd=>by
    have nd':k∉ks d∧(ks d).Nodup:=List.nodup_cons.mp nd
    show (q k v&&d.all _)=(q k (gt ((k,v)::d) k)&&(ks d).all _)
    rw [a4d nd'.2,gt,if_pos rfl]
    congr 1
    rw [Bool.eq_iff_iff,List.all_eq_true,List.all_eq_true] -- here
    refine forall_congr' fun x=>forall_congr' fun hx=>?_
    have:¬ k=x:=fun e=>nd'.1 (e ▸ hx)
    rw [gt,if_neg this]
theorem a2q {d e:List Pr} (h:ks d=ks e) (nd:(ks d).Nodup):eqO (dB d) (dB e)=some (.bl ((ks d).all fun x=>bk (dd d) x==bk (dd e) x)):=by
  have hl:(dd d).length=(dd e).length:=by
    have:=congrArg List.length h -- here
    unfold ks at this
    unfold dd
    simpa using this
  have e1:eqT (dB d) (dB e)=some ((ks d).all fun x=>gt d x==gt e x):=by
    show (if (dd d).length=(dd e).length then a2u (dd d) (dd e) else some false)=_
    rw [if_pos hl,Wt fun x hx=>by rw [← h]; exact hx,a4d (q:=fun x v=>v==gt e x) nd]
  unfold eqO
  rw [e1]
  dsimp only
  congr 2
  rw [Bool.eq_iff_iff,List.all_eq_true,List.all_eq_true] -- here
  refine forall_congr' fun x=>forall_congr' fun hx=>?_
  rw [Vp hx,Vp (by rw [← h]; exact hx)]
noncomputable section
variable {sto:List SO} {hs:List Hd} {ss:List T} {hx sx hy:Int} {P:T} {kvs:List (List C.Key × T)}
theorem a0w (E:Hs hs):(nn hs).Nodup:=by
  have a1:(hs.map fun h=>("@" ++ h.1:Str)).Nodup:=by
    have e:(hs.map fun h=>("@" ++ h.1:Str))=(hs.map (·.1)).map fun x=>("@" ++ x:Str):=by rw [List.map_map]; rfl
    rw [e]
    refine List.Pairwise.map _ (fun a b hab=>?_) E.nd
    exact fun z=>hab (a3s z)
  refine List.nodup_cons.mpr ⟨fun h=>?_,List.nodup_cons.mpr ⟨fun h=>?_,a1⟩⟩
  · rcases List.mem_cons.mp h with h | h
    · exact sxy h
    · obtain ⟨q,_,e⟩:=List.mem_map.mp h
      exact Q9 (y:=q.1) (.inl rfl) e.symm
  · obtain ⟨q,_,e⟩:=List.mem_map.mp h
    exact Q9 (y:=q.1) (.inr rfl) e.symm
theorem Ua:ks (rws (bxs hx sx hy) hs)=nn hs:=by
  unfold rws ks nn
  rw [List.map_append,List.map_map,List.map_map]
  rfl
theorem Yz:ks (f0 sx hs)=nn hs:=by
  unfold f0 ks nn
  rw [List.map_append,List.map_map]
  rfl
theorem Ys:∀ (l:List Hd) (d:List Pr) (a b:Slot),(ks d++l.map fun h=>("@" ++ h.1:Str)).Nodup→(∀ h∈l,h.1.length<100)→d.length+l.length≤100 →
    ∃ a' b':Slot,forL (qj [2,3]) (qu 1 (mOp u5 (au (.str "@")) (bf 2)) (au (.int 0))) (l.map hdT) ⟨[some (P,false),some (dB d,true),a,b],sto⟩=some (.next,⟨[some (P,false),some (dB (d++l.map fun h=>(("@" ++ h.1:Str),0)),true),a',b'],sto⟩)
  | [],d,a,b,_,_,_=>⟨a,b,by simp [forL]⟩
  | h::l,d,a,b,nd,hn,hl=>by
    rw [List.length_cons] at hl
    rw [List.map_cons] at nd
    have nr:("@" ++ h.1:Str)∉ks d:=fun z=>(List.nodup_append.mp nd).2.2 _ z _ List.mem_cons_self rfl
    have k1:ks (d++[(("@" ++ h.1:Str),(0:Int))])=ks d++[("@" ++ h.1:Str)]:=by unfold ks; rw [List.map_append]; rfl
    obtain ⟨a',b',ih⟩:=Ys l (d++[(("@" ++ h.1:Str),0)]) (some (.str h.1,false)) (some (.int h.2,false)) (by rw [k1]; simpa using nd) (fun q hq=>hn q (List.mem_cons_of_mem _ hq)) (by rw [List.length_append,List.length_singleton]; omega)
    rw [List.append_assoc] at ih
    have ld:(dd d).length<lim:=by unfold dd; rw [List.length_map]; show _<1000000; omega
    have st:qu 1 (mOp u5 (au (.str "@")) (bf 2)) (au (.int 0)) ⟨[some (P,false),some (dB d,true),some (.str h.1,false),some (.int h.2,false)],sto⟩=some (.next,⟨[some (P,false),some (dB (d++[(("@" ++ h.1:Str),0)]),true),some (.str h.1,false),some (.int h.2,false)],sto⟩) :=
      zw rfl rfl (zo rfl rfl (ad (Wu (hn h List.mem_cons_self)))) rfl rfl ld (by rw [a08,Zg nr]; rfl)
    exact ⟨a',b',(Cd (t:=hdT h) Cg st).trans ih⟩
theorem Px (E:Hs hs):ur [prT (bxs hx sx hy) hs ss] sto=some (dB (f0 sx hs),sto):=by
  have n3:=E.n3
  have l1:hs.length<lim:=by show _<1000000; omega
  obtain ⟨a,b,L⟩:=Ys (sto:=sto) (P:=prT (bxs hx sx hy) hs ss) hs [(Str.ofString "x",sx),(Str.ofString "y",0)] none none (a0w E) (fun h hh=>(E.hh h hh).2.1) (by simp; omega)
  exact zrun (n:=4) (zq (zn (t:=dB [(Str.ofString "x",sx),(Str.ofString "y",0)]) (zm (zc (zo (zo (zo rfl rfl pr0) rfl rfl) rfl bx4) rfl) rfl)) (zq (Ig (zis (zo rfl rfl pr1) l1) L) (zr rfl))) rfl
theorem Oe {B:List (C.Key × T)}:((nn hs).all fun x=>bk B x==bk (dd (f0 sx hs)) x)=(((bxs hx sx hy).all fun b=>bk B b.nm==b.st)&&hs.all fun h=>bk B ("@" ++ h.1)==0):=by
  have g1:bk (dd (f0 sx hs)) "x" = sx:=by
    rw [Vp (by rw [Yz]; exact Uy)]
    exact if_pos rfl
  have g2:bk (dd (f0 sx hs)) "y" = 0:=by
    rw [Vp (by rw [Yz]; exact Tv)]
    show (if Str.ofString "x" = Str.ofString "y" then sx else if Str.ofString "y" = Str.ofString "y" then 0 else _)=0
    rw [if_neg sxy,if_pos rfl]
  have g3:∀ h∈hs,bk (dd (f0 sx hs)) ("@" ++ h.1)=0:=by
    intro h hh
    rw [Vp (by rw [Yz]; exact Zy (List.mem_map.mpr ⟨h,hh,rfl⟩))]
    show (if Str.ofString "x" = "@" ++ h.1 then sx else if Str.ofString "y" = "@" ++ h.1 then 0 else gt (hs.map fun h=>(("@" ++ h.1:Str),0)) _)=0
    rw [if_neg (Q9 (.inl rfl)),if_neg (Q9 (.inr rfl))]
    have z:∀ (l:List Hd) (x:Str),gt (l.map fun h=>(("@" ++ h.1:Str),0)) x=0:=by
      intro l x
      induction l with
      | nil=>rfl
      | cons a l ih=>rw [List.map_cons,gt,ih]; split <;> rfl
    exact z hs _
  unfold nn bxs
  rw [List.all_cons,List.all_cons,List.all_map,List.all_cons,List.all_cons,List.all_nil,g1,g2,Bool.and_true,Bool.and_assoc]
  congr 2
  rw [Bool.eq_iff_iff,List.all_eq_true,List.all_eq_true] -- here
  refine forall_congr' fun h=>forall_congr' fun hh=>?_
  show (bk B ("@" ++ h.1)==bk (dd (f0 sx hs)) ("@" ++ h.1))=true↔_
  rw [g3 h hh]
theorem a4h {a b:Bool}:neO (.bl a) (.bl b)=some (.bl (!(a==b))):=by simp [neO,eqT,eqD,dat,PyData.depth,PyData.eqv]
noncomputable abbrev stB:S:=(j8 (nj 7 (qb (Bu (iu (mOp eqO (bf 6) (bf 5))) (iu (qb (yw (iu (dw (iy 40) (ak (n6 (bf 1) (ig (fun l=>some (.tup l)) (ak (bf 3) (ak (au (.int 0)) dg)))) (ak (bf 6) dg))))))))))
  (sIf (iu (mOp neO (dw qy (ak (bf 4) (ak (bf 6) dg))) (bf 7)))
  (jz (au (.bl false)))
  tu))
noncomputable abbrev qG (P:T) (L:T) (hand:Str) (F:List Rem) (sx:Int) (hs:List Hd) (a b:Slot) (kvs:List (List C.Key × T)):Sta:=⟨[some (P,false),some (.obj 0,false),some (L,false),some (.str hand,false),some (.lst (F.map jg),false),some (dB (f0 sx hs),false),a,b],[.dit kvs]⟩
theorem Yg {L:T} {hand:Str} {r:Rem} (E:Hs hs) (xr:Bv [.inr hand,.inl 0] kvs=some (jg r)) (dr:Dr (nn hs) 2 3 r):∀ (l:List (List Pr)) (a b:Slot),(∀ d∈l,ks d=nn hs) →
    ∃ a' b':Slot,forL (hName 6) stB (l.map dB) (qG P L hand (stF (bxs hx sx hy) hs r) sx hs a b kvs)=some (.next,qG P L hand (stF (bxs hx sx hy) hs r) sx hs a' b' kvs)
  | [],a,b,_=>⟨a,b,by simp [forL]⟩
  | d::l,a,b,hd=>by
    have kd:=hd d List.mem_cons_self
    have hB:Bk (nn hs) (dd d):=a2p kd
    have n3:=E.n3
    have e1:=a2q (d:=d) (e:=f0 sx hs) (by rw [kd,Yz]) (by rw [kd]; exact a0w E)
    rw [kd,Oe (hx:=hx) (hy:=hy)] at e1
    have e2:=K9 (sto:=[.dit kvs]) hB Uy Tv (by decide) dr 40 (by decide)
    have e3:=Ci (sto:=[.dit kvs]) (F:=stF (bxs hx sx hy) hs r) (B:=dd d) (by unfold stF; simp [bxs]; omega) hB (a0a Uy Tv (fun b hb=>by
      simp only [bxs,List.mem_cons,List.not_mem_nil,or_false] at hb
      rcases hb with rfl | rfl
      · exact Uy
      · exact Tv) (fun h hh=>Zy (List.mem_map.mpr ⟨h,hh,rfl⟩)) dr)
    rw [a4l dr] at e3
    generalize hQ:(((bxs hx sx hy).all fun b=>bk (dd d) b.nm==b.st)&&hs.all fun h=>bk (dd d) ("@" ++ h.1)==0)=Q at *
    have st:stB (qG P L hand (stF (bxs hx sx hy) hs r) sx hs (some (dB d,false)) b kvs)=some (.next,qG P L hand (stF (bxs hx sx hy) hs r) sx hs (some (dB d,false)) (some (.bl (Q && !tv (dd d) r),false)) kvs):=by
      refine zq (s1:=qG P L hand (stF (bxs hx sx hy) hs r) sx hs (some (dB d,false)) (some (.bl (Q && !tv (dd d) r),false)) kvs) (ys (zb (acy (zt (zo rfl rfl e1)) (zt (zb (a2r (zt (zf0 (zc (Gu (n:=0) rfl rfl rfl ks2 xr) rfl) e2))))))) rfl) ?_
      refine ze (s1:=qG P L hand (stF (bxs hx sx hy) hs r) sx hs (some (dB d,false)) (some (.bl (Q && !tv (dd d) r),false)) kvs) (zt (zo (zf0 rfl e3) rfl ?_)) rfl
      rw [a4h]; simp
    obtain ⟨a',b',ih⟩:=Yg E xr dr l (some (dB d,false)) (some (.bl (Q && !tv (dd d) r),false)) fun e he=>hd e (List.mem_cons_of_mem _ he)
    exact ⟨a',b',(Cd (t:=dB d) rfl st).trans ih⟩
theorem Yk {hand:Str} {r:Rem} {bks:List (List Pr)} (E:Hs hs) (xr:Bv [.inr hand,.inl 0] kvs=some (jg r)) (dr:Dr (nn hs) 2 3 r) (hb:∀ d∈bks,ks d=nn hs) (lb:bks.length≤100000) :
    yd [prT (bxs hx sx hy) hs ss,.obj 0,.lst (bks.map dB),.str hand] [.dit kvs]=some (.bl true,[.dit kvs]):=by
  have n3:=E.n3
  have e1:=Gm (sto:=[.dit kvs]) (bs:=bxs hx sx hy) (hs:=hs) (ss:=ss) (n:=0) (hand:=hand) (by show 2≤3; decide) (by omega) (fun h hh=>(E.hh h hh).2.1) rfl xr dr.ten (by decide)
  rw [← a5m dr.ten] at e1
  have e2:=Px (hx:=hx) (sx:=sx) (hy:=hy) (ss:=ss) (sto:=[.dit kvs]) E
  obtain ⟨a,b,L⟩:=Yg (P:=prT (bxs hx sx hy) hs ss) (hx:=hx) (sx:=sx) (hy:=hy) (L:=.lst (bks.map dB)) E xr dr bks none none hb
  exact zrun (n:=8) (zq (zs (zf0 rfl e1)) (zq (zs (zf0 rfl e2)) (zq (Ig (zis rfl (by show _<1000000; omega)) L) (zr rfl)))) rfl
end
end K
end
noncomputable section
set_option linter.all false
set_option maxRecDepth 100000
set_option maxHeartbeats 1000000
set_option autoImplicit false
namespace K
open C PySem
theorem a1y {q k:C.Key} {t:T} {d:List (C.Key × T)}:((d.map fun p=>if p.1=k then (p.1,t) else p).any fun p=>decide (p.1=q))=d.any fun p=>decide (p.1=q):=by
  rw [List.any_map]
  congr 1
  funext p
  show decide ((if p.1=k then (p.1,t) else p).1=q)=decide (p.1=q)
  split <;> rfl
theorem Z5 {k:C.Key} {t u:T} {d:List (C.Key × T)}:Cz k u (Cz k t d)=Cz k u d:=by
  unfold Cz
  cases h:d.any fun p=>decide (p.1=k) with
  | true =>
    rw [if_pos rfl,a1y,h,if_pos rfl,if_pos rfl,List.map_map]
    refine List.map_congr_left fun p _=>?_
    show (if (if p.1=k then (p.1,t) else p).1=k then ((if p.1=k then (p.1,t) else p).1,u) else (if p.1=k then (p.1,t) else p))=_
    by_cases e:p.1=k <;> simp [e]
  | false =>
    have n:∀ p∈d,¬ p.1=k:=fun p hp e=>by
      have:=List.any_eq_false.mp h p hp
      simp [e] at this
    simp only [Bool.false_eq_true,if_false,List.any_append,h,List.any_cons,List.any_nil,decide_true,Bool.or_false,Bool.false_or,if_true,List.map_append,List.map_cons,List.map_nil]
    rw [show (d.map fun p=>if p.1=k then (p.1,u) else p)=d from (List.map_congr_left (g:=id) fun p hp=>if_neg (n p hp)).trans (List.map_id _)]
noncomputable abbrev W8:=Slot × Slot × Slot × Slot × Slot × Slot × Slot × Slot
noncomputable abbrev qH (P:T) (B:List (C.Key × T)) (c i:Int) (S:Sp) (d:List (C.Key × T)) (w:W8) (sto:List SO):Sta:=⟨[some (P,false),some (.dic B,false),some (.int c,false),some (.int i,false),some (.str S.hand,false),some (.int S.here,false),some (jg S.guard,false),some (.tup (S.sets.map seT),false),some (.int S.to,false),some (.dic d,true),w.1,w.2.1,w.2.2.1,w.2.2.2.1,w.2.2.2.2.1,w.2.2.2.2.2.1,w.2.2.2.2.2.2.1,w.2.2.2.2.2.2.2],sto⟩
noncomputable abbrev aa4:S:=(qu 9 (bf 10) (mOp u5 (wu 9 (bf 10)) (mOp O7 (bf 13) (mOp cu (bf 1) (bf 12)))))
noncomputable abbrev seB:S:=(j8 (qu 9 (bf 10) (mOp cu (bf 11) (au (.int 0))))
  (uo (qj [12,13]) (m5 (mOp cu (bf 11) (au (.int 1)))) aa4))
noncomputable abbrev ckB:S:=(sIf (mOr (iu (mOp ltT (wu 9 (bf 12)) (bf 15))) (iu (mOp ltT (bf 16) (wu 9 (bf 12)))))
  (jz (bf 1))
  tu)
noncomputable section
variable {sto:List SO} {P:T} {B d:List (C.Key × T)} {c i:Int} {S:Sp} {N:List Str} {b11 e f g h:Slot} {x:Str}
theorem abd {s:Sm}:cu (smT s) (.int 1)=some (.tup (s.2.map pT)):=xq
theorem Xz (hB:Bk N B) (ld:d.length<1000):∀ (l:List Pr) (n:Int) (o12 o13:Slot),(∀ p∈l,p.1∈N∧Di p.2=true) →
    ∃ o12' o13':Slot,forL (qj [12,13]) aa4 (l.map pT) (qH P B c i S (Cz (.inr x) (.int n) d) (some (.str x,false),b11,o12,o13,e,f,g,h) sto)=some (.next,qH P B c i S (Cz (.inr x) (.int (n+(l.map fun p=>p.2 * bk B p.1).sum)) d) (some (.str x,false),b11,o12',o13',e,f,g,h) sto)
  | [],n,o12,o13,_=>⟨o12,o13,by simp [forL]⟩
  | p::l,n,o12,o13,hl=>by
    obtain ⟨p1,p2⟩:=hl p List.mem_cons_self
    have pl:=Nf (k:=.inr x) (t:=.int n) (d:=d)
    have lp:(Cz (.inr x) (.int n) d).length<lim:=by show _<1000000; omega
    have gx:Av (.inr x) (Cz (.inr x) (.int n) d)=some (.int n):=by rw [Mg,if_pos rfl]
    have st:aa4 (qH P B c i S (Cz (.inr x) (.int n) d) (some (.str x,false),b11,some (.str p.1,false),some (.int p.2,false),e,f,g,h) sto)=some (.next,qH P B c i S (Cz (.inr x) (.int (n+p.2 * bk B p.1)) d) (some (.str x,false),b11,some (.str p.1,false),some (.int p.2,false),e,f,g,h) sto) :=
      zw (zo (zoi rfl rfl rfl rfl gx) (zo rfl (zo rfl rfl (hB.at p1)) (mu p2)) rfl) rfl rfl rfl rfl lp (by rw [Z5]; rfl)
    obtain ⟨a,b,ih⟩:=Xz hB ld l (n+p.2 * bk B p.1) (some (.str p.1,false)) (some (.int p.2,false)) fun q hq=>hl q (List.mem_cons_of_mem _ hq)
    refine ⟨a,b,?_⟩
    rw [List.map_cons,List.map_cons,List.sum_cons,← Int.add_assoc]
    exact (Cd (t:=pT p) Cg st).trans ih
theorem Wn (hB:Bk N B):∀ (l:List (Str × Sm)) (d:List (C.Key × T)) (w:W8),(∀ p∈l,okN N p.2)→d.length+l.length<900 →
    ∃ w':W8,forL (qj [10,11]) seB (l.map seT) (qH P B c i S d w sto)=some (.next,qH P B c i S (l.foldl (pt1 B) d) w' sto)
  | [],d,w,_,_=>⟨w,by simp [forL]⟩
  | p::l,d,w,hl,hz=>by
    rw [List.length_cons] at hz
    have op:=hl p List.mem_cons_self
    have ld:d.length<lim:=by show _<1000000; omega
    obtain ⟨a,b,L⟩:=Xz (sto:=sto) (P:=P) (c:=c) (i:=i) (S:=S) (x:=p.1) (b11:=some (smT p.2,false)) (e:=w.2.2.2.2.1) (f:=w.2.2.2.2.2.1) (g:=w.2.2.2.2.2.2.1) (h:=w.2.2.2.2.2.2.2) hB (d:=d) (by omega) p.2.2 p.2.1 w.2.2.1 w.2.2.2.1 op.2
    have st:seB (qH P B c i S d (some (.str p.1,false),some (smT p.2,false),w.2.2.1,w.2.2.2.1,w.2.2.2.2.1,w.2.2.2.2.2.1,w.2.2.2.2.2.2.1,w.2.2.2.2.2.2.2) sto)=some (.next,qH P B c i S (pt1 B d p) (some (.str p.1,false),some (smT p.2,false),a,b,w.2.2.2.2.1,w.2.2.2.2.2.1,w.2.2.2.2.2.2.1,w.2.2.2.2.2.2.2) sto) :=
      zq (zw (zo rfl rfl a8q) rfl rfl rfl rfl ld rfl) (Ig (a75 (zo rfl rfl abd) (a0h op)) L)
    have pl:=Nf (k:=.inr p.1) (t:=.int (val B p.2)) (d:=d)
    obtain ⟨w',ih⟩:=Wn hB l (pt1 B d p) (some (.str p.1,false),some (smT p.2,false),a,b,w.2.2.2.2.1,w.2.2.2.2.2.1,w.2.2.2.2.2.2.1,w.2.2.2.2.2.2.2) (fun q hq=>hl q (List.mem_cons_of_mem _ hq)) (by unfold pt1; omega)
    exact ⟨w',(Cd (t:=seT p) Cg st).trans ih⟩
theorem Xw (hd:Bk N d):∀ (l:List Bx) (w:W8),(∀ b∈l,b.nm∈N) →
    ∃ w':W8,forL (qj [12,14,15,16,17]) ckB (l.map bxT) (qH P B c i S d w sto)=some (if l.all (inB d) then .next else .ret (.dic B),qH P B c i S d w' sto)
  | [],w,_=>⟨w,by simp [forL]⟩
  | b::l,w,hl=>by
    have e1:=hd.at (hl b List.mem_cons_self)
    have sh:qj [12,14,15,16,17] (bxT b) (qH P B c i S d w sto)=some (qH P B c i S d (w.1,w.2.1,some (.str b.nm,false),w.2.2.2.1,some (.str b.ow,false),some (.int b.lo,false),some (.int b.hi,false),some (.int b.st,false)) sto):=by
      unfold bxT; rw [a4v]; rfl
    by_cases h1:bk d b.nm<b.lo
    · have z:inB d b=false:=by unfold inB; rw [decide_eq_false (by omega)]; rfl
      refine ⟨(w.1,w.2.1,some (.str b.nm,false),w.2.2.2.1,some (.str b.ow,false),some (.int b.lo,false),some (.int b.hi,false),some (.int b.st,false)),?_⟩
      rw [List.all_cons,z,Bool.false_and,if_neg (by simp)]
      exact Qu (t:=bxT b) sh (zk (aay (zt (zo (zoi rfl rfl rfl rfl e1) rfl (abh h1)))) (zr rfl))
    by_cases h2:b.hi<bk d b.nm
    · have z:inB d b=false:=by unfold inB; rw [decide_eq_false (p:=bk d b.nm≤b.hi) (by omega),Bool.and_false]
      refine ⟨(w.1,w.2.1,some (.str b.nm,false),w.2.2.2.1,some (.str b.ow,false),some (.int b.lo,false),some (.int b.hi,false),some (.int b.st,false)),?_⟩
      rw [List.all_cons,z,Bool.false_and,if_neg (by simp)]
      exact Qu (t:=bxT b) sh (zk (a0u (zt (zo (zoi rfl rfl rfl rfl e1) rfl (a9u h1))) (zt (zo rfl (zoi rfl rfl rfl rfl e1) (abh h2)))) (zr rfl))
    · have z:inB d b=true:=by unfold inB; rw [decide_eq_true (by omega),decide_eq_true (by omega)]; rfl
      obtain ⟨w',ih⟩:=Xw hd l (w.1,w.2.1,some (.str b.nm,false),w.2.2.2.1,some (.str b.ow,false),some (.int b.lo,false),some (.int b.hi,false),some (.int b.st,false)) fun q hq=>hl q (List.mem_cons_of_mem _ hq)
      refine ⟨w',?_⟩
      rw [List.all_cons,z,Bool.true_and]
      exact (Cd (t:=bxT b) sh (ze (a0u (zt (zo (zoi rfl rfl rfl rfl e1) rfl (a9u h1))) (zt (zo rfl (zoi rfl rfl rfl rfl e1) (a9u h2)))) rfl)).trans ih
end
structure Stp (bs:List Bx) (B B':List (C.Key × T)) (s:Sp):Prop where
  e:B'=beh s.sets s.hand s.to B
  h:bk B ("@" ++ s.hand)=s.here
  g:tv B s.guard=true
  i:∀ b∈bs,inB B' b=true
noncomputable section
variable {sto:List SO} {hs:List Hd} {sp:List Sp} {B:List (C.Key × T)} {c:Int} {bs:List Bx}
theorem a1c (E:Hs hs) (so:∀ s∈sp,En hs s) (ls:sp.length≤4) (hb:∀ b∈bs,b.nm∈nn hs) (lb:bs.length≤3) (hB:Bk (nn hs) B) (lB:B.length≤800) :
    ∃ B',Ab [prT bs hs (sp.map spT),.dic B,.int c] sto=some (.dic B',sto)∧(B'=B∨∃ i,∃ hi:i<sp.length,Stp bs B B' sp[i]):=by
  by_cases h0:sp.length=0
  · refine ⟨B,?_,.inl rfl⟩
    have z:((sp.length:Int)==0)=true:=by rw [h0]; rfl
    exact zrun (n:=18) (zqr (zk (zt (zo (zm (zc (zo rfl rfl pr2) rfl) a3i) rfl (eq_i z))) (zr rfl))) rfl
  have z:((sp.length:Int)==0)=false:=by rw [beq_eq_false_iff_ne]; omega
  have p0:(0:Int)<sp.length:=by omega
  have m0:=Int.emod_nonneg c (show (sp.length:Int)≠0 by omega)
  have m1:=Int.emod_lt_of_pos c p0
  obtain ⟨j,hj⟩:∃ j:Nat,c%(sp.length:Int)=(j:Int):=⟨_,(Int.toNat_of_nonneg m0).symm⟩
  have hi:j<sp.length:=by omega
  have it:=step_at hi
  obtain ⟨S,hS⟩:∃ S,S=sp[j]:=⟨_,rfl⟩
  have k:=so sp[j] (List.getElem_mem hi)
  rw [← hS] at it k
  obtain ⟨hh,hm,e1,⟨i1,e2,e3⟩,⟨i2,e4,e5⟩⟩:=k.h
  obtain ⟨o1,o2,_⟩:=E.hh hh hm
  have al:(Str.ofString "@").length+S.hand.length<lim:=by rw [e1]; exact Wu o2
  have hN:("@" ++ S.hand:Str)∈nn hs:=by rw [e1]; exact Zy (List.mem_map.mpr ⟨hh,hm,rfl⟩)
  have gt_:=K9 (sto:=sto) hB Uy Tv (by decide) k.g 40 (by decide)
  have ia:cu (.dic B) (.str ("@" ++ S.hand))=some (.int (bk B ("@" ++ S.hand))):=hB.at hN
  obtain ⟨s0,hs0⟩:∃ s0:Sta,s0=(⟨[some (prT bs hs (sp.map spT),false),some (.dic B,false),some (.int c,false),some (.int (j:Int),false),some (.str S.hand,false),some (.int S.here,false),some (jg S.guard,false),some (.tup (S.sets.map seT),false),some (.int S.to,false),none,none,none,none,none,none,none,none,none],sto⟩:Sta):=⟨_,rfl⟩
  have sg:sGo (qj [4,5,6,7,8]) (mOp cu (mOp cu (bf 0) (au (.int 2))) (bf 3)) ⟨[some (prT bs hs (sp.map spT),false),some (.dic B,false),some (.int c,false),some (.int (j:Int),false),none,none,none,none,none,none,none,none,none,none,none,none,none,none],sto⟩=some (.next,s0):=by
    subst hs0
    refine zgo (zo (zo rfl rfl pr2) rfl it) ?_
    unfold spT stT; rw [a4v]; rfl
  have head:∀ {t:T} {s1:Sta} {y:C.S},y s0=some (.ret t,s1)→s1.sto=sto→j9 18 (j8 (sIf (iu (mOp eqO (ig yg (ak (mOp cu (bf 0) (au (.int 2))) dg)) (au (.int 0)))) (jz (bf 1)) tu)
      (j8 (nj 3 (mOp uy (bf 2) (ig yg (ak (mOp cu (bf 0) (au (.int 2))) dg)))) (j8 (sGo (qj [4,5,6,7,8]) (mOp cu (mOp cu (bf 0) (au (.int 2))) (bf 3))) y))) [prT bs hs (sp.map spT),.dic B,.int c] sto=some (t,sto):=by
    intro t s1 y hy h2
    refine zrun (n:=18) (zq (ze (zt (zo (zm (zc (zo rfl rfl pr2) rfl) a3i) rfl (eq_i z))) rfl) (zq (ys (t:=.int (j:Int)) (s':=⟨[some (prT bs hs (sp.map spT),false),some (.dic B,false),some (.int c,false),some (.int (j:Int),false),none,none,none,none,none,none,none,none,none,none,none,none,none,none],sto⟩) (zo rfl (zm (zc (zo rfl rfl pr2) rfl) a3i) (by rw [md p0,hj])) rfl) (zq sg hy))) h2
  have hh0:iu (mOp neO (mOp cu (bf 1) (mOp u5 (au (.str "@")) (bf 4))) (bf 5)) s0=some (!(bk B ("@" ++ S.hand)==S.here),s0):=by
    subst hs0; exact zt (zo (zo rfl (zo rfl rfl (ad al)) ia) rfl Tf)
  have gg0:iu (dw (iy 40) (ak (bf 6) (ak (bf 1) dg))) s0=some (tv B S.guard,s0):=by
    subst hs0; exact zt (zf0 rfl gt_)
  cases hq:(bk B ("@" ++ S.hand)==S.here) with
  | false =>
    rw [hq] at hh0
    exact ⟨B,head (zqr (zk (aay hh0) (by subst hs0; exact zr rfl))) rfl,.inl rfl⟩
  | true =>
  rw [hq] at hh0
  cases hg:tv B S.guard with
  | false =>
    rw [hg] at gg0
    exact ⟨B,head (zqr (zk (a0u hh0 (a2r gg0)) (by subst hs0; exact zr rfl))) rfl,.inl rfl⟩
  | true =>
  rw [hg] at gg0
  have ln:=k.n.length_le
  rw [List.length_map] at ln
  have ln2:S.sets.length≤2:=ln
  obtain ⟨w,L⟩:=Wn (sto:=sto) (P:=prT bs hs (sp.map spT)) (c:=c) (i:=(j:Int)) (S:=S) hB S.sets B (none,none,none,none,none,none,none,none) (fun p hp=>(k.D p hp).okN (by decide) Uy Tv) (by omega)
  have pl:=M9 (B:=B) (D:=S.sets) (d:=B)
  have lp:(S.sets.foldl (pt1 B) B).length<lim:=by show _<1000000; omega
  obtain ⟨w2,L2⟩:=Xw (sto:=sto) (P:=prT bs hs (sp.map spT)) (B:=B) (c:=c) (i:=(j:Int)) (S:=S) (N:=nn hs) (d:=beh S.sets S.hand S.to B) (a3r hB) bs w hb
  have lbb:bs.length<lim:=by show _<1000000; omega
  have sets:∀ {y:C.S} {q:Option (C.Flow × Sta)},y (qH (prT bs hs (sp.map spT)) B c (j:Int) S (beh S.sets S.hand S.to B) w sto)=q →
      (j8 (sNew 9 (ig Jj (ak (bf 1) dg))) (j8 (uo (qj [10,11]) (m5 (bf 7)) seB) (j8 (qu 9 (mOp u5 (au (.str "@")) (bf 4)) (bf 8)) y))) s0=q:=by
    intro y q hy
    subst hs0
    exact zq (zn (t:=.dic B) (zm (zc rfl rfl) rfl)) (zq (Ig (a75 rfl (by show _<1000000; omega)) L) (zq (zw rfl rfl (zo rfl rfl (ad al)) rfl rfl lp rfl) hy))
  cases ha:bs.all (inB (beh S.sets S.hand S.to B)) with
  | false =>
    rw [ha,if_neg (by simp)] at L2
    exact ⟨B,head (zq (ze (a0u hh0 (a2r gg0)) rfl) (sets (zqr (Ig (zis (zo rfl rfl pr0) lbb) L2)))) rfl,.inl rfl⟩
  | true =>
    rw [ha,if_pos rfl] at L2
    refine ⟨beh S.sets S.hand S.to B,head (zq (ze (a0u hh0 (a2r gg0)) rfl) (sets (zq (Ig (zis (zo rfl rfl pr0) lbb) L2) (zr rfl)))) rfl,.inr ⟨j,hi,?_⟩⟩
    rw [← hS]
    exact ⟨rfl,by simpa using hq,hg,fun b hb'=>List.all_eq_true.mp ha b hb'⟩
end
end K
end
noncomputable section
set_option linter.all false
set_option maxRecDepth 100000
set_option maxHeartbeats 1000000
set_option autoImplicit false
namespace K
open C PySem
noncomputable section
variable {sto:List SO} {bs:List Bx} {hs:List Hd} {sp:List Sp}
theorem Ug {i:Nat} (hi:i<sp.length) (os:∀ s∈sp,okS s.hand) (oh:∀ h∈hs,okS h.1∧h.2≤4∧0≤h.2):∀ (l:List Hd) (acc:List T) (a b:Slot),(∀ h∈l,h∈hs)→(∀ t∈acc,a0s hs sp t)→acc.length+4 * l.length≤16 →
    ∃ (acc':List T) (a' b':Slot),forL (qj [3,4]) otB (l.map hdT) (qo (prT bs hs (sp.map spT)) i acc a b sto)=some (.next,qo (prT bs hs (sp.map spT)) i acc' a' b' sto)∧(∀ t∈acc',a0s hs sp t)∧acc'.length≤16∧(∀ t∈acc,t∈acc')∧∀ h∈l,¬ h.1=sp[i].hand→∀ p:Nat,(p:Int)<h.2→Gh (i:Int) h.1 (p:Int)∈acc'
  | [],acc,a,b,_,h1,h2=>⟨acc,a,b,by simp [forL],h1,by simpa using h2,(fun t ht=>ht),(fun h hh=>by cases hh)⟩
  | h::l,acc,a,b,hl,h1,h2=>by
    have hh:=hl h List.mem_cons_self
    obtain ⟨x1,x2,x3⟩:=oh h hh
    rw [List.length_cons] at h2
    obtain ⟨m,hm⟩:∃ m:Nat,h.2=(m:Int):=⟨h.2.toNat,by omega⟩
    have ne:=Yu x1 (os sp[i] (List.getElem_mem hi))
    have C1:iu (mOp neO (bf 3) (mOp cu (mOp cu (mOp cu (bf 0) (au (.int 2))) (bf 1)) (au (.int 0)))) (qo (prT bs hs (sp.map spT)) i acc (some (.str h.1,false)) (some (.int h.2,false)) sto)=some (!(h.1==sp[i].hand),qo (prT bs hs (sp.map spT)) i acc (some (.str h.1,false)) (some (.int h.2,false)) sto):=zt (zo rfl (zo (zo (zo rfl rfl pr2) rfl (step_at hi)) rfl Az) ne)
    have key:∃ acc1:List T,otB (qo (prT bs hs (sp.map spT)) i acc (some (.str h.1,false)) (some (.int h.2,false)) sto)=some (.next,qo (prT bs hs (sp.map spT)) i acc1 (some (.str h.1,false)) (some (.int h.2,false)) sto)∧(∀ t∈acc1,a0s hs sp t)∧acc1.length≤acc.length+4∧(∀ t∈acc,t∈acc1)∧(¬ h.1=sp[i].hand→∀ p:Nat,(p:Int)<h.2→Gh (i:Int) h.1 (p:Int)∈acc1):=by
      cases hq:(h.1==sp[i].hand) with
      | true =>
        rw [hq] at C1
        exact ⟨acc,ze C1 rfl,h1,by omega,(fun t ht=>ht),(fun z=>absurd (by simpa using hq) z)⟩
      | false =>
        rw [hq] at C1
        have lm:m<lim:=by show _<1000000; omega
        have co:mj 1 [1,3] (hName 0) (ji (bf 4)) jm (ig (fun l=>some (.tup l)) (ak (au (.str "other")) (ak (bf 1) (ak (bf 2) (ak (bf 0) dg))))) (qo (prT bs hs (sp.map spT)) i acc (some (.str h.1,false)) (some (.int h.2,false)) sto)=some (.lst ((List.range m).map fun (k:Nat)=>Gh (i:Int) h.1 (k:Int)),qo (prT bs hs (sp.map spT)) i acc (some (.str h.1,false)) (some (.int h.2,false)) sto):=by
          refine mz (fun (k:Nat)=>T.int (k:Int)) _ (List.range m) (s1:=qo (prT bs hs (sp.map spT)) i acc (some (.str h.1,false)) (some (.int h.2,false)) sto) _ [some (.int (i:Int),false),some (.str h.1,false)] (by rw [hm]; simp [j9,j8,sIf,nj,sNew,jz,tu,sNx,jh,sGo,jd,uo,j6,j4,p7,iu,yw,Bu,mOr,qb,mIf,mOp,mUn,bf,ig,ak,dg,au,ux,dw,gb,hName,qj,ji,m5,ltT,leT,yg,u5,Bg,uy,ju,Bo,Ea,uh,jm,gq,Aq,lm,rangeT]) rfl rfl rfl (by rw [List.length_range]; exact Nat.le_of_lt lm) ?_
          intro k hk pre hpre
          match pre,hpre with
          | [x],_=>exact ⟨[some (.int (k:Int),false)],rfl,rfl,rfl,rfl⟩
        refine ⟨acc++(List.range m).map fun (k:Nat)=>Gh (i:Int) h.1 (k:Int),zk C1 (zex co rfl rfl (by rw [List.length_map,List.length_range]; show _<1000000; omega) rfl rfl),fun t ht=>?_,by rw [List.length_append,List.length_map,List.length_range]; omega,(fun t ht=>List.mem_append_left _ ht),(fun _ p hp=>List.mem_append_right _ (List.mem_map.mpr ⟨p,List.mem_range.mpr (by omega),rfl⟩))⟩
        rcases List.mem_append.mp ht with z | z
        · exact h1 t z
        · obtain ⟨k,hk,rfl⟩:=List.mem_map.mp z
          exact .oth hi hh (by have:=List.mem_range.mp hk; omega)
    obtain ⟨acc1,st,k1,k2,k3,k4⟩:=key
    obtain ⟨acc',a',b',ih,e1,e2,e3,e4⟩:=Ug hi os oh l acc1 (some (.str h.1,false)) (some (.int h.2,false)) (fun y hy=>hl y (List.mem_cons_of_mem _ hy)) k1 (by omega)
    exact ⟨acc',a',b',(Cd (t:=hdT h) (Cg (x:=.str h.1) (y:=.int h.2)) st).trans ih,e1,e2,(fun t ht=>e3 t (k3 t ht)),(fun y hy z p hp=>by
      rcases List.mem_cons.mp hy with rfl | hy -- here
      · exact e3 _ (k4 z p hp)
      · exact e4 y hy z p hp)⟩
theorem Wg {i:Nat} (hi:i<sp.length) (os:∀ s∈sp,okS s.hand) (oh:∀ h∈hs,okS h.1∧h.2≤4∧0≤h.2) (lh:hs.length≤4) :
    ∃ l:List T,vq [prT bs hs (sp.map spT),.int (i:Int)] sto=some (.lst l,sto)∧(∀ t∈l,a0s hs sp t)∧l.length≤16∧∀ h∈hs,¬ h.1=sp[i].hand→∀ p:Nat,(p:Int)<h.2→Gh (i:Int) h.1 (p:Int)∈l:=by
  have l1:hs.length<lim:=by show _<1000000; omega
  obtain ⟨acc,a,b,L,e1,e2,_,e4⟩:=Ug (sto:=sto) (bs:=bs) hi os oh hs [] none none (fun h hh=>hh) (fun t ht=>by cases ht) (by rw [List.length_nil]; omega)
  exact ⟨acc,zrun (n:=5) (zq (zn rfl) (zq (Ig (zis (zo rfl rfl pr1) l1) L) (zr rfl))) rfl,e1,e2,e4⟩
theorem Ur (os:∀ s∈sp,okS s.hand) (oh:∀ h∈hs,okS h.1∧h.2≤4∧0≤h.2) (lh:hs.length≤4):∀ (l:List Nat) (acc:List T) (a:Slot),(∀ k∈l,k<sp.length)→(∀ t∈acc,a0s hs sp t)→acc.length+16 * l.length≤100 →
    ∃ (m:List T) (a':Slot),forL (hName 3) duB (l.map fun (k:Nat)=>T.int (k:Int)) (qd (prT bs hs (sp.map spT)) sp.length acc a sto)=some (.next,qd (prT bs hs (sp.map spT)) sp.length (acc++m) a' sto)∧(∀ t∈acc++m,a0s hs sp t)∧(acc++m).length≤100∧∀ i∈l,(hi:i<sp.length)→∀ h∈hs,¬ h.1=sp[i].hand→∀ p:Nat,(p:Int)<h.2→Gh (i:Int) h.1 (p:Int)∈acc++m
  | [],acc,a,_,h1,h2=>⟨[],a,by simp [forL],by simpa using h1,by simpa using h2,(fun i hi=>by cases hi)⟩
  | k::l,acc,a,hl,h1,h2=>by
    rw [List.length_cons] at h2
    obtain ⟨m,m1,m2,m3,m4⟩:=Wg (sto:=sto) (bs:=bs) (hl k List.mem_cons_self) os oh lh
    obtain ⟨m',a',ih,e1,e2,e3⟩:=Ur os oh lh l (acc++m) (some (.int (k:Int),false)) (fun y hy=>hl y (List.mem_cons_of_mem _ hy)) (fun t ht=>by
      rcases List.mem_append.mp ht with z | z
      · exact h1 t z
      · exact m2 t z) (by rw [List.length_append]; omega)
    rw [List.append_assoc] at ih e1 e2 e3
    have st:duB (qd (prT bs hs (sp.map spT)) sp.length acc (some (.int (k:Int),false)) sto)=some (.next,qd (prT bs hs (sp.map spT)) sp.length (acc++m) (some (.int (k:Int),false)) sto):=zex (zf rfl m1) rfl rfl (show acc.length+m.length<1000000 by omega) rfl rfl
    exact ⟨m++m',a',(Cd (t:=.int (k:Int)) rfl st).trans ih,e1,e2,(fun i hi hl' h hh z p hp=>by
      rcases List.mem_cons.mp hi with rfl | hi
      · exact List.mem_append_right _ (List.mem_append_left _ (m4 h hh z p hp))
      · exact e3 i hi hl' h hh z p hp)⟩
theorem Vj (ls:sp.length≤5) (os:∀ s∈sp,okS s.hand) (oh:∀ h∈hs,okS h.1∧h.2≤4∧0≤h.2) (lh:hs.length≤4) :
    ∃ l:List T,wg [prT bs hs (sp.map spT)] sto=some (.lst l,sto)∧(∀ t∈l,a0s hs sp t)∧l.length≤100∧(∀ h∈hs,Zw h.1∈l)∧(∀ i:Nat,i<sp.length→J3 (i:Int)∈l)∧∀ i,(hi:i<sp.length)→∀ h∈hs,¬ h.1=sp[i].hand→∀ p:Nat,(p:Int)<h.2→Gh (i:Int) h.1 (p:Int)∈l:=by
  have l1:hs.length<lim:=by show _<1000000; omega
  have l2:sp.length<lim:=by show _<1000000; omega
  obtain ⟨acc,hacc⟩:∃ acc:List T,acc=(hs.map fun h=>Zw h.1)++(List.range sp.length).map fun (k:Nat)=>J3 (k:Int):=⟨_,rfl⟩
  obtain ⟨m,a,L,e1,e2,e3⟩:=Ur (sto:=sto) (bs:=bs) os oh lh (List.range sp.length) acc none (fun k hk=>List.mem_range.mp hk) (fun t ht=>by
    rw [hacc] at ht
    rcases List.mem_append.mp ht with z | z
    · obtain ⟨h,hh,rfl⟩:=List.mem_map.mp z
      exact .sta hh
    · obtain ⟨k,hk,rfl⟩:=List.mem_map.mp z
      exact .own (List.mem_range.mp hk)) (by rw [hacc,List.length_append,List.length_map,List.length_map,List.length_range]; omega)
  have B1:mj 2 [] (qj [0,1]) (m5 (mOp cu (bf 0) (au (.int 1)))) jm (ig (fun l=>some (.tup l)) (ak (au (.str "start")) (ak (bf 0) dg))) ⟨[some (prT bs hs (sp.map spT),false),some (.lst (rangeT sp.length),false),none,none],sto⟩=some (.lst (hs.map fun h=>Zw h.1),⟨[some (prT bs hs (sp.map spT),false),some (.lst (rangeT sp.length),false),none,none],sto⟩):=by
    refine mz hdT _ hs (s1:=⟨[some (prT bs hs (sp.map spT),false),some (.lst (rangeT sp.length),false),none,none],sto⟩) _ [] (zis (zo rfl rfl pr1) l1) rfl rfl rfl (Nat.le_of_lt l1) ?_
    intro h hh pre hpre
    match pre,hpre with
    | [a,b],_=>exact ⟨[some (.str h.1,false),some (.int h.2,false)],rfl,Cg (x:=.str h.1) (y:=.int h.2),rfl,rfl⟩
  have C1:mj 1 [] (hName 0) (m5 (bf 1)) jm (ig (fun l=>some (.tup l)) (ak (au (.str "own")) (ak (bf 0) dg))) (qd (prT bs hs (sp.map spT)) sp.length (hs.map fun h=>Zw h.1) none sto)=some (.lst ((List.range sp.length).map fun (k:Nat)=>J3 (k:Int)),qd (prT bs hs (sp.map spT)) sp.length (hs.map fun h=>Zw h.1) none sto):=by
    refine mz (fun (k:Nat)=>T.int (k:Int)) _ (List.range sp.length) (s1:=qd (prT bs hs (sp.map spT)) sp.length (hs.map fun h=>Zw h.1) none sto) _ [] (zis rfl (by rw [List.length_range]; exact l2)) rfl rfl rfl (by rw [List.length_range]; exact Nat.le_of_lt l2) ?_
    intro k hk pre hpre
    match pre,hpre with
    | [x],_=>exact ⟨[some (.int (k:Int),false)],rfl,rfl,rfl,rfl⟩
  have lr:Ml [.int (sp.length:Int)]=some (.lst (rangeT sp.length)):=by
    have h0:¬ ((sp.length:Int)<0):=by omega
    simp [Ml,l2]
    rfl
  refine ⟨acc++m,?_,e1,e2,fun h hh=>List.mem_append_left _ (by rw [hacc]; exact List.mem_append_left _ (List.mem_map.mpr ⟨h,hh,rfl⟩)),fun i hi=>List.mem_append_left _ (by rw [hacc]; exact List.mem_append_right _ (List.mem_map.mpr ⟨i,List.mem_range.mpr hi,rfl⟩)),fun i hi=>e3 i (List.mem_range.mpr hi) hi⟩
  exact zrun (n:=4) (zq (zs (zm (zc (zm (zc (zo rfl rfl pr2) rfl) a3i) rfl) lr)) (zq (zn B1) (zq (zex C1 rfl rfl (show (hs.map fun h=>Zw h.1).length+((List.range sp.length).map fun (k:Nat)=>J3 (k:Int)).length<1000000 by rw [List.length_map,List.length_map,List.length_range]; omega) rfl (by rw [← hacc])) (zq (Ig (zis (s1:=qd (prT bs hs (sp.map spT)) sp.length acc none sto) rfl (by rw [List.length_range]; exact l2)) L) (zr rfl))))) rfl
end
structure DF (P:T) (N:List Str) (kvs:List (List C.Key × T)) (t:T) (F:List Rem):Prop where
  e:jo [P,.obj 0,t] [.dit kvs]=some (.lst (F.map jg),[.dit kvs])
  l:F.length≤100
  f:∀ f∈F,Fm N 10 f
noncomputable def a79 (bs:List Bx) (s:Sp) (l:List ((Str × Int) × Rem)) (a:Rem):List Rem:=gv bs s.sets s.guard l++[fo (bh s.sets s.hand s.to a) true]
theorem W5:([Str.ofString "x",Str.ofString "y"]:List Str).Nodup:=by decide +kernel
noncomputable section
variable {hs:List Hd} {sp:List Sp} {kvs:List (List C.Key × T)} {hx sx hy:Int} {t:T} {B B':List (C.Key × T)}
theorem ctx {s:Sp} (E:Hs hs) (k:En hs s):Ctx kvs (bxs hx sx hy) s.sets s.hand s.guard:=by
  obtain ⟨h,hm,e1,_⟩:=k.h
  have ln:=k.n.length_le
  rw [List.length_map] at ln
  exact ⟨k.g.ten,by rw [e1]; exact (E.hh h hm).1,W5,by show 2≤3; decide,Nat.le_trans ln (by decide),k.n.nodup W5,fun q hq=>⟨(k.D q hq).ok,k.n.subset (List.mem_map.mpr ⟨q,hq,rfl⟩)⟩⟩
theorem a3e {s:Sp} {l:List ((Str × Int) × Rem)} {a:Rem} (k:En hs s) (hl:∀ p∈l,Dr (nn hs) 2 3 p.2∧okS p.1.1∧p.1.1.length<100) (hm:∀ p∈l,("@" ++ p.1.1:Str)∈nn hs) (ll:l.length≤2) (da:Dr (nn hs) 2 3 a)
    (df:jo [prT (bxs hx sx hy) hs (sp.map spT),.obj 0,t] [.dit kvs]=some (.lst (Wf (bxs hx sx hy) s.sets s.guard l++[agT (bh s.sets s.hand s.to a)]),[.dit kvs])):DF (prT (bxs hx sx hy) hs (sp.map spT)) (nn hs) kvs t (a79 (bxs hx sx hy) s l a):=by
  have bd:=a7l (h:=s.hand) (to:=s.to) k.D da
  refine ⟨?_,?_,?_⟩
  · rw [df]; unfold a79
    rw [List.map_append,acq hl k.g,List.map_cons,List.map_nil,(a9l (bd.ok (by decide))).2]
  · have ln:=k.n.length_le
    rw [List.length_map] at ln
    have ln2:s.sets.length≤2:=ln
    unfold a79 gv
    simp only [List.length_append,List.length_map,List.length_cons,List.length_nil]
    omega
  · intro f hf
    unfold a79 at hf
    rcases List.mem_append.mp hf with hf | hf
    · exact (aao Uy Tv hl hm k.g k.D f hf).le (by decide)
    · rw [List.mem_singleton] at hf
      subst hf
      exact (Xv (by decide) Uy Tv bd true).le (by decide)
theorem a8c {s:Sp} {l:List ((Str × Int) × Rem)} {a:Rem} (k:En hs s) (hl:∀ p∈l,Dr (nn hs) 2 3 p.2∧okS p.1.1∧p.1.1.length<100) (hm:∀ p∈l,("@" ++ p.1.1:Str)∈nn hs) (da:Dr (nn hs) 2 3 a)
    (q:Stp (bxs hx sx hy) B B' s) (hi:∀ b∈bxs hx sx hy,inB B b=true) (h1:∀ p∈l,bk B ("@" ++ p.1.1)=p.1.2) (h2:∀ p∈l,tv B p.2=true) (no:(a79 (bxs hx sx hy) s l a).all (tv B)=false):tv B' a=true:=by
  have bd:=a7l (h:=s.hand) (to:=s.to) k.D da
  have nD:∀ p∈s.sets,p.1=Str.ofString "x" ∨ p.1=Str.ofString "y" := fun p hp=>by
    have:=k.n.subset (List.mem_map.mpr ⟨p,hp,rfl⟩)
    simpa using this
  have be:Beh s.sets s.hand s.to B (beh s.sets s.hand s.to B):=a4q (k.n.nodup W5) nD
  have wi:=inside (B:=B) (hand:=s.hand) (to:=s.to) (bs:=bxs hx sx hy) W5 (k.n.nodup W5) (fun p hp=>k.n.subset (List.mem_map.mpr ⟨p,hp,rfl⟩)) (fun b hb=>by
    simp only [bxs,List.mem_cons,List.not_mem_nil,or_false] at hb
    rcases hb with rfl | rfl
    · exact .inl rfl
    · exact .inr rfl) hi
  have wj:s.sets.all (win B (bxs hx sx hy))=true:=by
    rw [← wi,← q.e]; exact List.all_eq_true.mpr q.i
  unfold a79 at no
  rw [List.all_append,ab2 hl hm k.g k.D,List.all_cons,List.all_nil,Bool.and_true,wj,q.g,Xo bd true,aa5 be k.D da,← q.e] at no
  have a1:(l.all fun p=>bk B ("@" ++ p.1.1)==p.1.2)=true:=List.all_eq_true.mpr fun p hp=>by rw [h1 p hp]; simp
  have a2:(l.all fun p=>tv B p.2)=true:=List.all_eq_true.mpr fun p hp=>h2 p hp
  rw [a1,a2] at no
  simpa using no
end
end K
end
noncomputable section
set_option linter.all false
set_option maxRecDepth 100000
set_option maxHeartbeats 1000000
set_option autoImplicit false
namespace K
open C PySem
noncomputable abbrev W6':=Slot × Slot × Slot × Slot × Slot × Slot
noncomputable abbrev qL' (cs:List Int) (P L:T) (w:W6') (kvs:List (List C.Key × T)):Sta:=⟨[some (scr cs,false),some (P,false),some (.obj 0,false),some (L,false),w.1,w.2.1,w.2.2.1,w.2.2.2.1,w.2.2.2.2.1,w.2.2.2.2.2],[.dit kvs]⟩
noncomputable abbrev laS:S:=(sIf (yw (iu (dw yd (ak (bf 1) (ak (bf 2) (ak (bf 3) (ak (bf 4) dg)))))))
  (jz (au (.bl false)))
  tu)
noncomputable abbrev laT:S:=(sIf (iu (dw qy (ak (bf 7) (ak (bf 8) dg))))
  (jz (au (.bl true)))
  tu)
noncomputable abbrev laD:S:=(j8 (nj 7 (dw jo (ak (bf 1) (ak (bf 2) (ak (bf 6) dg)))))
  (uo (hName 8) (m5 (bf 3)) laT))
noncomputable abbrev laH:S:=(sIf (yw (iu (dw (iy 40) (ak (n6 (bf 2) (ig (fun l=>some (.tup l)) (ak (bf 4) (ak (mOp cu (bf 8) (mOp u5 (au (.str "@")) (bf 4))) dg)))) (ak (bf 8) dg)))))
  (jz (au (.bl false)))
  tu)
noncomputable abbrev laW:S:=(j8 (uo (qj [4,5]) (m5 (mOp cu (bf 1) (au (.int 1)))) laH)
  (nj 8 (dw Ab (ak (bf 1) (ak (bf 8) (ak (bf 9) dg))))))
noncomputable section
variable {cs:List Int} {hs:List Hd} {sp:List Sp} {kvs:List (List C.Key × T)} {hx sx hy:Int} {P L:T} {B B':List (C.Key × T)}
theorem Yi {ss:List T} {bk':List (List Pr)} (E:Hs hs) (g:Good hs kvs) (p:Has hs kvs) (hb:∀ d∈bk',ks d=nn hs) (lb:bk'.length≤100000):∀ (l:List Hd) (w:W6'),(∀ h∈l,h∈hs) →
    ∃ w':W6',forL (qj [4,5]) laS (l.map hdT) (qL' cs (prT (bxs hx sx hy) hs ss) (.lst (bk'.map dB)) w kvs)=some (.next,qL' cs (prT (bxs hx sx hy) hs ss) (.lst (bk'.map dB)) w' kvs)
  | [],w,_=>⟨w,by simp [forL]⟩
  | h::l,w,hl=>by
    have hm:=hl h List.mem_cons_self
    obtain ⟨_,_,h1,_⟩:=E.hh h hm
    obtain ⟨r,k,dr⟩:=okk (i:=0) E g p hm (by omega)
    have e:=Yk (hx:=hx) (sx:=sx) (hy:=hy) (ss:=ss) E k.x dr hb lb
    obtain ⟨w',ih⟩:=Yi E g p hb lb l (some (.str h.1,false),some (.int h.2,false),w.2.2.1,w.2.2.2.1,w.2.2.2.2.1,w.2.2.2.2.2) fun q hq=>hl q (List.mem_cons_of_mem _ hq)
    have st:laS (qL' cs (prT (bxs hx sx hy) hs ss) (.lst (bk'.map dB)) (some (.str h.1,false),some (.int h.2,false),w.2.2.1,w.2.2.2.1,w.2.2.2.2.1,w.2.2.2.2.2) kvs)=some (.next,qL' cs (prT (bxs hx sx hy) hs ss) (.lst (bk'.map dB)) (some (.str h.1,false),some (.int h.2,false),w.2.2.1,w.2.2.2.1,w.2.2.2.2.1,w.2.2.2.2.2) kvs):=ze (a2r (k:=true) (zt (zf0 rfl e))) rfl
    exact ⟨w',(Cd (t:=hdT h) Cg st).trans ih⟩
theorem Xa {F:List Rem} (lF:F.length≤100) (hF:∀ f∈F,Fm (nn hs) 10 f):∀ (l:List (List Pr)) (w:W6'),(∀ d∈l,ks d=nn hs)→w.2.2.2.1=some (.lst (F.map jg),false) →
    (∃ s',forL (hName 8) laT (l.map dB) (qL' cs P L w kvs)=some (.ret (.bl true),s'))∨((∃ w':W6',forL (hName 8) laT (l.map dB) (qL' cs P L w kvs)=some (.next,qL' cs P L w' kvs))∧∀ d∈l,F.all (tv (dd d))=false)
  | [],w,_,_=>.inr ⟨⟨w,by simp [forL]⟩,fun d hd=>by cases hd⟩
  | d::l,w,hl,hw=>by
    have e:=Ci (sto:=[.dit kvs]) (B:=dd d) lF (a2p (hl d List.mem_cons_self)) hF
    have c:iu (dw qy (ak (bf 7) (ak (bf 8) dg))) (qL' cs P L (w.1,w.2.1,w.2.2.1,w.2.2.2.1,some (dB d,false),w.2.2.2.2.2) kvs)=some (F.all (tv (dd d)),qL' cs P L (w.1,w.2.1,w.2.2.1,w.2.2.2.1,some (dB d,false),w.2.2.2.2.2) kvs):=by
      rw [hw]; exact zt (zf0 rfl e)
    cases hv:F.all (tv (dd d)) with
    | true =>
      rw [hv] at c
      exact .inl ⟨_,Qu (t:=dB d) rfl (zk c (zr rfl))⟩
    | false =>
      rw [hv] at c
      have st:=Cd (g:=hName 8) (q:=laT) (t:=dB d) (w:=l.map dB) (s:=qL' cs P L w kvs) rfl (ze c rfl)
      rcases Xa lF hF l (w.1,w.2.1,w.2.2.1,w.2.2.2.1,some (dB d,false),w.2.2.2.2.2) (fun q hq=>hl q (List.mem_cons_of_mem _ hq)) hw with ⟨s',h⟩ | ⟨⟨w',h⟩,h2⟩
      · exact .inl ⟨s',st.trans h⟩
      · refine .inr ⟨⟨w',st.trans h⟩,fun q hq=>?_⟩
        rcases List.mem_cons.mp hq with rfl | hq -- here
        · exact hv
        · exact h2 q hq
theorem DF.same {N:List Str} {t:T} {F G:List Rem} (a:DF P N kvs t F) (b:DF P N kvs t G) (hB:Bk N B):F.all (tv B)=G.all (tv B):=by
  have e:F.map jg=G.map jg:=by
    have:=a.e.symm.trans b.e
    simpa using this
  have h1:=Ci (sto:=[]) a.l hB a.f
  have h2:=Ci (sto:=[]) b.l hB b.f
  rw [e] at h1
  have:=h1.symm.trans h2
  simpa using this
theorem Xe {bk':List (List Pr)} (hb:∀ d∈bk',ks d=nn hs) (lb:bk'.length≤100000):∀ (l:List T) (w:W6'),(∀ t∈l,∃ F,DF P (nn hs) kvs t F) →
    (∃ s',forL (hName 6) laD l (qL' cs P (.lst (bk'.map dB)) w kvs)=some (.ret (.bl true),s'))∨((∃ w':W6',forL (hName 6) laD l (qL' cs P (.lst (bk'.map dB)) w kvs)=some (.next,qL' cs P (.lst (bk'.map dB)) w' kvs))∧∀ t∈l,∀ F,DF P (nn hs) kvs t F→∀ d∈bk',F.all (tv (dd d))=false)
  | [],w,_=>.inr ⟨⟨w,by simp [forL]⟩,fun d hd=>by cases hd⟩
  | t::l,w,hl=>by
    obtain ⟨F,q⟩:=hl t List.mem_cons_self
    have lb':bk'.length<lim:=by show _<1000000; omega
    rcases Xa (cs:=cs) (P:=P) (L:=.lst (bk'.map dB)) (kvs:=kvs) q.l q.f bk' (w.1,w.2.1,some (t,false),some (.lst (F.map jg),false),w.2.2.2.2.1,w.2.2.2.2.2) hb rfl with ⟨s',h⟩ | ⟨⟨w1,h⟩,h2⟩
    · refine .inl ⟨s',Qu (t:=t) (s1:=qL' cs P (.lst (bk'.map dB)) (w.1,w.2.1,some (t,false),w.2.2.2.1,w.2.2.2.2.1,w.2.2.2.2.2) kvs) rfl (zq (zs (zf0 rfl q.e)) (Ig (zis rfl lb') h))⟩
    · have st:=Cd (g:=hName 6) (q:=laD) (t:=t) (w:=l) (s:=qL' cs P (.lst (bk'.map dB)) w kvs) (s1:=qL' cs P (.lst (bk'.map dB)) (w.1,w.2.1,some (t,false),w.2.2.2.1,w.2.2.2.2.1,w.2.2.2.2.2) kvs) rfl (zq (zs (zf0 rfl q.e)) (Ig (zis rfl lb') h))
      rcases Xe hb lb l w1 (fun u hu=>hl u (List.mem_cons_of_mem _ hu)) with ⟨s',h3⟩ | ⟨⟨w',h3⟩,h4⟩
      · exact .inl ⟨s',st.trans h3⟩
      · refine .inr ⟨⟨w',st.trans h3⟩,fun u hu G hG d hd=>?_⟩
        rcases List.mem_cons.mp hu with rfl | hu
        · rw [hG.same q (a2p (hb d hd))]; exact h2 d hd
        · exact h4 u hu G hG d hd
structure Inv (hs:List Hd) (bs:List Bx) (kvs:List (List C.Key × T)) (B:List (C.Key × T)):Prop where
  b:Bk (nn hs) B
  i:∀ b∈bs,inB B b=true
  p:∀ h∈hs,0≤bk B ("@" ++ h.1)∧bk B ("@" ++ h.1)<h.2
  r:∀ h∈hs,∃ r,Bv [.inr h.1,.inl (bk B ("@" ++ h.1))] kvs=some (jg r)∧Dr (nn hs) 2 3 r∧tv B r=true
noncomputable def Calm (hs:List Hd) (sp:List Sp) (hx sx hy:Int) (kvs:List (List C.Key × T)) (D:T→Prop):Prop:=∀ t,D t→∀ F,DF (prT (bxs hx sx hy) hs (sp.map spT)) (nn hs) kvs t F→∀ d∈bks (bxs hx sx hy) hs,F.all (tv (dd d))=false
theorem a7h {F:List Rem} {N:List Str} {d:Nat} (h:∀ x∈N,bk B x=bk B' x) (hF:∀ f∈F,Fm N d f):F.all (tv B)=F.all (tv B'):=(Gv fun f hf=>a6f h (hF f hf)).1
theorem Calm.at {D:T→Prop} (c:Calm hs sp hx sx hy kvs D) (E:Hs hs) (I:∀ b∈bxs hx sx hy,inB B b=true) (p:∀ h∈hs,0≤bk B ("@" ++ h.1)∧bk B ("@" ++ h.1)<h.2) {t:T} (ht:D t) {F:List Rem} (q:DF (prT (bxs hx sx hy) hs (sp.map spT)) (nn hs) kvs t F):F.all (tv B)=false:=by
  obtain ⟨d,hd,e⟩:=a8a (bs:=bxs hx sx hy) (hs:=hs) (B:=B) (by rw [Ua]; exact a0w E) (fun r hr=>by
    unfold rws at hr
    rcases List.mem_append.mp hr with hr | hr
    · obtain ⟨b,hb,rfl⟩:=List.mem_map.mp hr
      have i:=I b hb
      have lo:b.lo=0:=by
        simp only [bxs,List.mem_cons,List.not_mem_nil,or_false] at hb
        rcases hb with rfl | rfl <;> rfl
      unfold inB at i
      rw [lo] at i
      simp only [Bool.and_eq_true,decide_eq_true_eq] at i
      exact i
    · obtain ⟨h,hh,rfl⟩:=List.mem_map.mp hr
      have:=p h hh
      dsimp only
      omega)
  rw [Ua] at e
  rw [← a7h e q.f]
  exact c t ht F q d hd
theorem X3 {D:T→Prop} (E:Hs hs) (g:Good hs kvs) (p:Has hs kvs) (c:Calm hs sp hx sx hy kvs D) (hD:∀ h∈hs,D (Zw h.1)) (hb:0≤sx∧sx≤hx∧hx≤2∧0≤hy∧hy≤1):Inv hs (bxs hx sx hy) kvs (dd (f0 sx hs)):=by
  have n3:=E.n3
  have hB:Bk (nn hs) (dd (f0 sx hs)):=a2p Yz
  have fa:=Oe (hs:=hs) (sx:=sx) (hx:=hx) (hy:=hy) (B:=dd (f0 sx hs))
  have e1:((nn hs).all fun x=>bk (dd (f0 sx hs)) x==bk (dd (f0 sx hs)) x)=true:=List.all_eq_true.mpr fun x _=>by simp
  rw [e1] at fa
  have fb:=fa.symm
  rw [Bool.and_eq_true,List.all_eq_true,List.all_eq_true] at fb
  have hz:∀ h∈hs,bk (dd (f0 sx hs)) ("@" ++ h.1)=0:=fun h hh=>by simpa using fb.2 h hh
  have hi:∀ b∈bxs hx sx hy,inB (dd (f0 sx hs)) b=true:=by
    intro b hb'
    have:=fb.1 b hb'
    have e2:bk (dd (f0 sx hs)) b.nm=b.st:=by simpa using this
    unfold inB
    rw [e2]
    simp only [bxs,List.mem_cons,List.not_mem_nil,or_false] at hb'
    simp only [Bool.and_eq_true,decide_eq_true_eq] -- here
    rcases hb' with rfl | rfl
    · dsimp only; omega
    · dsimp only; omega
  have hp:∀ h∈hs,0≤bk (dd (f0 sx hs)) ("@" ++ h.1)∧bk (dd (f0 sx hs)) ("@" ++ h.1)<h.2:=fun h hh=>by
    rw [hz h hh]; have:=E.hh h hh; omega
  refine ⟨hB,hi,hp,fun h hh=>?_⟩
  have h1:=E.hh h hh
  obtain ⟨r,k,dr⟩:=okk (i:=0) E g p hh (by omega)
  have e1:=Gm (sto:=[.dit kvs]) (bs:=bxs hx sx hy) (hs:=hs) (ss:=sp.map spT) (n:=0) (hand:=h.1) (by show 2≤3; decide) (by omega) (fun h hh=>(E.hh h hh).2.1) rfl k.x dr.ten (by decide)
  rw [← a5m dr.ten] at e1
  have q:DF (prT (bxs hx sx hy) hs (sp.map spT)) (nn hs) kvs (Zw h.1) (stF (bxs hx sx hy) hs r):=⟨e1,by unfold stF; simp [bxs]; omega,a0a Uy Tv (fun b hb=>by
      simp only [bxs,List.mem_cons,List.not_mem_nil,or_false] at hb
      rcases hb with rfl | rfl
      · exact Uy
      · exact Tv) (fun h hh=>Zy (List.mem_map.mpr ⟨h,hh,rfl⟩)) dr⟩
  have no:=c.at E hi hp (hD h hh) q
  rw [a4l dr,← fa,Bool.true_and] at no
  exact ⟨r,by rw [hz h hh]; exact k.x,dr,by simpa using no⟩
theorem a3d {D:T→Prop} {i:Nat} (hi:i<sp.length) (E:Hs hs) (g:Good hs kvs) (p:Has hs kvs) (so:∀ s∈sp,En hs s) (c:Calm hs sp hx sx hy kvs D) (hD:D (J3 (i:Int))) (hO:∀ h∈hs,¬ h.1=sp[i].hand→∀ q:Nat,(q:Int)<h.2→D (Gh (i:Int) h.1 (q:Int)))
    (I:Inv hs (bxs hx sx hy) kvs B) (q:Stp (bxs hx sx hy) B B' sp[i]):Inv hs (bxs hx sx hy) kvs B':=by
  have k:=so sp[i] (List.getElem_mem hi)
  have it:=step_at hi
  obtain ⟨s,hs'⟩:∃ s,s=sp[i]:=⟨_,rfl⟩
  rw [← hs'] at k it q hO
  obtain ⟨h0,hm,e1,⟨i1,e2,e3⟩,⟨i2,e4,e5⟩⟩:=k.h
  obtain ⟨o1,o2,o3,o4⟩:=E.hh h0 hm
  have cx:Ctx kvs (bxs hx sx hy) s.sets s.hand s.guard:=ctx E k
  have nD:∀ p∈s.sets,p.1=Str.ofString "x" ∨ p.1=Str.ofString "y" := fun p hp=>by
    have:=k.n.subset (List.mem_map.mpr ⟨p,hp,rfl⟩)
    simpa using this
  have be:Beh s.sets s.hand s.to B B':=by rw [q.e]; exact a4q (k.n.nodup W5) nD
  obtain ⟨r0,x0,d0,t0⟩:=I.r h0 hm
  rw [← e1,q.h] at x0
  have k0:Okk kvs Bd ((s.hand,s.here),r0):=⟨by rw [e1]; exact o1,by rw [e1]; exact o2,x0,d0.ten⟩
  have hN:("@" ++ s.hand:Str)∈nn hs:=by rw [e1]; exact Zy (List.mem_map.mpr ⟨h0,hm,rfl⟩)
  refine ⟨by rw [q.e]; exact a3r I.b,q.i,fun h hh=>?_,fun h hh=>?_⟩
  · by_cases e:h.1=s.hand
    · rw [e,be.a,e4]
      have:h=h0:=by
        have inj:∀ {l:List Hd},(l.map (·.1)).Nodup→∀ {a b:Hd},a∈l→b∈l→a.1=b.1→a=b:=by
          intro l nd a b ha hb hab
          induction l with
          | nil=>cases ha
          | cons z l ih =>
            rw [List.map_cons,List.nodup_cons] at nd
            rcases List.mem_cons.mp ha with ha | ha <;> rcases List.mem_cons.mp hb with hb | hb
            · rw [ha,hb]
            · exact absurd (List.mem_map.mpr ⟨b,hb,by rw [← hab,ha]⟩) nd.1
            · exact absurd (List.mem_map.mpr ⟨a,ha,by rw [hab,hb]⟩) nd.1
            · exact ih nd.2 ha hb
        exact inj E.nd hh hm (e.trans e1)
      rw [this]; omega
    · rw [be.o h.1 e]; exact I.p h hh
  · by_cases e:h.1=s.hand
    · obtain ⟨a,ka,da⟩:=okk E g p hm e5
      rw [← e1,← e4] at ka
      have df:=V0 (hs:=hs) (sto:=[.dit kvs]) (n:=0) cx rfl it k0 ka
      have hl:∀ p∈[((s.hand,s.here),r0)],Dr (nn hs) 2 3 p.2∧okS p.1.1∧p.1.1.length<100:=fun p hp=>by rw [List.mem_singleton] at hp; subst hp; exact ⟨d0,k0.s,k0.l⟩
      have hm':∀ p∈[((s.hand,s.here),r0)],("@" ++ p.1.1:Str)∈nn hs:=fun p hp=>by rw [List.mem_singleton] at hp; subst hp; exact hN
      have DD:=a3e k hl hm' (by simp) da df
      have no:=c.at E I.i I.p hD DD
      have:=a8c k hl hm' da q I.i (fun p hp=>by rw [List.mem_singleton] at hp; subst hp; exact q.h) (fun p hp=>by rw [List.mem_singleton] at hp; subst hp; exact t0) no
      exact ⟨a,by rw [e,be.a]; exact ka.x,da,this⟩
    · obtain ⟨r2,x2,d2,t2⟩:=I.r h hh
      obtain ⟨p0,p1⟩:=I.p h hh
      obtain ⟨m,hm2⟩:∃ m:Nat,bk B ("@" ++ h.1)=(m:Int):=⟨_,(Int.toNat_of_nonneg p0).symm⟩
      have k2:Okk kvs Bd ((h.1,bk B ("@" ++ h.1)),r2):=⟨(E.hh h hh).1,(E.hh h hh).2.1,x2,d2.ten⟩
      have df:=Ld (hs:=hs) (sto:=[.dit kvs]) (n:=0) (to:=s.to) cx rfl it k0 k2
      have hl:∀ p∈[((s.hand,s.here),r0),((h.1,bk B ("@" ++ h.1)),r2)],Dr (nn hs) 2 3 p.2∧okS p.1.1∧p.1.1.length<100:=fun p hp=>by
        simp only [List.mem_cons,List.not_mem_nil,or_false] at hp
        rcases hp with rfl | rfl
        · exact ⟨d0,k0.s,k0.l⟩
        · exact ⟨d2,k2.s,k2.l⟩
      have hm':∀ p∈[((s.hand,s.here),r0),((h.1,bk B ("@" ++ h.1)),r2)],("@" ++ p.1.1:Str)∈nn hs:=fun p hp=>by
        simp only [List.mem_cons,List.not_mem_nil,or_false] at hp
        rcases hp with rfl | rfl
        · exact hN
        · exact Zy (List.mem_map.mpr ⟨h,hh,rfl⟩)
      have DD:=a3e k hl hm' (by simp) d2 df
      rw [hm2] at DD
      have no:=c.at E I.i I.p (hO h hh e m (by omega)) DD
      rw [← hm2] at no
      have:=a8c k hl hm' d2 q I.i (fun p hp=>by
        simp only [List.mem_cons,List.not_mem_nil,or_false] at hp
        rcases hp with rfl | rfl
        · exact q.h
        · rfl) (fun p hp=>by
        simp only [List.mem_cons,List.not_mem_nil,or_false] at hp
        rcases hp with rfl | rfl
        · exact t0
        · exact t2) no
      exact ⟨r2,by rw [be.o h.1 e]; exact x2,d2,this⟩
theorem Zo {ss:List T} {bs:List Bx} {c7:Slot} (E:Hs hs) (I:Inv hs bs kvs B):∀ (l:List Hd) (w:W6'),(∀ h∈l,h∈hs)→w.2.2.2.2.1=some (.dic B,false) →
    ∃ w':W6',forL (qj [4,5]) laH (l.map hdT) (qL' cs P L w kvs)=some (.next,qL' cs P L w' kvs)∧w'.2.2=w.2.2
  | [],w,_,_=>⟨w,by simp [forL],rfl⟩
  | h::l,w,hl,hw=>by
    have hm:=hl h List.mem_cons_self
    obtain ⟨r,x,dr,tr⟩:=I.r h hm
    have e:=K9 (sto:=[.dit kvs]) I.b Uy Tv (by decide) dr 40 (by decide)
    rw [tr] at e
    have al:=Wu (E.hh h hm).2.1
    have ia:cu (.dic B) (.str ("@" ++ h.1))=some (.int (bk B ("@" ++ h.1))):=I.b.at (Zy (List.mem_map.mpr ⟨h,hm,rfl⟩))
    have st:laH (qL' cs P L (some (.str h.1,false),some (.int h.2,false),w.2.2.1,w.2.2.2.1,w.2.2.2.2.1,w.2.2.2.2.2) kvs)=some (.next,qL' cs P L (some (.str h.1,false),some (.int h.2,false),w.2.2.1,w.2.2.2.1,w.2.2.2.2.1,w.2.2.2.2.2) kvs):=by
      rw [hw]
      exact ze (a2r (k:=true) (zt (zf0 (zc (Gu (n:=0) rfl (zm (zc rfl (zc (zo rfl (zo rfl rfl (ad al)) ia) rfl)) rfl) rfl ks2 x) rfl) e))) rfl
    obtain ⟨w',ih,q⟩:=Zo (ss:=ss) (c7:=c7) E I l (some (.str h.1,false),some (.int h.2,false),w.2.2.1,w.2.2.2.1,w.2.2.2.2.1,w.2.2.2.2.2) (fun q hq=>hl q (List.mem_cons_of_mem _ hq)) hw
    exact ⟨w',(Cd (t:=hdT h) Cg st).trans ih,q⟩
theorem a5h {D:List (Str × Sm)} {h:Str} {to:Int} (hD:D.length≤2):(beh D h to B).length≤B.length+3:=by
  have a:=Nf (k:=.inr ("@" ++ h)) (t:=.int to) (d:=D.foldl (pt1 B) B)
  have b:=M9 (B:=B) (D:=D) (d:=B)
  unfold beh
  omega
theorem Ws {D:T→Prop} (E:Hs hs) (g:Good hs kvs) (p:Has hs kvs) (so:∀ s∈sp,En hs s) (ls:sp.length≤4) (c:Calm hs sp hx sx hy kvs D) (hD:∀ i:Nat,i<sp.length→D (J3 (i:Int))) (hO:∀ i,(hi:i<sp.length)→∀ h∈hs,¬ h.1=sp[i].hand→∀ q:Nat,(q:Int)<h.2→D (Gh (i:Int) h.1 (q:Int))):∀ (l:List Int) (B:List (C.Key × T)) (w:W6'),Inv hs (bxs hx sx hy) kvs B→B.length+3 * l.length≤700→w.2.2.2.2.1=some (.dic B,false) →
    ∃ w':W6',forL (hName 9) laW (l.map T.int) (qL' cs (prT (bxs hx sx hy) hs (sp.map spT)) L w kvs)=some (.next,qL' cs (prT (bxs hx sx hy) hs (sp.map spT)) L w' kvs)
  | [],B,w,_,_,_=>⟨w,by simp [forL]⟩
  | v::l,B,w,I,hz,hw=>by
    rw [List.length_cons] at hz
    have n3:=E.n3
    have l1:hs.length<lim:=by show _<1000000; omega
    obtain ⟨w1,L1,q1⟩:=Zo (cs:=cs) (P:=prT (bxs hx sx hy) hs (sp.map spT)) (L:=L) (ss:=[]) (c7:=none) E I hs (w.1,w.2.1,w.2.2.1,w.2.2.2.1,w.2.2.2.2.1,some (.int v,false)) (fun h hh=>hh) hw
    have q1a:w1.2.2.2.2.1=some (.dic B,false):=by rw [q1]; exact hw
    have q1b:w1.2.2.2.2.2=some (.int v,false):=by rw [q1]
    obtain ⟨B',e,q⟩:=a1c (sto:=[.dit kvs]) (bs:=bxs hx sx hy) (B:=B) (c:=v) E so ls (fun b hb=>by
      simp only [bxs,List.mem_cons,List.not_mem_nil,or_false] at hb
      rcases hb with rfl | rfl
      · exact Uy
      · exact Tv) (by show 2≤3; decide) I.b (by omega)
    have J:Inv hs (bxs hx sx hy) kvs B'∧B'.length≤B.length+3:=by
      rcases q with rfl | ⟨i,hi,q⟩
      · exact ⟨I,by omega⟩
      · have ln:=(so sp[i] (List.getElem_mem hi)).n.length_le
        rw [List.length_map] at ln
        exact ⟨a3d hi E g p so c (hD i hi) (hO i hi) I q,by rw [q.e]; exact a5h ln⟩
    have st:laW (qL' cs (prT (bxs hx sx hy) hs (sp.map spT)) L (w.1,w.2.1,w.2.2.1,w.2.2.2.1,w.2.2.2.2.1,some (.int v,false)) kvs)=some (.next,qL' cs (prT (bxs hx sx hy) hs (sp.map spT)) L (w1.1,w1.2.1,w1.2.2.1,w1.2.2.2.1,some (.dic B',false),w1.2.2.2.2.2) kvs):=by
      refine zq (Ig (zis (zo rfl rfl pr1) l1) L1) ?_
      unfold qL'
      rw [q1a,q1b]
      exact ys (zf0 rfl e) rfl
    obtain ⟨w',ih⟩:=Ws E g p so ls c hD hO l B' (w1.1,w1.2.1,w1.2.2.1,w1.2.2.2.1,some (.dic B',false),w1.2.2.2.2.2) J.1 (by have:=J.2; omega) rfl
    exact ⟨w',(Cd (t:=.int v) rfl st).trans ih⟩
end
theorem a1p {cs:List Int} (hc:cs.length≤63) {w:W6'} {P L:T} {kvs:List (List C.Key × T)}:∃ l:List Int,l.length≤64∧mOp u5 (ig (fun l=>some (.lst l)) (ak (au (.int 0)) dg)) (Cw (bf 0) (Gz (au (.int 1))) (Gz (au (.int 63)))) (qL' cs P L w kvs)=some (.lst (l.map T.int),qL' cs P L w kvs):=by
  obtain ⟨m,hm⟩:∃ m:List Int,a0b (cs.map T.int) (some 1) (some 63)=m.map T.int:=⟨_,by unfold a0b; rw [← List.map_drop,← List.map_take]⟩
  have lm:m.length≤63:=by
    have:=congrArg List.length hm
    rw [List.length_map] at this
    rw [← this]; unfold a0b
    rw [List.length_take,List.length_drop,List.length_map]; omega
  refine ⟨0::m,by rw [List.length_cons]; omega,?_⟩
  have sl:Cw (bf 0) (Gz (au (.int 1))) (Gz (au (.int 63))) (qL' cs P L w kvs)=some (.lst (m.map T.int),qL' cs P L w kvs):=by
    unfold Cw
    show (match some (T.lst (a0b (cs.map T.int) (some 1) (some 63))) with | some u=>some (u,qL' cs P L w kvs) | none=>none)=_
    rw [hm]
  exact zo rfl sl (add_l (by show 1+(m.map T.int).length<1000000; rw [List.length_map]; omega))
theorem a2t {cs:List Int} (hc:cs.length≤63):∃ st,a06 [scr cs] []=some (.bl true,st):=by
  obtain ⟨hx,sx,hy,hs,sp,ep,hb,E,lsp,so⟩:=Td (cs:=cs) (sto:=[])
  obtain ⟨kvs,ea,g,p⟩:=Kv (cs:=cs) (bs:=bxs hx sx hy) (ss:=sp.map spT) E
  have n3:=E.n3
  have l1:hs.length<lim:=by show _<1000000; omega
  have eb:=Zj (sto:=[.dit kvs]) (bs:=bxs hx sx hy) (hs:=hs) (ss:=sp.map spT) (by show 2≤2; decide) n3 (fun b hb'=>by
    simp only [bxs,List.mem_cons,List.not_mem_nil,or_false] at hb'
    rcases hb' with rfl | rfl <;> dsimp only <;> omega) (fun h hh=>(E.hh h hh).2)
  have kb:∀ d∈bks (bxs hx sx hy) hs,ks d=nn hs:=fun d hd=>by
    have:=a4a (rws (bxs hx sx hy) hs) [[]] [] (fun e he=>by rw [List.mem_singleton] at he; subst he; rfl) (by rw [List.nil_append,Ua]; exact a0w E) d hd
    rw [List.nil_append,Ua] at this
    exact this
  have lb:(bks (bxs hx sx hy) hs).length≤100000:=by
    have go:∀ (l:List Pr) (es:List (List Pr)),(∀ r∈l,0≤r.2∧r.2≤3)→(l.foldl ex1 es).length≤es.length * 4 ^ l.length:=by
      intro l
      induction l with
      | nil=>intro es _; simp
      | cons r l ih =>
        intro es hr
        have a:=ih (ex1 es r) fun q hq=>hr q (List.mem_cons_of_mem _ hq)
        have b:=T9 (hr r List.mem_cons_self).1 (hr r List.mem_cons_self).2 es
        rw [List.foldl_cons,List.length_cons,Nat.pow_succ] -- here
        calc _≤_:=a
          _≤4 * es.length * 4 ^ l.length:=Nat.mul_le_mul_right _ b
          _=_:=by rw [Nat.mul_comm 4,Nat.mul_assoc,Nat.mul_comm 4]
    have lr:(rws (bxs hx sx hy) hs).length≤5:=by unfold rws; rw [List.length_append,List.length_map,List.length_map]; show 2+_≤5; omega
    have:=go (rws (bxs hx sx hy) hs) [[]] (fun r hr=>by
      unfold rws at hr
      rcases List.mem_append.mp hr with hr | hr
      · obtain ⟨b,hb',rfl⟩:=List.mem_map.mp hr
        simp only [bxs,List.mem_cons,List.not_mem_nil,or_false] at hb'
        rcases hb' with rfl | rfl <;> dsimp only <;> omega
      · obtain ⟨h,hh',rfl⟩:=List.mem_map.mp hr
        have:=E.hh h hh'
        dsimp only; omega)
    have z:4 ^ (rws (bxs hx sx hy) hs).length≤4 ^ 5:=Nat.pow_le_pow_right (by decide) lr
    simp only [List.length_singleton,Nat.one_mul] at this
    exact Nat.le_trans this (Nat.le_trans z (by decide))
  obtain ⟨dl,ed,dd1,dd2,dd3,dd4,dd5⟩:=Vj (sto:=[.dit kvs]) (bs:=bxs hx sx hy) (hs:=hs) (sp:=sp) (by omega) (fun s hs'=>by
    obtain ⟨h,hm,e1,_⟩:=(so s hs').h
    rw [e1]; exact (E.hh h hm).1) (fun h hh=>⟨(E.hh h hh).1,(E.hh h hh).2.2.2,by have:=(E.hh h hh).2.2.1; omega⟩) (by omega)
  have hF:∀ t∈dl,∃ F,DF (prT (bxs hx sx hy) hs (sp.map spT)) (nn hs) kvs t F:=by
    intro t ht
    have st:∀ {i:Nat} (hi:i<sp.length),∃ s:Sp,En hs s∧cu (.lst (sp.map spT)) (.int (i:Int))=some (stT s.hand s.here (jg s.guard) s.sets s.to)∧(∃ r0,Okk kvs Bd ((s.hand,s.here),r0)∧Dr (nn hs) 2 3 r0)∧(∃ a,Okk kvs Bd ((s.hand,s.to),a)∧Dr (nn hs) 2 3 a)∧("@" ++ s.hand:Str)∈nn hs:=by
      intro i hi
      have k:=so sp[i] (List.getElem_mem hi)
      obtain ⟨h,hm,e1,⟨i1,e2,e3⟩,⟨i2,e4,e5⟩⟩:=k.h
      refine ⟨sp[i],k,step_at hi,?_,?_,by rw [e1]; exact Zy (List.mem_map.mpr ⟨h,hm,rfl⟩)⟩
      · rw [e1,e2]; exact okk E g p hm e3
      · rw [e1,e4]; exact okk E g p hm e5
    cases dd1 t ht with
    | @sta h hh =>
      have h1:=E.hh h hh
      obtain ⟨r,k,dr⟩:=okk (i:=0) E g p hh (by omega)
      have e1:=Gm (sto:=[.dit kvs]) (bs:=bxs hx sx hy) (hs:=hs) (ss:=sp.map spT) (n:=0) (hand:=h.1) (by show 2≤3; decide) (by omega) (fun h hh=>(E.hh h hh).2.1) rfl k.x dr.ten (by decide)
      rw [← a5m dr.ten] at e1
      exact ⟨_,e1,by unfold stF; simp [bxs]; omega,a0a Uy Tv (fun b hb=>by
        simp only [bxs,List.mem_cons,List.not_mem_nil,or_false] at hb
        rcases hb with rfl | rfl
        · exact Uy
        · exact Tv) (fun h hh=>Zy (List.mem_map.mpr ⟨h,hh,rfl⟩)) dr⟩
    | @own i hi =>
      obtain ⟨s,k,it,⟨r0,k0,d0⟩,⟨a,ka,da⟩,hN⟩:=st hi
      exact ⟨_,a3e k (fun p hp=>by rw [List.mem_singleton] at hp; subst hp; exact ⟨d0,k0.s,k0.l⟩) (fun p hp=>by rw [List.mem_singleton] at hp; subst hp; exact hN) (by simp) da (V0 (hs:=hs) (sto:=[.dit kvs]) (n:=0) (ctx E k) rfl it k0 ka)⟩
    | @oth i q h hi hm hq =>
      obtain ⟨s,k,it,⟨r0,k0,d0⟩,⟨a,ka,da⟩,hN⟩:=st hi
      obtain ⟨r2,k2,d2⟩:=okk E g p hm hq
      exact ⟨_,a3e k (fun p hp=>by
        simp only [List.mem_cons,List.not_mem_nil,or_false] at hp
        rcases hp with rfl | rfl
        · exact ⟨d0,k0.s,k0.l⟩
        · exact ⟨d2,k2.s,k2.l⟩) (fun p hp=>by
        simp only [List.mem_cons,List.not_mem_nil,or_false] at hp
        rcases hp with rfl | rfl
        · exact hN
        · exact Zy (List.mem_map.mpr ⟨h,hm,rfl⟩)) (by simp) d2 (Ld (hs:=hs) (sto:=[.dit kvs]) (n:=0) (to:=s.to) (ctx E k) rfl it k0 k2)⟩
  obtain ⟨w1,L1⟩:=Yi (cs:=cs) (hx:=hx) (sx:=sx) (hy:=hy) (ss:=sp.map spT) E g p kb lb hs (none,none,none,none,none,none) fun h hh=>hh
  have zz:dl.length<lim:=by show _<1000000; omega
  have dls:m5 (dw wg (ak (bf 1) dg)) (qL' cs (prT (bxs hx sx hy) hs (sp.map spT)) (.lst ((bks (bxs hx sx hy) hs).map dB)) w1 kvs)=some (dl,qL' cs (prT (bxs hx sx hy) hs (sp.map spT)) (.lst ((bks (bxs hx sx hy) hs).map dB)) w1 kvs):=by
    have e:dw wg (ak (bf 1) dg) (qL' cs (prT (bxs hx sx hy) hs (sp.map spT)) (.lst ((bks (bxs hx sx hy) hs).map dB)) w1 kvs)=some (.lst dl,qL' cs (prT (bxs hx sx hy) hs (sp.map spT)) (.lst ((bks (bxs hx sx hy) hs).map dB)) w1 kvs):=zf0 rfl ed
    unfold m5; rw [e]; dsimp only; rw [if_pos zz]
  rcases Xe (cs:=cs) (P:=prT (bxs hx sx hy) hs (sp.map spT)) (hs:=hs) (kvs:=kvs) kb lb dl w1 hF with ⟨s',L2⟩ | ⟨⟨w2,L2⟩,no⟩
  · exact ⟨s'.sto,zrun (n:=10) (zq (zs (zf0 rfl ep)) (zq (zs (zf rfl ea)) (zq (zs (zf rfl eb)) (zq (Ig (zis (zo rfl rfl pr1) l1) L1) (zqr (Ig dls L2)))))) rfl⟩
  · have c:Calm hs sp hx sx hy kvs (·∈dl):=fun t ht F q d hd=>no t ht F q d hd
    have I:=X3 E g p c dd3 hb
    have ef:=Px (hx:=hx) (sx:=sx) (hy:=hy) (ss:=sp.map spT) (sto:=[.dit kvs]) E
    obtain ⟨l,ll,lc⟩:=a1p hc (w:=(w2.1,w2.2.1,w2.2.2.1,w2.2.2.2.1,some (dB (f0 sx hs),false),w2.2.2.2.2.2)) (P:=prT (bxs hx sx hy) hs (sp.map spT)) (L:=.lst ((bks (bxs hx sx hy) hs).map dB)) (kvs:=kvs)
    have lf:(dd (f0 sx hs)).length≤5:=by unfold dd f0; simp; omega
    obtain ⟨w3,L3⟩:=Ws (cs:=cs) (L:=.lst ((bks (bxs hx sx hy) hs).map dB)) E g p so lsp c dd4 dd5 l (dd (f0 sx hs)) (w2.1,w2.2.1,w2.2.2.1,w2.2.2.2.1,some (dB (f0 sx hs),false),w2.2.2.2.2.2) I (by omega) rfl
    exact ⟨[.dit kvs],zrun (n:=10) (zq (zs (zf0 rfl ep)) (zq (zs (zf rfl ea)) (zq (zs (zf rfl eb)) (zq (Ig (zis (zo rfl rfl pr1) l1) L1) (zq (Ig dls L2) (zq (zs (zf0 rfl ef)) (zq (Ig (zis lc (by show _<1000000; omega)) L3) (zr rfl)))))))) rfl⟩
end K
end
noncomputable section
set_option linter.all false
set_option maxRecDepth 100000
set_option maxHeartbeats 1000000
namespace D
open PySem L2 C
structure FA (K:PySem.W.Frag) (x:Str) (st:Stmt) (f:Addr) (fd:FuncData):Prop where
  a:PySem.W.nsIn K mainGlobals x=some (some (.ref f))
  F:Fun K x x st f fd
theorem aau {K:PySem.W.Frag} {x:Str} {st:Stmt} {f:Addr} {oc:Value} {od an:Option Addr} {osl:Array (Option Value)} {kV doc pm cdv ct:Value} (a:PySem.W.nsIn K mainGlobals x=some (some (.ref f)))
    (l:K.lookup f=some ⟨oc,od,.func (PySem.W.fnOf x x (Dk st) (Am st) (gj st) .none kV doc pm an cdv ct),osl⟩) (c:PySem.W.codeIn K cdv x=true) (k:PySem.W.keepIn K (.ref f)=true):FA K x st f (PySem.W.fnOf x x (Dk st) (Am st) (gj st) .none kV doc pm an cdv ct):=⟨a,a4g l c k⟩
theorem FA.m {K:PySem.W.Frag} {x:Str} {st:Stmt} {f:Addr} {fd:FuncData} {hp:Heap} {mg:Str→Option Value} (h:FA K x st f fd) (X:K.In hp) (G:hp.Ns mainGlobals mg):mg x=some (.ref f):=PySem.W.mg_of X G h.a
theorem all_mk {l:PySem.W.OpenLaw} {w:World} {K:PySem.W.Frag} {h:Heap} {mg:Str→Option Value} {fa f1 f2 f3 f4 f5 f6 f7 f8 f9 f10 f11 f12 f13 f14 f15 f16 f17 f18 f19 f20 f21 f22 f23 f24 f25 f26 f27 f28 f29 f30 f31 f32 f33 f34 f35 f36 f37 f38:Addr} {fd1 fd2 fd3 fd4 fd5 fd6 fd7 fd8 fd9 fd10 fd11 fd12 fd13 fd14 fd15 fd16 fd17 fd18 fd19 fd20 fd21 fd22 fd23 fd24 fd25 fd26 fd27 fd28 fd29 fd30 fd31 fd32 fd33 fd34 fd35 fd36 fd37:FuncData} (X:K.In h) (G:h.Ns mainGlobals mg) (hfa:mg "law" = some (.ref fa))
    {od38 an38:Option Addr} {sl38:Array (Option Value)} {oc38 kV38 dc38 pm38 cd38 ct38:Value}
    (h1:FA K "sum_of" Iu f1 fd1)
    (h2:FA K "plus" Ue f2 fd2)
    (h3:FA K "by" s_by f3 fd3)
    (h4:FA K "minus" Nt f4 fd4)
    (h5:FA K "value" Mq f5 fd5)
    (h6:FA K "put" a0z f6 fd6)
    (h7:FA K "holds" J5 f7 fd7)
    (h8:FA K "any_is" Ez f8 fd8)
    (h9:FA K "place_ahead" zp f9 fd9)
    (h10:FA K "asked_ahead" xg f10 fd10)
    (h11:FA K "behind" Ik f11 fd11)
    (h12:FA K "form_true" Cj f12 fd12)
    (h13:FA K "place_box" Cm f13 fd13)
    (h14:FA K "equal_form" Bb f14 fd14)
    (h15:FA K "unequal_form" yt f15 fd15)
    (h16:FA K "plain_form" yu f16 fd16)
    (h17:FA K "against_form" vf f17 fd17)
    (h18:FA K "others_of" Cp f18 fd18)
    (h19:FA K "duties_of" Ck f19 fd19)
    (h20:FA K "within_form" zu f20 fd20)
    (h21:FA K "set_forms" Cr f21 fd21)
    (h22:FA K "given_forms" zx f22 fd22)
    (h23:FA K "step_forms" Ay f23 fd23)
    (h24:FA K "start_forms" Aa f24 fd24)
    (h25:FA K "duty_forms" Ba f25 fd25)
    (h26:FA K "_law_cell_at" zj f26 fd26)
    (h27:FA K "_law_sum" Ge f27 fd27)
    (h28:FA K "_law_atom" Dz f28 fd28)
    (h29:FA K "_law_remark" Ax f29 fd29)
    (h30:FA K "_law_program" zy f30 fd30)
    (h31:FA K "_law_annotation" vo f31 fd31)
    (h32:FA K "_law_books" Cu f32 fd32)
    (h33:FA K "_law_first" Cq f33 fd33)
    (h34:FA K "_law_holds" Ao f34 fd34)
    (h35:FA K "_law_true" Eb f35 fd35)
    (h36:FA K "_law_start" Cv f36 fd36)
    (h37:FA K "_law_step" Du f37 fd37)
    (a38:PySem.W.nsIn K mainGlobals "law" = some (some (.ref f38))) (l38:K.lookup f38=some ⟨oc38,od38,.func (PySem.W.fnOf "law" "law" (Dk M8) (Am M8) (gj M8) .none kV38 dc38 pm38 an38 cd38 ct38),sl38⟩) (c38:PySem.W.codeIn K cd38 "law" = true) (k38:PySem.W.keepIn K (.ref f38)=true)
    (z_all:PySem.W.nsIn K mainGlobals "all" = some none)
    (z_any:PySem.W.nsIn K mainGlobals "any" = some none)
    (z_dict:PySem.W.nsIn K mainGlobals "dict" = some none)
    (z_int:PySem.W.nsIn K mainGlobals "int" = some none)
    (z_len:PySem.W.nsIn K mainGlobals "len" = some none)
    (z_list:PySem.W.nsIn K mainGlobals "list" = some none)
    (z_range:PySem.W.nsIn K mainGlobals "range" = some none)
    (z_reversed:PySem.W.nsIn K mainGlobals "reversed" = some none)
    (z_sorted:PySem.W.nsIn K mainGlobals "sorted" = some none)
    (z_sum:PySem.W.nsIn K mainGlobals "sum" = some none)
    (z_tuple:PySem.W.nsIn K mainGlobals "tuple" = some none)
    {q_FALSE_ONE_0 q_FALSE_ONE_2:Addr}    {tk_FALSE_ONE_1:Tok}    {n_FALSE_ONE_0 n_FALSE_ONE_2:Nat}    {s_FALSE_ONE_0 s_FALSE_ONE_2:Array (Option Value)} (zc_FALSE_ONE:PySem.W.nsIn K mainGlobals "FALSE_ONE" = some (some (.ref q_FALSE_ONE_0))) (zl_FALSE_ONE_2:K.lookup q_FALSE_ONE_2=some ⟨.type "tuple",none,.seq [].toArray n_FALSE_ONE_2,s_FALSE_ONE_2⟩) (zl_FALSE_ONE_0:K.lookup q_FALSE_ONE_0=some ⟨.type "tuple",none,.seq [(.str "or" tk_FALSE_ONE_1),(.ref q_FALSE_ONE_2)].toArray n_FALSE_ONE_0,s_FALSE_ONE_0⟩)
    {q_TRUE_ONE_0 q_TRUE_ONE_2:Addr}    {tk_TRUE_ONE_1:Tok}    {n_TRUE_ONE_0 n_TRUE_ONE_2:Nat}    {s_TRUE_ONE_0 s_TRUE_ONE_2:Array (Option Value)} (zc_TRUE_ONE:PySem.W.nsIn K mainGlobals "TRUE_ONE" = some (some (.ref q_TRUE_ONE_0))) (zl_TRUE_ONE_2:K.lookup q_TRUE_ONE_2=some ⟨.type "tuple",none,.seq [].toArray n_TRUE_ONE_2,s_TRUE_ONE_2⟩) (zl_TRUE_ONE_0:K.lookup q_TRUE_ONE_0=some ⟨.type "tuple",none,.seq [(.str "and" tk_TRUE_ONE_1),(.ref q_TRUE_ONE_2)].toArray n_TRUE_ONE_0,s_TRUE_ONE_0⟩)
    {q_TURNED:Addr} {t_TURNED_0 u_TURNED_0 t_TURNED_1 u_TURNED_1:Tok} {h_TURNED_0 h_TURNED_1:Int} {n_TURNED:Nat} (zc_TURNED:PySem.W.nsIn K mainGlobals "TURNED" = some (some (.ref q_TURNED))) (zl_TURNED_0:K.lookup q_TURNED=some ⟨.type "dict",none,.dict #[{ hash:=h_TURNED_0,key:=.str "and" t_TURNED_0,val:=.str "or" u_TURNED_0 },{ hash:=h_TURNED_1,key:=.str "or" t_TURNED_1,val:=.str "and" u_TURNED_1 }] n_TURNED,#[]⟩) (zh_TURNED_0:h_TURNED_0=hashStr w "and") (zh_TURNED_1:h_TURNED_1=hashStr w "or")
    : ∃ fd:FuncData,(∀ (s:Shared) (v:Value),BindsTo s fd ⟨[v],[]⟩ [("_law_script",v)])∧∀ base:Heap,K.In base→base.Ns mainGlobals mg→yc l.prog w K mg base CX0 48 fa fd ["_law_script"] (spF K 1 _root_.K.a06):=by
  have e:=hfa.symm.trans (PySem.W.mg_of X G a38)
  cases e
  have F38:=a4g (st:=M8) l38 c38 k38
  have b_all:=PySem.W.mg_none_of X G z_all
  have b_any:=PySem.W.mg_none_of X G z_any
  have b_dict:=PySem.W.mg_none_of X G z_dict
  have b_int:=PySem.W.mg_none_of X G z_int
  have b_len:=PySem.W.mg_none_of X G z_len
  have b_list:=PySem.W.mg_none_of X G z_list
  have b_range:=PySem.W.mg_none_of X G z_range
  have b_reversed:=PySem.W.mg_none_of X G z_reversed
  have b_sorted:=PySem.W.mg_none_of X G z_sorted
  have b_sum:=PySem.W.mg_none_of X G z_sum
  have b_tuple:=PySem.W.mg_none_of X G z_tuple
  have c_FALSE_ONE:∃ u,mg "FALSE_ONE" = some u∧Held K u (.tup [(.str "or"),(.tup [])]):=⟨_,PySem.W.mg_of X G zc_FALSE_ONE,(Held.tup zl_FALSE_ONE_0 (by simp) (Es.cons Held.str (Es.cons (Held.tup zl_FALSE_ONE_2 (by simp) Es.nil) Es.nil)))⟩
  have c_TRUE_ONE:∃ u,mg "TRUE_ONE" = some u∧Held K u (.tup [(.str "and"),(.tup [])]):=⟨_,PySem.W.mg_of X G zc_TRUE_ONE,(Held.tup zl_TRUE_ONE_0 (by simp) (Es.cons Held.str (Es.cons (Held.tup zl_TRUE_ONE_2 (by simp) Es.nil) Es.nil)))⟩
  have c_TURNED:∃ a,mg "TURNED" = some (.ref a)∧Y9 K w a [("and","or"),("or","and")]:=⟨_,PySem.W.mg_of X G zc_TURNED,_,_,zl_TURNED_0,(.cons zh_TURNED_0 (.cons zh_TURNED_1 .nil)),by decide +kernel⟩
  refine ⟨PySem.W.fnOf "law" "law" (Dk M8) (Am M8) (gj M8) .none kV38 dc38 pm38 an38 cd38 ct38,fun s v=>.of_eq rfl,fun base _ _=>?_⟩
  have d_sum_of:=Yp (P:=l.prog) (w:=w) (base:=base) h1.F (h1.m X G) b_sorted b_tuple
  have d_plus:=a4s (P:=l.prog) (w:=w) (base:=base) h2.F (h2.m X G) d_sum_of
  have d_by:=aaw (P:=l.prog) (w:=w) (base:=base) h3.F (h3.m X G) d_sum_of
  have d_minus:=a1k (P:=l.prog) (w:=w) (base:=base) h4.F (h4.m X G) d_by d_plus
  have d_value:=a1g (P:=l.prog) (w:=w) (base:=base) h5.F (h5.m X G) b_sum
  have d_put:=a7t (P:=l.prog) (w:=w) (base:=base) h6.F (h6.m X G) d_by d_sum_of
  have g_holds:=Oi (P:=l.prog) (w:=w) (base:=base) h7.F (h7.m X G) h8.F (h8.m X G) d_value 40
  have d_holds:=g_holds.1
  have d_any_is:=g_holds.2
  have d_place_ahead:=Kg (P:=l.prog) (w:=w) (base:=base) h9.F (h9.m X G) c_FALSE_ONE c_TRUE_ONE
  have g_asked_ahead:=Dl (P:=l.prog) (w:=w) (base:=base) h10.F (h10.m X G) d_place_ahead d_put b_tuple 40
  have d_asked_ahead:=g_asked_ahead
  have d_behind:=Wq (P:=l.prog) (w:=w) (base:=base) h11.F (h11.m X G) d_asked_ahead b_dict
  have d_form_true:=O4 (P:=l.prog) (w:=w) (base:=base) h12.F (h12.m X G) d_holds
  have d_place_box:=Qd (P:=l.prog) (w:=w) (base:=base) h13.F (h13.m X G)
  have d_equal_form:=Np (P:=l.prog) (w:=w) (base:=base) h14.F (h14.m X G)
  have d_unequal_form:=J9 (P:=l.prog) (w:=w) (base:=base) h15.F (h15.m X G)
  have g_plain_form:=Ej (P:=l.prog) (w:=w) (base:=base) h16.F (h16.m X G) h17.F (h17.m X G) d_equal_form d_minus d_place_box d_unequal_form b_range b_tuple c_TURNED 40
  have d_plain_form:=g_plain_form.1
  have d_against_form:=g_plain_form.2
  have d_others_of:=Qs (P:=l.prog) (w:=w) (base:=base) h18.F (h18.m X G) b_range
  have d_duties_of:=Pq (P:=l.prog) (w:=w) (base:=base) h19.F (h19.m X G) d_others_of b_len b_list b_range
  have d_within_form:=Kr (P:=l.prog) (w:=w) (base:=base) h20.F (h20.m X G) d_minus
  have d_set_forms:=Qv (P:=l.prog) (w:=w) (base:=base) h21.F (h21.m X G) d_within_form
  have d_given_forms:=Kh (P:=l.prog) (w:=w) (base:=base) h22.F (h22.m X G) d_plain_form d_set_forms
  have d_step_forms:=Ng (P:=l.prog) (w:=w) (base:=base) h23.F (h23.m X G) d_against_form d_behind d_given_forms
  have d_start_forms:=Kw (P:=l.prog) (w:=w) (base:=base) h24.F (h24.m X G) d_against_form d_equal_form d_place_box
  have d_duty_forms:=Mi (P:=l.prog) (w:=w) (base:=base) h25.F (h25.m X G) d_start_forms d_step_forms
  have d_law_cell_at:=Ky (P:=l.prog) (w:=w) (base:=base) h26.F (h26.m X G) b_len
  have d_law_sum:=Vv (P:=l.prog) (w:=w) (base:=base) h27.F (h27.m X G) b_tuple
  have d_law_atom:=T6 (P:=l.prog) (w:=w) (base:=base) h28.F (h28.m X G) d_law_sum
  have d_law_remark:=Mw (P:=l.prog) (w:=w) (base:=base) h29.F (h29.m X G) d_law_atom
  have d_law_program:=Km (P:=l.prog) (w:=w) (base:=base) h30.F (h30.m X G) d_law_cell_at d_law_remark d_law_sum b_len b_range
  have d_law_annotation:=Hg (P:=l.prog) (w:=w) (base:=base) h31.F (h31.m X G) d_law_cell_at d_law_remark b_len b_range
  have d_law_books:=Og (P:=l.prog) (w:=w) (base:=base) h32.F (h32.m X G) b_dict b_range
  have d_law_first:=Pg (P:=l.prog) (w:=w) (base:=base) h33.F (h33.m X G)
  have g_law_holds:=Fy (P:=l.prog) (w:=w) (base:=base) h34.F (h34.m X G) b_all b_any b_int b_sum 40
  have d_law_holds:=g_law_holds
  have d_law_true:=Sx (P:=l.prog) (w:=w) (base:=base) h35.F (h35.m X G) d_form_true b_reversed
  have d_law_start:=Pu (P:=l.prog) (w:=w) (base:=base) h36.F (h36.m X G) d_law_first d_law_holds d_law_true d_duty_forms
  have d_law_step:=Rc (P:=l.prog) (w:=w) (base:=base) h37.F (h37.m X G) d_law_holds b_dict b_len
  exact a88 F38 d_law_annotation d_law_books d_law_first d_law_holds d_law_program d_law_start d_law_step d_law_true d_duties_of d_duty_forms
theorem walk {l:PySem.W.OpenLaw} {q:Program} {loose:List Str} {XP:(Str→Option Value)→Heap→Prop} {YP:World→Heap→Prop} {d:DefRec} {K:Params→PySem.W.Frag} (hn:l.most=some 63) (hdf:d.params.defaults=[])
    (hY:∀ (w:World) (h:Heap),YP w h→(K w.params).In h)
    (F:∀ (w:World) (mg:Str→Option Value) (fa:Addr) (h:Heap),(K w.params).In h→h.Ns mainGlobals mg→mg d.name=some (.ref fa) →
      ∃ fd:FuncData,(∀ (s:Shared) (u:Value),BindsTo s fd ⟨[u],[]⟩ [("_law_script",u)])∧∀ base:Heap,(K w.params).In base→base.Ns mainGlobals mg→yc l.prog w (K w.params) mg base CX0 48 fa fd ["_law_script"] (spF (K w.params) 1 _root_.K.a06)) :
    PySem.W.WalkO q loose XP YP l.row.toRowW d [] (fun f vs=>PySem.call f vs) :=
  L2.a6u (n:=63) (k:=48) (x := "_law_script") (CX:=fun _=>CX0) (sp:=fun w=>spF (K w.params) 1 _root_.K.a06) hn (by decide) hdf ⟨rfl,by decide,by decide⟩ hY F (fun w H a ns hl _ hS=>a6t hS (_root_.K.a2t (cs:=ns) hl)) fun _ _ _ _ _ z=>z
end D
theorem PySem.W.Fast.tw10701720488296166048:True:=⟨⟩
theorem PySem.W.Fast.tw1829173111820332097:True:=⟨⟩
theorem PySem.W.Fast.tw1316795724107578534:True:=⟨⟩
theorem PySem.W.Fast.tw10909630115081089577:True:=⟨⟩
theorem PySem.W.Fast.tw18268115922680919211:True:=⟨⟩
theorem PySem.W.Fast.tw9280768941034579307:True:=⟨⟩
theorem PySem.W.Fast.tw8992654416902188492:True:=⟨⟩
theorem PySem.W.Fast.tw12131027674680821773:True:=⟨⟩
theorem PySem.W.Fast.tw14439073057486431665:True:=⟨⟩
theorem PySem.W.Fast.tw1651960515623992947:True:=⟨⟩
theorem PySem.W.Fast.tw217013364162178836:True:=⟨⟩
theorem PySem.W.Fast.tw5758924112620106326:True:=⟨⟩
theorem PySem.W.Fast.tw10931657206655354870:True:=⟨⟩
theorem PySem.W.Fast.tw971301503497855386:True:=⟨⟩
theorem PySem.W.Fast.tw11604138970454042371:True:=⟨⟩
theorem PySem.W.Fast.tw3387059664034759068:True:=⟨⟩
open PySem PySem.W PyProof.Rows
set_option maxRecDepth 100000 in
set_option maxHeartbeats 0 in
theorem PySem.Challenge.cw_calm_k43_the_start_and_all_stands_holds : PySem.Challenge.rw_calm_k43_the_start_and_all_stands.Holds := by
  w_on; o_law; k_head; (case hw=>w_witness2)
  k_fill
  refine D.walk (l:=PySem.Challenge.rw_calm_k43_the_start_and_all_stands) rfl rfl (fun w h Y=>PySem.W.kIn_of Y) ?F
  case F =>
    intro w mg fa h KX G hmg
    refine' D.all_mk KX G hmg ?h1 ?h2 ?h3 ?h4 ?h5 ?h6 ?h7 ?h8 ?h9 ?h10 ?h11 ?h12 ?h13 ?h14 ?h15 ?h16 ?h17 ?h18 ?h19 ?h20 ?h21 ?h22 ?h23 ?h24 ?h25 ?h26 ?h27 ?h28 ?h29 ?h30 ?h31 ?h32 ?h33 ?h34 ?h35 ?h36 ?h37 ?a38 ?l38 ?c38 ?k38 ?z_all ?z_any ?z_dict ?z_int ?z_len ?z_list ?z_range ?z_reversed ?z_sorted ?z_sum ?z_tuple ?zc_FALSE_ONE ?zl_FALSE_ONE_2 ?zl_FALSE_ONE_0 ?zc_TRUE_ONE ?zl_TRUE_ONE_2 ?zl_TRUE_ONE_0 ?zc_TURNED ?zl_TURNED_0 ?zh_TURNED_0 ?zh_TURNED_1
    case h1 | h2 | h3 | h4 | h5 | h6 | h7 | h8 | h9 | h10 | h11 | h12 | h13 | h14 | h15 | h16 | h17 | h18 | h19 | h20 | h21 | h22 | h23 | h24 | h25 | h26 | h27 | h28 | h29 | h30 | h31 | h32 | h33 | h34 | h35 | h36 | h37=>refine' D.aau ?a ?l ?c ?k; (case a=>k_is); (case l=>k_is); (case c=>k_is); (case k=>k_is)
    case a38 | l38 | c38 | k38 | z_all | z_any | z_dict | z_int | z_len | z_list | z_range | z_reversed | z_sorted | z_sum | z_tuple | zc_FALSE_ONE | zc_TRUE_ONE | zc_TURNED | zl_FALSE_ONE_0 | zl_FALSE_ONE_2 | zl_TRUE_ONE_0 | zl_TRUE_ONE_2 | zl_TURNED_0=>k_is
    (case zh_TURNED_0=>rfl)
    (case zh_TURNED_1=>rfl)
#print axioms PySem.Challenge.cw_calm_k43_the_start_and_all_stands_holds
end
